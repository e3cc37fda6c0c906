import PyProof.Rows.All
import Wide.All
import OpenK.AllK
import Wide.FinOn
import Lean
import PyProof.EqAt
import PyProof.EqKinds
import PyProof.TupleCall
import KE.KTryMore
import KE.KIntText
import KE.RegKTryMore
import PySem.Challenge.RW_samewise_k60_size_left_out
set_option Elab.async false
set_option linter.all false
open Array renaming length_toList → bF, toList_push → dw, toList_append → dB, toList_extract → gL, getElem?_eq_some_iff → ik, extract_eq_empty_of_le → jt, perm_iff_toList_perm → jN, toList_reverse → mR, mk → qG, getElem?_toList → rb, getElem?_setIfInBounds_ne → rf, eq_empty_of_size_eq_zero → sq, forIn_toList → uX, toList_setIfInBounds → vt, toList_inj → xD, append_empty → EC, append_assoc → ED
open Array.Perm renaming refl → Jx
open Bool renaming false_ne_true → bB, and_eq_true → dU, false_eq_true → fJ, eq_iff_iff → jJ, and_eq_true_iff → j3, not_true → m8, false_and → pz, true_and → vq, eq_false_iff → vL, not_eq_true' → Fm, or_eq_true → Jv
open Classical renaming byContradiction → vW
open False renaming elim → gi
open ForInStep renaming yield → nW
open Int renaming toNat_natCast → bP, le_refl → hZ, le_trans → iV, emod_lt_of_pos → lA, emod_nonneg → nU, toNat → El
open List renaming getElem?_eq_getElem → ah, getElem?_eq_some_iff → aj, length_map → ay, range → aI, getElem?_map → aJ, mem_of_getElem? → aN, length_append → aO, size_toArray → aR, map_cons → aS, getD_eq_getElem?_getD → aU, mem_cons_of_mem → aX, append_assoc → a7, mem_singleton → a8, replicate → bq, length_range → bA, mem_cons → bC, mem_append_right → bI, mem_cons_self → bM, length_take → cf, length_cons → cg, filterMap_cons → cF, mem_append → cI, getElem?_eq_none → cJ, map_append → cR, take_append_drop → cV, take_add_one → cW, append_nil → cY, take_length → du, mem_range → dH, getElem?_range → dO, Perm → eg, mem_map → eD, getElem?_of_mem → eG, range_succ → eM, cons_append → eS, ext_getElem? → eY, getElem?_append_right → fb, mem_append_left → fg, length_drop → fj, find?_cons → fE, map_nil → fS, flatMap_cons → f6, nodup_cons → gg, nil_append → gh, length_singleton → gn, eq_nil_of_length_eq_zero → gu, any_cons → gE, length_eq_zero_iff → gN, map_congr_left → gW, flatMap_append → gX, take_of_length_le → hJ, map_map → hU, drop_eq_nil_of_le → hV, sum_cons → ij, lookup_cons → iu, all_eq_true → iw, length_replicate → iF, mem_of_mem_take → iU, flatten_cons → jf, replicate_succ → jk, mem_filter → jF, length_nil → jG, filterMap_append → jH, Pairwise → jL, getElem?_append_left → j0, take_zero → kh, getElem?_take_of_lt → kz, mem_filterMap → ly, mem_of_mem_drop → mO, lookup → nv, reverse_append → nG, mem_of_find?_eq_some → nQ, drop_eq_getElem_cons → nR, length_filterMap_le → oG, getElem?_replicate → pE, eraseIdx_cons_succ → pF, foldl_append → pN, mem_reverse → qB, map → qC, getElem_mem → qD, perm_append_comm → qZ, mem_iff_getElem? → q8, length_filter_le → ra, sum_append → sd, foldl_cons → se, extract → sh, drop_append_of_le_length → su, range_add → ub, nodup_nil → uc, length → uA, getElem?_drop → uQ, filter_append → uR, nodup_append → vJ, pairwise_iff_getElem → vU, filterMap_eq_nil_iff → vV, zipIdx_cons → xt, prefix_refl → xu, not_mem_nil → xw, filter_cons → xx, pairwise_singleton → xF, mem_singleton_self → xG, take_range → yo, of_mem_zip → yp, forIn_cons → yq, pairwise_lt_range → zb, getElem?_set_self → zc, pairwise_append → Bi, getElem?_set_ne → Bj, pairwise_cons → Eg, getElem?_take → Eh, filterMap_nil → Ei, take_sublist → Fg, pairwise_map → Fh, getElem_take → Fi, getElem?_set → Fj, map_id → FP, perm_middle → G9, mem_flatMap → Ha, countP_cons → Hb, zipIdx_nil → Jl, idxOf_cons → Jm, foldl → Jn, forIn_nil → KR, drop_zero → KS
open List.Pairwise renaming nil → vK, sublist → zS, filter → Bk
open List.Perm renaming append_left → gp, append_right → lH, trans → nS, refl → ud, of_eq → Jo
open List.cons renaming injEq → lz
open Nat renaming le_refl → aw, zero_le → aQ, le_trans → bp, lt_of_lt_of_le → cu, ne_of_lt → cQ, lt_irrefl → e9, not_lt_zero → gf, min_eq_left → gS, le_add_right → ir, pow_le_pow_right → iT, add_assoc → jg, min_eq_right → jq, zero_add → jB, le_of_eq → jC, lt_succ_of_lt → jR, le_of_lt → ky, add_sub_cancel_left → kQ, testBit_and → lu, lt_of_le_of_lt → lx, ne_of_gt → mn, le_total → mq, max_eq_right → mL, lt_succ_self → mM, le_succ → nu, max_eq_left → nP, lt_succ_iff_lt_or_eq → oE, add_zero → oF, mul_le_mul_right → r8, eq_zero_or_pos → uP, le_succ_of_le → vH, succ_le_succ → xp, sub_zero → xq, eq_of_testBit_eq → Bh, pow_one → FL, pow_add → FN, one_mul → FO, two_pow_pos → Jj, le_add_left → Jk
open Ne renaming symm → bR
open Option renaming map_eq_some_iff → b8, isSome_iff_exists → gC, isSome_map → jQ, map_some → r6, getD_none → G4
open Option.some renaming inj → aP
open Or renaming inl → aM
open Prod.mk renaming injEq → Mv
open PyProof.Rows renaming K → ao, callWith_type1 → gR
open PyProof.Rows.SortSt renaming mk' → jv
open PySem renaming boot_len → cn, mem_of_lookup → kH, Within → xn
open PySem.Around renaming under → EE
open PySem.Builtin renaming bitNot → d9, bitAnd → fW, bitOr → qh
open PySem.Builtin.Builtins renaming bindParams → uV
open PySem.Builtin.Int renaming intBits → BS
open PySem.Builtin.List renaming listTooLong → kF
open PySem.Builtin.Range renaming rangeSize → xH
open PySem.Builtin.SmallTypes renaming nextOf → fq, ownedTupleIsFree → gK, ownedTupleHandOut → oK, stopIteration → Hk
open PySem.Builtin.Str renaming occurrences → pH, strSliceIndices → uU
open PySem.Builtin.Tuple renaming tupleHashOf → gj
open PySem.Calls renaming spliced_cons → fI, callWith_builtin → ie, evalArgs_plain → iX, spliced_nil → jS, Name_function_global → vp
open PySem.Challenge renaming rw_samewise_k60_size_left_out → bV, pw_samewise_k60_size_left_out → lq
open PySem.Code renaming isFrame → EB
open PySem.Data renaming cell → yx, fields → FX
open PySem.EntryCells renaming newEntry → BR
open PySem.F renaming plainAttrs_list → bK, type_list_append → cx, slot_list_append → cy, type_list_extend → iQ, slot_list_extend → iR, plainAttrs_dict → jh, slot_dict_setdefault → jo, slot_dict_get → jE, slot_tuple_iterator_next → jM, slot_tuple_hash → pQ, entry_dict_get → p9, args_dict_setdefault_3 → rZ, slot_zip_next → sk, entry_dict_setdefault → sr, type_dict_setdefault → ua, args_tuple_iterator_next_1 → uf, entry_tuple_iterator_next → uT, excBase_ValueError → vm, slot_dict_getitem → vT, slot_dict_values → xo, args_dict_get_3 → xE, type_dict_get → zR, args_zip_next_1 → Fl
open PySem.Heap renaming get?_push_of_some → aH, lt_size → a9, get?_push_size → bz, SameBut → eT, get?_update_other → fV, get?_none_of_le → iW, size_push → jr, get?_update_self → jI, FlyingW → oH, ExtBut → FU, MadeExcOf → KU
open PySem.Heap.SameBut renaming update → kI
open PySem.NameKind renaming free → fR
open PySem.Obj renaming data_mapFields → iE, mapSeq → iS, mapFields → kU, isFreed_of_fields → qY, data_mapDictKeys → Bg, cls_mapFields → Ff
open PySem.Paired renaming length → bx, snoc → qb
open PySem.PassesOwn renaming never → bX, leaving → dZ
open PySem.SeqAt renaming EqAt → d8, RcNeAt → xk
open PySem.SeqAt.EqAt renaming str_int → Eb, int_str → Ec, of_refs → Eo, same → Mh
open PySem.SeqAt.RcNeAt renaming tuples → BQ
open PySem.Str renaming empty → lg, length_append → pM, ofString → xi, length → Ja
open PySem.Txt renaming slice → gA, slice_le → xh
open PySem.Value renaming ref → bL, none → gJ, int → oA, type → ph, bool → pj, str → yj, isStrOf → Mu
open PySem.Value.type renaming inj → pe
open PySem.W renaming Frag → ai, findIn → aK, nsIn → bg, keepIn → bH, mg_of → cw, mg_none_of → cO, fnOf → c9, codeIn → dG, plainGet → eR, hasDictIn → eW, plainOver → fA, emptyDict → fZ, makesIn → gb, isFn → gB, instObj → iP, callWith_K → ll, binds_K → lp, hideAll → nO, of_hideAll → oB, methodCall_KW → qX, plainGet_of → sC, hideAll_get → sE, lookIn → t9, methodObj → vG, takerIn → yn, cellsFrom_some → za, excIn → BN, specialIn → Fe, handedIn → G3, readsIn → Jg, findCls → Jh, OpenLaw → Ji
open PySem.W.Fast renaming tw14364793385576792824 → cZ, tw10110043849684766642 → c6
open PySem.W.OpenLaw renaming wellSaid → G6, row → QL
open PySem.W.OpenRow renaming wellSaid → G5
open PySem.W.RowW renaming records → Ee
open PySem.W.WData renaming int → yi, weight → D8, weightAll → IZ, list → I8
open Sum renaming inr → fo, inl → je
open Sum.inl renaming inj → y8, injEq → BM
open Sum.inr renaming inj → y6, injEq → BL
open True renaming intro → jZ
local macro_rules|`(tactic|omega)=>`(tactic|lia)
noncomputable section
abbrev bh:List PySem.Str:=["self", "terms", "leads"]
abbrev eU:List PySem.Str:=["terms", "leads"]
abbrev gr:List PySem.Str:=["table", "leads", "pattern", "binds"]
abbrev qg:List PySem.Str:=["rule", "binds", "signs", "known_signs", "names", "known_names"]
abbrev ue:List PySem.Str:=["self", "title", "weight", "left", "right", "asks"]
abbrev uS:List PySem.Str:=["self", "pattern", "binds"]
abbrev vc:List PySem.Str:=["_law_cell", "_law_prime", "_law_many"]
abbrev wa0:List PySem.Str:=["self", "term", "known"]
abbrev wa2:List PySem.Str:=["self", "lead", "pattern", "binds"]
abbrev wa7:List PySem.Str:=["term"]
abbrev wa8:List PySem.Str:=["self", "k", "pattern", "binds"]
abbrev wa9:List PySem.Str:=["class_of", "grow"]
abbrev wb0:List PySem.Str:=["one", "other"]
abbrev wb1:List PySem.Str:=["self", "room"]
abbrev wb2:List PySem.Str:=["self", "k", "right", "binds"]
abbrev wb3:List PySem.Str:=["terms", "leads", "k"]
abbrev wb4:List PySem.Str:=["bench", "rules", "rounds", "size"]
abbrev wb5:List PySem.Str:=["combine", "fact", "other_fact"]
abbrev wb6:List PySem.Str:=["term", "leads"]
abbrev wb7:List PySem.Str:=["lead", "hole", "binds"]
abbrev wb8:List PySem.Str:=["self", "rule", "binds"]
abbrev wb9:List PySem.Str:=["pattern"]
abbrev wc0:List PySem.Str:=["terms", "leads", "left"]
abbrev wc1:List PySem.Str:=["terms", "leads", "term"]
abbrev wc2:List PySem.Str:=["pattern", "found"]
abbrev wc3:List PySem.Str:=["self", "known", "k", "name"]
abbrev wc4:List PySem.Str:=["self", "known", "k", "mask"]
abbrev wc5:List PySem.Str:=["_law_k", "_law_cell"]
abbrev wc6:List PySem.Str:=["leads", "a", "b"]
abbrev wc7:List PySem.Str:=["leads", "k"]
abbrev wc8:List PySem.Str:=["self", "term"]
abbrev wc9:List PySem.Str:=["self", "tree"]
abbrev wd0:List PySem.Str:=["self"]
abbrev wd1:List PySem.Str:=["terms", "edges"]
abbrev wd2:List PySem.Str:=["bench", "rules"]
abbrev wd3:List PySem.Str:=["bench", "steps"]
abbrev wd4:List PySem.Str:=["left", "right"]
abbrev wd5:List PySem.Str:=["asks", "bound"]
abbrev wd6:List PySem.Str:=["number"]
abbrev wd7:List PySem.Str:=["self", "rule"]
theorem O.{u}{α:Sort u}{a:α}:a=a:=rfl
namespace KHd
open PySem PySem.W PySem.Calls PyProof.Rows
variable{N:Nat}{w:World}{os:OsState}{K:Params->Frag}{as ts:List Addr}{g:Bool}
theorem Wn{p q:Program}{loose:List Str}{Xt:Shared->Bool}{α : Type}{Yf:Shared -> α}{Ya:World -> α}(e:opening p=plainProg p.main.scope.names)(hN:Nat.ble 600 N=true)(f:∀ s,fenceModules? p s=some s)(h:∀ (w:World) (os:OsState),(topFrom treeTable p w N ⟨boot_heap w.params,qG [],boot_drawn,boot_toks,os⟩).map (fun s=>(openSeen q loose (importedModules p.main.body) Xt true s,Yf s))=some (openGood q loose,Ya w)):LeftO p q loose Xt Yf Ya N:=fun w=>by
 obtain⟨⟨hp,gs,d,k,os⟩,e1,e2⟩:=b8.mp (boot_open e hN f w);have e3:hp=boot_heap w.params∧gs=qG []∧d=boot_drawn∧k=boot_toks:=by simpa only [Mv] using e2
 obtain⟨z1,z2,z3,z4⟩:=e3;subst z1 z2 z3 z4;unfold openEnds;rw[e1];exact h w os
def aih{α : Type}(l:List α)(is:List Nat):List α := is.filterMap fun i=>l[i]?
def ko:Program:=lq
def view:Program := { ko with main := { ko.main with body:=aih ko.main.body [0,2,3,4,6,8,9,10,11,12,13,15,17,18,20,21,22,23,24,25,26,27,28,29,30,31,32,33,34,35,37,38,39,41,42,43,44,45,47,48,49,50,52,53,54,55,56,57,58,61,62,63,65,66,67,68,69,70,71,72,74,75,76] } }
structure HS where
 T:BT
 n:Nat
 k:Nat
def fc{α : Type}(n:Nat)(f:Nat -> α) : α := match n with
 | 0=>f 0
 | m+1=>f (m+1)
def fv{α : Type}(v:Value)(f:Value -> α) : α := match v with
 | .str x t=>fc t fun t=>f (.str x t)
 | .ref a=>fc a fun a=>f (.ref a)
 | v=>f v
def HS.al(s:HS)(o:Obj):HS:=match s with
 | ⟨T,n,k⟩=>fc n fun n=>⟨T.ins n o,n+1,k⟩
def HS.up(s:HS)(a:Nat)(f:Obj->Obj):HS:=match s with
 | ⟨T,n,k⟩=>⟨T.set a f,n,k⟩
def HS.tk(s:HS)(d:Nat):HS:=match s with
 | ⟨T,n,k⟩=>fc k fun k=>⟨T,n,k+d⟩
def AD(l:List Value):Obj := { cls := .type "tuple",data := .seq l.toArray 0 }
def Dj(c:Value)(l:List Value):Obj := { cls:=c,data := .fields l.toArray }
def T5:List Str->Nat->List Value
 | [],_ => []
 | x :: r,t => .str x t :: T5 r (t+1)
def ri(n:Nat):Value := .int n 0
def agZ:Str := "/claim/cut.py"
def wU(P:Params)(x:Str)(t:Nat)(v:Value)(es:Array DictEntry):Array DictEntry:=es.push ⟨PyData.keyHash P x,.str x t,v⟩
def xb(P:Params)(s:HS)(d:Nat)(x:Str)(v:Value):HS:=fc s.k fun t=>(s.up d (Obj.mapDictKeys (wU P x t v))).tk 1
def Zo:Expr->Nat->Value × Nat
 | .Constant (.int i) _ _,t=>(.int i t,t+1)
 | .Constant (.str x) _ _,t=>(.str x t,t+1)
 | .Constant (.bool b) _ _,t=>(.bool b,t)
 | _,t=>(.none,t)
def Ub:List Expr->Nat->List Value × Nat
 | [],t=>([],t)
 | e :: r,t=>match Zo e t with
  | (v,t')=>match Ub r t' with
   | (vs,t'')=>(v :: vs,t'')
def Uc(name q:Str)(line anx fl:Nat)(fr:Nat)(isF:Bool)(pl:Nat)(a b c:Value)(t:Nat)(k:Nat):Obj :=
 Dj (.type "code") [.str name t,.str q (t+1),.str agZ (t+2),ri line,ri anx,ri 0,ri 0,ri fl,.ref fr,.bool isF,ri 181,.ref pl,.none,a,b,c,ri k,ri line,.str agZ (k+1)]
def afX(s:HS)(ctx:Nat)(md:Value)(q name:Str)(args:Arguments)(body:List Stmt)(sc:Scope)(pos:Pos)(fl:Bool):HS :=
 fc s.k fun t=>match Ub args.defaults t with
 | (ds,t)=>fc t fun t =>
  let s:=match ds with | []=>s | _=>s.al (AD ds)
  fc s.n fun n =>
  let dv:Value:=match ds with | [] => .none | _ => .ref (n - 1)
  let s:=(s.al (AD [])).al (Dj .none [])
  let ns:=(sc.names.filter fun x=>match x.2 with | .local=>true | .cell=>(args.args.map (·.arg)).contains x.1 | _=>false).map (·.1)
  let cs:=(sc.names.filter fun x=>match x.2 with | .cell=>true | _=>false).map (·.1)
  fc (t+3+ns.length) fun u =>
  let s:=match fl with | true=>s | false=>(s.al (AD (T5 ns (t+3)))).al (AD (T5 cs u))
  fc (match fl with | true=>t+3 | false=>u+cs.length) fun k =>
  let va:Value:=match fl with | true => .none | false => .ref (n+2)
  let vb:Value:=match fl with | true => .none | false => .ref (n+3)
  fc s.n fun m =>
  let fd:FuncData := { name:=name,qualname:=q,params:=args,body := .stmts body,scope:=sc,globals:=0,closure := [],defaults := .none,kwdefaults := .none }
  let s:=(s.al { cls := .none,data := .func fd }).al (Uc name q pos.line args.args.length 3 n true (n+1) va vb (.ref m) t k)
  let s:=(s.up ctx (kU (· ++ #[ri pos.line,ri pos.col,.ref (m+1)]))).al { cls := .type "function",data := .func { name:=name,qualname:=q,params:=args,body := .stmts body,scope:=sc,globals:=3,closure := [],defaults:=dv,kwdefaults := .none,pyModule:=md,code := .ref (m+1) } }
  match s with
  | ⟨T,n,_⟩=>⟨T,n,k+2⟩
def abD(s:HS):Value:=match s.T.get 3 with
 | some ⟨_,_,.dict es _,_⟩=>match es.toList with
  | e :: _=>e.val
  | [] => .none
 | _ => .none
def OJ(P:Params)(ctx ns:Nat)(md:Value)(cq:Str):List Stmt->Nat->HS->HS × Nat
 | [],f,s=>(s,f)
 | .FunctionDef name args body _ _ _ sc _ _ pos :: r,f,s =>
  let s:=afX s ctx md (cq ++ "." ++ name) name args body sc pos (Nat.beq (f % 2) 1)
  fc s.n fun n=>OJ P ctx ns md cq r (f / 2) (xb P s ns name (.ref (n - 1)))
 | _ :: r,f,s=>OJ P ctx ns md cq r f s
def aiC(s:HS)(x:Str):Value:=match s.T.get 3 with
 | some ⟨_,_,.dict es _,_⟩=>match es.toList.find? (fun e=>e.key.isStr x) with
  | some e=>e.val
  | none => .type x.toString
 | _ => .none
def aiF(s:HS)(a:Nat):Option ClassData:=match s.T.get a with
 | some ⟨_,_,.cls c,_⟩=>some c
 | _=>none
def af0(P:Params)(s:HS)(name:Str)(bases:List Expr)(body:List Stmt)(st:List Str)(pos:Pos)(f:Nat):HS × Nat :=
 fv (abD s) fun md=>fc s.k fun t=>fc s.n fun n =>
 let bs:=match bases with
  | [.Name x _]=>fv (aiC s x) fun v => [v]
  | _ => []
 let s:=((s.al (AD bs)).al (Dj (.type "builtin_function_or_method") [.builtin "type.__prepare__",.type "type"])).al { cls := .type "dict",data := .dict #[] 0 }
 let s:=(s.al (AD [])).al (Dj .none [])
 let s:=s.al (Uc name name pos.line 0 0 (n+3) false (n+4) .none .none .none (t+2) (t+5))
 let s:=s.al { cls := .type "frame",slots := #[some (.ref (n+5)),some (.ref 3),some (.ref (n+2)),none,some md,none,some (.ref 0)] }
 let s:HS:=match s with | ⟨T,m,_⟩=>⟨T.set 12 (kU (· ++ #[ri pos.line,ri pos.col,.ref (n+5)])),m,t+7⟩
 let s:=xb P s (n+2) "__module__" md
 let q:Value := .str name (t+8)
 let s:=xb P (s.tk 1) (n+2) "__qualname__" q
 let s:=xb P (s.tk 1) (n+2) "__firstlineno__" (.int pos.line (t+10))
 match OJ P (n+4) (n+2) md name body f s with
 | (s,f) =>
  fc s.n fun sa=>fc s.k fun u =>
  let s:=(s.al (AD (T5 st u))).tk st.length
  let s:=xb P s (n+2) "__static_attributes__" (.ref sa)
  let es:=match s.T.get (n+2) with
   | some ⟨_,_,.dict es _,_⟩=>es.toList
   | _ => []
  let es:=(es.filter fun e => !e.key.isStr "__qualname__").toArray
  let own:Value := .ref (sa+2)
  let s:=s.al { cls := .type "dict",data := .dict es 1 }
  let mro:=match bs with
   | [.ref b]=>match aiF s b with | some d=>d.mro | none => []
   | [.type "ValueError"] => [.type "ValueError",.type "Exception",.type "BaseException",.type "object"]
   | _ => [.type "object"]
  let new:=match mro.contains (.type "ValueError") with | true => "ValueError.__new__" | false => "object.__new__"
  let s:=s.al { cls := .type "type",data := .cls { name:=name,bases:=match bs with | [] => [.type "object"] | _=>bs,mro:=own :: mro,ns:=sa+1,qualname:=name },slots := #[match bs with | []=>none | _=>some (.ref n),none,some (.str name t),some q,some (.builtin new),some (.bool true)] }
  let ZM (s:HS) (x:Str) (a b:Value):HS:=fc s.k fun k=>fc s.n fun n=>xb P ((s.al (Dj (.type "getset_descriptor") [.str x k,own,a,b])).tk 1) (sa+1) x (.ref n)
  let s:=match bs with
   | []=>ZM (ZM s "__dict__" (.builtin "function.__dict__") (.builtin "function.__dict__#set")) "__weakref__" (.builtin "ExceptionGroup.__weakref__") .none
   | [.type _]=>ZM s "__weakref__" (.builtin "ExceptionGroup.__weakref__") .none
   | _=>s
  let s:=xb P s (sa+1) "__doc__" .none
  let s:=match bs with
   | [.ref b]=>s.up b (Obj.mapCls fun d=>{ d with subclasses:=d.subclasses ++ [own] })
   | _=>s
  let s:=(s.al (Dj (.type "super") [own,own,own])).al (Dj (.type "builtin_function_or_method") [.builtin "object.__init_subclass__",own])
  (xb P (s.tk 1) 3 name own,f)
def aiu(P:Params):Stmt->HS->Nat->HS × Nat
 | .FunctionDef name args body _ _ _ sc _ _ pos,s,f =>
  fv (abD s) fun md =>
  let s:=afX s 12 md name name args body sc pos (Nat.beq (f % 2) 1)
  fc s.n fun n=>(xb P s 3 name (.ref (n - 1)),f / 2)
 | .ClassDef name bases _ body _ _ _ _ _ st pos,s,f=>af0 P s name bases body st pos f
 | .Assign [.Name x _] (.Tuple es _ _) _,⟨T,n,k⟩,f=>fc k fun k=>fc n fun n=>match Ub es k with
  | (vs,t)=>(xb P ⟨T.ins n (AD vs),n+1,t⟩ 3 x (.ref n),f)
 | .Assign [.Name x _] e _,⟨T,n,k⟩,f=>fc k fun k=>match x.cps.toList with
  | 95 :: 95 :: 110 :: 97 :: _=>match Zo e k with
   | (v,t)=>(⟨T.set 3 (Obj.mapDict (·.modify 0 fun d=>⟨d.hash,d.key,v⟩)),n,t+1⟩,f)
  | _=>match Zo e k with
   | (v,t)=>(xb P ⟨T,n,t⟩ 3 x v,f)
 | _,s,f=>(s,f)
def Dw(P:Params):List Stmt->HS->Nat->HS × Nat
 | [],s,f=>(s,f)
 | st :: r,s,f=>match aiu P st s f with
  | (s',f')=>Dw P r s' f'
def hs0(P:Params):HS :=
 let s:HS:=((((((((((((⟨.nil,0,187⟩:HS).al (boot_o_0 P)).al (boot_o_1 P)).al (boot_o_2 P)).al (boot_o_3 P)).al (boot_o_4 P)).al (boot_o_5 P)).al (boot_o_6 P)).al (boot_o_7 P)).al (boot_o_8 P)).al (boot_o_9 P)).al (boot_o_10 P))
 let s:=(s.al (AD [])).al (Dj .none [])
 let s:=s.al (Uc "<module>" "<module>" 1 0 0 11 false 12 .none .none .none 182 185)
 s.al { cls := .type "frame",slots := #[some (.ref 13),some (.ref 3),some (.ref 3),none,some (.str "__main__" 164),none,some (.ref 0)] }
def oy:List Stmt:=ko.main.body
def tZ:Env := { scope:=ko.main.scope,locals:=mainNs,globals:=mainNs,cells := [],code := .ref 13,frame:=some 14 }
def cE:Code := .body oy tZ
def tS(w:World)(os:OsState)(s:HS):SharedT:=⟨s.T,s.n,(boot_heap w.params).life,qG [],boot_drawn,s.k,os⟩
theorem M9{a b c n:Nat}{S S':HS}{pos nD:Pos}{r:Shared}(h:c6 cZ ko w 11 (some (.ref 6)) 1 n (tS w os S) (piecesOf ((oy.drop a).take b) tZ cE pos [topFrame ⟨0,0,0,0⟩])=some (.next,tS w os S',cE,nD))(k:topRun treeTable ko w 11 (some (.ref 6)) N (tS w os S').abs (restOf (oy.drop c) tZ cE nD [topFrame ⟨0,0,0,0⟩])=some r)(hc:a+b=c:=by rfl):topRun treeTable ko w 11 (some (.ref 6)) (n+N) (tS w os S).abs (restOf (oy.drop a) tZ cE pos [topFrame ⟨0,0,0,0⟩])=some r:=by
 subst hc;have e:oy.drop a=(oy.drop a).take b ++ oy.drop (a+b):=by
  rw[<- List.drop_drop];exact(cV b _).symm
 rw[e];refine piece_app (segRun_of ?_) k;rw[PySem.W.Fast.te10110043849684766642,PySem.W.Fast.te14364793385576792824];exact h
def S0(P:Params):HS × Nat:=(hs0 P,297238142342152320)
def S1(P:Params):HS × Nat:=Dw P ((oy.drop 0).take 6) (S0 P).1 (S0 P).2
set_option maxRecDepth 100000 in
set_option maxHeartbeats 0 in
theorem g1(w:World)(os:OsState):c6 cZ ko w 11 (some (.ref 6)) 1 660 (tS w os (S0 w.params).1) (piecesOf ((oy.drop 0).take 6) tZ cE ⟨0,0,0,0⟩ [topFrame ⟨0,0,0,0⟩])=some (.next,tS w os (S1 w.params).1,cE,⟨11,0,11,8⟩):=by kernel_rfl
def S2(P:Params):HS × Nat:=Dw P ((oy.drop 6).take 11) (S1 P).1 (S1 P).2
set_option maxRecDepth 100000 in
set_option maxHeartbeats 0 in
theorem g2(w:World)(os:OsState):c6 cZ ko w 11 (some (.ref 6)) 1 666 (tS w os (S1 w.params).1) (piecesOf ((oy.drop 6).take 11) tZ cE ⟨11,0,11,8⟩ [topFrame ⟨0,0,0,0⟩])=some (.next,tS w os (S2 w.params).1,cE,⟨108,0,108,8⟩):=by kernel_rfl
def S3(P:Params):HS × Nat:=Dw P ((oy.drop 17).take 13) (S2 P).1 (S2 P).2
set_option maxRecDepth 100000 in
set_option maxHeartbeats 0 in
theorem g3(w:World)(os:OsState):c6 cZ ko w 11 (some (.ref 6)) 1 820 (tS w os (S2 w.params).1) (piecesOf ((oy.drop 17).take 13) tZ cE ⟨108,0,108,8⟩ [topFrame ⟨0,0,0,0⟩])=some (.next,tS w os (S3 w.params).1,cE,⟨148,0,158,16⟩):=by kernel_rfl
def S4(P:Params):HS × Nat:=Dw P ((oy.drop 30).take 11) (S3 P).1 (S3 P).2
set_option maxRecDepth 100000 in
set_option maxHeartbeats 0 in
theorem g4(w:World)(os:OsState):c6 cZ ko w 11 (some (.ref 6)) 1 891 (tS w os (S3 w.params).1) (piecesOf ((oy.drop 30).take 11) tZ cE ⟨148,0,158,16⟩ [topFrame ⟨0,0,0,0⟩])=some (.next,tS w os (S4 w.params).1,cE,⟨257,0,257,8⟩):=by kernel_rfl
def S5(P:Params):HS × Nat:=Dw P ((oy.drop 41).take 16) (S4 P).1 (S4 P).2
set_option maxRecDepth 100000 in
set_option maxHeartbeats 0 in
theorem g5(w:World)(os:OsState):c6 cZ ko w 11 (some (.ref 6)) 1 733 (tS w os (S4 w.params).1) (piecesOf ((oy.drop 41).take 16) tZ cE ⟨257,0,257,8⟩ [topFrame ⟨0,0,0,0⟩])=some (.next,tS w os (S5 w.params).1,cE,⟨378,0,379,32⟩):=by kernel_rfl
def S6(P:Params):HS × Nat:=Dw P ((oy.drop 57).take 19) (S5 P).1 (S5 P).2
set_option maxRecDepth 100000 in
set_option maxHeartbeats 0 in
theorem g6(w:World)(os:OsState):c6 cZ ko w 11 (some (.ref 6)) 1 876 (tS w os (S5 w.params).1) (piecesOf ((oy.drop 57).take 19) tZ cE ⟨378,0,379,32⟩ [topFrame ⟨0,0,0,0⟩])=some (.next,tS w os (S6 w.params).1,cE,⟨484,0,487,102⟩):=by kernel_rfl
def S7(P:Params):HS × Nat:=Dw P ((oy.drop 76).take 1) (S6 P).1 (S6 P).2
set_option maxRecDepth 100000 in
set_option maxHeartbeats 0 in
theorem g7(w:World)(os:OsState):c6 cZ ko w 11 (some (.ref 6)) 1 46 (tS w os (S6 w.params).1) (piecesOf ((oy.drop 76).take 1) tZ cE ⟨484,0,487,102⟩ [topFrame ⟨0,0,0,0⟩])=some (.next,tS w os (S7 w.params).1,cE,⟨488,0,517,78⟩):=by kernel_rfl
def SF(w:World)(os:OsState):Shared:=(tS w os (S7 w.params).1).abs
def tg(T:BT)(n a:Nat):Option Obj:=match Nat.blt a n with
 | true=>match T.get a with
  | some o=>alive o
  | none=>alive default
 | false=>none
theorem aas(T:BT)(n:Nat)(l:Life)(a:Nat):(absHeap T n l).get? a=tg T n a:=by
 unfold tg;cases e:Nat.blt a n with
 | false=>exact abs_get_none fun q=>by rw[show Nat.blt a n=true from Nat.ble_eq_true_of_le q]at e;cases e
 | true =>
  have lt:a < n:=Nat.le_of_ble_eq_true e;cases g:T.get a with
  | some o=>exact abs_get lt g
  | none =>
   unfold Heap.get?;rw[absHeap_at,if_pos lt,g];rfl
theorem hk{s:HS}{e:∀ P,as=(K P).map (·.1)}(h:as.map (tg s.T s.n)=(K w.params).map fun p=>some p.2):(kHook K as e).obs (tS w os s).abs=(kHook K as e).val w:=by
 have q:(tS w os s).abs.heap.get? = tg s.T s.n:=funext fun a=>aas _ _ _ a;show as.map (tS w os s).abs.heap.get? = _;rw[q];exact h
theorem hkM{s:HS}{e:∀ P,as=(K P).map (·.1)}(h:as.map (tg s.T s.n)=(K w.params).map fun p=>some p.2)(h2:ts.map (tg s.T s.n)=ts.map fun _=>some (tabObj #[])):(kmHook K as e ts).obs (tS w os s).abs=(kmHook K as e ts).val w:=by
 have q:(tS w os s).abs.heap.get? = tg s.T s.n:=funext fun a=>aas _ _ _ a;show (as.map (tS w os s).abs.heap.get?,ts.map (tS w os s).abs.heap.get?)=_;rw[q];exact Prod.ext h h2
theorem Zj{e:∀ P,as=(K P).map (·.1)}(h:as.map (tg (S7 w.params).1.T (S7 w.params).1.n)=(K w.params).map fun p=>some p.2)(h2:ts.map (tg (S7 w.params).1.T (S7 w.params).1.n)=ts.map fun _=>some (tabObj #[])):(kmHook K as e ts).obs (SF w os)=(kmHook K as e ts).val w:=hkM h h2
theorem adb{e:∀ P,as=(K P).map (·.1)}(h:as.map (tg (S7 w.params).1.T (S7 w.params).1.n)=(K w.params).map fun p=>some p.2):(kHook K as e).obs (SF w os)=(kHook K as e).val w:=hk h
set_option maxRecDepth 100000 in
set_option maxHeartbeats 0 in
theorem alF(w:World)(os:OsState):topGo treeTable ko w 11 (some (.ref 6)) 12 ⟨boot_heap w.params,qG [],boot_drawn,boot_toks,os⟩ (topStub ko)=some ((tS w os (S0 w.params).1).abs,⟨denote treeTable cE,cE,⟨0,0,0,0⟩, [topFrame ⟨0,0,0,0⟩]⟩):=by kernel_rfl
set_option maxRecDepth 100000 in
set_option maxHeartbeats 0 in
theorem anw(w:World)(os:OsState):segRun treeTable ko w 11 (some (.ref 6)) 1 1 (tS w os (S0 w.params).1).abs (blockOf oy tZ cE ⟨0,0,0,0⟩ [topFrame ⟨0,0,0,0⟩])=some (.next,(tS w os (S0 w.params).1).abs,cE,⟨0,0,0,0⟩):=by kernel_rfl
set_option maxRecDepth 100000 in
set_option maxHeartbeats 0 in
theorem am6(w:World)(os:OsState):topRun treeTable ko w 11 (some (.ref 6)) 2 (SF w os) (restOf (oy.drop 77) tZ cE ⟨488,0,517,78⟩ [topFrame ⟨0,0,0,0⟩])=some (SF w os):=by kernel_rfl
set_option maxRecDepth 100000 in
set_option maxHeartbeats 0 in
theorem alw(w:World)(os:OsState):topRun treeTable ko w 11 (some (.ref 6)) (12+(1+(660+(666+(820+(891+(733+(876+(46+2))))))))) ⟨boot_heap w.params,qG [],boot_drawn,boot_toks,os⟩ (topStub ko)=some (SF w os):=go_top (alF w os) (piece_block (anw w os) (M9 (g1 w os) (M9 (g2 w os) (M9 (g3 w os) (M9 (g4 w os) (M9 (g5 w os) (M9 (g6 w os) (M9 (g7 w os) (am6 w os)))))))))
set_option maxRecDepth 100000 in
set_option maxHeartbeats 0 in
theorem chk(w:World)(os:OsState):(staticsOk (importedModules ko.main.body) (boot_heap w.params) (SF w os).heap && namesBound ko (SF w os).heap && gensDone (SF w os) && laidKept (boot_heap w.params) (SF w os).heap)=true:=by kernel_rfl
theorem aco(P:Params):((boot_heap P).isNs mainGlobals,(boot_heap P).objs.size,(boot_heap P).nsMap mainGlobals "__annotations__")=(true,11,some (.ref 6)):=by kernel_rfl
theorem W0{α : Type}{F:Shared -> α}{G : α}(h:F (SF w os)=G):(topFrom treeTable ko w 9496 ⟨boot_heap w.params,qG [],boot_drawn,boot_toks,os⟩).map F=some G:=by
 obtain⟨z1,z2,z3⟩:_∧_∧_:=by simpa only [Mv] using aco w.params
 have r:=topRun_mono 4789 _ _ _ _ (alw w os);have t:topFrom treeTable ko w 9496 ⟨boot_heap w.params,qG [],boot_drawn,boot_toks,os⟩=some (SF w os):=by
  unfold topFrom;dsimp only;rw[z1,z2,z3];rw[show topRun treeTable ko w 11 (some (.ref 6)) 9496 ⟨boot_heap w.params,qG [],boot_drawn,boot_toks,os⟩ (topStub ko)=some (SF w os) from r];show (match staticsOk (importedModules ko.main.body) (boot_heap w.params) (SF w os).heap && namesBound ko (SF w os).heap && gensDone (SF w os) && laidKept (boot_heap w.params) (SF w os).heap with | true=>_ | false=>_)=_;rw[chk w os]
 rw[t];exact congrArg some h
set_option maxRecDepth 100000 in
set_option maxHeartbeats 0 in
theorem lk:looksOpen (QL bV).toRowW.prog=true:=by
 unfold looksOpen;refine look_both (look_both (look_both (look_both (look_both ?_ ?_) ?_) ?_) ?_) ?_
 all_goals decide +kernel
set_option maxRecDepth 100000 in
set_option maxHeartbeats 0 in
theorem lr:G5 (QL bV)=true:=by
 unfold G5 OpenRow.partSaid;rw[lk];decide +kernel
set_option maxRecDepth 100000 in
set_option maxHeartbeats 0 in
theorem ws:G6 bV=true:=by
 unfold G6;rw[lr];decide +kernel
local macro_rules | `(tactic| o_law) => `(tactic| refine holds_law ws fun art =>?_)
set_option maxRecDepth 100000 in
set_option maxHeartbeats 0 in
theorem q0(w:World)(os:OsState):seen ((recsOf view).map (·.name)) (ownsOf view) [] { (SF w os) with gens := #[] }=expectedOf view:=by kernel_rfl
set_option maxRecDepth 100000 in
set_option maxHeartbeats 0 in
theorem qa(w:World)(os:OsState):((SF w os).heap.bltView,(SF w os).heap.accountedOkI (importedModules ko.main.body) && (SF w os).heap.isNs mainGlobals && (SF w os).heap.isNs builtinsNs && tablesOk view (SF w os).heap && (xlAt view [] (SF w os) && recOk (Ee bV.row.toRowW) (SF w os)) && (if true then (SF w os).gens.size == 0 else !leftWithCleanup (SF w os).gens),pinSeenD view (drecsOf view) (SF w os),plainSeenD view wa9 (SF w os),clsSeenW view wa9 (SF w os))=(bltViewBooted,true,pinGoodD (drecsOf view),plainGoodD view wa9,clsGoodW view wa9):=by kernel_rfl
set_option maxRecDepth 100000 in
set_option maxHeartbeats 0 in
theorem q2(w:World)(os:OsState):(SF w os).heap.keysOk (looseW view wa9) ((recsOf view).map (·.name)) ((litsOf view).map (·.1)) ((clssOf view (looseW view wa9)).map (·.name))=true:=by kernel_rfl
set_option maxRecDepth 100000 in
set_option maxHeartbeats 0 in
theorem q3(w:World)(os:OsState):tabsOk view (SF w os)=true:=by kernel_rfl
set_option maxRecDepth 100000 in
set_option maxHeartbeats 0 in
theorem q5(w:World)(os:OsState):plainSeenE view (looseW view wa9) (SF w os)=plainGoodE view (looseW view wa9):=by kernel_rfl
set_option maxRecDepth 100000 in
set_option maxHeartbeats 0 in
theorem q7(w:World)(os:OsState):wideSeen view (SF w os)=wideGood view:=by kernel_rfl
theorem anz{a b c d e f:Bool}(h1:a=true)(h2:(b && c && d && e && f && g)=true):(a && b && c && d && e && f && g)=true:=by
 simp only[dU]at h2;simp only[h1,h2,Bool.and_self]
theorem amo{α β γ δ ε : Type}{a a' : α}{b b' : β}{c c' : γ}{d d' : δ}{e e' : ε}(h:(a,b,c,d,e)=(a',b',c',d',e')):a=a'∧b=b'∧c=c'∧d=d'∧e=e':=by cases h;exact⟨O,O,O,O,O⟩
theorem acs{α β γ δ ε ζ η : Type}{a a' : α}{b b' : β}{p q r s t u v:Bool}{c c' : γ}{d d' : δ}{e e' : ε}{f f' : ζ}{k k' : η}(h0:a=a')(hq:(b,q && r && s && t && u && v,c,d,e)=(b',true,c',d',e'))(h2:p=true)(h3:g=true)(h5:f=f')(h7:k=k'):(a,b,p && q && r && s && t && u && v,g,c,f,d,k,e)=(a',b',true,true,c',f',d',k',e'):=by
 obtain⟨rfl,x,rfl,rfl,rfl⟩:=amo hq;rw[h0,h3,h5,h7,anz h2 x]
theorem Vu(w:World)(os:OsState):openSeen view wa9 (importedModules ko.main.body) (fun s=>xlAt view [] s && recOk (Ee bV.row.toRowW) s) true (SF w os)=openGood view wa9:=acs (q0 w os) (qa w os) (q2 w os) (q3 w os) (q5 w os) (q7 w os)
local macro_rules | `(tactic| o_head $H) => `(tactic| (refine holds_open (q:=view) (loose := wa9) (Xt:=fun s=>xlAt view [] s && recOk (Ee bV.row.toRowW) s) (XP:=XL view []) (Yf:=Hook.obs $H) (Ya:=Hook.val $H) (YP:=Hook.says $H) (N:=9496) ?hl (Hook.of $H) (Hook.keeps $H) (fun s e=>xl_of s (j3.mp e).1) XL.keeps (by rfl) (by rfl) (by rfl) (fun s e=>recFacts_of (j3.mp e).2) (by rfl) (by first | assumption | decide +kernel) (by decide +kernel) ⟨O,O,O,O,O,by decide +kernel⟩ ?hw ?hc;case hl=>(refine Wn (by rfl) (by decide) (fun s=>by rfl) ?_;intro w os;first | (refine W0 (looks_pair (Vu w os) (adb ?_));kernel_rfl) | (refine' W0 (looks_pair (Vu w os) (Zj ?_ ?_)); (kernel_rfl);kernel_rfl))))
set_option maxRecDepth 100000 in
set_option maxHeartbeats 0 in
open_top top for bV
end KHd
set_option Elab.async false
set_option linter.all false
set_option maxRecDepth 100000
set_option maxHeartbeats 4000000
namespace L2
open PySem PySem.Spec PyProof.Rows
variable{us:List Value}{u:Value}{b it C dx:Addr}{h base:Heap}{P:Program}{w:World}{o:Obj}{g':Array GenState}{t' i j n:Nat}{d':Drawn}{ch fp:List Addr}{x cD:Str}{e c l:Expr}{N ps:List Str}{M:Model}{A:Around}{E Q:Value->Shared->Prop}{s' s:Shared}{pos p:Pos}{ag:List (Addr × Obj)}{op:CmpOp}{K:ai}{f:Value->Value->Sem Value}{es:List Expr}{body:List Stmt}{lo:Int}{pl:Sem Bool}{g:Int->Int->Int}{mA mg:Str->Option Value}{kw:List (Str × Value)}{outer:List Env}{scope:Scope}
abbrev Key:=Sum Int Str
def AK:Key->Value->Bool
 | .inl k,v=>Value.isInt k v
 | .inr x,v=>Mu x v
def ame(w:World):Key->Int
 | .inl k=>hashInt k
 | .inr x=>hashStr w x
theorem fT:∀ {k:Key}{v:Value},AK k v=true->(∃ i t,k=je i∧v=oA i t)∨(∃ x t,k=fo x∧v=yj x t)
 | .inl i,v,h=>by
  obtain⟨t,e⟩:=Value.isInt_shape (k:=i) (v:=v) h;exact .inl ⟨i,t,O,e⟩
 | .inr x,v,h=>by
  obtain⟨t,e⟩:=Value.isStrOf_shape (x:=x) (v:=v) h;exact .inr ⟨x,t,O,e⟩
theorem Wq(i:Int)(t:Tok):AK (.inl i) (.int i t)=true:=by simp[AK,Value.isInt]
theorem Wo(x:Str)(t:Tok):AK (.inr x) (.str x t)=true:=by simp[AK,Mu]
theorem ae1(a b:Int):decide ((je a:Key)=je b)=(a == b):=by
 by_cases e:a=b
 ·subst e;simp
 ·have h:¬ (je a:Key)=je b:=fun q=>e (y8 q);rw[decide_eq_false h];exact(beq_eq_false_iff_ne.mpr e).symm
theorem aeY(a b:Str):decide ((fo a:Key)=fo b)=decide (a=b):=by
 by_cases e:a=b
 ·subst e;simp
 ·have h:¬ (fo a:Key)=fo b:=fun q=>e (y6 q);rw[decide_eq_false h,decide_eq_false e]
theorem ae0(a:Int)(b:Str):decide ((je a:Key)=fo b)=false:=decide_eq_false (fun q=>nomatch q)
theorem aeZ(a:Str)(b:Int):decide ((fo a:Key)=je b)=false:=decide_eq_false (fun q=>nomatch q)
def dI(prog:Program)(w:World):PySem.KeyKind prog w Key where
 is:=AK
 hash:=ame w
 inj:=fun v a b ha hb=>by
  rcases fT ha with⟨i,t,rfl,rfl⟩ | ⟨x,t,rfl,rfl⟩
  ·rcases fT hb with⟨j,u,rfl,e⟩ | ⟨y,u,rfl,e⟩
   ·injection e with e1 _;rw[e1]
   ·exact nomatch e
  ·rcases fT hb with⟨j,u,rfl,e⟩ | ⟨y,u,rfl,e⟩
   ·exact nomatch e
   ·injection e with e1 _;rw[e1]
 byValue:=fun k v h=>by
   rcases fT h with⟨i,t,rfl,rfl⟩ | ⟨x,t,rfl,rfl⟩ <;> rfl
 pyHash:=fun hv h=>by
  rcases fT hv with⟨i,t,rfl,rfl⟩ | ⟨x,t,rfl,rfl⟩
  ·exact wpAny_pyHash_int h
  ·exact wpAny_pyHash_str h
 eqBool:=fun hu hv h=>by
  rcases fT hu with⟨i,t,rfl,rfl⟩ | ⟨x,t,rfl,rfl⟩
  ·rcases fT hv with⟨j,u,rfl,rfl⟩ | ⟨y,u,rfl,rfl⟩
   ·rw[ae1]at h;exact wpAny_eqBool_int h
   ·rw[ae0]at h;exact Ec i t y u _ _ _ _ h
  ·rcases fT hv with⟨j,u,rfl,rfl⟩ | ⟨y,u,rfl,rfl⟩
   ·rw[aeZ]at h;exact Eb x t j u _ _ _ _ h
   ·rw[aeY]at h;exact wpAny_eqBool_str h
 «strs» := fun k x t v h=>by
  rcases fT h with⟨i,u,rfl,e⟩ | ⟨y,u,rfl,e⟩
  ·exact nomatch e
  ·injection e with e1 _;subst e1;cases v <;> rfl
theorem QD(prog:Program)(w:World)(i:Int)(t:Tok):(dI prog w).is (.inl i) (.int i t)=true:=Wq i t
theorem QC(prog:Program)(w:World)(x:Str)(t:Tok):(dI prog w).is (.inr x) (.str x t)=true:=Wo x t
inductive V where
 | cj | bl (b:Bool) | int (i:Int) | str (x:Str) | yh (b:Array UInt8) | flt (b:UInt64) | ref (a:Addr) | ty (n:String)
 deriving DecidableEq
def RelV:V->Value->Prop
 | .cj,u=>u=gJ
 | .bl b,u=>u=pj b
 | .int i,u=>∃ t,u=oA i t
 | .str x,u=>∃ t,u=yj x t
 | .yh b,u=>∃ t,u=Value.bytes b t
 | .flt b,u=>∃ t,u=Value.float b t
 | .ref a,u=>u=bL a
 | .ty n,u=>u=ph n
abbrev Vals:List V->List Value->Prop:=Paired RelV
theorem Vals.length{xs:List V}(r:Vals xs us):xs.length=us.length:=bx r
theorem Vals.get:∀ {xs:List V}{us:List Value}{i:Nat}{x:V},Vals xs us->xs[i]? = some x->∃ u,us[i]? = some u∧RelV x u
 | _,_,_,_,.nil,e=>by simp at e
 | _,_,0,_,.cons r _,e=>by simp at e;subst e;exact⟨_,O,r⟩
 | _,_,i+1,x,.cons _ t,e=>by
  obtain⟨u,h1,h2⟩:=Vals.get (i:=i) (x:=x) t (by simpa using e);exact⟨u,by simpa using h1,h2⟩
theorem Vals.set{x:V}(r:RelV x u):∀ {xs:List V}{us:List Value} (i:Nat),Vals xs us->Vals (xs.set i x) (us.set i u)
 | _,_,_,.nil => .nil
 | _,_,0,.cons _ t => .cons r t
 | _,_,i+1,.cons q t => .cons q (Vals.set r i t)
theorem Vals.append:∀ {xs ys:List V}{us ws:List Value},Vals xs us->Vals ys ws->Vals (xs ++ ys) (us ++ ws)
 | _,_,_,_,.nil,s=>s
 | _,_,_,_,.cons r t,s => .cons r (Vals.append t s)
theorem Vals.take:∀ {xs:List V}{us:List Value} (n:Nat),Vals xs us->Vals (xs.take n) (us.take n)
 | _,_,0,_ => .nil
 | _,_,_+1,.nil => .nil
 | _,_,n+1,.cons r t => .cons r (Vals.take n t)
theorem Vals.drop:∀ {xs:List V}{us:List Value} (n:Nat),Vals xs us->Vals (xs.drop n) (us.drop n)
 | _,_,0,r=>r
 | _,_,_+1,.nil => .nil
 | _,_,n+1,.cons _ t=>Vals.drop n t
def mj:Option V->Option Value->Prop
 | some v,some u=>RelV v u
 | none,none=>True
 | _,_=>False
def KV{κ : Type}:List (κ × V)->List (κ × Value)->Prop:=Paired fun (p : κ × V) (q : κ × Value)=>p.1=q.1∧RelV p.2 q.2
def kV:Key->V
 | .inl i => .int i
 | .inr x => .str x
inductive HO where
  | lst (xs:List V)
  | tup (xs:List V)
  | dK (kvs:List (Key × V)) | dT (kvs:List (List Key × V))
  | set (S:Int->Bool) (n:Nat)
  | ins (C dx:Addr) (fs:List (Str × V))
  | own (x:Addr)
  | xd (fs:List (Str × V))
  | met (f x:Addr)
  | Fq (lo hi:Int)
  | FF (o:Obj) (u:HO)
  | M4 (ps:Array Value)
  | ext (φ : Heap->Prop)
abbrev Hp:=Addr->Option HO
def aC(H:Hp)(a:Addr)(o:HO):Hp:=fun b=>if b=a then some o else H b
theorem ak{H:Hp}{a:Addr}{o:HO}:aC H a o a=some o:=by unfold aC;rw[if_pos rfl]
theorem av{H:Hp}{a:Addr}{o:HO}(h:b≠a):aC H a o b=H b:=by unfold aC;rw[if_neg h]
theorem sI{H:Hp}{a:Addr}{o u:HO}:aC (aC H a o) a u=aC H a u:=by
 funext b;unfold aC;split <;> rfl
theorem b9{H:Hp}{a:Addr}{o u:HO}(h:H a=some o)(h':H b=some u)(d:o≠u):a≠b:=by
 intro e;subst e;rw[h]at h';exact d (aP h')
theorem fe{H:Hp}{a:Addr}{o:HO}(h:H a=some o)(h':H b=none):a≠b:=by
 intro e;subst e;rw[h]at h';cases h'
def zZ(h:Heap)(a:Addr)(items:Array Value):Prop := ∃ o,h.get? a=some o∧o.cls = .type "tuple" ∧ ∃ n,o.data = .seq items n∧o.dict=none
theorem zZ.tup{a:Addr}{items:Array Value}(x:zZ h a items):IsTup h a items:=let ⟨o,e,c,n,d,_⟩:=x; ⟨o,e,c,n,d⟩
theorem zZ.new(h:Heap)(items:Array Value):zZ (h.push { cls := .type "tuple",data := .seq items }) h.objs.size items:=⟨_,bz _ rfl,O,_,O,O⟩
section
variable (P:Program) (w:World)
def eV(H:Hp)(h:Heap)(a:Addr):HO->Prop
 | .lst xs=>xs.length<=sizeLine∧∃ (its:List Value) (n:Nat),Vals xs its∧h.get? a=some { cls := .type "list",data := .seq its.toArray n }
 | .tup xs=>xs.length<=sizeLine∧∃ its:List Value,Vals xs its∧zZ h a its.toArray
 | .dK kvs=>kvs.length<=sizeLine∧(a == sysModules)=false∧∃ vs,KV kvs vs∧h.DictOf (dI P w) a vs
 | .dT kvs=>kvs.length<=sizeLine∧(a == sysModules)=false∧∃ xs:List (List Key × Addr × Value),
   Paired (fun (p:List Key × V) (q:List Key × Addr × Value)=>p.1=q.1∧H q.2.1=some (.tup (p.1.map kV))∧RelV p.2 q.2.2) kvs xs ∧
   ∃ o es ep,h.get? a=some o∧o.ExactDict∧o.data = .dict es ep∧es.toList=xs.map (entryOfKey (tupleKind (dI P w)))∧(xs.map (·.1)).Nodup
 | .set S n=>h.SetOf (intKind P w) a S n
 | .ins C dx fs=>H dx=some (.own a)∧fs.length<=1000∧dx≠a∧h.get? a=some (iP C dx) ∧
   ∃ mA,h.Ns1 dx mA∧(∀ f,mj (fs.lookup f) (mA f))∧xn mA (fs.map (·.1))
 | .own _=>∃ o,h.get? a=some o
 | .xd fs=>∃ mA,h.Ns1 a mA∧∀ f,mj (fs.lookup f) (mA f)
 | .Fq lo hi=>∃ t u v,h.get? a=some { cls := .type "range",data := .fields #[.int lo t,.int hi u,.int 1 v] }
 | .FF o u=>h.get? a=some o∧eV H h a u
 | .M4 ps=>h.get? a=some { cls := .none,data := .fields ps }
 | .met f x=>h.get? a=some (vG (.ref f) (.ref x))
 | .ext φ => φ h∧(∃ o,h.get? a=some o)∧∀ h1 h2:Heap, φ h1->(∀ o,h1.get? a=some o->h2.get? a=some o) -> φ h2
def iG(H:Hp)(h:Heap):Prop := ∀ a o,H a=some o->eV P w H h a o
end
section
variable {P:Program}{w:World} {H H':Hp} {h h':Heap}{a:Addr}{o:HO}
theorem eV.lt(x:eV P w H h a o):a < h.objs.size:=by
 cases o with
 | lst xs=>obtain⟨_,_,_,_,e⟩:=x;exact a9 e
 | tup xs=>obtain⟨_,_,_,p⟩:=x;exact p.tup.lt
 | dK kvs=>obtain⟨_,_,_,_,o,_,_,e,_⟩:=x;exact a9 e
 | dT kvs=>obtain⟨_,_,_,_,o,_,_,e,_⟩:=x;exact a9 e
 | set S n=>obtain⟨o,_,_,_,e,_⟩:=x;exact a9 e
 | ins C dx fs=>obtain⟨_,_,_,e,_⟩:=x;exact a9 e
 | own y=>obtain⟨_,e⟩:=x;exact a9 e
 | xd fs=>obtain⟨_,⟨_,_,_,e,_⟩,_⟩:=x;exact a9 e
 | Fq lo hi=>obtain⟨_,_,_,e⟩:=x;exact a9 e
 | FF ob u=>obtain⟨e,_⟩:=x;exact a9 e
 | M4 ps=>exact a9 (show h.get? a=some _ from x)
 | met f y=>exact a9 (show h.get? a=some _ from x)
 | ext φ => obtain⟨_,⟨_,e⟩,_⟩:=x;exact a9 e
theorem Paired.g9{α β : Type}{F G : α -> β -> Prop}:∀ {Om : List α}{Ol : List β},Paired F Om Ol -> (∀ a b,F a b->G a b)->Paired G Om Ol
 | _,_,.nil,_ => .nil
 | _,_,.cons r t,f => .cons (f _ _ r) (Paired.g9 t f)
theorem eV.B7(x:eV P w H h a o)(k:∀ b u,(b=a∨H b=some (.own a))->h.get? b=some u->h'.get? b=some u)(ho:∀ b,H b=some (.own a)->H' b=some (.own a))(ht:∀ b xs,H b=some (.tup xs)->H' b=some (.tup xs)):eV P w H' h' a o:=by
 induction o with
 | lst xs=>obtain⟨z,its,n,r,e⟩:=x;exact⟨z,its,n,r,k _ _ (.inl rfl) e⟩
 | tup xs=>obtain⟨z,its,r,ob,e,c⟩:=x;exact⟨z,its,r,ob,k _ _ (.inl rfl) e,c⟩
 | dK kvs=>obtain⟨z,y,vs,r,ob,es,ep,e,c⟩:=x;exact⟨z,y,vs,r,ob,es,ep,k _ _ (.inl rfl) e,c⟩
 | dT kvs =>
  obtain⟨z,y,xs,r,ob,es,ep,e,c⟩:=x;exact⟨z,y,xs,Paired.g9 r fun p q z=>⟨z.1,ht _ _ z.2.1,z.2.2⟩,ob,es,ep,k _ _ (.inl rfl) e,c⟩
 | set S n=>obtain⟨ob,es,ep,t,e,c⟩:=x;exact⟨ob,es,ep,t,k _ _ (.inl rfl) e,c⟩
 | ins C dx fs =>
  obtain⟨d,z,ne,e,mA,⟨od,es,ep,e2,c⟩,r⟩:=x;exact⟨ho _ d,z,ne,k _ _ (.inl rfl) e,mA,⟨od,es,ep,k _ _ (.inr d) e2,c⟩,r⟩
 | own y=>obtain⟨ob,e⟩:=x;exact⟨ob,k _ _ (.inl rfl) e⟩
 | xd fs=>obtain⟨mA,⟨od,es,ep,e,c⟩,r⟩:=x;exact⟨mA,⟨od,es,ep,k _ _ (.inl rfl) e,c⟩,r⟩
 | Fq lo hi=>obtain⟨t,u,v,e⟩:=x;exact⟨t,u,v,k _ _ (.inl rfl) e⟩
 | FF ob u ih=>obtain⟨e,q⟩:=x;exact⟨k _ _ (.inl rfl) e,ih q⟩
 | M4 ps =>
  have e:h.get? a=some { cls := .none,data := .fields ps }:=x;show h'.get? a=some { cls := .none,data := .fields ps };exact k a _ (.inl rfl) e
 | met f y =>
  have e:h.get? a=some (vG (.ref f) (.ref y)):=x;show h'.get? a=some (vG (.ref f) (.ref y));exact k a _ (.inl rfl) e
 | ext φ => obtain⟨p,⟨o,e⟩,st⟩:=x;exact⟨st _ _ p fun o q=>k _ _ (.inl rfl) q,⟨o,k _ _ (.inl rfl) e⟩,st⟩
theorem iG.lt(x:iG P w H h)(e:H a=some o):a < h.objs.size:=(x a o e).lt
theorem iG.fresh(x:iG P w H h)(e:h.objs.size<=a):H a=none:=by
 cases q:H a with
 | none=>rfl
 | some u=>exact absurd (cu (x.lt q) e) (e9 _)
theorem iG.kept(x:iG P w H h)(k:∀ b u,h.get? b=some u->h'.get? b=some u):iG P w H h':=fun a o e =>
 (x a o e).B7 (fun b u _ q=>k b u q) (fun _ q=>q) fun _ _ q=>q
theorem iG.laid(x:iG P w H h)(k:∀ b u,h.get? b=some u->h'.get? b=some u)(hp:h.objs.size<=a)(new:eV P w (aC H a o) h' a o):iG P w (aC H a o) h':=fun b u e=>by
 have hn:=x.fresh hp;by_cases hb:b=a
 ·subst hb;rw[ak]at e;cases e;exact new
 ·rw[av hb]at e;exact(x b u e).B7 (fun c v _ q=>k c v q) (fun c q=>by rw[av (fe q hn)];exact q) fun c xs q=>by rw[av (fe q hn)];exact q
end
def Rd(H:Hp)(a:Addr)(u:HO):Prop:=H a=some u∨∃ o,H a=some (.FF o u)
theorem Rd.ok{H:Hp}{a:Addr}{u:HO}(r:Rd H a u)(x:iG P w H h):eV P w H h a u:=by
 rcases r with r | ⟨o,r⟩
 ·exact x a u r
 ·obtain⟨_,q⟩:=x a _ r;exact q
def XG:Option HO->Prop
 | some (.lst _)=>True
 | some (.dK _)=>True
 | some (.dT _)=>True
 | some (.set _ _)=>True
 | some (.ins _ _ _)=>True
 | some (.ext _)=>True
 | _=>False
section
variable {P:Program}{w:World}{H:Hp} {h h':Heap}{x e:Addr} {o':HO}
theorem iG.write(ok:iG P w H h)(mu:XG (H x))(he:e=x∨H e=some (.own x))(k:∀ b u,b≠e->h.get? b=some u->h'.get? b=some u)(RE:∃ u,h'.get? e=some u)(new:eV P w (aC H x o') h' x o'):iG P w (aC H x o') h':=fun b u q=>by
 have aeB:∀ c y,H c=some (.own y)->c≠x:=fun c y r z=>by subst z;rw[r]at mu;exact mu
 have al5:∀ c xs,H c=some (.tup xs)->c≠x:=fun c xs r z=>by subst z;rw[r]at mu;exact mu
 by_cases hb:b=x
 ·subst hb;rw[ak]at q;cases q;exact new
 ·rw[av hb]at q;by_cases OR:b=e
  ·have q':H b=some (.own x):=by
    rcases he with z | z
    ·exact absurd (OR.trans z) hb
    ·rw[OR];exact z
   rw[q]at q';cases q';obtain⟨v,hv⟩:=RE;exact⟨v,by rw[OR];exact hv⟩
  ·refine(ok b u q).B7 (fun c v hc r=>k c v ?_ r) (fun c r=>by rw[av (aeB c b r)];exact r) fun c xs r=>by rw[av (al5 c xs r)];exact r
   rcases hc with rfl | hc
   ·exact OR
   ·rintro rfl;rcases he with z | z
    ·exact aeB c b hc z
    ·rw[hc]at z;cases z;exact hb rfl
end
structure Un(fs ex:List Addr)(H H':Hp)(h h':Heap):Prop where
 keep:∀ b o,h.get? b=some o->H b=none->b ∉ fs->b ∉ ex->h'.get? b=some o
 slot:∀ b o,h.get? b=some o->H b=none->b∈fs->b ∉ ex->∃ sl,h'.get? b=some { o with slots:=sl }
 free:∀ b o,h.get? b=some o->H b=none->b ∉ ex->H' b=none
 there:∀ b o,h.get? b=some o->b ∉ ex->∃ o',h'.get? b=some o'
 yC:∀ b xs,H b=some (.tup xs)->H' b=some (.tup xs)
 xg:∀ b o u,H b=some (.FF o u)->H' b=some (.FF o u)
 yD:∀ b ps,H b=some (.M4 ps)->∃ more,H' b=some (.M4 (ps ++ more))
section
variable {fs fs' ex ex':List Addr}{H H1 H2:Hp} {h h1 h2 h':Heap}{a x e:Addr}{o:HO}
theorem Un.any(u:Un fs ex H H1 h h1){ob:Obj}(q:h.get? b=some ob)(n:H b=none)(hx:b ∉ ex):∃ sl,h1.get? b=some { ob with slots:=sl }:=by
 by_cases hb:b∈fs
 ·exact u.slot b ob q n hb hx
 ·exact⟨ob.slots,u.keep b ob q n hb hx⟩
theorem Un.kept(k:∀ b u,h.get? b=some u->h'.get? b=some u):Un fs ex H H h h' :=
 ⟨fun b ob q _ _ _=>k b ob q,fun b ob q _ _ _=>⟨ob.slots,k b ob q⟩,fun _ _ _ n _=>n,fun b ob q _=>⟨ob,k b ob q⟩,fun _ _ q=>q,fun _ _ _ q=>q,fun _ ps q=>⟨#[],by rw[q];simp⟩⟩
theorem Un.refl:Un fs ex H H h h:=Un.kept fun _ _ q=>q
theorem Un.laid(k:∀ b u,h.get? b=some u->h'.get? b=some u)(hp:h.objs.size<=a)(hn:H a=none):Un fs ex H (aC H a o) h h' where
 keep:=fun b u q _ _ _=>k b u q
 slot:=fun b u q _ _ _=>⟨u.slots,k b u q⟩
 free:=fun b u q n _=>by rw[av (cQ (cu (a9 q) hp))];exact n
 there:=fun b u q _=>⟨u,k b u q⟩
 yC:=fun b xs q=>by rw[av (fe q hn)];exact q
 xg:=fun b u xs q=>by rw[av (fe q hn)];exact q
 yD:=fun b ps q=>⟨#[],by rw[av (fe q hn),q];simp⟩
theorem Un.write(mu:XG (H x))(he:e=x∨H e=some (.own x))(k:∀ b u,b≠e->h.get? b=some u->h'.get? b=some u)(RE:∃ u,h'.get? e=some u):Un fs ex H (aC H x o) h h':=by
 have hx:∀ b,H b=none->b≠x:=fun b n z=>by subst z;rw[n]at mu;exact mu
 have hb:∀ b,H b=none->b≠e:=fun b n z=>by
  subst z;rcases he with r | r
  ·exact hx b n r
  ·rw[n]at r;cases r
 have hm:∀ b u,H b=some u->¬ XG (some u)->b≠x:=fun b u q nm z=>by subst z;rw[q]at mu;exact nm mu
 refine⟨fun b u q n _ _=>k b u (hb b n) q,fun b u q n _ _=>⟨u.slots,k b u (hb b n) q⟩,fun b u q n _=>by rw[av (hx b n)];exact n,fun b u q _ =>?_,
  fun b xs q=>by rw[av (hm b _ q fun z=>z)];exact q,fun b u xs q=>by rw[av (hm b _ q fun z=>z)];exact q,fun b ps q=>⟨#[],by rw[av (hm b _ q fun z=>z),q];simp⟩⟩
 by_cases OR:b=e
 ·subst OR;exact RE
 ·exact⟨u,k b u OR q⟩
end
def trk(h:Heap)(H:Hp):List Addr:=(aI h.objs.size).filter fun a=>(H a).isSome
def AO(h:Heap)(H:Hp):Heap:=nO h (trk h H)
theorem WD(h:Heap)(H:Hp):(AO h H).objs.size=h.objs.size:=PySem.W.hideAll_size _ _
theorem Zk{H:Hp}(e:h.get? b=some o)(n:H b=none):(AO h H).get? b=some o :=
 sE _ e fun hm=>by
  have q:(H b).isSome=true:=(jF.mp hm).2;rw[n]at q;simp at q
theorem acZ{H:Hp}(e:(AO h H).get? b=some o):h.get? b=some o∧H b=none:=by
 have e':h.get? b=some o:=oB (trk h H) e;refine⟨e',?_⟩;cases q:H b with
 | none=>rfl
 | some x =>
  have hm:b∈trk h H:=jF.mpr ⟨dH.mpr (a9 e'),by simp[q]⟩;have z:(AO h H).get? b=none:=PySem.W.hideAll_none (trk h H) hm;rw[z]at e;cases e
structure Mod(K:ai)(mg:Str->Option Value)(base:Heap):Prop where
 Lq:K.In base
 glob:base.Ns mainGlobals mg
 blt:∃ mb,base.Ns builtinsNs mb∧∀ x:Str,x ≠ "__name__" -> mb x=bootBuiltins x
 nolimit:base.NoLimit
structure Cx where
 prog:Program
 w:World
 K:ai
 mg:Str->Option Value
 base:Heap
 A:Around
 N:List Str
 lW : Shared
 Em : Hp
 env:Env
 outer:List Env
 stack:List Env
 ex:List Addr
 fn:Str->Bool
 calm:Bool
 pn:List (Addr × Obj)
 xe:Value->Shared->Prop
def jD(l:List Env):List Addr:=l.filterMap (·.frame)
abbrev Cx.fs(X:Cx):List Addr:=jD X.outer
def Vis(sc:Scope)(x:Str):Prop:=sc.names.lookup x=some .local∨sc.names.lookup x=some .cell∨sc.names.lookup x=some .free
def Loc(sc:Scope)(x:Str):Prop:=sc.names.lookup x=some .local∨sc.names.lookup x=some .cell
def Look(env:Env)(h:Heap)(m:Str->Option Value)(x:Str)(u:Value):Prop :=
 (env.kindOf x=some .local∧m x=some u)∨((env.kindOf x=some .cell∨env.kindOf x=some .free)∧∃ c,env.cells.lookup x=some c∧h.IsCell c (some u))
structure Cx.Ok(X:Cx):Prop where
 mod:Mod X.K X.mg X.base
 kind:X.env.scope.kind = .function
 glob:X.env.globals=mainGlobals
 blt:X.env.builtins=builtinsNs
 above:X.lW.heap.objs.size<=X.env.locals
 inj:∀ x y c,X.env.cells.lookup x=some c->X.env.cells.lookup y=some c->x=y
 has:∀ x,(X.env.kindOf x=some .cell∨X.env.kindOf x=some .free)->∃ c,X.env.cells.lookup x=some c
 R4:∀ x c,X.fn x=true->X.env.cells.lookup x=some c->X.lW.heap.objs.size<=c
 hd:X.calm=true->X.A.handled=none
 frames:X.A.frames=some X.stack
 Va:X.stack=X.outer∨(X.stack=X.env :: X.outer∧X.env.frame=some X.env.locals)
 exf:∀ b∈X.ex,b≠X.env.locals∧∀ x c,X.env.cells.lookup x=some c->c≠b
 bs:∀ b o,X.base.get? b=some o->X.lW.heap.get? b=some o∧X.Em b=none
 FJ:X.base.objs.size<=X.lW.heap.objs.size
 JX:∀ b o,X.base.get? b=some o->b ∉ X.ex
 Pc:∀ b∈X.ex,b ∉ X.fs
 tX:X.lW.heap.FunFrames X.base X.outer
 LJ:∀ b∈X.fs,X.Em b=none
structure Inv(X:Cx)(ag:List (Addr × Obj))(σ : List (Option V))(H:Hp)(s:Shared):Prop where
 ok:X.Ok
 os:s.os=X.lW.os
 bare:AllBare s.gens
 base:Un X.fs X.ex X.Em H X.lW.heap s.heap
 loc:∃ m,s.heap.Ns X.env.locals m∧∀ (i:Nat) (x:Str) (v:V),X.N[i]? = some x -> σ[i]? = some (some v)->Vis X.env.scope x->∃ u,RelV v u∧Look X.env s.heap m x u
 cell:∀ x c,X.env.cells.lookup x=some c->∃ v,s.heap.IsCell c v
 free:H X.env.locals=none
 ux:∀ x c,X.env.cells.lookup x=some c->H c=none
 pin:∀ p∈X.pn ++ ag,s.heap.get? p.1=some p.2∧H p.1=none∧p.1≠X.env.locals∧p.1 ∉ X.fs∧∀ v,p.2.data ≠ .cell v
 bO:iG X.prog X.w H s.heap
 len : σ.length=X.N.length
section
variable {X:Cx}{ag:List (Addr × Obj)}{σ : List (Option V)} {H H':Hp}{s:Shared} {h':Heap}
theorem Cx.Ok.al7(ok:X.Ok)(e:X.base.get? b=some o):b ∉ X.fs:=fun hb=>by
 have:=(ok.tX.mem hb).1;rw[e]at this;cases this
theorem Inv.bs(I:Inv X ag σ H s):∀ b o,X.base.get? b=some o->s.heap.get? b=some o∧H b=none:=fun b o e =>
 ⟨I.base.keep b o (I.ok.bs b o e).1 (I.ok.bs b o e).2 (I.ok.al7 e) (I.ok.JX b o e),I.base.free b o (I.ok.bs b o e).1 (I.ok.bs b o e).2 (I.ok.JX b o e)⟩
theorem Inv.bk(I:Inv X ag σ H s):∀ b o,X.base.get? b=some o->s.heap.get? b=some o:=fun b o e=>(I.bs b o e).1
theorem Inv.mod(I:Inv X ag σ H s):Mod X.K X.mg X.base:=I.ok.mod
theorem Inv.sv(I:Inv X ag σ H s):X.K.In s.heap:=I.ok.mod.Lq.keeps I.bk
theorem Inv.lt(I:Inv X ag σ H s):X.env.locals < s.heap.objs.size:=let ⟨_,hn,_⟩:=I.loc;hn.lt
theorem Inv.sz(I:Inv X ag σ H s):X.lW.heap.objs.size<=s.heap.objs.size:=bp I.ok.above (ky I.lt)
theorem Inv.al6(I:Inv X ag σ H s){a:Addr}(h:s.heap.objs.size<=a):a ∉ X.fs:=fun hb=>by
 obtain⟨_,o,ho,_⟩:=I.ok.tX.mem hb;exact absurd (cu (a9 ho) (bp I.sz h)) (e9 _)
theorem Inv.Pm(I:Inv X ag σ H s):∀ x c,X.env.cells.lookup x=some c->c≠X.env.locals:=fun x c e z=>by
 obtain⟨v,o,ho,hd⟩:=I.cell x c e;obtain⟨m,⟨o',es,ep,OH,hd',_⟩,_⟩:=I.loc;rw[z,OH]at ho;cases ho;rw[hd']at hd;cases hd
theorem Inv.tX(I:Inv X ag σ H s):s.heap.FunFrames X.base X.outer:=by
 have all:∀ (l:List Env),(∀ b∈jD l,b∈X.fs)->X.lW.heap.FunFrames X.base l->s.heap.FunFrames X.base l:=by
  intro l
  induction l with
  | nil=>intro _ _;trivial
  | cons env r ih =>
   intro hs hl;obtain⟨hk,⟨L,o,hf,hn,ho,hd⟩,hr⟩:=hl;have hL:L∈X.fs:=hs L (by unfold jD;rw[cF,hf];exact bM);obtain⟨sl,e⟩:=I.base.slot L o ho (I.ok.LJ L hL) hL fun z=>I.ok.Pc L z hL;exact⟨hk,⟨L,_,hf,hn,e,hd⟩,ih (fun b hb=>hs b (by unfold jD;rw[cF,hf];exact aX _ hb)) hr⟩
 exact all X.outer (fun _ hb=>hb) I.ok.tX
theorem Inv.stack(I:Inv X ag σ H s):s.heap.FunFrames X.base X.stack:=by
 rcases I.ok.Va with e | ⟨e,hf⟩
 ·rw[e];exact I.tX
 ·rw[e];obtain⟨m,hn,_⟩:=I.loc;refine .cons (by rw[I.ok.kind];decide) hf hn ?_ I.tX;exact iW (bp I.ok.FJ I.ok.above)
theorem Inv.B6(I:Inv X ag σ H s):∀ b∈jD X.stack,b∈X.env.locals :: X.fs:=fun b hb=>by
 rcases I.ok.Va with e | ⟨e,hf⟩
 ·rw[e]at hb;exact aX _ hb
 ·rw[e]at hb;unfold jD at hb;rw[cF,hf]at hb;exact hb
theorem Inv.JF(I:Inv X ag σ H s):∀ b∈jD X.stack,H b=none:=fun b hb=>by
 rcases bC.mp (I.B6 b hb) with e | hb
 ·rw[e];exact I.free
 ·obtain⟨_,o,ho,_⟩:=I.ok.tX.mem hb;exact I.base.free b o ho (I.ok.LJ b hb) fun z=>I.ok.Pc b z hb
theorem Inv.step(I:Inv X ag σ H s)(xX:∀ b∈ch,(b∈X.ex∨X.lW.heap.objs.size<=b)∧b≠X.env.locals∧(∀ x c,X.env.cells.lookup x=some c->c≠b)∧∀ p∈X.pn ++ ag,p.1≠b)(keep:∀ b o,b≠X.env.locals->b ∉ X.fs->b ∉ ch->s.heap.get? b=some o->H b=none->h'.get? b=some o)(slot:∀ b o,b≠X.env.locals->b∈X.fs->b ∉ ch->s.heap.get? b=some o->H b=none->∃ sl,h'.get? b=some { o with slots:=sl })(free:∀ b o,b ∉ ch->s.heap.get? b=some o->H b=none->H' b=none)(there:∀ b o,b ∉ ch->s.heap.get? b=some o->∃ o',h'.get? b=some o')(yC:∀ b xs,H b=some (.tup xs)->H' b=some (.tup xs))(xg:∀ b o u,H b=some (.FF o u)->H' b=some (.FF o u))(yD:∀ b ps,H b=some (.M4 ps)->∃ more,H' b=some (.M4 (ps ++ more)))(ns:∀ m,s.heap.Ns X.env.locals m->h'.Ns X.env.locals m)(bO:iG X.prog X.w H' h')(hg:AllBare g') :
  Inv X ag σ H' { s with heap:=h',gens:=g',drawn:=d',toks:=t' }:=by
 have neL:∀ b o,X.lW.heap.get? b=some o->b≠X.env.locals:=fun b o e=>cQ (cu (a9 e) I.ok.above);have neC:∀ b o,X.lW.heap.get? b=some o->b ∉ X.ex->b ∉ ch:=fun b o e hx hb=>by
  rcases(xX b hb).1 with z | z
  ·exact hx z
  ·exact absurd (cu (a9 e) z) (e9 _)
 have abP:∀ x c,X.env.cells.lookup x=some c->∀ v,s.heap.IsCell c v->h'.IsCell c v:=fun x c e v ⟨o,ho,hd⟩=>by
  have Wa:c ∉ ch:=fun z=>(xX c z).2.2.1 x c e rfl;by_cases hc:c∈X.fs
  ·obtain⟨sl,q⟩:=slot c o (I.Pm x c e) hc Wa ho (I.ux x c e);exact⟨_,q,hd⟩
  ·exact⟨o,keep c o (I.Pm x c e) hc Wa ho (I.ux x c e),hd⟩
 refine⟨I.ok,I.os,hg,⟨fun b o e n hb hx =>?_,fun b o e n hb hx =>?_,fun b o e n hx =>?_,fun b o e hx =>?_,fun b xs e=>yC b xs (I.base.yC b xs e),fun b o xs e=>xg b o xs (I.base.xg b o xs e),fun b ps e =>?_⟩,?_,fun x c e =>?_,?_,fun x c e =>?_,fun p hp =>?_,bO,I.len⟩
 ·exact keep b o (neL b o e) hb (neC b o e hx) (I.base.keep b o e n hb hx) (I.base.free b o e n hx)
 ·obtain⟨sl,e1⟩:=I.base.slot b o e n hb hx;obtain⟨sl',e2⟩:=slot b _ (neL b o e) hb (neC b o e hx) e1 (I.base.free b o e n hx);exact⟨sl',e2⟩
 ·obtain⟨o',e1⟩:=I.base.there b o e hx;exact free b o' (neC b o e hx) e1 (I.base.free b o e n hx)
 ·obtain⟨o',e1⟩:=I.base.there b o e hx;exact there b o' (neC b o e hx) e1
 ·obtain⟨m1,e1⟩:=I.base.yD b ps e;obtain⟨m2,e2⟩:=yD b _ e1;exact⟨m1 ++ m2,by rw[e2,ED]⟩
 ·obtain⟨m,hn,hl⟩:=I.loc;refine⟨m,ns m hn,fun i x v e1 e2 e3 =>?_⟩;obtain⟨u,r,l⟩:=hl i x v e1 e2 e3;refine⟨u,r,?_⟩;rcases l with l | ⟨k,c,e,z⟩
  ·exact .inl l
  ·exact .inr ⟨k,c,e,abP x c e _ z⟩
 ·obtain⟨v,z⟩:=I.cell x c e;exact⟨v,abP x c e v z⟩
 ·obtain⟨m,⟨o,_,_,ho,_⟩,_⟩:=I.loc;exact free _ o (fun z=>(xX _ z).2.1 rfl) ho I.free
 ·obtain⟨v,o,ho,hd⟩:=I.cell x c e;exact free c o (fun z=>(xX c z).2.2.1 x c e rfl) ho (I.ux x c e)
 ·obtain⟨e,n,ne,nf,d⟩:=I.pin p hp;have Wa:p.1 ∉ ch:=fun z=>(xX p.1 z).2.2.2 p hp rfl;exact⟨keep p.1 p.2 ne nf Wa e n,free p.1 p.2 Wa e n,ne,nf,d⟩
theorem Inv.un(I:Inv X ag σ H s)(u:Un X.fs [] H H' s.heap h')(bO:iG X.prog X.w H' h'):Inv X ag σ H' { s with heap:=h',toks:=t' }:=by
 obtain⟨m,⟨o,es,ep,ho,r⟩,_⟩:=id I.loc;obtain⟨sl,hL⟩:=u.any ho I.free (by simp);exact I.step (g':=s.gens) (d':=s.drawn) (ch := []) (fun _ z=>nomatch z) (fun b o _ hb _ e n=>u.keep b o e n hb (by simp)) (fun b o _ hb _ e n=>u.slot b o e n hb (by simp)) (fun b o _ e n=>u.free b o e n (by simp)) (fun b o _ e=>u.there b o e (by simp)) u.yC u.xg u.yD (fun m' hm=>by
  obtain⟨o',es',ep',OH,r'⟩:=hm;rw[ho]at OH;cases OH;exact⟨_,es',ep',hL,r'⟩) bO I.bare
theorem Inv.call(I:Inv X ag σ H s)(u:Un (jD X.stack) ch H H' s.heap h')(bO:iG X.prog X.w H' h')(hg:AllBare g')(xX:∀ b∈ch,(b∈X.ex∨X.lW.heap.objs.size<=b)∧b≠X.env.locals∧(∀ x c,X.env.cells.lookup x=some c->c≠b)∧∀ p∈X.pn ++ ag,p.1≠b) :
  Inv X ag σ H' { s with heap:=h',gens:=g',drawn:=d',toks:=t' }:=by
 obtain⟨m,⟨o,es,ep,ho,r⟩,_⟩:=id I.loc;obtain⟨sl,hL⟩:=u.any ho I.free fun z=>(xX _ z).2.1 rfl;exact I.step (ch:=ch) xX (fun b o hL hb hc e n=>u.keep b o e n (fun z=>(bC.mp (I.B6 b z)).elim hL hb) hc) (fun b o _ _ hc e n=>u.any e n hc) (fun b o hc e n=>u.free b o e n hc) (fun b o hc e=>u.there b o e hc) u.yC u.xg u.yD (fun m' hm=>by
  obtain⟨o',es',ep',OH,r'⟩:=hm;rw[ho]at OH;cases OH;exact⟨_,es',ep',hL,r'⟩) bO hg
theorem Inv.turned(I:Inv X ag σ H s)(k:∀ b o,b≠it->s.heap.get? b=some o->h'.get? b=some o)(hn:H it=none)(hL:it≠X.env.locals)(h1:it∈X.ex∨X.lW.heap.objs.size<=it)(h2:∀ x c,X.env.cells.lookup x=some c->c≠it)(h3:∀ p∈X.pn ++ ag,p.1≠it):Inv X ag σ H { s with heap:=h',toks:=t' }:=by
 have V8:∀ b u,H b=some u->b≠it:=fun b u e z=>by rw[z,hn]at e;cases e
 refine I.step (g':=s.gens) (d':=s.drawn) (ch := [it]) (fun b hb =>?_) (fun b o _ _ hc e _=>k b o (fun z=>hc (by simp[z])) e) (fun b o _ _ hc e _=>⟨o.slots,k b o (fun z=>hc (by simp[z])) e⟩) (fun _ _ _ _ n=>n)
  (fun b o hc e=>⟨o,k b o (fun z=>hc (by simp[z])) e⟩) (fun _ _ e=>e) (fun _ _ _ e=>e) (fun b ps e=>⟨#[],by rw[e];simp⟩) (fun m hm =>?_) (fun b u e =>?_) I.bare
 ·have e:b=it:=by simpa using hb
  subst e;exact⟨h1,hL,h2,h3⟩
 ·obtain⟨o,es,ep,ho,r⟩:=hm;exact⟨o,es,ep,k _ o (bR hL) ho,r⟩
 ·refine(I.bO b u e).B7 (fun c v hc q=>k c v ?_ q) (fun _ q=>q) fun _ _ q=>q;rcases hc with z | z
  ·rw[z];exact V8 b u e
  ·exact V8 c _ z
theorem Inv.tok(I:Inv X ag σ H s)(t:Nat):Inv X ag σ H { s with toks:=t }:=I.un (h':=s.heap) (t':=t) Un.refl I.bO
theorem Inv.kept(I:Inv X ag σ H s)(k:∀ b u,s.heap.get? b=some u->h'.get? b=some u):Inv X ag σ H { s with heap:=h',toks:=t' }:=I.un (Un.kept k) (I.bO.kept k)
theorem Inv.laid{a:Addr}{o:HO}(I:Inv X ag σ H s)(k:∀ b u,s.heap.get? b=some u->h'.get? b=some u)(hp:s.heap.objs.size<=a)(new:eV X.prog X.w (aC H a o) h' a o) :
  Inv X ag σ (aC H a o) { s with heap:=h',toks:=t' }:=I.un (Un.laid k hp (I.bO.fresh hp)) (I.bO.laid k hp new)
theorem Inv.write{x e:Addr}{o:HO}(I:Inv X ag σ H s)(mu:XG (H x))(he:e=x∨H e=some (.own x))(k:∀ b u,b≠e->s.heap.get? b=some u->h'.get? b=some u)(RE:∃ u,h'.get? e=some u)(new:eV X.prog X.w (aC H x o) h' x o):Inv X ag σ (aC H x o) { s with heap:=h',toks:=t' }:=I.un (Un.write mu he k RE) (I.bO.write mu he k RE new)
theorem Inv.Rf{aaJ:List (Addr × Obj)}(I:Inv X ag σ H s)(h:∀ p∈aaJ,s.heap.get? p.1=some p.2∧H p.1=none∧p.1≠X.env.locals∧p.1 ∉ X.fs∧∀ v,p.2.data ≠ .cell v):Inv X aaJ σ H s :=
 ⟨I.ok,I.os,I.bare,I.base,I.loc,I.cell,I.free,I.ux,fun p hp=>(cI.mp hp).elim (fun z=>I.pin p (fg _ z)) (h p),I.bO,I.len⟩
theorem Oc(hN:N.Nodup)(a:N[i]? = some x)(b:N[j]? = some x):i=j:=by
 obtain⟨h1,e1⟩:=aj.mp a;obtain⟨h2,e2⟩:=aj.mp b;exact(List.getElem_inj hN).mp (e1.trans e2.symm)
theorem U9{v:V}{Q:Unit->Shared->Prop}(I:Inv X ag σ H s)(hN:X.N.Nodup)(hi:X.N[i]? = some x)(hx:Loc X.env.scope x)(r:RelV v u)(h:∀ s',Inv X ag (σ.set i (some v)) H s'->(∃ a,eT a s.heap s'.heap∧(a=X.env.locals∨X.env.cells.lookup x=some a))->Q () s')(hf:X.fn x=true∨X.env.scope.names.lookup x=some .local:=by first | exact .inl rfl | exact .inr rfl | assumption):wpAny M A (storeName X.env x u) Q E s:=by
 obtain⟨m,hn,hl⟩:=id I.loc;have amO:(X.env.scope.kind == .class || (X.env.scope.kind == .module && X.env.locals != X.env.globals))=false:=by rw[I.ok.kind];rfl
 have afG : i < σ.length:=by rw[I.len];exact(aj.mp hi).1
 have Pm:=I.Pm;have JA:∀ {a:Addr} {h':Heap},(∃ o,s.heap.get? a=some o∧H a=none)->eT a s.heap h'->iG X.prog X.w H h':=fun {a h'} ha hs b ob e=>by
  obtain⟨_,_,EV⟩:=ha;refine(I.bO b ob e).B7 (fun c w' hc q=>(hs.2 c ?_).trans q) (fun _ q=>q) fun _ _ q=>q;rintro rfl;rcases hc with rfl | hc
  ·rw[EV]at e;cases e
  ·rw[EV]at hc;cases hc
 rcases hx with hk | hk
 ·refine wpAny_storeName_local hk hn (fun h' hn' hs =>?_) amO;obtain⟨oL,_,_,hoL,_⟩:=id hn;refine h _ ⟨I.ok,I.os,I.bare,⟨fun b o e n hb hx =>?_,fun b o e n hb hx =>?_,I.base.free,fun b o e hx =>?_,I.base.yC,I.base.xg,I.base.yD⟩,⟨_,hn',fun j y v' e1 e2 e3 =>?_⟩,fun y c e =>?_,I.free,I.ux,fun p hp =>?_,JA ⟨oL,hoL,I.free⟩ hs,by simpa using I.len⟩ ⟨_,hs,.inl rfl⟩
  ·exact(hs.2 b (cQ (cu (a9 e) I.ok.above))).trans (I.base.keep b o e n hb hx)
  ·obtain⟨sl,e1⟩:=I.base.slot b o e n hb hx;exact⟨sl,(hs.2 b (cQ (cu (a9 e) I.ok.above))).trans e1⟩
  ·obtain⟨o',e1⟩:=I.base.there b o e hx;exact⟨o',(hs.2 b (cQ (cu (a9 e) I.ok.above))).trans e1⟩
  ·by_cases hj:j=i
   ·subst hj;rw[hi]at e1;cases e1;rw[zc afG]at e2;cases e2;exact⟨u,r,.inl ⟨hk,by simp⟩⟩
   ·rw[Bj (bR hj)]at e2;obtain⟨u',r',q⟩:=hl j y v' e1 e2 e3;refine⟨u',r',?_⟩;rcases q with⟨k,e⟩ | ⟨k,c,e,z⟩
    ·refine .inl ⟨k,?_⟩;have:y≠x:=fun e=>hj (Oc hN e1 (e ▸ hi));simp[this,e]
    ·exact .inr ⟨k,c,e,z.sameBut hs (Pm y c e)⟩
  ·obtain⟨w',z⟩:=I.cell y c e;exact⟨w',z.sameBut hs (Pm y c e)⟩
  ·obtain⟨e,n,ne,nf,d⟩:=I.pin p hp;exact⟨(hs.2 p.1 ne).trans e,n,ne,nf,d⟩
 ·have hfn:X.fn x=true:=by
   rcases hf with z | z
   ·exact z
   ·rw[z]at hk;cases hk
  obtain⟨c,hc⟩:=I.ok.has x (.inl hk);obtain⟨w',z⟩:=I.cell x c hc;refine wpAny_storeName_cell I.ok.kind hk hc z (fun h' xY hs =>?_);obtain⟨oc,hoc,amx⟩:=id z;refine h { s with heap:=h' } ⟨I.ok,I.os,I.bare,⟨fun b o e n hb hx =>?_,fun b o e n hb hx =>?_,I.base.free,fun b o e hx =>?_,I.base.yC,I.base.xg,I.base.yD⟩,⟨m,hn.sameBut hs (bR (Pm x c hc)),fun j y v' e1 e2 e3 =>?_⟩,fun y c' e =>?_,I.free,I.ux,fun p hp =>?_,JA ⟨oc,hoc,I.ux x c hc⟩ hs,by simpa using I.len⟩ ⟨c,hs,.inr hc⟩
  ·exact(hs.2 b (cQ (cu (a9 e) (I.ok.R4 x c hfn hc)))).trans (I.base.keep b o e n hb hx)
  ·obtain⟨sl,e1⟩:=I.base.slot b o e n hb hx;exact⟨sl,(hs.2 b (cQ (cu (a9 e) (I.ok.R4 x c hfn hc)))).trans e1⟩
  ·obtain⟨o',e1⟩:=I.base.there b o e hx;exact⟨o',(hs.2 b (cQ (cu (a9 e) (I.ok.R4 x c hfn hc)))).trans e1⟩
  ·by_cases hj:j=i
   ·subst hj;rw[hi]at e1;cases e1;rw[zc afG]at e2;cases e2;exact⟨u,r,.inr ⟨.inl hk,c,hc,xY⟩⟩
   ·rw[Bj (bR hj)]at e2;obtain⟨u',r',q⟩:=hl j y v' e1 e2 e3;refine⟨u',r',?_⟩;rcases q with q | ⟨k,c',e,z'⟩
    ·exact .inl q
    ·refine .inr ⟨k,c',e,z'.sameBut hs ?_⟩;rintro rfl;exact hj (Oc hN e1 (I.ok.inj _ _ _ e hc ▸ hi))
  ·by_cases RG:c'=c
   ·subst RG;exact⟨_,xY⟩
   ·obtain⟨w2,z2⟩:=I.cell y c' e;exact⟨w2,z2.sameBut hs RG⟩
  ·obtain⟨e,n,ne,nf,d⟩:=I.pin p hp;refine⟨(hs.2 p.1 ?_).trans e,n,ne,nf,d⟩;intro q;rw[q,hoc]at e;have q':oc=p.2:=aP e;exact d w' (by rw[<- q'];exact amx)
theorem F3{v:V}{Q:Unit->Shared->Prop}(I:Inv X ag σ H s)(hN:X.N.Nodup)(hi:X.N[i]? = some x)(hx:Loc X.env.scope x)(r:RelV v u)(h:∀ s',Inv X ag (σ.set i (some v)) H s'->Q () s')(hf:X.fn x=true∨X.env.scope.names.lookup x=some .local:=by first | exact .inl rfl | exact .inr rfl | assumption):wpAny M A (storeName X.env x u) Q E s :=
 U9 I hN hi hx r (fun s' I' _=>h s' I') hf
theorem Inv.aiG(I:Inv X ag σ H s)(ho:s'.os=s.os)(u:Un (jD X.stack) ch H H' s.heap s'.heap)(bO:iG X.prog X.w H' s'.heap)(hg:AllBare s'.gens)(xX:∀ b∈ch,(b∈X.ex∨X.lW.heap.objs.size<=b)∧b≠X.env.locals∧(∀ x c,X.env.cells.lookup x=some c->c≠b)∧∀ p∈X.pn ++ ag,p.1≠b):Inv X ag σ H' s':=by
 obtain⟨h',g',d',t',o'⟩:=s';have e:o'=s.os:=ho;subst e;exact I.call (g':=g') (t':=t') (d':=d') u bO hg xX
end
abbrev XK:=Value->Option Addr->Hp->Prop
abbrev St:=List (Option V)
abbrev VK:=V->Hp->Prop
abbrev TE:=St->Hp->VK->Prop
abbrev TT:=St->Hp->(Bool->Hp->Prop)->Prop
abbrev TA:=St->Hp->(List V->Hp->Prop)->Prop
structure Ends where
 nx:St->Hp->Prop
 rt:VK
 bk:St->Hp->Prop:=fun _ _=>False
 ct:St->Hp->Prop:=fun _ _=>False
abbrev TS:=Ends->St->Hp->Prop
def EP(X:Cx)(ag:List (Addr × Obj))(σ : St)(Q:VK)(u:Value)(s':Shared):Prop := ∃ v H',Inv X ag σ H' s'∧RelV v u∧Q v H'
def TP(X:Cx)(ag:List (Addr × Obj))(σ : St)(Q:Bool->Hp->Prop)(b:Bool)(s':Shared):Prop := ∃ H',Inv X ag σ H' s'∧Q b H'
def AP(X:Cx)(ag:List (Addr × Obj))(σ : St)(Q:List V->Hp->Prop)(us:List Value)(s':Shared):Prop := ∃ vs H',Inv X ag σ H' s'∧Vals vs us∧Q vs H'
def SP(X:Cx)(ag:List (Addr × Obj))(D:Ends)(f:Flow)(s':Shared):Prop :=
 match f with
 | .next=>∃ bJ H',Inv X ag bJ H' s'∧D.nx bJ H'
 | .brk=>∃ bJ H',Inv X ag bJ H' s'∧D.bk bJ H'
 | .cont=>∃ bJ H',Inv X ag bJ H' s'∧D.ct bJ H'
 | .ret u=>∃ v bJ H',Inv X ag bJ H' s'∧RelV v u∧D.rt v H'
def PE(X:Cx)(e:Expr)(t:TE):Prop :=
 ∀ (ag:List (Addr × Obj)) (s:Shared) (σ : St) (H:Hp) (Q:VK),Inv X ag σ H s->t σ H Q->wpAny (model X.prog X.w) X.A (eval e X.env) (EP X ag σ Q) X.xe s
def PT(X:Cx)(e:Expr)(t:TT):Prop :=
 ∀ (ag:List (Addr × Obj)) (s:Shared) (σ : St) (H:Hp) (Q:Bool->Hp->Prop),Inv X ag σ H s->t σ H Q->wpAny (model X.prog X.w) X.A (isTrue e X.env (eval e X.env)) (TP X ag σ Q) X.xe s
def PW(X:Cx)(e:Expr)(t:TT):Prop :=
 ∀ (Af:Sem Value) (ag:List (Addr × Obj)) (s:Shared) (σ : St) (H:Hp) (Q:Bool->Hp->Prop),Inv X ag σ H s->t σ H Q->wpAny (model X.prog X.w) X.A (isTrue e X.env Af) (TP X ag σ Q) X.xe s
theorem PW.pt{X:Cx}{t:TT}(h:PW X e t):PT X e t:=h _
def PA(X:Cx)(es:List Expr)(t:TA):Prop :=
 ∀ (pos:Pos) (ag:List (Addr × Obj)) (s:Shared) (σ : St) (H:Hp) (Q:List V->Hp->Prop),Inv X ag σ H s->t σ H Q->wpAny (model X.prog X.w) X.A (spliced (backTo pos (starEach es X.env))) (AP X ag σ Q) X.xe s
def PS(X:Cx)(st:Stmt)(t:TS):Prop :=
 ∀ (ag:List (Addr × Obj)) (s:Shared) (σ : St) (H:Hp) (D:Ends),Inv X ag σ H s->t D σ H->wpAny (model X.prog X.w) X.A (exec st X.env) (SP X ag D) X.xe s
def oC(X:Cx)(st:List Stmt)(t:TS):Prop :=
 ∀ (ag:List (Addr × Obj)) (s:Shared) (σ : St) (H:Hp) (D:Ends),Inv X ag σ H s->t D σ H->wpAny (model X.prog X.w) X.A (execs st X.env) (SP X ag D) X.xe s
theorem cm{α : Type}{t:Sem α}{Q Q' : α -> Shared->Prop}(h:wpAny M A t Q E s)(hQ:∀ a s,Q a s->Q' a s):wpAny M A t Q' E s:=wpAny_mono h hQ fun _ _ x=>x
section
variable {X:Cx}
inductive ahy(i:Nat)(σ : St)(H:Hp)(Q:VK):Prop
 | mk (v:V) (e : σ[i]? = some (some v)) (q:Q v H):ahy i σ H Q
def adW(i:Nat):TE:=fun σ H Q=>ahy i σ H Q
def tC(v:V):TE:=fun _ H Q=>Q v H
theorem aep(hN:X.N[i]? = some x)(hv:Vis X.env.scope x)(hd:(x == ("__debug__" : Str))=false:=by decide)(om:(x == ("__classdict__" : Str))=false:=by decide):PE X (.Name x pos) (adW i):=by
 intro ag s σ H Q I h;obtain⟨v,e,h⟩:=h;obtain⟨m,hn,hl⟩:=I.loc;obtain⟨u,r,l⟩:=hl i x v hN e hv;have j9:EP X ag σ Q u s:=⟨v,H,I,r,h⟩;rcases l with⟨hk,hm⟩ | ⟨hk,c,hc,uw⟩
 ·exact wpAny_Name (wpAny_loadName_local I.ok.kind hk hn hm j9) hd
 ·rcases hk with hk | hk
  ·exact wpAny_Name (wpAny_loadName_cell I.ok.kind hk hc uw j9) hd
  ·exact wpAny_Name (wpAny_loadName_free I.ok.kind hk hc uw j9 om) hd
theorem az{i j pos}:PE X (.Constant (.int i) j pos) (tC (.int i)):=fun _ _ _ H _ I h=>wpAny_Constant_int ⟨.int i,H,I.tok _,⟨_,O⟩,h⟩
theorem lQ{b j pos}:PE X (.Constant (.bool b) j pos) (tC (.bl b)):=fun _ _ _ H _ I h=>Constant_bool ⟨.bl b,H,I,O,h⟩
theorem rC{j pos}:PE X (.Constant .none j pos) (tC .cj):=fun _ _ _ H _ I h=>Constant_none ⟨.cj,H,I,O,h⟩
theorem bN{x j pos}:PE X (.Constant (.str x) j pos) (tC (.str x)):=fun _ _ _ H _ I h=>Calls.Constant_str ⟨.str x,H,I.tok _,⟨_,O⟩,h⟩
def Gl(X:Cx)(x:Str):Prop:=X.env.kindOf x=some .globalImplicit
theorem zy{σ : St}{H:Hp}(I:Inv X ag σ H s)(hg:Gl X x)(hm:X.mg x=some u)(h:Q u s)(hd:(x == ("__debug__" : Str))=false:=by decide):wpAny (model X.prog X.w) X.A (eval (.Name x pos) X.env) Q E s :=
 vp I.ok.kind hg (Calls.loadGlobal_global (by rw[I.ok.glob];exact I.mod.glob.keeps I.bk) hm h) hd
theorem wO{σ : St}{H:Hp}(I:Inv X ag σ H s)(hg:Gl X x)(hm:X.mg x=none)(hv:bootBuiltins x=some u)(h:Q u s)(hn:x ≠ "__name__" := by decide)(hd:(x == ("__debug__" : Str))=false:=by decide):wpAny (model X.prog X.w) X.A (eval (.Name x pos) X.env) Q E s:=by
 obtain⟨mb,h1,h2⟩:=I.mod.blt;exact vp I.ok.kind hg (Calls.loadGlobal_builtin (by rw[I.ok.glob];exact I.mod.glob.keeps I.bk) hm (by rw[I.ok.blt];exact h1.keeps I.bk) ((h2 x hn).trans hv) h) hd
theorem tD{v:V}(hg:Gl X x)(hm:X.mg x=some u)(r:RelV v u)(hd:(x == ("__debug__" : Str))=false:=by decide):PE X (.Name x pos) (tC v) :=
 fun _ _ _ H _ I h=>zy I hg hm ⟨v,H,I,r,h⟩ hd
variable {a b:Expr}{ta tb:TE}{pos:Pos}
def PC(X:Cx)(op:CmpOp)(a b:Expr)(t:TE):Prop :=
 ∀ (ag:List (Addr × Obj)) (s:Shared) (σ : St) (H:Hp) (Q:VK),Inv X ag σ H s->t σ H Q ->
  wpAny (model X.prog X.w) X.A (eval a X.env) (fun v fz => wpAny (model X.prog X.w) X.A (eval b X.env) (fun u nB => wpAny (model X.prog X.w) X.A (compareOp op v u) (EP X ag σ Q) X.xe nB) X.xe fz) X.xe s
inductive ahL(Q:Bool->Hp->Prop)(x:V)(H1:Hp):Prop
 | mk:∀ c,(x = .bl c)->(Q c H1)->ahL Q x H1
def tB(t:TE):TT:=fun σ H Q=>t σ H fun x H1=>ahL Q x H1
theorem NQ{t:TE}(h:PC X op a b t)(h1:behindInMarks op b=false:=by first | exact al8 _ (by decide) (by decide) | rfl):PT X (.Compare a [op] [b] pos) (tB t):=by
 intro ag s σ H Q I hw;refine wpAny_isTrue_Compare1 (cm (h ag s σ H _ I hw) fun v s1 h1=>cm h1 fun u s2 h2=>cm h2 fun c s3 ⟨x,H1,I1,r1,q1⟩ =>?_) h1;obtain⟨d,rfl,q⟩:=q1;cases r1;exact wpAny_truthy_bool ⟨H1,I1,q⟩
theorem km{t:TE}(h:PE X e t)(he:∀ Af,isTrue e X.env Af=(do let v <- Af;standAt e.pos;holding [v] (truthy v)):=by intro _;rfl):PT X e (tB t):=by
 intro ag s σ H Q I hw;refine isTrue_plain (cm (h ag s σ H _ I hw) fun v s1 ⟨x,H1,I1,r1,q1⟩ =>?_) (he _);obtain⟨d,rfl,q⟩:=q1;cases r1;exact wpAny_truthy_bool ⟨H1,I1,q⟩
variable {tA tB':TT}{rest:List Expr}
def alk(t u:TT):TT:=fun σ H Q=>t σ H fun c H1=>if c=true then u σ H1 Q else Q false H1
def tOr(t u:TT):TT:=fun σ H Q=>t σ H fun c H1=>if c=true then Q true H1 else u σ H1 Q
def alf(t:TT):TT:=fun σ H Q=>t σ H fun c H1=>Q (!c) H1
theorem pw_and1(ha:PT X a tA):PW X (.BoolOp .And [a] pos) tA:=by
 intro wh ag s σ H Q I h;refine isTrue_and (cm (ha ag s σ H Q I h) fun c s1 e =>?_);cases c with
 | true=>exact isTrue_and_nil e
 | false=>exact e
theorem pw_or1(ha:PT X a tA):PW X (.BoolOp .Or [a] pos) tA:=by
 intro wh ag s σ H Q I h;refine isTrue_or (cm (ha ag s σ H Q I h) fun c s1 e =>?_);cases c with
 | false=>exact isTrue_or_nil e
 | true=>exact e
theorem pw_and(ha:PT X a tA)(hb:PW X (.BoolOp .And (b :: rest) pos) tB'):PW X (.BoolOp .And (a :: b :: rest) pos) (alk tA tB'):=by
 intro wh ag s σ H Q I h;refine isTrue_and (cm (ha ag s σ H _ I h) fun c s1 ⟨H1,I1,q1⟩ =>?_);cases c with
 | true=>exact hb wh ag s1 σ H1 Q I1 q1
 | false=>exact⟨H1,I1,q1⟩
theorem pw_or(ha:PT X a tA)(hb:PW X (.BoolOp .Or (b :: rest) pos) tB'):PW X (.BoolOp .Or (a :: b :: rest) pos) (tOr tA tB'):=by
 intro wh ag s σ H Q I h;refine isTrue_or (cm (ha ag s σ H _ I h) fun c s1 ⟨H1,I1,q1⟩ =>?_);cases c with
 | true=>exact⟨H1,I1,q1⟩
 | false=>exact hb wh ag s1 σ H1 Q I1 q1
theorem rA(ha:PT X a tA):PT X (.UnaryOp .Not a pos) (alf tA):=by
 intro ag s σ H Q I h;exact isTrue_not (ha ag s σ H (fun c H1=>Q (!c) H1) I h)
def aib(ta tb:TE):TE:=fun σ H Q=>ta σ H fun x H1=>∃ c,x = .bl c∧if c=true then tb σ H1 Q else Q (.bl false) H1
theorem C9{op}{t:TE}(h:PE X a t):PE X (.BoolOp op [a] pos) t:=fun ag s σ H Q I hw=>BoolOp_one (h ag s σ H Q I hw)
theorem rD(ha:PE X a ta)(hb:PE X (.BoolOp .And (b :: rest) pos) tb):PE X (.BoolOp .And (a :: b :: rest) pos) (aib ta tb):=by
 intro ag s σ H Q I h;refine BoolOp_and (cm (ha ag s σ H _ I h) fun v s1 ⟨x,H1,I1,r1,q1⟩ =>?_);obtain⟨c,rfl,q1⟩:=q1;cases r1;refine wpAny_truthy_bool ?_;cases c with
 | true=>exact hb ag s1 σ H1 Q I1 q1
 | false=>exact⟨.bl false,H1,I1,O,q1⟩
def tIf(t:TT)(ta tb:TE):TE:=fun σ H Q=>t σ H fun c H1=>if c=true then ta σ H1 Q else tb σ H1 Q
theorem Ay(hc:PT X c tA)(ha:PE X a ta)(hb:PE X b tb):PE X (.IfExp c a b pos) (tIf tA ta tb):=by
 intro ag s σ H Q I h;refine wpAny_IfExp (cm (hc ag s σ H _ I h) fun d s1 ⟨H1,I1,q1⟩ =>?_);cases d with
 | true=>exact ha ag s1 σ H1 Q I1 q1
 | false=>exact hb ag s1 σ H1 Q I1 q1
end
def bw(K:ai)(H:Hp)(a:Addr)(xs:List V):Prop :=
 Rd H a (.lst xs) ∨
  ∃ (o:Obj) (its:Array Value) (n:Nat),K.lookup a=some o∧o.cls = .type "list" ∧ o.dict=none∧o.data = .seq its n∧its.size<=sizeLine∧Vals xs its.toList
def aW(K:ai)(H:Hp)(a:Addr)(xs:List V):Prop :=
 Rd H a (.tup xs) ∨
  ∃ (o:Obj) (its:Array Value) (n:Nat),K.lookup a=some o∧o.cls = .type "tuple" ∧ o.data = .seq its n∧its.size<=sizeLine∧Vals xs its.toList
def anI:Value->Option V
 | .none=>some .cj
 | .bool b=>some (.bl b)
 | .int i _=>some (.int i)
 | .str x _=>some (.str x)
 | .bytes b _=>some (.yh b)
 | .float b _=>some (.flt b)
 | .ref a=>some (.ref a)
 | .type n=>some (.ty n)
 | _=>none
theorem RelV.abs{x:V}(r:RelV x u):anI u=some x:=by
 cases x with
 | cj=>cases r;rfl
 | bl _=>cases r;rfl
 | int _=>obtain⟨t,rfl⟩:=r;rfl
 | str _=>obtain⟨t,rfl⟩:=r;rfl
 | yh _=>obtain⟨t,rfl⟩:=r;rfl
 | flt _=>obtain⟨t,rfl⟩:=r;rfl
 | ref _=>cases r;rfl
 | ty _=>cases r;rfl
theorem RelV.inj{x y:V}(r:RelV x u)(q:RelV y u):x=y:=aP (r.abs.symm.trans q.abs)
theorem Vals.inj:∀ {xs ys:List V}{us:List Value},Vals xs us->Vals ys us->xs=ys
 | _,_,_,.nil,.nil=>rfl
 | _,_,_,.cons r t,.cons r' t'=>by rw[r.inj r',Vals.inj t t']
section
variable {X:Cx}{ag:List (Addr × Obj)}{σ : St}{H:Hp}{s:Shared}{a:Addr}{xs ys:List V}
theorem bw.of(h:H a=some (.lst xs)):bw K H a xs := .inl (.inl h)
theorem aW.of(h:H a=some (.tup xs)):aW K H a xs := .inl (.inl h)
theorem Inv.list(I:Inv X ag σ H s)(h:bw X.K H a xs):∃ its:List Value,Vals xs its∧PlainL s.heap a its.toArray∧xs.length<=sizeLine:=by
 rcases h with h | ⟨o,its,n,hk,hc,hd,hs,hz,r⟩
 ·obtain⟨z,its,n,r,e⟩:=h.ok I.bO;exact⟨its,r,⟨_,n,e,O,O,O⟩,z⟩
 ·refine⟨its.toList,r,⟨o,n,I.sv a o hk,hc,hd,by simpa using hs⟩,?_⟩;have e:=r.length;simp only[bF]at e;omega
theorem Inv.tuple(I:Inv X ag σ H s)(h:aW X.K H a xs):∃ its:List Value,Vals xs its∧IsTup s.heap a its.toArray∧xs.length<=sizeLine:=by
 rcases h with h | ⟨o,its,n,hk,hc,hs,hz,r⟩
 ·obtain⟨z,its,r,p⟩:=h.ok I.bO;exact⟨its,r,p.tup,z⟩
 ·refine⟨its.toList,r,⟨o,I.sv a o hk,hc,n,by simpa using hs⟩,?_⟩;have e:=r.length;simp only[bF]at e;omega
theorem Inv.Oo(I:Inv X ag σ H s)(h:bw X.K H a xs)(h':bw X.K H a ys):xs=ys:=by
 obtain⟨its,r,⟨o,n,e,_,_,d⟩,_⟩:=I.list h;obtain⟨its',r',⟨o',n',e',_,_,d'⟩,_⟩:=I.list h';rw[e]at e';cases e';rw[d]at d';injection d' with d1 _;have:its=its':=by simpa using congrArg Array.toList d1
 subst this;exact r.inj r'
theorem Inv.BY(I:Inv X ag σ H s)(h:aW X.K H a xs)(h':aW X.K H a ys):xs=ys:=by
 obtain⟨its,r,⟨o,e,_,n,d⟩,_⟩:=I.tuple h;obtain⟨its',r',⟨o',e',_,n',d'⟩,_⟩:=I.tuple h';rw[e]at e';cases e';rw[d]at d';injection d' with d1 _;have:its=its':=by simpa using congrArg Array.toList d1
 subst this;exact r.inj r'
end
abbrev Cx.wg(X:Cx)(E:Value->Shared->Prop):Cx := { X with xe:=E }
abbrev Cx.Rn(X:Cx):Cx:=X.wg fun _ _=>False
theorem Cx.Ok.wg{X:Cx}(ok:X.Ok)(E:Value->Shared->Prop):(X.wg E).Ok :=
 ⟨ok.mod,ok.kind,ok.glob,ok.blt,ok.above,ok.inj,ok.has,ok.R4,ok.hd,ok.frames,ok.Va,ok.exf,ok.bs,ok.FJ,ok.JX,ok.Pc,ok.tX,ok.LJ⟩
theorem Cx.Ok.mS{X:Cx}(ok:(X.wg E).Ok):X.Ok :=
 ⟨ok.mod,ok.kind,ok.glob,ok.blt,ok.above,ok.inj,ok.has,ok.R4,ok.hd,ok.frames,ok.Va,ok.exf,ok.bs,ok.FJ,ok.JX,ok.Pc,ok.tX,ok.LJ⟩
section
variable {X:Cx}{ag:List (Addr × Obj)}{σ : St}{H:Hp}{s:Shared}{E:Value->Shared->Prop}
theorem Inv.wg(I:Inv X ag σ H s)(E:Value->Shared->Prop):Inv (X.wg E) ag σ H s:=⟨I.ok.wg E,I.os,I.bare,I.base,I.loc,I.cell,I.free,I.ux,I.pin,I.bO,I.len⟩
theorem Inv.mS(I:Inv (X.wg E) ag σ H s):Inv X ag σ H s:=⟨I.ok.mS,I.os,I.bare,I.base,I.loc,I.cell,I.free,I.ux,I.pin,I.bO,I.len⟩
theorem SP.mS{D:Ends}{f:Flow}(h:SP (X.wg E) ag D f s'):SP X ag D f s':=by
 cases f with
 | next=>obtain⟨bJ,H',I,q⟩:=h;exact⟨bJ,H',I.mS,q⟩
 | brk=>obtain⟨bJ,H',I,q⟩:=h;exact⟨bJ,H',I.mS,q⟩
 | cont=>obtain⟨bJ,H',I,q⟩:=h;exact⟨bJ,H',I.mS,q⟩
 | ret u=>obtain⟨v, bJ,H',I,r,q⟩:=h;exact⟨v, bJ,H',I.mS,r,q⟩
theorem oC.Rn{st:List Stmt}{t:TS}(h:oC X.Rn st t):oC X st t:=fun ag s σ H D I hw =>
 wpAny_mono (h ag s σ H D (I.wg _) hw) (fun _ _ q=>q.mS) fun _ _ z=>gi z
end
section
variable {X:Cx}{st:Stmt}{rest:List Stmt}{t u:TS}{e:Expr}{te:TE}{pos:Pos}
def gQ:TS:=fun D σ H=>D.nx σ H
def adX(t u:TS):TS:=fun D σ H=>t { D with nx:=u D } σ H
theorem bD:oC X [] gQ:=fun _ _ σ H _ I h=>wpAny_execs_nil ⟨σ,H,I,h⟩
theorem au(h1:PS X st t)(h2:oC X rest u):oC X (st :: rest) (adX t u):=by
 intro ag s σ H D I h;refine wpAny_execs_cons (cm (h1 ag s σ H { D with nx:=u D } I h) fun f s1 q =>?_);cases f with
 | next =>
  obtain⟨bJ,H',I',q⟩:=q;exact h2 ag s1 bJ H' D I' q
 | ret v=>exact q
 | brk=>exact q
 | cont=>exact q
theorem ax(h1:PS X st t):oC X [st] t:=by
 intro ag s σ H D I h;refine wpAny_execs_cons (cm (h1 ag s σ H D I h) fun f s1 q =>?_);cases f with
 | next=>exact wpAny_execs_nil q
 | ret v=>exact q
 | brk=>exact q
 | cont=>exact q
theorem acG:PS X (.Pass pos) gQ:=fun _ _ σ H _ I h=>wpAny_Pass ⟨σ,H,I,h⟩
theorem Inv.quiet{σ : St}{H:Hp}(I:Inv X ag σ H s):interactive X.env=false:=by simp[interactive,I.ok.kind]
def ah8(te:TE):TS:=fun D σ H=>te σ H fun _ H1=>D.nx σ H1
theorem eJ(he:PE X e te)(hs:swapsWith e none pos.line X.env=pure false:=by rfl):PS X (.Expr e pos) (ah8 te):=by
 intro ag s σ H D I h;exact wpAny_Expr_any (cm (he ag s σ H _ I h) fun v s1 ⟨x,H1,I1,r1,q1⟩=>⟨σ,H1,I1,q1⟩) I.quiet hs
def ale(te:TE):TS:=fun D σ H=>te σ H D.rt
theorem aZ(he:PE X e te):PS X (.Return (some e) pos) (ale te):=by
 intro ag s σ H D I h;exact wpAny_Return_some (cm (he ag s σ H _ I h) fun v s1 ⟨x,H1,I1,r1,q1⟩=>⟨x, σ,H1,I1,r1,q1⟩)
def JC(c:TT)(t u:TS):TS:=fun D σ H=>c σ H fun b H1=>if b=true then t D σ H1 else u D σ H1
theorem cA{a b:List Stmt}{tc:TT}(hc:PT X c tc)(ha:oC X a t)(hb:oC X b u):PS X (.If c a b pos) (JC tc t u):=by
 intro ag s σ H D I h;refine wpAny_If (cm (hc ag s σ H _ I h) fun d s1 ⟨H1,I1,q1⟩ =>?_);cases d with
 | true=>exact ha ag s1 σ H1 D I1 q1
 | false=>exact hb ag s1 σ H1 D I1 q1
def U4:TS:=fun _ _ _=>False
theorem Aw:PS X st U4:=fun _ _ _ _ _ _ h=>h.elim
theorem VL{sts:List Stmt}:oC X sts U4:=fun _ _ _ _ _ _ h=>h.elim
end
abbrev TG:=V->St->Hp->(St->Hp->Prop)->Prop
abbrev I9:=List V->St->Hp->(St->Hp->Prop)->Prop
def PG(X:Cx)(nY:Expr)(t:TG):Prop :=
 ∀ (ag:List (Addr × Obj)) (s:Shared) (σ : St) (H:Hp) (v:V) (u:Value) (Q:St->Hp->Prop),Inv X ag σ H s->RelV v u->t v σ H Q ->
  wpAny (model X.prog X.w) X.A (assign nY X.env u) (fun _ s'=>∃ bJ H',Inv X ag bJ H' s'∧Q bJ H') X.xe s
def PGs(X:Cx)(ts:List Expr)(t:I9):Prop :=
 ∀ (ag:List (Addr × Obj)) (s:Shared) (σ : St) (H:Hp) (vs:List V) (us:List Value) (Q:St->Hp->Prop),Inv X ag σ H s->Vals vs us->t vs σ H Q ->
  wpAny (model X.prog X.w) X.A (assignInOrder ((assignEach ts X.env).map (·.2)) us) (fun _ s'=>∃ bJ H',Inv X ag bJ H' s'∧Q bJ H') X.xe s
abbrev Z5:=V->V->V->Hp->(Hp->Prop)->Prop
def ahH(X:Cx)(t:Z5):Prop :=
 ∀ (ag:List (Addr × Obj)) (s:Shared) (σ : St) (H:Hp) (o i v:V) (ov iv u:Value) (Q:Hp->Prop),Inv X ag σ H s->RelV o ov->RelV i iv->RelV v u->t o i v H Q ->
  wpAny (model X.prog X.w) X.A (setItem ov iv u) (fun _ s'=>∃ H',Inv X ag σ H' s'∧Q H') X.xe s
abbrev Xs:=V->V->Hp->VK->Prop
def PIp(X:Cx)(op:Operator)(t:Xs):Prop :=
 ∀ (ag:List (Addr × Obj)) (s:Shared) (σ : St) (H:Hp) (x y:V) (v u:Value) (Q:VK),Inv X ag σ H s->RelV x v->RelV y u->t x y H Q ->
  wpAny (model X.prog X.w) X.A (inplaceOp op v u) (EP X ag σ Q) X.xe s
section
variable {X:Cx}{pos:Pos}
def b7(i:Nat):TG:=fun v σ H Q=>Q (σ.set i (some v)) H
theorem bZ(hN:X.N.Nodup)(hi:X.N[i]? = some x)(hx:Loc X.env.scope x)(hf:X.fn x=true∨X.env.scope.names.lookup x=some .local:=by first | exact .inl rfl | exact .inr rfl | assumption):PG X (.Name x pos) (b7 i):=by
 intro ag s σ H v u Q I r h;exact wpAny_assign_Name (F3 I hN hi hx r (fun s' I'=>⟨_,H,I',h⟩) hf)
def am5:I9:=fun vs σ H Q=>vs = []∧Q σ H
inductive SD(t:TG)(u:I9)(vs:List V)(σ : St)(H:Hp)(Q:St->Hp->Prop):Prop
 | mk:∀ v r,(vs=v :: r)->(t v σ H fun bJ H'=>u r bJ H' Q)->SD t u vs σ H Q
def aiD(t:TG)(u:I9):I9:=fun vs σ H Q=>SD t u vs σ H Q
theorem oN:PGs X [] am5:=by
 intro ag s σ H vs us Q I r h;obtain⟨e,h⟩:=h;subst e;cases r;exact assignInOrder_nil ⟨σ,H,I,h⟩
theorem fi{t:TG}{u:I9}(h1:PG X e t)(h2:PGs X es u)(hs:(assignEach (e :: es) X.env).map (·.2)=assign e X.env :: (assignEach es X.env).map (·.2):=by rfl):PGs X (e :: es) (aiD t u):=by
 intro ag s σ H vs us Q I r h;obtain⟨v,vr,e1,h⟩:=h;subst e1;cases r with
 | cons r rr =>
  rw[hs];refine assignInOrder_cons (cm (h1 ag s σ H _ _ _ I r h) fun _ s1 ⟨MO,H1,I1,q1⟩ =>?_);exact h2 ag s1 MO H1 _ _ Q I1 rr q1
inductive XW(K:ai)(n:Nat)(t:I9)(v:V)(σ : St)(H:Hp)(Q:St->Hp->Prop):Prop
 | mk:∀ a xs,(v = .ref a)->(aW K H a xs)->(xs.length=n)->(t xs σ H Q)->XW K n t v σ H Q
def am3(K:ai)(n:Nat)(t:I9):TG:=fun v σ H Q=>XW K n t v σ H Q
theorem rB{k:Nat}{t:I9}(hc:X.calm=true)(h:PGs X es t)(hn:(assignEach es X.env).length=n:=by rfl)(nN:(assignEach es X.env).findIdx? (·.1)=none:=by rfl):PG X (.Tuple es k pos) (am3 X.K n t):=by
 intro ag s σ H v u Q I r hw;obtain⟨a,xs,e1,hq,hl,hw⟩:=hw;subst e1;cases r;obtain⟨its,rv,ht,hz⟩:=I.tuple hq;refine assign_Tuple_tuple (I.ok.hd hc) ht (by simp[hn, <- hl,rv.length]) nN fun h' hx =>?_;have I1:Inv X ag σ H { s with heap:=h' }:=I.kept (t':=s.toks) fun b o e=>hx b o (cQ (a9 e)) e;exact h ag _ σ H xs _ Q I1 (by simpa using rv) hw
def am4(to ti:TE)(t:Z5):TG:=fun v σ H Q=>to σ H fun o H1=>ti σ H1 fun i H2=>t o i v H2 fun H3=>Q σ H3
theorem VR{o i:Expr}{to ti:TE}{t:Z5}(ho:PE X o to)(hi:PE X i ti)(hs:ahH X t)(ha:∀ v,assign (.Subscript o i pos) X.env v=(do
   let ov <- holding [v] (eval o X.env)
   let iv <- holding [v,ov] (eval i X.env)
   standAt pos
   holding [v,ov,iv] (setItem ov iv v)
   release [v,ov,iv] []):=by intro _;rfl):PG X (.Subscript o i pos) (am4 to ti t):=by
 intro ag s σ H v u Q I r h;rw[ha];refine wpAny_bind (wpAny_holding (cm (ho ag s σ H _ I h) fun ov s1 ⟨x,H1,I1,r1,q1⟩ =>?_));refine wpAny_bind (wpAny_holding (cm (hi ag s1 σ H1 _ I1 q1) fun iv s2 ⟨y,H2,I2,r2,q2⟩ =>?_));refine wpAny_bind (wpAny_standAt (wpAny_bind (wpAny_holding (cm (hs ag s2 σ H2 x y v ov iv u _ I2 r1 r2 r q2) fun _ s3 ⟨H3,I3,q3⟩ =>?_))));exact wpAny_release ⟨σ,H3,I3,q3⟩
def ad5(te:TE)(g:TG):TS:=fun D σ H=>te σ H fun x H1=>g x σ H1 D.nx
theorem VN{tg:Expr}{te:TE}{g:TG}(he:PE X e te)(hg:PG X tg g)(hs:swapsWithSole [tg] e pos.line X.env=pure false:=by rfl)(hw:swappedStores [tg] e X.env=pure none:=by rfl)(h1:(assignEach [tg] X.env).map (·.2) = [assign tg X.env]:=by rfl):PS X (.Assign [tg] e pos) (ad5 te g):=by
 intro ag s σ H D I h;refine wpAny_Assign_stores (cm (he ag s σ H _ I h) fun v s1 ⟨x,H1,I1,r1,q1⟩ =>?_) hs hw;rw[h1];exact cm (hg ag s1 σ H1 x v _ I1 r1 q1) fun _ s2 q=>q
theorem bG{te:TE}{nD:Pos}(hN:X.N.Nodup)(hi:X.N[i]? = some x)(hx:Loc X.env.scope x)(he:PE X e te)(hs:swapsWith e (some (.Name x nD)) pos.line X.env=pure false:=by rfl)(hf:X.fn x=true∨X.env.scope.names.lookup x=some .local:=by first | exact .inl rfl | exact .inr rfl | assumption) :
  PS X (.Assign [.Name x nD] e pos) (ad5 te (b7 i)):=by
 intro ag s σ H D I h;refine wpAny_Assign_Name (cm (he ag s σ H _ I h) fun v s1 ⟨y,H1,I1,r1,q1⟩ =>?_) hs;exact F3 I1 hN hi hx r1 (fun s2 I2=>⟨_,H1,I2,q1⟩) hf
inductive XI(i:Nat)(te:TE)(ti:Xs)(D:Ends)(σ : St)(H:Hp):Prop
 | mk:∀ x,(σ[i]? = some (some x))->(te σ H fun y H1=>ti x y H1 fun z H2=>D.nx (σ.set i (some z)) H2)->XI i te ti D σ H
def alj(i:Nat)(te:TE)(ti:Xs):TS:=fun D σ H=>XI i te ti D σ H
theorem VM{te:TE}{op:Operator}{ti:Xs}{nD:Pos}(hN:X.N.Nodup)(hi:X.N[i]? = some x)(hx:Loc X.env.scope x)(he:PE X e te)(ho:PIp X op ti)(hf:X.fn x=true∨X.env.scope.names.lookup x=some .local:=by first | exact .inl rfl | exact .inr rfl | assumption) :
  PS X (.AugAssign (.Name x nD) op e pos) (alj i te ti):=by
 intro ag s σ H D I h;obtain⟨v,e1,h⟩:=h;obtain⟨m,hn,hl⟩:=I.loc;have vis:Vis X.env.scope x:=by rcases hx with k | k;exact .inl k;exact .inr (.inl k)
 obtain⟨u,r,l⟩:=hl i x v hi e1 vis;refine wpAny_AugAssign_Name ?_;have go:wpAny (model X.prog X.w) X.A (eval e X.env) (fun w nB => wpAny (model X.prog X.w) X.A (inplaceOp op u w) (fun r ny => wpAny (model X.prog X.w) X.A (storeName X.env x r) (fun _=>SP X ag D .next) X.xe ny) X.xe nB) X.xe s:=by
  refine cm (he ag s σ H _ I h) fun w s1 ⟨y,H1,I1,r1,q1⟩ =>?_;refine cm (ho ag s1 σ H1 v y u w _ I1 r r1 q1) fun z s2 ⟨zv,H2,I2,r2,q2⟩ =>?_;exact F3 I2 hN hi hx r2 (fun s3 I3=>⟨_,H2,I3,q2⟩) hf
 rcases l with⟨hk,hm⟩ | ⟨hk,c,hc,uw⟩
 ·exact wpAny_loadName_local I.ok.kind hk hn hm go
 ·rcases hk with hk | hk
  ·exact wpAny_loadName_cell I.ok.kind hk hc uw go
  ·rcases hx with k | k
   ·have:X.env.scope.names.lookup x=some .free:=hk;rw[k]at this;cases this
   ·have:X.env.scope.names.lookup x=some .free:=hk;rw[k]at this;cases this
def ipI(f:Int->Int->Int):Xs:=fun x y H Q=>∃ i j,x = .int i∧y = .int j∧Q (.int (f i j)) H
theorem Wu:PIp X .Add (ipI fun i j=>i+j):=by
 intro ag s σ H x y v u Q I r1 r2 h;obtain⟨i,j,e1,e2,q⟩:=h;subst e1;subst e2;obtain⟨t,rfl⟩:=r1;obtain⟨t',rfl⟩:=r2;exact iadd_int ⟨.int _,H,I.tok _,⟨_,O⟩,q⟩
def adV(c:TT)(tb:TS):TS:=fun D σ H=>∃ W:Nat->St->Hp->Prop,(∃ m,W m σ H)∧∀ m σ H,W m σ H ->
 c σ H fun b H1=>if b=true then ∃ N:St->Hp->Prop,(∀ bJ H',N bJ H'->∃ m',m' < m∧W m' bJ H')∧tb { D with nx:=N,ct:=N,bk:=D.nx } σ H1 else D.nx σ H1
theorem NR{tc:TT}{tb:TS}(hp:PassesOwn (model X.prog X.w) X.A X.env X.xe)(hc:PT X c tc)(hb:oC X body tb):PS X (.While c body [] pos) (adV tc tb):=by
 intro ag s σ H D I h;obtain⟨W,⟨m0,w0⟩,uY⟩:=h;refine wpAny_While (codeAny_whileLoop (fun n s'=>∃ bJ H',Inv X ag bJ H' s'∧W n bJ H') ?_ m0 ⟨σ,H,I,w0⟩);rintro n s1 ⟨MO,H1,I1,w1⟩;refine wpAny_passesOwn hp (cm (hc ag s1 MO H1 _ I1 (uY n MO H1 w1)) fun b s2 ⟨H2,I2,q2⟩ =>?_);cases b with
 | true =>
  obtain⟨N,hN,q2⟩:=q2;rw[if_pos rfl];refine wpAny_passesOwn hp (cm (hb ag s2 MO H2 _ I2 q2) fun f s3 q3 =>?_);cases f with
  | next =>
   obtain⟨BV,H3,I3,n3⟩:=q3;obtain⟨m',hm,w3⟩:=hN BV H3 n3;exact⟨m',hm, BV,H3,I3,w3⟩
  | cont =>
   obtain⟨BV,H3,I3,n3⟩:=q3;obtain⟨m',hm,w3⟩:=hN BV H3 n3;exact⟨m',hm, BV,H3,I3,w3⟩
  | brk=>exact q3
  | ret v=>exact q3
 | false =>
  rw[if_neg bB];exact wpAny_execs_nil ⟨MO,H2,I2,q2⟩
end
structure It where
 go:Nat->Hp->Prop
 BW:Nat->Hp->V->Hp->Prop
 stop:Nat->Hp->Prop
def pP(X:Cx)(ag:List (Addr × Obj))(H:Hp)(b:Addr):Prop :=
 H b=none∧b≠X.env.locals∧b ∉ X.fs∧(b∈X.ex∨X.lW.heap.objs.size<=b)∧(∀ x c,X.env.cells.lookup x=some c->c≠b)∧∀ p∈X.pn ++ ag,p.1≠b
theorem Inv.DR{X:Cx}{σ : St}{H H':Hp}(I:Inv X ag σ H s)(hb:s.heap.objs.size<=b)(hn:H' b=none):pP X ag H' b:=by
 refine⟨hn,mn (cu I.lt hb),I.al6 hb,.inr (bp I.sz hb),fun x c e z =>?_,fun p hp z =>?_⟩
 ·obtain⟨v,q⟩:=I.cell x c e;exact absurd (cu q.lt (by rw[z];exact hb)) (e9 _)
 ·exact absurd (cu (a9 (I.pin p hp).1) (by rw[z];exact hb)) (e9 _)
structure Turn(P:Program)(w:World)(K:ai)(tg:Expr)(J:It)(fp:List Addr)(it:Addr)(tn:Nat->Heap->Prop):Prop where
 mem:it∈fp
 obj:∀ i h,tn i h->∀ b∈fp,∃ o,h.get? b=some o∧∀ v,o.data ≠ .cell v
 keep:∀ i h h',tn i h->(∀ b∈fp,∀ o,h.get? b=some o->h'.get? b=some o)->tn i h'
 item:∀ (X:Cx),X.prog=P->X.w=w->X.K=K->X.calm=true->∀ (i:Nat) (ag:List (Addr × Obj)) (s:Shared) (σ : St) (H:Hp) (E:Value->Shared->Prop),Inv X ag σ H s->(∀ b∈fp,pP X ag H b)->tn i s.heap->J.go i H ->
  wpAny (model P w) X.A (pyNext (.ref it)) (fun r s1=>∃ u,r=some u ∧
   wpAny (model P w) X.A (letOwnedTupleGo tg (.ref it) u) (fun _ s2=>∃ x H',Inv X ag σ H' s2∧RelV x u∧J.BW i H x H'∧tn (i+1) s2.heap∧∀ b∈fp,H' b=none) E s1) E s
 done:∀ (X:Cx),X.prog=P->X.w=w->X.K=K->X.calm=true->∀ (i:Nat) (ag:List (Addr × Obj)) (s:Shared) (σ : St) (H:Hp) (E:Value->Shared->Prop),Inv X ag σ H s->(∀ b∈fp,pP X ag H b)->tn i s.heap->J.stop i H ->
   wpAny (model P w) X.A (pyNext (.ref it)) (fun r s1=>r=none∧Inv X ag σ H s1) E s
 self:∀ (A:Around) (i:Nat) (s:Shared) (Q:Value->Shared->Prop) (E:Value->Shared->Prop),tn i s.heap->Q (.ref it) s->wpAny (model P w) A (pyIter (.ref it)) Q E s
abbrev TI:=St->Hp->(It->Hp->Prop)->Prop
def PIE(X:Cx)(ag:List (Addr × Obj))(σ : St)(tg:Expr)(R:It->Hp->Prop)(itv:Value)(s2:Shared):Prop :=
 ∃ (it:Addr) (fp:List Addr) (tn:Nat->Heap->Prop) (J:It) (H':Hp),itv = .ref it∧Inv X ag σ H' s2∧Turn X.prog X.w X.K tg J fp it tn∧tn 0 s2.heap∧(∀ b∈fp,pP X ag H' b)∧R J H'
def PI(X:Cx)(tg gO:Expr)(wi:TI):Prop :=
 ∀ (ag:List (Addr × Obj)) (s:Shared) (σ : St) (H:Hp) (R:It->Hp->Prop),Inv X ag σ H s->wi σ H R ->
  wpAny (model X.prog X.w) X.A (eval gO X.env) (fun v s1=>wpAny (model X.prog X.w) X.A (pyIter v) (PIE X ag σ tg R) X.xe s1) X.xe s
theorem IJ{tg:Expr}{n:String}{vs:Array Value}{Q:Unit->Shared->Prop}(ho:s.heap.get? it=some o)(hc:o.cls = .type n)(hd:o.data = .fields vs)(hn : ["enumerate", "zip", "dict_itemiterator", "dict_reverseitemiterator", "odict_iterator", "itertools.zip_longest", "itertools.pairwise"].contains n=false)(hQ:Q () s):wpAny M A (letOwnedTupleGo tg (.ref it) u) Q E s:=by
 unfold letOwnedTupleGo;cases tg <;> first
  | exact wpAny_pure hQ
  | (cases u <;> first
    | exact wpAny_pure hQ
    | (refine wpAny_bind (wpAny_load ho ?_)
       rw[hc,hd];show wpAny M A (if (["enumerate", "zip", "dict_itemiterator", "dict_reverseitemiterator", "odict_iterator", "itertools.zip_longest", "itertools.pairwise"].contains n && vs[0]? == some (rawInt _))=true then _ else _) Q E s;rw[if_neg (by intro h;rw[hn,pz]at h;cases h)];exact wpAny_pure hQ))
def P2(K:ai)(a:Addr):It :=
 ⟨fun i H=>∃ xs x,bw K H a xs∧xs[i]? = some x,fun i H x H'=>H'=H∧∀ xs,bw K H a xs->xs[i]? = some x,fun i H=>∃ xs,bw K H a xs∧xs.length<=i⟩
def SE(K:ai)(a:Addr):It :=
 ⟨fun i H=>∃ xs x,aW K H a xs∧xs[i]? = some x,fun i H x H'=>H'=H∧∀ xs,aW K H a xs->xs[i]? = some x,fun i H=>∃ xs,aW K H a xs∧xs.length<=i⟩
def Mf(lo:Int)(n:Nat):It:=⟨fun i _=>i < n,fun i H x H'=>H'=H∧x = .int (lo+i),fun i _=>n<=i⟩
theorem UZ{tg:Expr}(a it:Addr):Turn P w K tg (P2 K a) [it] it (fun i h=>h.IsListIter it a i) where
 mem:=by simp
 obj:=fun i h st b hb=>by
  have e:b=it:=by simpa using hb
  subst e;obtain⟨o,e,c,d⟩:=st;exact⟨o,e,fun v z=>by rw[d]at z;cases z⟩
 keep:=fun i h h' st k=>st.at fun o e=>k it (by simp) o e
 item:=by
  intro X hP hw hK hc i ag s σ H E I hf st hg;subst hP hw hK;obtain⟨xs,x,hq,hx⟩:=hg;obtain⟨its,rv,p,hz⟩:=I.list hq;obtain⟨u,hu,ru⟩:=rv.get hx;obtain⟨f0,f1,f2,f3,f4,f5⟩:=hf it (by simp);refine wpAny_pyNext_list_item st p.isList (x:=u) (by simpa using hu) fun h' aG sb =>?_;have I1:Inv X ag σ H { s with heap:=h' }:=I.turned (t':=s.toks) (fun b o hb e=>(sb.2 b hb).trans e) f0 f1 f3 f4 f5;obtain⟨o,e,c,d⟩:=id aG;exact⟨u,O,IJ (s := { s with heap:=h' }) e c d (by decide) ⟨x,H,I1,ru,⟨O,fun ys hy=>by rw[I.Oo hy hq];exact hx⟩,aG,fun b hb=>(hf b hb).1⟩⟩
 done:=by
   intro X hP hw hK hc i ag s σ H E I hf st hg;subst hP hw hK;obtain⟨xs,hq,hx⟩:=hg;obtain⟨its,rv,p,hz⟩:=I.list hq;obtain⟨f0,f1,f2,f3,f4,f5⟩:=hf it (by simp);have hl:=rv.length;exact wpAny_pyNext_list_end (I.ok.hd hc) st p.isList (by simp;omega) fun h' eb=>⟨O,I.turned (t':=s.toks) (fun b o hb e=>eb b o hb e) f0 f1 f3 f4 f5⟩
 self:=fun _ _ _ _ _ st h=>wpAny_pyIter_listiter st h
theorem SV{tg:Expr}(a it:Addr):Turn P w K tg (SE K a) [it] it (fun i h=>h.IsTupleIter it a i) where
 mem:=by simp
 obj:=fun i h st b hb=>by
  have e:b=it:=by simpa using hb
  subst e;obtain⟨o,e,c,d⟩:=st;exact⟨o,e,fun v z=>by rw[d]at z;cases z⟩
 keep:=fun i h h' st k=>st.at fun o e=>k it (by simp) o e
 item:=by
  intro X hP hw hK hc i ag s σ H E I hf st hg;subst hP hw hK;obtain⟨xs,x,hq,hx⟩:=hg;obtain⟨its,rv,p,hz⟩:=I.tuple hq;obtain⟨u,hu,ru⟩:=rv.get hx;obtain⟨f0,f1,f2,f3,f4,f5⟩:=hf it (by simp);refine wpAny_pyNext_tuple_item st (show s.heap.IsTuple a its.toArray from p) (x:=u) (by simpa using hu) fun h' aG sb =>?_;have I1:Inv X ag σ H { s with heap:=h' }:=I.turned (t':=s.toks) (fun b o hb e=>(sb.2 b hb).trans e) f0 f1 f3 f4 f5;obtain⟨o,e,c,d⟩:=id aG;exact⟨u,O,IJ (s := { s with heap:=h' }) e c d (by decide) ⟨x,H,I1,ru,⟨O,fun ys hy=>by rw[I.BY hy hq];exact hx⟩,aG,fun b hb=>(hf b hb).1⟩⟩
 done:=by
   intro X hP hw hK hc i ag s σ H E I hf st hg;subst hP hw hK;obtain⟨xs,hq,hx⟩:=hg;obtain⟨its,rv,p,hz⟩:=I.tuple hq;obtain⟨f0,f1,f2,f3,f4,f5⟩:=hf it (by simp);have hl:=rv.length;exact wpAny_pyNext_tuple_end (I.ok.hd hc) st (show s.heap.IsTuple a its.toArray from p) (by simp;omega) fun h' eb=>⟨O,I.turned (t':=s.toks) (fun b o hb e=>eb b o hb e) f0 f1 f3 f4 f5⟩
 self:=fun _ _ _ _ _ st h=>wpAny_pyIter_tupleiter st h
theorem SW{tg:Expr}(it:Addr)(lo:Int)(n:Nat):Turn P w K tg (Mf lo n) [it] it (fun i h=>IsRangeIter h it (lo+(i:Nat) * 1) ((n:Int) - (i:Nat)) 1) where
 mem:=by simp
 obj:=fun i h st b hb=>by
  have e:b=it:=by simpa using hb
  subst e;exact⟨_,st,fun v z=>by
   have z':FX _=yx v:=z;cases z'⟩
 keep:=fun i h h' st k=>k it (by simp) _ st
 item:=by
  intro X hP hw hK hc i ag s σ H E I hf st hg;subst hP hw hK;obtain⟨f0,f1,f2,f3,f4,f5⟩:=hf it (by simp);have W:=Walks.range (prog:=X.prog) (w:=X.w) (I.ok.hd hc) it lo 1 n;refine W.item i s _ _ hg st fun v h' tk hv aG kk =>?_;obtain⟨t,rfl⟩:=hv;have I1:Inv X ag σ H { s with heap:=h',toks:=tk }:=I.turned (fun b o hb e=>kk b o (by simpa using hb) e) f0 f1 f3 f4 f5;refine⟨_,O,IJ (s := { s with heap:=h',toks:=tk }) (n := "range_iterator") aG rfl rfl (by decide) ⟨.int (lo+i),H,I1,⟨t,?_⟩,⟨O,O⟩,aG,fun b hb=>(hf b hb).1⟩⟩;rw[Int.mul_one]
 done:=by
   intro X hP hw hK hc i ag s σ H E I hf st hg;subst hP hw hK;obtain⟨f0,f1,f2,f3,f4,f5⟩:=hf it (by simp);exact wpAny_pyNext_range_end (I.ok.hd hc) st (by have:n<=i:=hg;omega) fun h' eb=>⟨O,I.turned (t':=s.toks) (fun b o hb e=>eb b o hb e) f0 f1 f3 f4 f5⟩
 self:=fun _ _ _ _ _ st h=>wpAny_pyIter_rangeiter st h
section
variable {X:Cx}{tg:Expr}
inductive Sz(K:ai)(R:It->Hp->Prop)(x:V)(H1:Hp):Prop
 | mk:∀ a,(x = .ref a)->((∃ xs,bw K H1 a xs))->(R (P2 K a) H1)->Sz K R x H1
def ais(K:ai)(tl:TE):TI:=fun σ H R=>tl σ H fun x H1=>Sz K R x H1
inductive XU(K:ai)(R:It->Hp->Prop)(x:V)(H1:Hp):Prop
 | mk:∀ a,(x = .ref a)->((∃ xs,aW K H1 a xs))->(R (SE K a) H1)->XU K R x H1
def amq(K:ai)(tl:TE):TI:=fun σ H R=>tl σ H fun x H1=>XU K R x H1
theorem ja{tl:TE}(hl:PE X l tl):PI X tg l (ais X.K tl):=by
 intro ag s σ H R I h;refine cm (hl ag s σ H _ I h) fun v s1 ⟨x,H1,I1,r1,q1⟩ =>?_;obtain⟨a,e,⟨xs,hq⟩,q⟩:=q1;subst e;cases r1;obtain⟨its,rv,p,hz⟩:=I1.list hq;refine wpAny_pyIter_list p.isList ?_;refine⟨s1.heap.objs.size, [s1.heap.objs.size],_,_,H1,O,I1.kept (t':=s1.toks) fun b o e=>aH _ e,UZ a _,⟨_,bz _ rfl,O,O⟩,fun b hb =>?_,q⟩;have e:b=s1.heap.objs.size:=by simpa using hb
 subst e;exact I1.DR (aw _) (I1.bO.fresh (aw _))
theorem pV{tl:TE}(hl:PE X l tl):PI X tg l (amq X.K tl):=by
 intro ag s σ H R I h;refine cm (hl ag s σ H _ I h) fun v s1 ⟨x,H1,I1,r1,q1⟩ =>?_;obtain⟨a,e,⟨xs,hq⟩,q⟩:=q1;subst e;cases r1;obtain⟨its,rv,p,hz⟩:=I1.tuple hq;refine wpAny_pyIter_tuple (show s1.heap.IsTuple a its.toArray from p) ?_;refine⟨s1.heap.objs.size, [s1.heap.objs.size],_,_,H1,O,I1.kept (t':=s1.toks) fun b o e=>aH _ e,SV a _,⟨_,bz _ rfl,O,O⟩,fun b hb =>?_,q⟩;have e:b=s1.heap.objs.size:=by simpa using hb
 subst e;exact I1.DR (aw _) (I1.bO.fresh (aw _))
theorem NM{σ : St}{H:Hp}{R:It->Hp->Prop}{hi:Int}{t u v:Tok}{tk:Nat}(I:Inv X ag σ H s)(h1 : -(2 ^ 62)<=lo)(h2:lo < 2 ^ 62)(h3 : -(2 ^ 62)<=hi)(h4:hi < 2 ^ 62)(q:R (Mf lo (hi - lo).toNat) H):wpAny (model X.prog X.w) X.A (pyIter (.ref s.heap.objs.size)) (PIE X ag σ tg R) E { s with heap:=s.heap.push { cls := .type "range",data := .fields #[.int lo t,.int hi u,.int 1 v] },toks:=tk }:=by
 refine wpAny_pyIter_range (IsRange.new ..) (small_one h1 h2 h3 h4) ?_;have I1:Inv X ag σ H { s with heap:=s.heap.push { cls := .type "range",data := .fields #[.int lo t,.int hi u,.int 1 v] },toks:=tk }:=I.kept fun b o e=>aH _ e;refine⟨(s.heap.push { cls := .type "range",data := .fields #[.int lo t,.int hi u,.int 1 v] }).objs.size, [(s.heap.push { cls := .type "range",data := .fields #[.int lo t,.int hi u,.int 1 v] }).objs.size],_,_,H,O,
  I1.kept (t':=tk) fun b o e=>aH _ e,SW _ lo (hi - lo).toNat,?_,fun b hb =>?_,q⟩
 ·have e1:lo+((0:Nat):Int) * 1=lo:=by simp
  have e2:(((hi - lo).toNat:Nat):Int) - ((0:Nat):Int)=xH lo hi 1:=by rw[rangeSize_one];split <;> omega
  show IsRangeIter _ _ (lo+((0:Nat):Int) * 1) ((((hi - lo).toNat:Nat):Int) - ((0:Nat):Int)) 1;rw[e1,e2];exact bz _ rfl
 ·have e:b=(s.heap.push { cls := .type "range",data := .fields #[.int lo t,.int hi u,.int 1 v] }).objs.size:=by simpa using hb
  subst e;exact I1.DR (aw _) (I1.bO.fresh (aw _))
inductive Sy(R:It->Hp->Prop)(vs:List V)(H1:Hp):Prop
 | mk:∀ (j:Int),(vs = [.int j])->(-(2 ^ 62)<=j)->(j < 2 ^ 62)->(R (Mf 0 j.toNat) H1)->Sy R vs H1
def air(ta:TA):TI:=fun σ H R=>ta σ H fun vs H1=>Sy R vs H1
inductive Sx(R:It->Hp->Prop)(vs:List V)(H1:Hp):Prop
 | mk:∀ (i j:Int),(vs = [.int i,.int j])->((-(2 ^ 62)<=i∧i < 2 ^ 62 ∧ -(2 ^ 62)<=j∧j < 2 ^ 62))->(R (Mf i (j - i).toNat) H1)->Sx R vs H1
def aiq(ta:TA):TI:=fun σ H R=>ta σ H fun vs H1=>Sx R vs H1
theorem qK{a:Expr}{ta:TA}(hg:Gl X "range")(hm:X.mg "range" = none)(ha:PA X [a] ta)(hs:starEach [a] X.env = [(false,eval a X.env)]:=by rfl):PI X tg (.Call (.Name "range" p) [a] [] pos) (air ta):=by
 intro ag s σ H R I h;refine Call_ (wO I hg hm boot_range (gR (cm (ha pos ag s σ H _ I h) fun us s1 ⟨vs,H1,I1,r1,q1⟩ =>?_) hs rfl));obtain⟨j,e,q1,q2,q⟩:=q1;subst e;cases r1 with
 | cons r rr =>
  cases rr;obtain⟨t,rfl⟩:=r;exact call_range_1 (NM I1 (by omega) (by omega) q1 q2 (by simpa using q))
theorem VQ{a b:Expr}{ta:TA}(hg:Gl X "range")(hm:X.mg "range" = none)(ha:PA X [a,b] ta)(hs:starEach [a,b] X.env = [(false,eval a X.env),(false,eval b X.env)]:=by rfl)(jP:starEach [b] X.env = [(false,eval b X.env)]:=by rfl) :
  PI X tg (.Call (.Name "range" p) [a,b] [] pos) (aiq ta):=by
 intro ag s σ H R I h;refine Call_ (wO I hg hm boot_range (gR (cm (ha pos ag s σ H _ I h) fun us s1 ⟨vs,H1,I1,r1,q1⟩ =>?_) (by rw[hs,jP]) (by rw[jP];rfl)));obtain⟨i,j,e,⟨q1,q2,q3,q4⟩,q⟩:=q1;subst e;cases r1 with
 | cons r rr =>
  cases rr with
  | cons r' rr =>
   cases rr;obtain⟨t,rfl⟩:=r;obtain⟨t',rfl⟩:=r';exact call_range_2 (NM I1 q1 q2 q3 q4 q)
def ad0(wi:TI)(g:TG)(tb:TS):TS:=fun D σ H=>wi σ H fun J H1=>∃ W:Nat->Nat->St->Hp->Prop,(∃ m,W 0 m σ H1)∧∀ i m σ H,W i m σ H ->
 (J.stop i H∧D.nx σ H)∨(J.go i H∧∃ N:St->Hp->Prop,(∀ bJ H',N bJ H'->∃ m',m' < m∧W (i+1) m' bJ H')∧∀ x H',J.BW i H x H'->g x σ H' fun kW H2=>tb { D with nx:=N,ct:=N,bk:=D.nx } kW H2)
def C8(fp:List Addr)(h:Heap):List (Addr × Obj):=fp.filterMap fun b=>(h.get? b).map fun o=>(b,o)
theorem oV(hb:b∈fp)(e:h.get? b=some o):(b,o)∈C8 fp h:=ly.mpr ⟨b,hb,by rw[e];rfl⟩
theorem V4{p:Addr × Obj}(hp:p∈C8 fp h):p.1∈fp∧h.get? p.1=some p.2:=by
 obtain⟨b,hb,e⟩:=ly.mp hp;cases q:h.get? b with
 | none=>rw[q]at e;cases e
 | some o =>
  rw[q]at e;have e':(b,o)=p:=aP e;subst e';exact⟨hb,q⟩
theorem Inv.pinned{σ : St}{H:Hp}(I:Inv X ag σ H s)(hf:∀ b∈fp,pP X ag H b)(ho:∀ b∈fp,∃ o,s.heap.get? b=some o∧∀ v,o.data ≠ .cell v):Inv X (ag ++ C8 fp s.heap) σ H s :=
 I.Rf fun p hp=>(cI.mp hp).elim (fun z=>I.pin p (bI _ z)) fun z=>by
  obtain⟨hb,e⟩:=V4 z;obtain⟨f0,f1,f2,_⟩:=hf p.1 hb;obtain⟨o,e',d⟩:=ho p.1 hb;rw[e]at e';cases e';exact⟨e,f0,f1,f2,d⟩
theorem Inv.sJ{pl:List (Addr × Obj)}{σ : St}{H:Hp}(I:Inv X (ag ++ pl) σ H s):Inv X ag σ H s:=I.Rf fun p hp=>I.pin p (bI _ (fg _ hp))
theorem dM{gO:Expr}{wi:TI}{g:TG}{tb:TS}(hp:PassesOwn (model X.prog X.w) X.A X.env X.xe)(hc:X.calm=true)(hi:PI X tg gO wi)(hg:PG X tg g)(hb:oC X body tb)(hs:∀ x,foldedSetIterable gO X.env x=pure x:=by intro _;rfl):PS X (.For tg gO body [] pos) (ad0 wi g tb):=by
 intro ag s σ H D I h;refine wpAny_For (cm (hi ag s σ H _ I h) fun v s1 h1=>cm h1 fun itv s2 h2 =>?_) hs;obtain⟨it,fp,tn,J,H2,e,I2,T,iz,f2,W,⟨m0,w0⟩,uY⟩:=h2;subst e
 -- ak1 ara true of xK ain ac0 through xK loop
 have stat:∀ {H':Hp},(∀ b∈fp,H' b=none)->∀ b∈fp,pP X ag H' b:=fun hn b hb=>⟨hn b hb,(f2 b hb).2⟩;refine codeAny_forLoop_any (fun n s'=>∃ i bJ H',Inv X ag bJ H' s'∧tn i s'.heap∧(∀ b∈fp,H' b=none)∧W i n bJ H') ?_ m0 ⟨0, σ,H2,I2,iz,fun b hb=>(f2 b hb).1,w0⟩;rintro n s3 ⟨i, BV,H3,I3,kJ,fr3,w3⟩;rcases uY i n BV H3 w3 with⟨stop,qn⟩ | ⟨go,N,hN,step⟩
 ·refine wpAny_passesOwn hp (cm (T.done X rfl rfl rfl hc i ag s3 BV H3 X.xe I3 (stat fr3) kJ stop) fun r s4 ⟨hr,I4⟩ =>?_);subst hr;exact wpAny_execs_nil ⟨BV,H3,I4,qn⟩
 ·refine wpAny_passesOwn hp (cm (T.item X rfl rfl rfl hc i ag s3 BV H3 X.xe I3 (stat fr3) kJ go) fun r s4 ⟨u,hr,h4⟩ =>?_);subst hr;refine wpAny_passesOwn hp (cm h4 fun _ s5 ⟨x,H5,I5,r5,y5,gY,W2⟩ =>?_);have I5':=I5.pinned (stat W2) (T.obj _ _ gY);refine wpAny_passesOwn hp (cm (hg _ s5 BV H5 x u _ I5' r5 (step x H5 y5)) fun _ s6 ⟨σ6,H6,I6,q6⟩ =>?_);refine wpAny_passesOwn hp (cm (hb _ s6 σ6 H6 _ I6 q6) fun f s7 q7 =>?_);have again:∀ {BU:St}{H7:Hp},Inv X (ag ++ C8 fp s5.heap) BU H7 s7->N BU H7->∃ m,m < n∧∃ i bJ H',Inv X ag bJ H' s7∧tn i s7.heap∧(∀ b∈fp,H' b=none)∧W i m bJ H':=fun {BU H7} I7 n7=>by
   obtain⟨m',hm,w7⟩:=hN BU H7 n7;refine⟨m',hm,i+1, BU,H7,I7.sJ,T.keep _ _ _ gY fun b hb o e=>(I7.pin (b,o) (bI _ (bI _ (oV hb e)))).1,fun b hb =>?_,w7⟩;obtain⟨o,e,d⟩:=T.obj _ _ gY b hb;exact(I7.pin (b,o) (bI _ (bI _ (oV hb e)))).2.1
  cases f with
  | next=>obtain⟨BU,H7,I7,n7⟩:=q7;exact again I7 n7
  | cont=>obtain⟨BU,H7,I7,n7⟩:=q7;exact again I7 n7
  | brk=>obtain⟨BU,H7,I7,q7⟩:=q7;exact⟨BU,H7,I7.sJ,q7⟩
  | ret v=>obtain⟨x7, BU,H7,I7,r7,q7⟩:=q7;exact⟨x7, BU,H7,I7.sJ,r7,q7⟩
end
theorem jm{a:Addr}{xs:List V}{g:TG}{tb:TS}{D:Ends}{σ : St}{H:Hp}(Pv:Nat->St->Hp->Prop)(h0:Pv 0 σ H)(hl:∀ i σ H,i<=xs.length->Pv i σ H->bw K H a xs)(hs:∀ i x σ H,xs[i]? = some x->Pv i σ H->g x σ H fun kW H2=>tb { D with nx:=Pv (i+1),ct:=Pv (i+1),bk:=D.nx } kW H2)(hd:∀ σ H,Pv xs.length σ H->D.nx σ H) :
  ∃ W:Nat->Nat->St->Hp->Prop,(∃ m,W 0 m σ H)∧∀ i m σ H,W i m σ H ->
   ((P2 K a).stop i H∧D.nx σ H)∨((P2 K a).go i H∧∃ N:St->Hp->Prop,(∀ bJ H',N bJ H'->∃ m',m' < m∧W (i+1) m' bJ H')∧∀ x H',(P2 K a).BW i H x H'->g x σ H' fun kW H2=>tb { D with nx:=N,ct:=N,bk:=D.nx } kW H2):=by
 refine⟨fun i m σ H=>m=xs.length - i∧i<=xs.length∧Pv i σ H,⟨xs.length,by simp,aQ _,h0⟩,?_⟩;rintro i m σ H ⟨rfl,hi,p⟩;have q:=hl i σ H hi p;by_cases ef:i < xs.length
 ·refine .inr ⟨⟨xs,xs[i],q,by simp[ef]⟩,Pv (i+1),fun bJ H' p'=>⟨xs.length - (i+1),by omega,O,ef,p'⟩,fun x H' y =>?_⟩;obtain⟨e,y⟩:=y;subst e;exact hs i x σ _ (y xs q) p
 ·have e:i=xs.length:=by omega
  subst e;exact .inl ⟨⟨xs,q,aw _⟩,hd σ H p⟩
theorem qT{a:Addr}{xs:List V}{g:TG}{tb:TS}{D:Ends}{σ : St}{H:Hp}(Pv:Nat->St->Hp->Prop)(h0:Pv 0 σ H)(hl:∀ i σ H,i<=xs.length->Pv i σ H->aW K H a xs)(hs:∀ i x σ H,xs[i]? = some x->Pv i σ H->g x σ H fun kW H2=>tb { D with nx:=Pv (i+1),ct:=Pv (i+1),bk:=D.nx } kW H2)(hd:∀ σ H,Pv xs.length σ H->D.nx σ H) :
  ∃ W:Nat->Nat->St->Hp->Prop,(∃ m,W 0 m σ H)∧∀ i m σ H,W i m σ H ->
   ((SE K a).stop i H∧D.nx σ H)∨((SE K a).go i H∧∃ N:St->Hp->Prop,(∀ bJ H',N bJ H'->∃ m',m' < m∧W (i+1) m' bJ H')∧∀ x H',(SE K a).BW i H x H'->g x σ H' fun kW H2=>tb { D with nx:=N,ct:=N,bk:=D.nx } kW H2):=by
 refine⟨fun i m σ H=>m=xs.length - i∧i<=xs.length∧Pv i σ H,⟨xs.length,by simp,aQ _,h0⟩,?_⟩;rintro i m σ H ⟨rfl,hi,p⟩;have q:=hl i σ H hi p;by_cases ef:i < xs.length
 ·refine .inr ⟨⟨xs,xs[i],q,by simp[ef]⟩,Pv (i+1),fun bJ H' p'=>⟨xs.length - (i+1),by omega,O,ef,p'⟩,fun x H' y =>?_⟩;obtain⟨e,y⟩:=y;subst e;exact hs i x σ _ (y xs q) p
 ·have e:i=xs.length:=by omega
  subst e;exact .inl ⟨⟨xs,q,aw _⟩,hd σ H p⟩
theorem qU{g:TG}{tb:TS}{D:Ends}{σ : St}{H:Hp}(Pv:Nat->St->Hp->Prop)(h0:Pv 0 σ H)(hs:∀ i σ H,i < n->Pv i σ H->g (.int (lo+i)) σ H fun kW H2=>tb { D with nx:=Pv (i+1),ct:=Pv (i+1),bk:=D.nx } kW H2)(hd:∀ σ H,Pv n σ H->D.nx σ H) :
  ∃ W:Nat->Nat->St->Hp->Prop,(∃ m,W 0 m σ H)∧∀ i m σ H,W i m σ H ->
   ((Mf lo n).stop i H∧D.nx σ H)∨((Mf lo n).go i H∧∃ N:St->Hp->Prop,(∀ bJ H',N bJ H'->∃ m',m' < m∧W (i+1) m' bJ H')∧∀ x H',(Mf lo n).BW i H x H'->g x σ H' fun kW H2=>tb { D with nx:=N,ct:=N,bk:=D.nx } kW H2):=by
 refine⟨fun i m σ H=>m=n - i∧i<=n∧Pv i σ H,⟨n,by simp,aQ _,h0⟩,?_⟩;rintro i m σ H ⟨rfl,hi,p⟩;by_cases ef:i < n
 ·refine .inr ⟨ef,Pv (i+1),fun bJ H' p'=>⟨n - (i+1),by omega,O,ef,p'⟩,fun x H' y =>?_⟩;obtain⟨e,y⟩:=y;subst e y;exact hs i σ _ ef p
 ·have e:i=n:=by omega
  subst e;exact .inl ⟨aw _,hd σ H p⟩
abbrev R2:=V->V->Hp->VK->Prop
def lN(X:Cx)(f:Value->Value->Sem Value)(r:R2):Prop :=
 ∀ (ag:List (Addr × Obj)) (s:Shared) (σ : St) (H:Hp) (x y:V) (v u:Value) (Q:VK),Inv X ag σ H s->RelV x v->RelV y u->r x y H Q ->
  wpAny (model X.prog X.w) X.A (f v u) (EP X ag σ Q) X.xe s
def UnR(X:Cx)(f:Value->Sem Value)(r:V->Hp->VK->Prop):Prop :=
 ∀ (ag:List (Addr × Obj)) (s:Shared) (σ : St) (H:Hp) (x:V) (v:Value) (Q:VK),Inv X ag σ H s->RelV x v->r x H Q ->
  wpAny (model X.prog X.w) X.A (f v) (EP X ag σ Q) X.xe s
def mQ(X:Cx)(f:Value)(r:List V->Hp->VK->Prop):Prop :=
 ∀ (ag:List (Addr × Obj)) (s:Shared) (σ : St) (H:Hp) (xs:List V) (us:List Value) (Q:VK),Inv X ag σ H s->Vals xs us->r xs H Q ->
  wpAny (model X.prog X.w) X.A (call f us) (EP X ag σ Q) X.xe s
def anJ(X:Cx)(r:V->Hp->(Bool->Hp->Prop)->Prop):Prop :=
 ∀ (ag:List (Addr × Obj)) (s:Shared) (σ : St) (H:Hp) (x:V) (v:Value) (Q:Bool->Hp->Prop),Inv X ag σ H s->RelV x v->r x H Q ->
  wpAny (model X.prog X.w) X.A (truthy v) (TP X ag σ Q) X.xe s
def vv(r:R2)(ta tb:TE):TE:=fun σ H Q=>ta σ H fun x H1=>tb σ H1 fun y H2=>r x y H2 Q
def tUn(r:V->Hp->VK->Prop)(ta:TE):TE:=fun σ H Q=>ta σ H fun x H1=>r x H1 Q
inductive RI(C:Int->Int->Prop)(g:Int->Int->V)(x y:V)(H:Hp)(Q:VK):Prop
 | mk (i j:Int) (hx:x = .int i) (hy:y = .int j) (hc:C i j) (q:Q (g i j) H):RI C g x y H Q
def rI(C:Int->Int->Prop)(g:Int->Int->V):R2:=fun x y H Q=>RI C g x y H Q
inductive RI0(g:Int->Int->V)(x y:V)(H:Hp)(Q:VK):Prop
 | mk (i j:Int) (hx:x = .int i) (hy:y = .int j) (q:Q (g i j) H):RI0 g x y H Q
def HP(g:Int->Int->V):R2:=fun x y H Q=>RI0 g x y H Q
inductive RU(g:Int->V)(x:V)(H:Hp)(Q:VK):Prop
 | mk (i:Int) (hx:x = .int i) (q:Q (g i) H):RU g x H Q
def rU(g:Int->V):V->Hp->VK->Prop:=fun x H Q=>RU g x H Q
section
variable {X:Cx}{a b c:Expr}{ta tb tc:TE}{pos:Pos}
theorem ZW(ha:PE X a ta)(hb:PE X b tb){σ : St}{H:Hp}{R:V->V->Hp->Prop}(I:Inv X ag σ H s)(h:ta σ H fun x H1=>tb σ H1 fun y H2=>R x y H2)(hf:∀ v u s2 x y H2,Inv X ag σ H2 s2->RelV x v->RelV y u->R x y H2->wpAny (model X.prog X.w) X.A (f v u) Q X.xe s2) :
  wpAny (model X.prog X.w) X.A (eval a X.env) (fun v fz => wpAny (model X.prog X.w) X.A (eval b X.env) (fun u nB => wpAny (model X.prog X.w) X.A (f v u) Q X.xe nB) X.xe fz) X.xe s:=by
 refine cm (ha ag s σ H _ I h) fun v s1 ⟨x,H1,I1,r1,q1⟩ =>?_;refine cm (hb ag s1 σ H1 _ I1 q1) fun u s2 ⟨y,H2,I2,r2,q2⟩ =>?_;exact hf v u s2 x y H2 I2 r1 r2 q2
theorem eF{op:Operator}{r:R2}(ho:lN X (binaryOp op) r)(ha:PE X a ta)(hb:PE X b tb):PE X (.BinOp a op b pos) (vv r ta tb):=by
 intro ag s σ H Q I h;exact wpAny_BinOp (ZW ha hb I h fun v u s2 x y H2 I2 rx ry q=>ho ag s2 σ H2 x y v u Q I2 rx ry q)
theorem Tp{op:UnaryOp}{r:V->Hp->VK->Prop}(ho:UnR X (unaryOp op) r)(ha:PE X a ta):PE X (.UnaryOp op a pos) (tUn r ta):=by
 intro ag s σ H Q I h;exact UnaryOp_ (cm (ha ag s σ H _ I h) fun v s1 ⟨x,H1,I1,r1,q1⟩=>ho ag s1 σ H1 x v Q I1 r1 q1)
theorem opI{C:Int->Int->Prop}(rule:∀ (i j:Int) (t u:Tok) (s:Shared) (Q:Value->Shared->Prop) (E:Value->Shared->Prop),C i j->Q (.int (g i j) s.toks) { s with toks:=s.toks+1 }->wpAny (model X.prog X.w) X.A (f (.int i t) (.int j u)) Q E s) :
  lN X f (rI C fun i j => .int (g i j)):=by
 intro ag s σ H x y v u Q I rx ry h;obtain⟨i,j,rfl,rfl,hc,q⟩:=h;obtain⟨t,rfl⟩:=rx;obtain⟨t',rfl⟩:=ry;exact rule i j t t' s _ _ hc ⟨.int (g i j),H,I.tok _,⟨_,O⟩,q⟩
theorem Tt(rule:∀ (i j:Int) (t u:Tok) (s:Shared) (Q:Value->Shared->Prop) (E:Value->Shared->Prop),Q (.int (g i j) s.toks) { s with toks:=s.toks+1 }->wpAny (model X.prog X.w) X.A (f (.int i t) (.int j u)) Q E s) :
  lN X f (HP fun i j => .int (g i j)):=by
 intro ag s σ H x y v u Q I rx ry h;obtain⟨i,j,rfl,rfl,q⟩:=h;obtain⟨t,rfl⟩:=rx;obtain⟨t',rfl⟩:=ry;exact rule i j t t' s _ _ ⟨.int (g i j),H,I.tok _,⟨_,O⟩,q⟩
theorem YI{g:Int->Int->Bool}(rule:∀ (i j:Int) (t u:Tok) (s:Shared) (Q:Value->Shared->Prop) (E:Value->Shared->Prop),Q (.bool (g i j)) s->wpAny (model X.prog X.w) X.A (f (.int i t) (.int j u)) Q E s) :
  lN X f (HP fun i j => .bl (g i j)):=by
 intro ag s σ H x y v u Q I rx ry h;obtain⟨i,j,rfl,rfl,q⟩:=h;obtain⟨t,rfl⟩:=rx;obtain⟨t',rfl⟩:=ry;exact rule i j t t' s _ _ ⟨.bl (g i j),H,I,O,q⟩
def ahT(i j:Int):Prop:=0<=j∧j<=1000000∧i.natAbs < 2 ^ 64
def aaf(i j:Int):Prop:=(-(2 ^ 64) < i∧i < 2 ^ 64)∨(-(2 ^ 64) < j∧j < 2 ^ 64)
theorem aaf.ok{i j:Int}(h:aaf i j):IntMulOk i j:=by
 rcases h with⟨h1,h2⟩ | ⟨h1,h2⟩
 ·exact .of_left (intBits_le_64 h1 h2)
 ·exact .of_right (intBits_le_64 h1 h2)
theorem uG:lN X (binaryOp .Add) (HP fun i j => .int (i+j)):=Tt fun _ _ _ _ _ _ _ q=>add_int q
theorem aet:lN X (binaryOp .Sub) (HP fun i j => .int (i - j)):=Tt fun _ _ _ _ _ _ _ q=>sub_int q
theorem uF:lN X (binaryOp .Mult) (rI aaf fun i j => .int (i * j)):=opI fun _ _ _ _ _ _ _ hc q=>mul_int q hc.ok
theorem wC:lN X (binaryOp .Mod) (rI (fun _ j=>0 < j) fun i j => .int (i % j)):=opI fun i j _ _ _ _ _ hc q=>by
 have h1:(0:Int) < j:=hc;exact mod_int' (by omega) (by rw[Int.fmod_eq_emod_of_nonneg i (by omega)];exact q)
theorem NU:lN X (binaryOp .Pow) (rI ahT fun i j => .int (i ^ j.toNat)):=opI fun _ _ _ _ _ _ _ hc q=>pow_int_small hc.1 hc.2.1 hc.2.2 q
theorem VT:lN X (binaryOp .LShift) (rI ahT fun i j => .int (i * 2 ^ j.toNat)):=opI fun _ _ _ _ _ _ _ hc q=>lshift_int_small hc.1 hc.2.1 hc.2.2 q
theorem HR:lN X (binaryOp .BitAnd) (HP fun i j => .int (fW i j)):=Tt fun _ _ _ _ _ _ _ q=>and_int q
theorem Ts:lN X (binaryOp .BitOr) (HP fun i j => .int (qh i j)):=Tt fun _ _ _ _ _ _ _ q=>or_int q
theorem unI{f:Value->Sem Value}{g:Int->Int}(rule:∀ (i:Int) (t:Tok) (s:Shared) (Q:Value->Shared->Prop) (E:Value->Shared->Prop),Q (.int (g i) s.toks) { s with toks:=s.toks+1 }->wpAny (model X.prog X.w) X.A (f (.int i t)) Q E s) :
  UnR X f (rU fun i => .int (g i)):=by
 intro ag s σ H x v Q I rx h;obtain⟨i,rfl,q⟩:=h;obtain⟨t,rfl⟩:=rx;exact rule i t s _ _ ⟨.int (g i),H,I.tok _,⟨_,O⟩,q⟩
theorem UU:UnR X (unaryOp .USub) (rU fun i => .int (-i)):=unI fun _ _ _ _ _ q=>neg_int q
theorem adL:UnR X (unaryOp .Invert) (rU fun i => .int (d9 i)):=unI fun _ _ _ _ _ q=>invert_int q
end
def Yr:V->V->Bool
 | .cj,.cj=>true | .cj,.int _=>true | .int _,.cj=>true | .cj,.bl _=>true | .bl _,.cj=>true | .cj,.str _=>true | .str _,.cj=>true
 | .int _,.int _=>true | .bl _,.bl _=>true | .str _,.str _=>true | .yh _,.yh _=>true
 | .int _,.str _=>true | .str _,.int _=>true | .bl _,.str _=>true | .str _,.bl _=>true
 | _,_=>false
def rEq:R2:=fun x y H Q=>Yr x y=true∧Q (.bl (decide (x=y))) H
def rNe:R2:=fun x y H Q=>Yr x y=true∧Q (.bl (!decide (x=y))) H
theorem t5{i j:Int}:decide (V.int i=V.int j)=(i == j):=by
 rw[jJ];simp
theorem Xa{i j:Bool}:decide (V.bl i=V.bl j)=(i == j):=by
 rw[jJ];simp
theorem RY{i j:Str}:decide (V.str i=V.str j)=(i == j):=by
 rw[jJ];simp
theorem RZ{i j:Array UInt8}:decide (V.yh i=V.yh j)=(i.toList == j.toList):=by
 rw[jJ];cases i;cases j;simp
section
variable {X:Cx}{a b c:Expr}{ta tb tc:TE}{pos:Pos}
theorem eI{σ : St}{H:Hp}{Q:VK}{k k':Bool}(I:Inv X ag σ H s)(q:Q (.bl k) H)(e:k=k'):EP X ag σ Q (.bool k') s:=by
 subst e;exact⟨.bl k,H,I,O,q⟩
theorem d5:lN X (compareOp .Eq) rEq:=by
 intro ag s σ H x y v u Q I rx ry h;obtain⟨hs,q⟩:=h;cases x with
 | cj =>
  cases rx;cases y with
  | cj=>cases ry;exact PySem.EqNone.eq_none_none (eI I q (by simp))
  | bl j=>cases ry;exact PySem.EqNone.eq_none_bool (eI I q (by simp))
  | int j=>obtain⟨t',rfl⟩:=ry;exact PySem.EqNone.eq_none_int (eI I q (by simp))
  | str j=>obtain⟨t',rfl⟩:=ry;exact PySem.EqNone.eq_none_str (eI I q (by simp))
  | _=>exact absurd (show false=true from hs) bB
 | bl i =>
  cases rx;cases y with
  | cj=>cases ry;exact PySem.EqNone.eq_bool_none (eI I q (by simp))
  | bl j=>cases ry;exact eq_bool (eI I q Xa)
  | str j=>obtain⟨t',rfl⟩:=ry;exact PySem.EqMixed.eq_bool_str (eI I q (by simp))
  | _=>exact absurd (show false=true from hs) bB
 | int i =>
  obtain⟨t,rfl⟩:=rx;cases y with
  | cj=>cases ry;exact PySem.EqNone.eq_int_none (eI I q (by simp))
  | int j=>obtain⟨t',rfl⟩:=ry;exact eq_int (eI I q t5)
  | str j=>obtain⟨t',rfl⟩:=ry;exact PySem.EqMixed.eq_int_str (eI I q (by simp))
  | _=>exact absurd (show false=true from hs) bB
 | str i =>
  obtain⟨t,rfl⟩:=rx;cases y with
  | cj=>cases ry;exact PySem.EqNone.eq_str_none (eI I q (by simp))
  | bl j=>cases ry;exact PySem.EqMixed.eq_str_bool (eI I q (by simp))
  | int j=>obtain⟨t',rfl⟩:=ry;exact PySem.EqMixed.eq_str_int (eI I q (by simp))
  | str j=>obtain⟨t',rfl⟩:=ry;exact eq_str (eI I q RY)
  | _=>exact absurd (show false=true from hs) bB
 | yh i =>
  obtain⟨t,rfl⟩:=rx;cases y with
  | yh j=>obtain⟨t',rfl⟩:=ry;exact PySem.W.eq_bytes (eI I q RZ)
  | _=>exact absurd (show false=true from hs) bB
 | _=>cases y <;> exact absurd (show false=true from hs) bB
theorem oP:lN X (compareOp .NotEq) rNe:=by
 intro ag s σ H x y v u Q I rx ry h;obtain⟨hs,q⟩:=h;cases x with
 | cj =>
  cases rx;cases y with
  | cj=>cases ry;exact PySem.EqNone.ne_none_none (eI I q (by simp))
  | bl j=>cases ry;exact PySem.EqNone.ne_none_bool (eI I q (by simp))
  | int j=>obtain⟨t',rfl⟩:=ry;exact PySem.EqNone.ne_none_int (eI I q (by simp))
  | str j=>obtain⟨t',rfl⟩:=ry;exact PySem.EqNone.ne_none_str (eI I q (by simp))
  | _=>exact absurd (show false=true from hs) bB
 | bl i =>
  cases rx;cases y with
  | cj=>cases ry;exact PySem.EqNone.ne_bool_none (eI I q (by simp))
  | bl j=>cases ry;exact ne_bool (eI I q (congrArg not Xa))
  | str j=>obtain⟨t',rfl⟩:=ry;exact PySem.EqMixed.ne_bool_str (eI I q (by simp))
  | _=>exact absurd (show false=true from hs) bB
 | int i =>
  obtain⟨t,rfl⟩:=rx;cases y with
  | cj=>cases ry;exact PySem.EqNone.ne_int_none (eI I q (by simp))
  | int j=>obtain⟨t',rfl⟩:=ry;exact ne_int (eI I q (congrArg not t5))
  | str j=>obtain⟨t',rfl⟩:=ry;exact PySem.EqMixed.ne_int_str (eI I q (by simp))
  | _=>exact absurd (show false=true from hs) bB
 | str i =>
  obtain⟨t,rfl⟩:=rx;cases y with
  | cj=>cases ry;exact PySem.EqNone.ne_str_none (eI I q (by simp))
  | bl j=>cases ry;exact PySem.EqMixed.ne_str_bool (eI I q (by simp))
  | int j=>obtain⟨t',rfl⟩:=ry;exact PySem.EqMixed.ne_str_int (eI I q (by simp))
  | str j=>obtain⟨t',rfl⟩:=ry;exact ne_str (eI I q (congrArg not RY))
  | _=>exact absurd (show false=true from hs) bB
 | yh i =>
  obtain⟨t,rfl⟩:=rx;cases y with
  | yh j=>obtain⟨t',rfl⟩:=ry;exact PySem.W.ne_bytes (eI I q (congrArg not RZ))
  | _=>exact absurd (show false=true from hs) bB
 | _=>cases y <;> exact absurd (show false=true from hs) bB
theorem Mz:lN X (compareOp .Lt) (HP fun i j => .bl (decide (i < j))):=YI fun _ _ _ _ _ _ _ q=>lt_int q
theorem rE:lN X (compareOp .Gt) (HP fun i j => .bl (decide (j < i))):=YI fun _ _ _ _ _ _ _ q=>gt_int q
theorem aij:lN X (compareOp .GtE) (HP fun i j => .bl (decide (j<=i))):=YI fun _ _ _ _ _ _ _ q=>ge_int q
theorem VW:lN X (compareOp .Is) (fun x y H Q=>y = .cj∧Q (.bl (decide (x = .cj))) H):=by
 intro ag s σ H x y v u Q I rx ry h;obtain⟨rfl,q⟩:=h;cases ry;refine is_none_gen (eI I q ?_);cases x <;> first
  | (cases rx;rfl)
  | (obtain⟨t,rfl⟩:=rx;rfl)
theorem JU:lN X (compareOp .IsNot) (fun x y H Q=>y = .cj∧Q (.bl (!decide (x = .cj))) H):=by
 intro ag s σ H x y v u Q I rx ry h;obtain⟨rfl,q⟩:=h;cases ry;refine isnot_none_gen (eI I q ?_);cases x <;> first
  | (cases rx;rfl)
  | (obtain⟨t,rfl⟩:=rx;rfl)
theorem bo(b:Expr)(h:op ≠ .In:=by decide)(h2:op ≠ .NotIn:=by decide):behindInMarks op b=false:=by
 have e1:(op == CmpOp.In)=false:=by cases op <;> first | rfl | exact absurd rfl h
 have e2:(op == CmpOp.NotIn)=false:=by cases op <;> first | rfl | exact absurd rfl h2
 cases b <;> simp[behindInMarks,e1,e2]
theorem jb{r:R2}(ho:lN X (compareOp op) r)(ha:PE X a ta)(hb:PE X b tb)(hm:behindInMarks op b=false):PE X (.Compare a [op] [b] pos) (vv r ta tb):=by
 intro ag s σ H Q I h;exact wpAny_Compare1 (ZW ha hb I h fun v u s2 x y H2 I2 rx ry q=>ho ag s2 σ H2 x y v u Q I2 rx ry q) hm
inductive ab3(x:V)(H:Hp)(Q:Bool->Hp->Prop):Prop
 | mk (k:Bool) (hx:x = .bl k) (q:Q k H):ab3 x H Q
def Mx(t:TE):TT:=fun σ H Q=>t σ H fun x H'=>ab3 x H' Q
theorem br{r:R2}(ho:lN X (compareOp op) r)(ha:PE X a ta)(hb:PE X b tb)(hm:behindInMarks op b=false):PT X (.Compare a [op] [b] pos) (Mx (vv r ta tb)):=by
 intro ag s σ H Q I h;refine wpAny_isTrue_Compare1 (cm (ha ag s σ H _ I h) fun v s1 ⟨x,H1,I1,r1,q1⟩=>cm (hb ag s1 σ H1 _ I1 q1) fun u s2 ⟨y,H2,I2,r2,q2⟩ =>
  cm (ho ag s2 σ H2 x y v u _ I2 r1 r2 q2) fun c s3 ⟨z,H3,I3,r3,k,e,q3⟩ =>?_) hm
 subst e;cases r3;exact wpAny_truthy_bool ⟨H3,I3,q3⟩
def ahw(K:ai)(x:V)(H:Hp)(k:Bool):Prop :=
 match x with
 | .cj=>k=false
 | .bl b=>k=b
 | .int i=>k=(i != 0)
 | .str y=>y.length<=sizeLine∧k=((y.length:Int) != 0)
 | .yh y=>y.size<=sizeLine∧k=((y.size:Int) != 0)
 | .ref p=>(∃ xs,bw K H p xs∧k = !xs.isEmpty)∨(∃ xs,aW K H p xs∧k = !xs.isEmpty)∨∃ kvs,H p=some (.dK kvs)∧k = !kvs.isEmpty
 | _=>False
theorem T3{κ : Type}{kvs:List (κ × V)}{vs:List (κ × Value)}(r:KV kvs vs):(!vs.isEmpty) = !kvs.isEmpty:=by
 cases r <;> rfl
theorem Ij{xs:List V}{its:List Value}(r:Vals xs its):(!its.toArray.isEmpty) = !xs.isEmpty:=by
 cases r <;> simp
theorem wN:(sizeLine:Nat) < 2 ^ 63:=by rw[sizeLine_eq];decide
theorem adO:anJ X (fun x H Q=>∃ k,ahw X.K x H k∧Q k H):=by
 intro ag s σ H x v Q I rx h;obtain⟨k,e,q⟩:=h;have hl:=wN;have hs:sizeLine=16777216:=sizeLine_eq;cases x with
 | cj =>
  cases rx;have e':k=false:=e;subst e';exact truthy_none ⟨H,I,q⟩
 | bl b =>
  cases rx;have e':k=b:=e;subst e';exact wpAny_truthy_bool ⟨H,I,q⟩
 | int i =>
  obtain⟨t,rfl⟩:=rx;have e':k=(i != 0):=e;subst e';exact PySem.P.truthy_int ⟨H,I,q⟩
 | str y =>
  obtain⟨t,rfl⟩:=rx;obtain⟨hy,e'⟩:y.length<=sizeLine∧k=((y.length:Int) != 0):=e;subst e';exact PySem.P.truthy_str (by omega) ⟨H,I.tok _,q⟩
 | yh y =>
  obtain⟨t,rfl⟩:=rx;obtain⟨hy,e'⟩:y.size<=sizeLine∧k=((y.size:Int) != 0):=e;subst e';exact PySem.W.truthy_bytes (by omega) ⟨H,I.tok _,q⟩
 | ref p =>
  cases rx;have e':(∃ xs,bw X.K H p xs∧k = !xs.isEmpty)∨(∃ xs,aW X.K H p xs∧k = !xs.isEmpty)∨∃ kvs,H p=some (.dK kvs)∧k = !kvs.isEmpty:=e;rcases e' with⟨xs,hx,e'⟩ | ⟨xs,hx,e'⟩ | ⟨kvs,hx,e'⟩
  ·subst e';obtain⟨its,r,pl,hz⟩:=I.list hx;have eO:=r.length;exact wpAny_truthy_list pl.isList (by simp only[aR];omega) ⟨H,I.tok _,by rw[Ij r];exact q⟩
  ·subst e';obtain⟨its,r,pl,hz⟩:=I.tuple hx;have eO:=r.length;exact truthy_tuple pl (by simp only[aR];omega) ⟨H,I.tok _,by rw[Ij r];exact q⟩
  ·subst e';obtain⟨hz,hS,vs,r,m⟩:kvs.length<=sizeLine∧(p == sysModules)=false∧∃ vs,KV kvs vs∧s.heap.DictOf (dI X.prog X.w) p vs:=I.bO p _ hx;have eO:kvs.length=vs.length:=bx r;exact wpAny_truthy_dict hS m (by omega) ⟨H,I.tok _,by rw[T3 r];exact q⟩
 | _=>exact(show False from e).elim
theorem Av(ha:PE X a ta)(he:∀ Af,isTrue a X.env Af=(do let v <- Af;standAt a.pos;holding [v] (truthy v))) :
  PT X a (fun σ H Q=>ta σ H fun x H'=>∃ k,ahw X.K x H' k∧Q k H'):=by
 intro ag s σ H Q I h;exact isTrue_plain (cm (ha ag s σ H _ I h) fun v s1 ⟨x,H1,I1,r1,q1⟩=>adO ag s1 σ H1 x v Q I1 r1 q1) (he _)
inductive Ej(x:V)(y:V)(H:Hp)(Q:VK):Prop
 | mk:∀ i j,(x = .str i)->(y = .str j)->(i.length+j.length<=sizeLine)->(Q (.str (i ++ j)) H)->Ej x y H Q
theorem HU:lN X (binaryOp .Add) (fun x y H Q=>Ej x y H Q):=by
 intro ag s σ H x y v u Q I rx ry h;obtain⟨i,j,rfl,rfl,hz,q⟩:=h;obtain⟨t,rfl⟩:=rx;obtain⟨t',rfl⟩:=ry;exact add_str (fun t' tk=>⟨.str (i ++ j),H,I.tok _,⟨_,O⟩,q⟩) hz
theorem vals1{x:V}(r:Vals [x] us):∃ u,us = [u]∧RelV x u:=by
 cases r with
 | cons r1 r2=>cases r2;exact⟨_,O,r1⟩
theorem vals2{x y:V}(r:Vals [x,y] us):∃ u w',us = [u,w']∧RelV x u∧RelV y w':=by
 cases r with
 | cons r1 r2 =>
  cases r2 with
  | cons r3 r4=>cases r4;exact⟨_,_,O,r1,r3⟩
inductive FR(xs:List V)(H:Hp)(Q:VK):Prop
 | mk:∀ i j,(xs = [.int i,.int j])->(Q (.int (if j > i then j else i)) H)->FR xs H Q
theorem Xk(hc:X.calm=true):mQ X (.builtin "max") (fun xs H Q=>FR xs H Q):=by
 intro ag s σ H xs us Q I r h;obtain⟨i,j,rfl,q⟩:=h;obtain⟨u,w',rfl,⟨t,rfl⟩,⟨t',rfl⟩⟩:=vals2 r;refine max_two_ints (I.ok.hd hc) fun h' tk k=>⟨_,H,I.kept k,?_,q⟩;by_cases hj:j > i
 ·rw[if_pos hj,if_pos hj];exact⟨_,O⟩
 ·rw[if_neg hj,if_neg hj];exact⟨_,O⟩
inductive FQ(xs:List V)(H:Hp)(Q:VK):Prop
 | mk:∀ i j,(xs = [.int i,.int j])->(Q (.int (if j < i then j else i)) H)->FQ xs H Q
theorem LS(hc:X.calm=true):mQ X (.builtin "min") (fun xs H Q=>FQ xs H Q):=by
 intro ag s σ H xs us Q I r h;obtain⟨i,j,rfl,q⟩:=h;obtain⟨u,w',rfl,⟨t,rfl⟩,⟨t',rfl⟩⟩:=vals2 r;refine min_two_ints (I.ok.hd hc) fun h' tk k=>⟨_,H,I.kept k,?_,q⟩;by_cases hj:j < i
 ·rw[if_pos hj,if_pos hj];exact⟨_,O⟩
 ·rw[if_neg hj,if_neg hj];exact⟨_,O⟩
end
structure G7(h:Heap)(x dx C:Addr)(mA:Str->Option Value):Prop where
 obj:h.get? x=some (iP C dx)
 ns:h.Ns1 dx mA
 ne:dx≠x
theorem Wk(n:h.Ns1 dx mA):∃ od,h.get? dx=some od∧∀ name,t9 name od=some (mA name):=by
 obtain⟨o,es,ep,ho,hd,hk,_,hm⟩:=n;refine⟨o,ho,fun name =>?_⟩;have e:=hm name;unfold nsFind findBy at e;rw[<- Array.find?_toList]at e;unfold t9;rw[hd];dsimp only;split
 ·rename_i y q
  rw[q]at e;exact congrArg some e
 ·rename_i q
  rw[q]at e;have a:es.toList.any (·.refKey)=false:=by
   rw[List.any_eq_false];intro y hy;obtain⟨z,t,wU⟩:=hk y (Array.mem_toList_iff.mp hy);simp[DictEntry.refKey,wU]
  have a':¬ es.toList.any (·.refKey)=true:=by rw[a];exact bB
  rw[if_neg a'];exact congrArg some e
theorem G7.look{x:Addr}(I:G7 h x dx C mA):∃ od,PySem.W.InstAt h x (iP C dx) C (some od)∧∀ name,t9 name od=some (mA name) :=
 let ⟨od,ho,hl⟩:=Wk I.ns
 ⟨od,⟨I.obj,O,O,ho⟩,hl⟩
section
variable {prog:Program}{w:World}{A:Around}{E:Value->Shared->Prop}{s:Shared}{K:ai}{x dx C f:Addr}{mA:Str->Option Value}{name:Str}{v:Value}
theorem adh{am8:Bool}(X:K.In s.heap)(I:G7 s.heap x dx C mA)(hg:eR K C name=true)(hh:eW K C=true)(ha:aK K (.ref C) name=some none)(hv:mA name=some v)(hv':G3 v=true)(h:Q v { s with toks:=s.toks+1 }) :
  wpAny (model prog w) A (getAttr (.ref x) name am8) Q E s:=by
 obtain⟨od,J,hl⟩:=I.look;exact PySem.W.get_value X J (sC hg).1 (PySem.W.findObj_own hh ha rfl (by rw[hl,hv])) hv' h
theorem ZA{Q:Value × List Value->Shared->Prop}(X:K.In s.heap)(I:G7 s.heap x dx C mA)(hg:eR K C name=true)(hf:aK K (.ref C) name=some (some (.ref f)))(ht:gB K (.ref f)=true)(hv:mA name=none)(h:Q (.ref f, [.ref x]) s) :
  wpAny (model prog w) A (getMethod (.ref x) name pl) Q E s:=by
 obtain⟨od,J,hl⟩:=I.look;exact PySem.W.method_fn X J (sC hg).1 (sC hg).2 hf (beq_iff_eq.mp ht) (by show (t9 name od).map (·.isSome)=some false;rw[hl,hv];rfl) h
theorem acr{ns:List Str}{Q:Unit->Shared->Prop}(X:K.In s.heap)(I:G7 s.heap x dx C mA)(hs:aK K (.ref C) "__setattr__" = some (some (.builtin "object.__setattr__")))(hp:fA K C=true)(ht:yn K C name=some none)(hh:eW K C=true)(hw:xn mA ns)(hsz:ns.length<=sizeLine)(h:∀ h',G7 h' x dx C (fun y=>if y=name then some v else mA y)->eT dx s.heap h'->Q () { s with heap:=h',toks:=s.toks+2 }) :
  wpAny (model prog w) A (setAttr (.ref x) name v) Q E s:=by
 obtain⟨od,J,hl⟩:=I.look;refine PySem.W.set_plain X J hs (PySem.W.osa_open (s := { s with toks:=s.toks+1 }) (r:=none) X J hp ht fun b =>?_);obtain⟨cd,hc,hd'⟩:=PySem.W.any_some hh;have hx:s.heap.get? x=some ⟨.ref C,some dx,.plain, #[]⟩:=I.obj;refine wpAny_bind (wpAny_pure (wpAny_bind (wpAny_bind (wpAny_loadPart hx (wpAny_bind (PySem.W.Looks.here (s := { s with toks:=s.toks+1 }) (PySem.W.looks_clsIn X hc) ?_))))));rw[hd'];refine wpAny_pure (a:=some dx) (wpAny_bind (wpAny_pure (wpAny_bind ?_)));refine wpAny_nsSet1 (s := { s with toks:=s.toks+1 }) I.ns fun h' Lz jP =>?_;obtain⟨oD,esD,epD,hoD,hdD,hcD⟩:=Lz.count (xn.cons name v hw);refine wpAny_bind (wpAny_lookBehind hoD (by rw[hdD];exact pastItsLine_dict (bp hcD (by rw[cg];omega))) ?_);exact wpAny_pure (h _ ⟨(jP.2 _ (bR I.ne)).trans I.obj,Lz,I.ne⟩ jP)
theorem Y4{R:Result->Shared->Prop}{vs:List Value}(X:K.In s.heap)(hm:gb K C=true)(hi:aK K (.ref C) "__init__" = some (some (.ref f)))(hf:PySem.W.typeIn K (.ref f)=some (.type "function"))(h:codeAny (model prog w) (A.under (.builtin "type.__call__" ⟨.ref C :: vs,kw⟩)) (.call (.ref f) ⟨.ref (s.heap.objs.size+1) :: vs,kw⟩) (PySem.W.InitBack (s.heap.objs.size+1) R)
   { s with heap:=(s.heap.push fZ).push (iP C s.heap.objs.size) }) :
  codeAny (model prog w) A (.call (.ref C) ⟨vs,kw⟩) R s:=by
 obtain⟨hh,g,d,t,os⟩:=s;exact PySem.W.make_core (PySem.W.makes_of X hm) (PySem.W.looks_findIn X hi) (fun self=>PySem.W.bind_fn X self hf) (.inl rfl) h
end
def bQ(f:Str)(v:V):List (Str × V)->List (Str × V)
 | [] => [(f,v)]
 | (g,x) :: r=>if g=f then (g,v) :: r else (g,x) :: bQ f v r
theorem Fu(f g:Str)(v:V):∀ fs:List (Str × V),(bQ f v fs).lookup g=if g=f then some v else fs.lookup g
 | []=>by
  show nv g [(f,v)]=_;by_cases h:g=f
  ·have hb:(g == f)=true:=beq_iff_eq.mpr h;simp only[nv,hb,if_pos h]
  ·have hb:(g == f)=false:=beq_eq_false_iff_ne.mpr h;simp only[nv,hb,if_neg h]
 | (k,x) :: r=>by
  have ih:=Fu f g v r;rw[show bQ f v ((k,x) :: r)=(if k=f then (k,v) :: r else (k,x) :: bQ f v r) from rfl];by_cases hk:k=f
  ·rw[if_pos hk];by_cases h:g=k
   ·have hb:(g == k)=true:=beq_iff_eq.mpr h;simp only[nv,hb,if_pos (h.trans hk)]
   ·have hb:(g == k)=false:=beq_eq_false_iff_ne.mpr h;simp only[nv,hb,if_neg (fun e:g=f=>h (e.trans hk.symm))]
  ·rw[if_neg hk];by_cases h:g=k
   ·have hb:(g == k)=true:=beq_iff_eq.mpr h;simp only[nv,hb,if_neg (fun e:g=f=>hk (h.symm.trans e))]
   ·have hb:(g == k)=false:=beq_eq_false_iff_ne.mpr h;simp only[nv,hb];exact ih
theorem Dq(f:Str)(v:V):∀ fs:List (Str × V),f∈(bQ f v fs).map (·.1)∧∀ g,g∈fs.map (·.1)->g∈(bQ f v fs).map (·.1)
 | []=>⟨by simp[bQ],fun g h=>by simp at h⟩
 | (k,x) :: r=>by
  obtain⟨i1,i2⟩:=Dq f v r;rw[show bQ f v ((k,x) :: r)=(if k=f then (k,v) :: r else (k,x) :: bQ f v r) from rfl];by_cases hk:k=f
  ·rw[if_pos hk];subst hk;exact⟨by simp,fun g h=>by simpa using h⟩
  ·rw[if_neg hk];refine⟨?_,fun g h =>?_⟩
   ·rw[aS];exact aX _ i1
   ·rw[aS]at h ⊢;rcases bC.mp h with e | e
    ·exact bC.mpr (.inl e)
    ·exact aX _ (i2 g e)
theorem Fv(f:Str)(v:V):∀ fs:List (Str × V),(bQ f v fs).length<=fs.length+1
 | []=>by simp[bQ]
 | (k,x) :: r=>by
  have ih:=Fv f v r;rw[show bQ f v ((k,x) :: r)=(if k=f then (k,v) :: r else (k,x) :: bQ f v r) from rfl];by_cases hk:k=f
  ·rw[if_pos hk,cg,cg];omega
  ·rw[if_neg hk,cg,cg];omega
theorem mj.some_of{v:V}{o:Option Value}(r:mj (some v) o):∃ u,o=some u∧RelV v u:=by
 cases o with
 | none=>exact(show False from r).elim
 | some u=>exact⟨u,O,r⟩
theorem mj.none_of{o:Option Value}(r:mj none o):o=none:=by
 cases o with
 | none=>rfl
 | some u=>exact(show False from r).elim
theorem WK{v:V}(r:RelV v u):G3 u=true:=by
 cases v with
 | cj=>cases (show u=gJ from r);rfl
 | bl b=>cases (show u=pj b from r);rfl
 | int i=>obtain⟨t,e⟩:=(show ∃ t,u=oA i t from r);cases e;rfl
 | str x=>obtain⟨t,e⟩:=(show ∃ t,u=yj x t from r);cases e;rfl
 | yh b=>obtain⟨t,e⟩:=(show ∃ t,u=Value.bytes b t from r);cases e;rfl
 | flt b=>obtain⟨t,e⟩:=(show ∃ t,u=Value.float b t from r);cases e;rfl
 | ref a=>cases (show u=bL a from r);rfl
 | ty n=>cases (show u=ph n from r);rfl
section
variable {P:Program}{w:World} {H H':Hp} {h h':Heap}{a C dx:Addr} {fs fs':List (Str × V)}
theorem Kf(bO:iG P w H h)(e:H a=some (.ins C dx fs)):∃ mA,G7 h a dx C mA∧(∀ f,mj (fs.lookup f) (mA f))∧xn mA (fs.map (·.1))∧fs.length<=1000∧H dx=some (.own a):=by
 obtain⟨d,z,ne,ob,mA,n,r,q⟩:=(show eV P w H h a (.ins C dx fs) from bO a _ e);exact⟨mA,⟨ob,n,ne⟩,r,q,z,d⟩
end
structure lB(K:ai)(C:Addr):Prop where
 pg:eR K C lg=true
 hd:eW K C=true
 po:fA K C=true
 sa:aK K (.ref C) "__setattr__" = some (some (.builtin "object.__setattr__"))
theorem lB.get(c:lB K C)(f:Str):eR K C f=true:=c.pg
def dY(K:ai)(C:Addr)(f:Str):Prop:=aK K (.ref C) f=some none
theorem dY.ah1{f:Str}(n:dY K C f):yn K C f=some none:=by
 unfold yn;rw[show aK K (.ref C) f=some none from n];rfl
structure Meth(K:ai)(C:Addr)(m:Str)(f:Addr):Prop where
 at_:aK K (.ref C) m=some (some (.ref f))
 fn:gB K (.ref f)=true
 kp:bH K (.ref f)=true
section
variable {X:Cx}{ag:List (Addr × Obj)}{σ : St}{H:Hp}{s:Shared}{a C dx:Addr}{fs:List (Str × V)}{f:Str}{v:V}{A:Around}{E:Value->Shared->Prop}
theorem Uo{b:Bool}(I:Inv X ag σ H s)(e:H a=some (.ins C dx fs))(c:lB X.K C)(n:dY X.K C f)(l:fs.lookup f=some v)(h:∀ u s',Inv X ag σ H s'->RelV v u->Q u s'):wpAny (model X.prog X.w) A (getAttr (.ref a) f b) Q E s:=by
 obtain⟨mA,On,r,_,_,_⟩:=Kf I.bO e;obtain⟨u,hu,ru⟩:=mj.some_of (v:=v) (o:=mA f) (by rw[<- l];exact r f);exact adh I.sv On (c.get f) c.hd n hu (WK ru) (h u _ (I.tok _) ru)
theorem IK{m:Str}{g:Addr}{Q:Value × List Value->Shared->Prop}(I:Inv X ag σ H s)(e:H a=some (.ins C dx fs))(c:lB X.K C)(k:Meth X.K C m g)(l:fs.lookup m=none)(h:Q (.ref g, [.ref a]) s):wpAny (model X.prog X.w) A (getMethod (.ref a) m pl) Q E s:=by
 obtain⟨mA,On,r,_,_,_⟩:=Kf I.bO e;have hn:mA m=none:=mj.none_of (by rw[<- l];exact r m);exact ZA I.sv On (c.get m) k.at_ k.fn hn h
theorem Td{y:V}{Q:Unit->Shared->Prop}(I:Inv X ag σ H s)(e:H a=some (.ins C dx fs))(c:lB X.K C)(n:dY X.K C f)(hl:fs.length < 1000)(ry:RelV y u)(h:∀ s',Inv X ag σ (aC H a (.ins C dx (bQ f y fs))) s'->Q () s'):wpAny (model X.prog X.w) A (setAttr (.ref a) f u) Q E s:=by
 obtain⟨mA,On,r,wi,_,ho⟩:=Kf I.bO e;have hz:(fs.map (·.1)).length<=sizeLine:=by rw[ay,sizeLine_eq];omega
 refine acr I.sv On c.sa c.po n.ah1 c.hd wi hz fun h' O' sb=>h _ ?_;have hd:∃ o,h'.get? dx=some o:=let ⟨o,_,_,e',_⟩:=O'.ns; ⟨o,e'⟩;refine I.write (x:=a) (e:=dx) (by rw[e];exact jZ) (.inr ho) (fun b q hb z=>(sb.2 b hb).trans z) hd ?_;refine⟨by rw[av On.ne];exact ho,?_,On.ne,O'.obj,_,O'.ns,fun g =>?_,fun g hg =>?_⟩
 ·have:=Fv f y fs;omega
 ·show mj ((bQ f y fs).lookup g) (if g=f then some u else mA g);rw[Fu];by_cases q:g=f
  ·rw[if_pos q,if_pos q];exact ry
  ·rw[if_neg q,if_neg q];exact r g
 ·by_cases q:g=f
  ·rw[q];exact(Dq f y fs).1
  ·refine(Dq f y fs).2 g (wi g fun z=>hg ?_);show (if g=f then some u else mA g)=none;rw[if_neg q];exact z
theorem Inv.made(I:Inv X ag σ H s):Inv X ag σ (aC (aC H s.heap.objs.size (.own (s.heap.objs.size+1))) (s.heap.objs.size+1) (.ins C s.heap.objs.size []))
  { s with heap:=(s.heap.push fZ).push (iP C s.heap.objs.size) }:=by
 have e1:(s.heap.push fZ).get? s.heap.objs.size=some fZ:=bz s.heap rfl;have e2:((s.heap.push fZ).push (iP C s.heap.objs.size)).get? (s.heap.objs.size+1)=some (iP C s.heap.objs.size):=by
  have:=bz (s.heap.push fZ) (o:=iP C s.heap.objs.size) rfl
  rwa [jr]at this
 have e3:(s.heap.push fZ).Ns s.heap.objs.size (fun _=>none):=⟨fZ, #[],_,e1,O,(fun e he=>absurd he (by simp)),fun _=>rfl⟩;have I1:=I.laid (a:=s.heap.objs.size) (o := .own (s.heap.objs.size+1)) (h':=s.heap.push fZ) (t':=s.toks) (fun b u q=>aH _ q) (aw _) ⟨_,e1⟩;refine I1.laid (a:=s.heap.objs.size+1) (o := .ins C s.heap.objs.size []) (t':=s.toks) (fun b u q=>aH _ q) (jC (jr _ _)) ?_;have ne:s.heap.objs.size≠s.heap.objs.size+1:=cQ (mM _);refine⟨by rw[av ne,ak],aQ _,ne,e2,fun _=>none,(Heap.Ns1.of_empty e3).at fun o q=>aH _ q,fun _=>jZ,fun y hy=>absurd rfl hy⟩
theorem adv{prog:Program}{env:Env}{f:Str}(hb:attributeBase e f env (eval e env)=eval e env)(h:wpAny (model prog w) A (eval e env) (fun o fz => wpAny (model prog w) A (getAttr o f true) Q E fz) E s):wpAny (model prog w) A (eval (.Attribute e f pos) env) Q E s :=
 Attribute_any_ h (by rw[arm_eval_Attribute,hb])
end
inductive ahG(K:ai)(f:Str)(x:V)(H:Hp)(Q:VK):Prop
 | mk (a C dx:Addr) (fs:List (Str × V)) (v:V) (hx:x = .ref a) (h:H a=some (.ins C dx fs)) (c:lB K C) (n:dY K C f) (l:fs.lookup f=some v) (q:Q v H):ahG K f x H Q
def alh(K:ai)(ta:TE)(f:Str):TE:=fun σ H Q=>ta σ H fun x H1=>ahG K f x H1 Q
inductive XJ(K:ai)(f:Str)(D:Ends)(σ : St)(y:V)(x:V)(H2:Hp):Prop
 | mk:∀ a C dx fs,(x = .ref a)->(H2 a=some (.ins C dx fs))->(lB K C)->(dY K C f)->(fs.length < 1000)->(D.nx σ (aC H2 a (.ins C dx (bQ f y fs))))->XJ K f D σ y x H2
def alv(K:ai)(ta tv:TE)(f:Str):TS:=fun D σ H=>tv σ H fun y H1=>ta σ H1 fun x H2=>XJ K f D σ y x H2
section
variable {X:Cx}{o e value:Expr}{f:Str}{pos nD ak6:Pos}{ta tv:TE}
theorem bW(he:PE X e ta)(hb:attributeBase e f X.env (eval e X.env)=eval e X.env):PE X (.Attribute e f pos) (alh X.K ta f):=by
 intro ag s σ H Q I h;refine adv hb (cm (he ag s σ H _ I h) fun u s1 ⟨x,H1,I1,rx,a,C,dx,fs,v,ex,ea,c,n,l,q⟩ =>?_);subst ex;obtain rfl:u=bL a:=rx;exact Uo I1 ea c n l fun u' s2 I2 ru=>⟨v,H1,I2,ru,q⟩
theorem ft(ha:PE X o ta)(hv:PE X value tv)(hs:swapsWith value (some (.Attribute o f nD)) pos.line X.env=pure false):PS X (.Assign [.Attribute o f nD] value pos) (alv X.K ta tv f):=by
 intro ag s σ H D I h;refine plainObj_wpAny_Assign_Attribute (cm (hv ag s σ H _ I h) fun u s1 ⟨y,H1,I1,ry,q⟩=>cm (ha ag s1 σ H1 _ I1 q) fun ov s2 ⟨x,H2,I2,rx,a,C,dx,fs,ex,ea,c,n,l,q2⟩ =>?_) hs;subst ex;obtain rfl:ov=bL a:=rx;exact Td I2 ea c n l ry fun s3 I3=>⟨σ,_,I3,q2⟩
end
section
variable {X:Cx}{ag:List (Addr × Obj)}{σ : St}{H:Hp}{s:Shared}{A:Around}{E:Value->Shared->Prop}{Q:Value->Shared->Prop}{c:Value}{b:Bool}
end
structure eQ(k:Nat)(A:Around):Prop where
 hd:A.handled=none
 dp:A.depth+3 * k+5 < recursionLimit
 un:A.units+16 * k+200 < cLine
theorem eQ.mono{k:Nat}(r:eQ k A)(h:j<=k):eQ j A:=⟨r.hd,by have:=r.dp;omega,by have:=r.un;omega⟩
theorem eQ.deeper{k:Nat}(r:eQ (k+1) A)(env:Env):eQ k (A.deeper env) :=
 ⟨r.hd,by have:=r.dp;show A.depth+1+3 * k+5 < _;omega,by have:=r.un;show A.units+3+16 * k+200 < _;omega⟩
theorem TR:(A.under (.builtin "type.__call__" ⟨.ref C :: us,kw⟩)).depth=A.depth+1:=by
 first | rfl | simp[EE,Code.weight,Code.isCreation,Code.isGuard,Code.isCaller,Code.frames,EB,guardIds]
theorem TQ:(A.under (.builtin "type.__call__" ⟨.ref C :: us,kw⟩)).units=A.units+1:=by
 first | rfl | simp[EE,Code.cUnits,Code.frames,EB]
theorem eQ.make{k:Nat}(r:eQ (k+1) A)(C:Addr)(us:List Value)(kw:List (Str × Value)):eQ k (A.under (.builtin "type.__call__" ⟨.ref C :: us,kw⟩)) :=
 ⟨r.hd,by have:=r.dp;rw[TR];omega,by have:=r.un;rw[TQ];omega⟩
theorem eQ.depth{k:Nat}(r:eQ k A):A.depth < recursionLimit:=by have:=r.dp;omega
theorem eQ.units{k:Nat}(r:eQ k A):A.units+64 < cLine:=by have:=r.un;omega
theorem eQ.UT{k:Nat}(r:eQ k A):A.units < cLine:=by have:=r.un;omega
def Yj:TA:=fun _ H Q=>Q [] H
def aia(ta:TE)(tr:TA):TA:=fun σ H Q=>ta σ H fun x H1=>tr σ H1 fun xs H2=>Q (x :: xs) H2
section
variable {X:Cx}{e:Expr}{es:List Expr}{te:TE}{t:TA}{pos:Pos}
theorem aq:PA X [] Yj:=fun _ _ _ _ H Q I h=>jS ⟨[],H,I,.nil,h⟩
theorem ae(ha:PE X e te)(hr:PA X es t)(hs:starEach (e :: es) X.env=(false,eval e X.env) :: starEach es X.env:=by rfl):PA X (e :: es) (aia te t):=by
 intro pos ag s σ H Q I h;rw[hs];show wpAny _ _ (spliced ((false,eval e X.env) :: backTo pos (starEach es X.env))) _ _ s;refine fI (cm (ha ag s σ H _ I h) fun u s1 ⟨x,H1,I1,r1,q1⟩ =>?_);exact cm (hr pos ag s1 σ H1 _ I1 q1) fun us s2 ⟨xs,H2,I2,r2,q2⟩=>⟨x :: xs,H2,I2,.cons r1 r2,q2⟩
def ald(t:TA):TE:=fun σ H Q=>t σ H fun xs H1=>xs.length<=sizeLine∧∀ p,H1 p=none->Q (.ref p) (aC H1 p (.tup xs))
def alg(t:TA):TE:=fun σ H Q=>t σ H fun xs H1=>xs.length<=sizeLine∧∀ p,H1 p=none->Q (.ref p) (aC H1 p (.lst xs))
theorem dX{x1}(h:PA X es t):PE X (.Tuple es x1 pos) (ald t):=by
 intro ag s σ H Q I hq;refine wpAny_Tuple_spliced (cm (h pos ag s σ H _ I hq) fun us s1 ⟨xs,H1,I1,r,z,q⟩=>⟨by rw[<- r.length];exact z,?_⟩);have hf:H1 s1.heap.objs.size=none:=I1.bO.fresh (aw _);refine⟨.ref s1.heap.objs.size,aC H1 s1.heap.objs.size (.tup xs),I1.laid (t':=s1.toks) (fun b u e=>aH _ e) (aw _) ?_,O,q _ hf⟩;exact⟨z,us,r,⟨_,bz _ rfl,O,_,O,O⟩⟩
theorem fu(h:PA X es t):PE X (.List es pos) (alg t):=by
 intro ag s σ H Q I hq;refine wpAny_List_spliced (cm (h pos ag s σ H _ I hq) fun us s1 ⟨xs,H1,I1,r,z,q⟩=>⟨by rw[<- r.length];exact z,?_⟩);have hf:H1 s1.heap.objs.size=none:=I1.bO.fresh (aw _);refine⟨.ref s1.heap.objs.size,aC H1 s1.heap.objs.size (.lst xs),I1.laid (t':=s1.toks) (fun b u e=>aH _ e) (aw _) ?_,O,q _ hf⟩;exact⟨z,us,0,r,bz _ rfl⟩
end
abbrev Sp:=List V->Hp->VK->XK->Prop
abbrev Ac:=List Env->Hp->Shared->XK->Value->Shared->Prop
structure Hd(P:Program)(w:World)(K:ai)(mg:Str->Option Value)(base:Heap)(A:Around)(outer:List Env)(s:Shared)(H:Hp):Prop where
 frames:A.frames=some outer
 mod:Mod K mg base
 bs:∀ b o,base.get? b=some o->s.heap.get? b=some o∧H b=none
 FJ:base.objs.size<=s.heap.objs.size
 tX:s.heap.FunFrames base outer
 LJ:∀ b∈jD outer,H b=none
 bO:iG P w H s.heap
 bare:AllBare s.gens
def CE(outer:List Env)(P:Program)(w:World)(H:Hp)(s:Shared)(Q:VK)(u:Value)(s':Shared):Prop :=
 ∃ v H',s'.os=s.os∧AllBare s'.gens∧Un (jD outer) [] H H' s.heap s'.heap∧iG P w H' s'.heap∧RelV v u∧Q v H'
def CR(CX:Ac)(outer:List Env)(P:Program)(w:World)(H:Hp)(s:Shared)(Q:VK)(E:XK)(r:Result)(s':Shared):Prop :=
 match r with
 | .ok (.ret u)=>CE outer P w H s Q u s'
 | .ok _=>False
 | .error e=>CX outer H s E e s'
structure kC(P:Program)(w:World)(K:ai)(mg:Str->Option Value)(base:Heap)(CX:Ac)(k:Nat)(f:Addr)(fd:FuncData)(ps:List Str)(sp:Sp):Prop where
 len:∀ vs H Q E,sp vs H Q E->vs.length=ps.length
 run:∀ (A:Around) (outer:List Env) (s:Shared) (H:Hp) (args:Args) (us:List Value) (vs:List V) (Q:VK) (E:XK),eQ k A->Hd P w K mg base A outer s H->BindsTo s fd args (ps.zip us)->Vals vs us->sp vs H Q E ->
  codeAny (model P w) A (.call (.ref f) args) (CR CX outer P w H s Q E) s
theorem Hd.make{H:Hp}(e:Hd P w K mg base A outer s H)(C:Addr)(us:List Value)(kw:List (Str × Value)) :
  Hd P w K mg base (A.under (.builtin "type.__call__" ⟨.ref C :: us,kw⟩)) outer s H:=⟨by first | exact e.frames | (simpa [EE,Code.envs,EB,pushEnvs] using e.frames),e.mod,e.bs,e.FJ,e.tX,e.LJ,e.bO,e.bare⟩
section
variable {X:Cx}{ag:List (Addr × Obj)}{σ : St}{H:Hp} {s s':Shared}
theorem Inv.agQ(I:Inv X ag σ H s):Hd X.prog X.w X.K X.mg X.base X.A X.stack s H :=
 ⟨I.ok.frames,I.ok.mod,I.bs,bp I.ok.FJ I.sz,I.stack,I.JF,I.bO,I.bare⟩
theorem Inv.after{Q:VK}(I:Inv X ag σ H s)(h:CE X.stack X.prog X.w H s Q u s'):EP X ag σ Q u s':=by
 obtain⟨v,H',os,bare,un,bO,r,q⟩:=h;obtain⟨hh,g,d,t,os'⟩:=s';obtain rfl:os'=s.os:=os;exact⟨v,H',I.call (h':=hh) (g':=g) (d':=d) (t':=t) (ch := []) un bO bare (fun b z=>absurd z (by simp)),r,q⟩
end
def Ag(sp:Sp)(dC:List V)(E:XK)(t:TA):TE:=fun σ H Q=>t σ H fun vs H1=>sp (vs ++ dC) H1 Q E
inductive Sn(C:Addr)(m:Str)(sp:Sp)(dC:List V)(E:XK)(t:TA)(σ : St)(Q:VK)(x:V)(H1:Hp):Prop
 | mk:∀ a dx fs,(x = .ref a)->(H1 a=some (.ins C dx fs))->(fs.lookup m=none)->(t σ H1 fun vs H2=>sp (x :: (vs ++ dC)) H2 Q E)->Sn C m sp dC E t σ Q x H1
def Hu(C:Addr)(m:Str)(sp:Sp)(dC:List V)(E:XK)(ta:TE)(t:TA):TE:=fun σ H Q=>ta σ H fun x H1=>Sn C m sp dC E t σ Q x H1
def aat(C:Addr)(sp:Sp)(dC:List V)(E:XK)(t:TA):TE:=fun σ H Q=>t σ H fun vs H1=>∀ x dx,H1 x=none->H1 dx=none->dx≠x ->
 sp (.ref x :: (vs ++ dC)) (aC (aC H1 dx (.own x)) x (.ins C dx [])) (fun v H2=>v = .cj∧Q (.ref x) H2) E
def Binds(K:ai)(fd:FuncData)(ps:List Str)(ds:List Value):Prop :=
 ∀ (s:Shared) (us:List Value),K.In s.heap->(us ++ ds).length=ps.length->BindsTo s fd ⟨us, []⟩ (ps.zip (us ++ ds))
theorem Binds.all{fd:FuncData}(h:∀ us:List Value,us.length=ps.length->bindArgs fd ⟨us, []⟩=pure (ps.zip us)):Binds K fd ps []:=fun s us _ hl=>by
 rw[cY]at hl ⊢;exact .of_eq (h us hl)
def Passes(CX:Ac)(X:Cx)(E:XK):Prop := ∀ (ag:List (Addr × Obj)) (σ : St) (H:Hp) (s:Shared) (e:Value) (s':Shared),Inv X ag σ H s->CX X.stack H s E e s'->X.xe e s'
section
variable {X:Cx}{CX:Ac}{k:Nat}{f C:Addr}{fd:FuncData}{ps:List Str}{sp:Sp}{dC:List V}{ds:List Value}{E:XK}{x m:Str}{p pos eP:Pos}{e o:Expr}{es:List Expr}{ta:TE}{t:TA}
theorem Cq{σ : St}{H:Hp}{Q:VK}{vs:List V}(F:kC X.prog X.w X.K X.mg X.base CX k f fd ps sp)(hr:eQ k X.A)(hb:Binds X.K fd ps ds)(hd:Vals dC ds)(hx:Passes CX X E)(I:Inv X ag σ H s)(r:Vals vs us)(h:sp (vs ++ dC) H Q E):wpAny (model X.prog X.w) X.A (call (.ref f) us) (EP X ag σ Q) X.xe s:=by
 have r2:Vals (vs ++ dC) (us ++ ds):=r.append hd;have hl:(us ++ ds).length=ps.length:=by rw[<- r2.length];exact F.len _ _ _ _ h
 refine wpAny_call (codeAny_mono (F.run X.A X.stack s H ⟨us, []⟩ (us ++ ds) (vs ++ dC) Q E hr I.agQ (hb s us I.sv hl) r2 h) fun r s' hq =>?_);cases r with
 | error e=>exact hx ag σ H s e s' I hq
 | ok fl =>
  cases fl with
  | ret u=>exact I.after hq
  | next=>exact gi hq
  | brk=>exact gi hq
  | cont=>exact gi hq
theorem ER(F:kC X.prog X.w X.K X.mg X.base CX k f fd ps sp)(hr:eQ k X.A)(hg:Gl X x)(hm:X.mg x=some (.ref f))(hk:bH X.K (.ref f)=true)(hb:Binds X.K fd ps ds)(hd:Vals dC ds)(hx:Passes CX X E)(ha:PA X (e :: es) t)(rK:(x == ("__debug__" : Str))=false:=by decide)(he:starEach (e :: es) X.env=(false,eval e X.env) :: starEach es X.env:=by rfl)(j7:(backTo pos (starEach es X.env)).any (·.1)=false:=by rfl) :
  PE X (.Call (.Name x p) (e :: es) [] pos) (Ag sp dC E t):=by
 intro ag s σ H Q I h;refine wpAny_Call_Name_kw (zy I hg hm ?_ rK);refine ll (h₀ := X.base) I.ok.mod.Lq hk (cm (ha pos ag s σ H _ I h) fun us s1 ⟨vs,H1,I1,r,q⟩=>⟨I1.sv,?_⟩) he j7;exact Cq F hr hb hd hx I1 r q
theorem Rh(he:PE X o ta)(c:lB X.K C)(hm:Meth X.K C m f)(F:kC X.prog X.w X.K X.mg X.base CX k f fd ps sp)(hr:eQ k X.A)(hb:Binds X.K fd ps ds)(hd:Vals dC ds)(hx:Passes CX X E)(ha:PA X (e :: es) t)(nN:starEach (e :: es) X.env=(false,eval e X.env) :: starEach es X.env:=by rfl)(j7:(backTo pos (starEach es X.env)).any (·.1)=false:=by rfl)(ht:eval (.Call (.Attribute o m eP) (e :: es) [] pos) X.env=(do
   let ov <- eval o X.env
   standAt eP.atName
   let (f,first) <- holding [ov] (getMethod ov m pl)
   callWith pos f first (backTo pos (starEach (e :: es) X.env)) (backToKw pos (keywordEach [] X.env))):=by rfl) :
  PE X (.Call (.Attribute o m eP) (e :: es) [] pos) (Hu C m sp dC E ta t):=by
 intro ag s σ H Q I h;refine qX (pl:=pl) (cm (he ag s σ H _ I h) fun u s1 ⟨x,H1,I1,rx,a,dx,fs,ex,ea,l,q⟩ =>?_) ht;subst ex;obtain rfl:u=bL a:=rx;refine IK I1 ea c hm l ?_;refine ll (first := [.ref a]) (h₀ := X.base) I.ok.mod.Lq hm.kp (cm (ha pos ag s1 σ H1 _ I1 q) fun us s2 ⟨vs,H2,I2,r,q2⟩=>⟨I2.sv,?_⟩) nN j7;exact Cq (us := .ref a :: us) (vs := .ref a :: vs) F hr hb hd hx I2 (.cons rfl r) q2
theorem YE(he:PE X o ta)(c:lB X.K C)(hm:Meth X.K C m f)(F:kC X.prog X.w X.K X.mg X.base CX k f fd ps sp)(hr:eQ k X.A)(hb:Binds X.K fd ps ds)(hd:Vals dC ds)(hx:Passes CX X E)(ht:eval (.Call (.Attribute o m eP) [] [] pos) X.env=(do
   let ov <- eval o X.env
   standAt eP.atName
   let (f,first) <- holding [ov] (getMethod ov m pl)
   callWith pos f first (backTo pos (starEach [] X.env)) (backToKw pos (keywordEach [] X.env))):=by rfl) :
  PE X (.Call (.Attribute o m eP) [] [] pos) (Hu C m sp dC E ta Yj):=by
 intro ag s σ H Q I h;refine qX (pl:=pl) (cm (he ag s σ H _ I h) fun u s1 ⟨x,H1,I1,rx,a,dx,fs,ex,ea,l,q⟩ =>?_) ht;subst ex;obtain rfl:u=bL a:=rx;refine IK I1 ea c hm l ?_;exact PySem.W.callWith_K0 (first := [.ref a]) I1.sv hm.kp (Cq (us := [.ref a]) (vs := [.ref a]) F hr hb hd hx I1 (.cons rfl .nil) q)
structure Mk(K:ai)(C f:Addr):Prop where
 makes:gb K C=true
 init:aK K (.ref C) "__init__" = some (some (.ref f))
 fn:gB K (.ref f)=true
 kp:bH K (.ref C)=true
theorem Yw{σ : St}{H:Hp}{Q:VK}{vs:List V}(M:Mk X.K C f)(F:kC X.prog X.w X.K X.mg X.base CX k f fd ps sp)(hr:eQ (k+1) X.A)(hb:Binds X.K fd ps ds)(hd:Vals dC ds)(hx:Passes CX X E)(I:Inv X ag σ H s)(r:Vals vs us)(h:∀ x dx,H x=none->H dx=none->dx≠x->sp (.ref x :: (vs ++ dC)) (aC (aC H dx (.own x)) x (.ins C dx [])) (fun v H2=>v = .cj∧Q (.ref x) H2) E) :
  wpAny (model X.prog X.w) X.A (call (.ref C) us) (EP X ag σ Q) X.xe s:=by
 have hq:=h (s.heap.objs.size+1) s.heap.objs.size (I.bO.fresh (nu _)) (I.bO.fresh (aw _)) (cQ (mM _));have I2:=Inv.made (C:=C) I;have r2:Vals (V.ref (s.heap.objs.size+1) :: (vs ++ dC)) (bL (s.heap.objs.size+1) :: (us ++ ds)) := .cons rfl (r.append hd);have hl:(bL (s.heap.objs.size+1) :: us ++ ds).length=ps.length:=by
  have e:=r2.length;rw[F.len _ _ _ _ hq]at e;exact e.symm
 refine wpAny_call (Y4 (f:=f) I.sv M.makes M.init (beq_iff_eq.mp M.fn) (codeAny_mono (F.run _ X.stack _ _ ⟨bL (s.heap.objs.size+1) :: us, []⟩ (bL (s.heap.objs.size+1) :: (us ++ ds)) _ _ E (hr.make C us [])
  (I2.agQ.make C us []) (hb _ (bL (s.heap.objs.size+1) :: us) I2.sv hl) r2 hq) fun r s' Wy =>?_))
 cases r with
 | error e=>exact hx ag σ _ _ e s' I2 Wy
 | ok fl =>
  cases fl with
  | ret u =>
   obtain⟨v,H',I3,rv,ev,q3⟩:=I2.after Wy;subst ev;exact⟨rv,⟨V.ref (s.heap.objs.size+1),H',I3,O,q3⟩⟩
  | next=>exact gi Wy
  | brk=>exact gi Wy
  | cont=>exact gi Wy
theorem acN(M:Mk X.K C f)(F:kC X.prog X.w X.K X.mg X.base CX k f fd ps sp)(hr:eQ (k+1) X.A)(hg:Gl X x)(hm:X.mg x=some (.ref C))(hb:Binds X.K fd ps ds)(hd:Vals dC ds)(hx:Passes CX X E)(ha:PA X (e :: es) t)(rK:(x == ("__debug__" : Str))=false:=by decide)(he:starEach (e :: es) X.env=(false,eval e X.env) :: starEach es X.env:=by rfl)(j7:(backTo pos (starEach es X.env)).any (·.1)=false:=by rfl) :
  PE X (.Call (.Name x p) (e :: es) [] pos) (aat C sp dC E t):=by
 intro ag s σ H Q I h;refine wpAny_Call_Name_kw (zy I hg hm ?_ rK);refine ll (h₀ := X.base) I.ok.mod.Lq M.kp (cm (ha pos ag s σ H _ I h) fun us s1 ⟨vs,H1,I1,r,q⟩=>⟨I1.sv,?_⟩) he j7;exact Yw M F hr hb hd hx I1 r q
end
section
variable {X:Cx}{CX:Ac}{k:Nat}{f C:Addr}{fd:FuncData}{ps ks:List Str}{sp:Sp}{E:XK}{x m:Str}{p pos eP arw:Pos}{e o:Expr}{es:List Expr}{kws:List Keyword}{te ta:TE}{t tk:TA}{nm:Option Str}
variable {g:List Value->List Value->List Value}{gV:List V->List V->List V}
end
structure bu(N P:List Str)(sc:Scope):Prop where
 kind:sc.kind = .function
 co:sc.isCoroutine=false
 gen:sc.isGenerator=false
 nd:N.Nodup
 pre:N.take P.length=P
 par:∀ x∈P,sc.names.lookup x=some .local∨sc.names.lookup x=some .cell
 aeD:∀ y∈sc.names,y.2 ≠ .free
theorem LV{kindOf:Str->Option NameKind}{x:Str}:∀ {binds:List (Str × Value)}{m:Str->Option Value},(∀ v,(x,v) ∉ binds)->bindL kindOf binds m x=m x
 | [],_,_=>rfl
 | (n,v) :: r,m,h=>by
  unfold bindL;rw[LV fun w hw=>h w (aX _ hw)];split
  ·have:x≠n:=by rintro rfl;exact h v bM
   simp[this]
  ·rfl
theorem LX{kindOf:Str->Option NameKind}{x:Str}:∀ {binds:List (Str × Value)}{m:Str->Option Value},(∀ v,(x,v) ∉ binds)->bindC kindOf binds m x=m x
 | [],_,_=>rfl
 | (n,v) :: r,m,h=>by
  unfold bindC;rw[LX fun w hw=>h w (aX _ hw)];split
  ·rfl
  ·have:x≠n:=by rintro rfl;exact h v bM
   simp[this]
theorem LW{kindOf:Str->Option NameKind}{x:Str}{v:Value}:∀ {P:List Str}{vs:List Value}{i:Nat}{m:Str->Option Value},P.Nodup->P[i]? = some x->vs[i]? = some v->kindOf x=some .local ->
  bindL kindOf (P.zip vs) m x=some v
 | [],_,_,_,_,h,_,_=>by simp at h
 | _ :: _, [],_,_,_,_,h,_=>by simp at h
 | p :: P,w :: vs,0,m,nd,h1,h2,hk=>by
  simp at h1 h2;subst h1;subst h2;show bindL kindOf ((p,w) :: P.zip vs) m p=_;unfold bindL;rw[LV fun v hv=>(gg.mp nd).1 (yp hv).1,if_pos hk];simp
 | p :: P,w :: vs,i+1,m,nd,h1,h2,hk=>by
  show bindL kindOf ((p,w) :: P.zip vs) m x=_;unfold bindL;exact LW (i:=i) (gg.mp nd).2 (by simpa using h1) (by simpa using h2) hk
theorem LY{kindOf:Str->Option NameKind}{x:Str}{v:Value}:∀ {P:List Str}{vs:List Value}{i:Nat}{m:Str->Option Value},P.Nodup->P[i]? = some x->vs[i]? = some v->kindOf x≠some .local ->
  bindC kindOf (P.zip vs) m x=some v
 | [],_,_,_,_,h,_,_=>by simp at h
 | _ :: _, [],_,_,_,_,h,_=>by simp at h
 | p :: P,w :: vs,0,m,nd,h1,h2,hk=>by
  simp at h1 h2;subst h1;subst h2;show bindC kindOf ((p,w) :: P.zip vs) m p=_;unfold bindC;rw[LX fun v hv=>(gg.mp nd).1 (yp hv).1,if_neg hk];simp
 | p :: P,w :: vs,i+1,m,nd,h1,h2,hk=>by
  show bindC kindOf ((p,w) :: P.zip vs) m x=_;unfold bindC;exact LY (i:=i) (gg.mp nd).2 (by simpa using h1) (by simpa using h2) hk
def start(N:List Str)(vs:List V):St:=vs.map some ++ bq (N.length - vs.length) none
def cG(CX:Ac)(P:Program)(w:World)(K:ai)(mg:Str->Option Value)(base:Heap)(N:List Str)(cD:Str)(scope:Scope)(f:Addr)(cd:Value)(A:Around)(outer:List Env)(s:Shared)(H:Hp)(E:XK):Cx where
 prog:=P
 w:=w
 K:=K
 mg:=mg
 base:=base
 A:=A.deeper (envOfC cD scope s.heap.objs.size f cd)
 N:=N
 lW := s
 Em := H
 env:=envOfC cD scope s.heap.objs.size f cd
 outer:=outer
 stack:=envOfC cD scope s.heap.objs.size f cd :: outer
 ex := []
 calm:=true
 fn:=fun _=>true
 pn := []
 xe:=fun e s'=>wpAny (model P w) (A.deeper (envOfC cD scope s.heap.objs.size f cd)) (leaving (envOfC cD scope s.heap.objs.size f cd) e) (fun _ s''=>CX outer H s E e s'') (fun e' s''=>CX outer H s E e' s'') s'
theorem Pn{sc:Scope}(h:sc.names.lookup x=some .cell):∃ c,(cellsFrom n sc.names []).lookup x=some c:=by
 have q:=za sc.names n [] (.inl h);exact gC.mp q
theorem Wv{CX:Ac}{f:Addr}{cd:Value}{s1:Shared}{H:Hp}{E:XK}{vs:List V}(S:bu N ps scope)(hd:A.handled=none)(e0:Hd P w K mg base A outer s H)(hl:vs.length=ps.length)(r:Vals vs us)(x:InCallC s s.heap.objs.size (bindL (envOfC cD scope s.heap.objs.size f cd).kindOf (ps.zip us) fun _=>none) (cellsFrom (s.heap.objs.size+1) scope.names []) (bindC (envOfC cD scope s.heap.objs.size f cd).kindOf (ps.zip us) fun _=>none) s1) :
  Inv (cG CX P w K mg base N cD scope f cd A outer s H E) [] (start N vs) H s1:=by
 have j7:ps.length<=N.length:=by have:=congrArg uA S.pre;rw[cf]at this;omega
 obtain⟨h1,tk,rfl,hk⟩:=x.done;have V7:∀ b:Addr,b ∉ (cG CX P w K mg base N cD scope f cd A outer s H E).ex:=fun b z=>absurd (show b∈([]:List Addr) from z) (by simp);refine⟨⟨e0.mod,S.kind,O,O,aw _,fun y z c h1 h2 =>?_,fun y hy =>?_,fun y c _ h =>?_,fun _=>hd,Around.frames_deeper e0.frames,.inr ⟨O,O⟩,fun b z=>absurd z (V7 b),e0.bs,e0.FJ,fun b _ _=>V7 b,fun b z=>absurd z (V7 b),e0.tX,e0.LJ⟩,
  rfl,e0.bare,Un.kept hk,⟨_,x.toInCall.ns,fun i y v h1 h2 h3 =>?_⟩,fun y c h=>⟨_,x.cell y c h⟩,e0.bO.fresh (aw _),fun y c h =>?_,fun p hp=>absurd (show p∈([]:List (Addr × Obj)) from hp) (by simp),e0.bO.kept hk,?_⟩
 ·exact name_of_addr x.apart (kH h1) (kH h2)
 ·have hy:scope.names.lookup y=some .cell∨scope.names.lookup y=some .free:=hy;rcases hy with hy | hy
  ·exact Pn hy
  ·exact absurd rfl (S.aeD _ (kH hy))
 ·exact ky (x.above y c (kH h))
 ·have hi:i < vs.length:=by
   unfold start at h2;by_cases hi:i < vs.length
   ·exact hi
   ·rw[fb (by simpa using hi)]at h2;rw[pE]at h2;split at h2 <;> cases h2
  have ha:vs[i]? = some v:=by
   unfold start at h2;rw[j0 (by simpa using hi),aJ]at h2;cases e:vs[i]? with
   | none=>rw[e]at h2;cases h2
   | some a=>rw[e]at h2;cases h2;rfl
  obtain⟨u,hu,rv⟩:=r.get ha;have hp:ps[i]? = some y:=by
   rw[<- S.pre,kz (by omega)];exact h1
  have ndP:ps.Nodup:=by rw[<- S.pre];exact S.nd.sublist (Fg _ _)
  refine⟨u,rv,?_⟩;rcases S.par y (aN hp) with k | k
  ·exact .inl ⟨k,LW ndP hp hu k⟩
  ·obtain⟨c,e⟩:=Pn (n:=s.heap.objs.size+1) k;refine .inr ⟨.inl k,c,e,?_⟩;have q:=x.cell y c e;rw[LY ndP hp hu (by show scope.names.lookup y≠_;rw[k];decide)]at q;exact q
 ·exact e0.bO.fresh (ky (x.above y c (kH h)))
 ·unfold start;show _=N.length;rw[aO,ay,iF];omega
theorem MG{CX:Ac}{k:Nat}{f:Addr}{name:Str}{params:Arguments}{dV kV doc pm bU ct oc:Value}{an od:Option Addr}{zu:Array (Option Value)}{sp:Sp}(lk:K.lookup f=some ⟨oc,od,.func (c9 name cD params body scope dV kV doc pm an bU ct),zu⟩)(om:dG K bU cD=true)(S:bu N ps scope)(len:∀ vs H Q E,sp vs H Q E->vs.length=ps.length)(jX:∀ (A:Around) (outer:List Env) (s:Shared) (H:Hp) (vs:List V) (Q:VK) (E:XK),eQ k (A.deeper (envOfC cD scope s.heap.objs.size f bU))->sp vs H Q E ->
   ∃ t,oC (cG CX P w K mg base N cD scope f bU A outer s H E) body t∧t { nx:=fun _ H'=>Q .cj H',rt:=Q } (start N vs) H) :
  kC P w K mg base CX (k+1) f (c9 name cD params body scope dV kV doc pm an bU ct) ps sp:=by
 refine⟨len,fun A outer s H args us vs Q E hr e0 hb r xW =>?_⟩;have hl:=len _ _ _ _ xW;have KX:K.In s.heap:=e0.mod.Lq.keeps fun b o e=>(e0.bs b o e).1;have lim:s.heap.NoLimit:=e0.mod.nolimit.keeps fun b o e=>(e0.bs b o e).1;have IA:∀ y∈ps.zip us,scope.names.lookup y.1=some .local∨(scope.names.lookup y.1=some .cell∧((cellsFrom (s.heap.objs.size+1) scope.names []).lookup y.1).isSome=true):=fun ⟨n,v⟩ hy=>by
  rcases S.par n (yp hy).1 with q | q
  ·exact .inl q
  ·exact .inr ⟨q,za _ _ _ (.inl q)⟩
 refine codeAny_call_function hr.depth (KX _ _ lk) rfl S.co S.gen rfl (PySem.W.codeRec_of KX om) (hb _ _ _ _ ?_);refine wpAny_newFunctionEnv_cells S.kind IA fun env he s1 x =>?_;subst he;refine⟨lim.keeps x.toInCall.keep,codeAny_func ?_⟩;obtain⟨t,ht,hq⟩:=jX A outer s H vs Q E (hr.deeper _) xW;have I:Inv (cG CX P w K mg base N cD scope f bU A outer s H E) [] (start N vs) H s1:=Wv S hr.hd e0 hl r x;refine wpAny_mono (ht [] s1 (start N vs) H _ I hq) (fun fl s' hs =>?_) fun e s' hs=>hs;have j9:∀ {bJ:St} {H':Hp}{v:V}{u:Value},Inv (cG CX P w K mg base N cD scope f bU A outer s H E) [] bJ H' s'->RelV v u->Q v H'->CE outer P w H s Q u s' :=
  fun {bJ H' v u} J rv q=>⟨v,H',J.os,J.bare,J.base,J.bO,rv,q⟩
 cases fl with
 | ret u =>
  obtain⟨v, bJ,H',J,rv,q⟩:=hs;exact j9 J rv q
 | next =>
  obtain⟨bJ,H',J,q⟩:=hs;exact j9 (v:=V.cj) (u:=gJ) J rfl q
 | brk =>
  obtain⟨_,_,_,q⟩:=hs;exact gi q
 | cont =>
  obtain⟨_,_,_,q⟩:=hs;exact gi q
section
variable {X:Cx}{x:Str}{p pos:Pos}{e:Expr}{es:List Expr}{t:TA}{id T:String}{r:List V->Hp->VK->Prop}
def tCB(r:List V->Hp->VK->Prop)(t:TA):TE:=fun σ H Q=>t σ H fun vs H1=>r vs H1 Q
theorem dz(hc:mQ X (.builtin id) r)(hg:Gl X x)(hm:X.mg x=none)(hv:bootBuiltins x=some (.builtin id))(ha:PA X (e :: es) t)(hn:x ≠ "__name__" := by decide)(rK:(x == ("__debug__" : Str))=false:=by decide)(he:starEach (e :: es) X.env=(false,eval e X.env) :: starEach es X.env:=by rfl)(j7:(backTo pos (starEach es X.env)).any (·.1)=false:=by rfl):PE X (.Call (.Name x p) (e :: es) [] pos) (tCB r t):=by
 intro ag s σ H Q I h;refine wpAny_Call_Name_kw (wO I hg hm hv ?_ hn rK);exact PyProof.Rows.callWith_builtin1 (cm (ha pos ag s σ H _ I h) fun us s1 ⟨vs,H1,I1,r1,q1⟩=>hc ag s1 σ H1 vs us Q I1 r1 q1) he j7
theorem fF(hc:mQ X (.type T) r)(hg:Gl X x)(hm:X.mg x=none)(hv:bootBuiltins x=some (.type T))(ha:PA X (e :: es) t)(hn:x ≠ "__name__" := by decide)(rK:(x == ("__debug__" : Str))=false:=by decide)(he:starEach (e :: es) X.env=(false,eval e X.env) :: starEach es X.env:=by rfl)(j7:(backTo pos (starEach es X.env)).any (·.1)=false:=by rfl):PE X (.Call (.Name x p) (e :: es) [] pos) (tCB r t):=by
 intro ag s σ H Q I h;refine wpAny_Call_Name_kw (wO I hg hm hv ?_ hn rK);exact gR (cm (ha pos ag s σ H _ I h) fun us s1 ⟨vs,H1,I1,r1,q1⟩=>hc ag s1 σ H1 vs us Q I1 r1 q1) he j7
end
end L2
namespace HT
open PySem PyProof.Rows
section
open PySem.SeqAt
open PySem.AutoSeq1 (wpAny_loadPart')
open PySem.MeetsSeq PySem.MeetsSeq2 PySem.MeetsSeq3
end
section
variable {prog:Program}{w:World}{A:Around}{E:Value->Shared->Prop}{s:Shared}
def jx(n d:Nat):Option Int->Nat
 | none=>d
 | some v=>if v < 0 then (v+(n:Int)).toNat else min v.toNat n
theorem Ga(n d:Nat):jx n d none=d:=rfl
theorem acA(n d k:Nat):jx n d (some (k:Int))=min k n:=by
 show (if (k:Int) < 0 then ((k:Int)+(n:Int)).toNat else min (k:Int).toNat n)=min k n;rw[if_neg (by omega),bP]
theorem NF(n d:Nat)(hd:d<=n)(o:Option Int):jx n d o<=n:=by
 cases o with
 | none=>exact hd
 | some v =>
  show (if v < 0 then (v+(n:Int)).toNat else min v.toNat n)<=n;by_cases hv:v < 0
  ·rw[if_pos hv];omega
  ·rw[if_neg hv];exact Nat.min_le_right _ _
end
end HT
namespace L2
open PySem PySem.Spec PyProof.Rows
variable{n j t':Nat}{i:Int}{ag:List (Addr × Obj)}{σ:St}{H:Hp}{s:Shared}{p:Addr}{xs:List V}{its its':List Value}{y x:V}{u v:Value}
abbrev TO:=St->Hp->(Option Int->Hp->Prop)->Prop
def PO(X:Cx)(e:Option Expr)(t:TO):Prop :=
 ∀ (ag:List (Addr × Obj)) (s:Shared) (σ : St) (H:Hp) (Q:Option Int->Hp->Prop),Inv X ag σ H s->t σ H Q ->
  wpAny (model X.prog X.w) X.A (evalPart e X.env) (fun u s'=>∃ o H',Inv X ag σ H' s'∧IsPart u o∧Q o H') X.xe s
def ack:TO:=fun _ H Q=>Q none H
inductive Sl(Q:Option Int->Hp->Prop)(x:V)(H1:Hp):Prop
 | mk:∀ i,(x = .int i)->(Q (some i) H1)->Sl Q x H1
def ah4(t:TE):TO:=fun σ H Q=>t σ H fun x H1=>Sl Q x H1
section
variable {X:Cx}{e:Expr}{te:TE}{lo hi:Option Expr}{tl th:TO}{pos p2:Pos}
theorem tw:PO X none ack:=by
 intro ag s σ H Q I h;rw[evalPart_none];exact wpAny_pure ⟨none,H,I,.none,h⟩
theorem tj(h:PE X e te):PO X (some e) (ah4 te):=by
 intro ag s σ H Q I hw;rw[evalPart_some];refine cm (h ag s σ H _ I hw) fun u s1 ⟨x,H1,I1,r1,q1⟩ =>?_;obtain⟨i,rfl,q⟩:=q1;obtain⟨t,rfl⟩:=r1;exact⟨some i,H1,I1,.int i t,q⟩
def SlR(X:Cx)(r:V->Option Int->Option Int->Hp->VK->Prop):Prop :=
 ∀ (ag:List (Addr × Obj)) (s:Shared) (σ : St) (H:Hp) (x:V) (v vl vu:Value) (lo hi:Option Int) (sl:Addr) (Q:VK),Inv X ag σ H s->RelV x v->s.heap.IsSliceOf sl vl vu .none->IsPart vl lo->IsPart vu hi->r x lo hi H Q ->
  ∃ T id,typeLookup (.type T) "__getitem__" = pure (some (.builtin id))∧s.TypeIs v T∧wpAny (model X.prog X.w) X.A (getItem v (.ref sl)) (EP X ag σ Q) X.xe s
def tSl(r:V->Option Int->Option Int->Hp->VK->Prop)(te:TE)(tl th:TO):TE:=fun σ H Q=>te σ H fun x H1=>tl σ H1 fun l H2=>th σ H2 fun u H3=>r x l u H3 Q
theorem qo{r:V->Option Int->Option Int->Hp->VK->Prop}(hr:SlR X r)(he:PE X e te)(hl:PO X lo tl)(hu:PO X hi th):PE X (.Subscript e (.Slice lo hi none p2) pos) (tSl r te tl th):=by
 intro ag s σ H Q I h;refine Subscript_ (cm (he ag s σ H _ I h) fun v s1 ⟨x,H1,I1,r1,q1⟩ =>?_);refine wpAny_Slice (cm (hl ag s1 σ H1 _ I1 q1) fun vl s2 ⟨l,H2,I2,pl,q2⟩=>cm (hu ag s2 σ H2 _ I2 q2) fun vu s3 ⟨u,H3,I3,pu,q3⟩ =>?_);rw[evalPart_none];refine wpAny_pure ?_;have I4:Inv X ag σ H3 { s3 with heap:=s3.heap.push { cls := .type "slice",data := .fields #[vl,vu,.none] } }:=I3.kept (t':=s3.toks) fun b ob q=>aH _ q;obtain⟨T,id,hT,ht,hg⟩:=hr ag { s3 with heap:=s3.heap.push { cls := .type "slice",data := .fields #[vl,vu,.none] } } σ H3 x v vl vu l u s3.heap.objs.size Q I4 r1 (Heap.IsSliceOf.new ..) pl pu q3;show wpAny (model X.prog X.w) X.A (subscriptTail e (.Slice lo hi none p2) v (.ref s3.heap.objs.size)) (EP X ag σ Q) X.xe { s3 with heap:=s3.heap.push { cls := .type "slice",data := .fields #[vl,vu,.none] } };exact tail_any (ops := [.ref s3.heap.objs.size,v]) ht hT hg (by with_unfolding_all rfl)
def DW(xs:List V)(lo hi:Option Int):List V:=(xs.drop (HT.jx xs.length 0 lo)).take (HT.jx xs.length xs.length hi - HT.jx xs.length 0 lo)
theorem QI(xs:List V)(lo hi:Option Int):(DW xs lo hi).length<=xs.length:=by
 unfold DW;rw[cf,fj];omega
end
def Ii(n:Nat)(i:Int):Option Nat:=if 0<=i then (if i < n then some i.toNat else none) else if -(n:Int)<=i then some (i+n).toNat else none
def vF{α : Type}(xs:List α)(i:Int):Option α := (Ii xs.length i).bind fun j=>xs[j]?
theorem Ry(h:Ii n i=some j):seqIndex? i n=some j∧j < n ∧ -(n:Int)<=i∧i < n:=by
 unfold Ii at h;by_cases h0:0<=i
 ·rw[if_pos h0]at h;by_cases h1:i < n
  ·rw[if_pos h1]at h;have e:i.toNat=j:=aP h;exact⟨by rw[seqIndex_of h0 h1,e],by omega,by omega,h1⟩
  ·rw[if_neg h1]at h;cases h
 ·rw[if_neg h0]at h;by_cases h1 : -(n:Int)<=i
  ·rw[if_pos h1]at h;have e:(i+n).toNat=j:=aP h;exact⟨by rw[seqIndex_neg (by omega) h1,e],by omega,h1,by omega⟩
  ·rw[if_neg h1]at h;cases h
theorem Kx{α : Type}{xs:List α}{v : α}(h:vF xs i=some v):∃ j,seqIndex? i xs.length=some j∧xs[j]? = some v∧j < xs.length ∧ -(xs.length:Int)<=i∧i < xs.length:=by
 unfold vF at h;cases e:Ii xs.length i with
 | none=>rw[e]at h;cases h
 | some j =>
  rw[e]at h;obtain⟨h1,h2,h3,h4⟩:=Ry e;exact⟨j,h1,h,h2,h3,h4⟩
theorem aB{α : Type}{xs:List α}{v : α}(h:xs[j]? = some v):vF xs (j:Int)=some v:=by
 have hj:j < xs.length:=(aj.mp h).1;have e:Ii xs.length (j:Int)=some j:=by
  unfold Ii;rw[if_pos (by omega),if_pos (by omega)];simp
 unfold vF;rw[e];exact h
def ady(b:Expr):Prop := ∀ o i,subscripted b false o i=operate [o,i] (getItem o i)
def IxR(X:Cx)(r:R2):Prop :=
 ∀ (value slice:Expr) (ag:List (Addr × Obj)) (s:Shared) (σ : St) (H:Hp) (x y:V) (v u:Value) (Q:VK),Inv X ag σ H s->RelV x v->RelV y u->r x y H Q ->
  subscripted slice false v u=operate [v,u] (getItem v u)->wpAny (model X.prog X.w) X.A (subscriptTail value slice v u) (EP X ag σ Q) X.xe s
def MtR(X:Cx)(id:String)(r:V->List V->Hp->VK->Prop):Prop :=
 ∀ (ag:List (Addr × Obj)) (s:Shared) (σ : St) (H:Hp) (x:V) (xs:List V) (v:Value) (us:List Value) (Q:VK),Inv X ag σ H s->RelV x v->Vals xs us->r x xs H Q ->
  wpAny (model X.prog X.w) X.A (call (.builtin id) (v :: us)) (EP X ag σ Q) X.xe s
section
variable {X:Cx}{a b:Expr}{ta tb:TE}{pos:Pos}
theorem aV{r:R2}(hr:IxR X r)(ha:PE X a ta)(hb:PE X b tb)(hs:ady b):PE X (.Subscript a b pos) (vv r ta tb):=by
 intro ag s σ H Q I h;exact Subscript_ (ZW ha hb I h fun v u s2 x y H2 I2 rx ry q=>hr a b ag s2 σ H2 x y v u Q I2 rx ry q (hs _ _))
inductive ahF(K:ai)(x y:V)(H:Hp)(Q:VK):Prop
 | mk (p:Addr) (xs:List V) (i:Int) (v:V) (hx:x = .ref p) (hy:y = .int i) (hS:bw K H p xs) (he:vF xs i=some v) (q:Q v H):ahF K x y H Q
def JR(K:ai):R2:=fun x y H Q=>ahF K x y H Q
inductive ahE(K:ai)(x y:V)(H:Hp)(Q:VK):Prop
 | mk (p:Addr) (xs:List V) (i:Int) (v:V) (hx:x = .ref p) (hy:y = .int i) (hS:aW K H p xs) (he:vF xs i=some v) (q:Q v H):ahE K x y H Q
def NN(K:ai):R2:=fun x y H Q=>ahE K x y H Q
inductive XR(x:V)(y:V)(H:Hp)(Q:VK):Prop
 | mk:∀ z i c,(x = .str z)->(y = .int i)->(z.length<=sizeLine)->(vF z.cps.toList i=some c)->(Q (.str ⟨#[c]⟩) H)->XR x y H Q
def alD:R2:=fun x y H Q=>XR x y H Q
theorem dy:IxR X (JR X.K):=by
 intro value slice ag s σ H x y v u Q I rx ry h hs;obtain⟨p,xs,i,z,rfl,rfl,hq,he,q⟩:=h;cases rx;obtain⟨t,rfl⟩:=ry;obtain⟨its,r,pl,hz⟩:=I.list hq;obtain⟨j,h1,h2,h3,h4,h5⟩:=Kx he;obtain⟨w,ew,lI⟩:=r.get h2;have hl:=r.length;have hn:=wN;have j9:EP X ag σ Q w s:=⟨z,H,I,lI,q⟩;by_cases h0:0<=i
 ·have hj:i.toNat=j:=by
   rw[seqIndex_of h0 h5]at h1;exact aP h1
  exact item_listR pl.isList h0 (by omega) (by rw[hj];simpa using ew) j9 hs
 ·have hj:(i+(its.toArray.size:Int)).toNat=j:=by
   rw[seqIndex_neg (by omega) h4]at h1;rw[aR, <- hl];exact aP h1
  exact subscriptTail_builtinR (x:=w) pl.isList.typeIs slot_list_getitem.lookup
   (wpAny_getItem_list_neg (Q:=fun r s'=>r=w∧EP X ag σ Q r s') pl.isList (by omega) (by rw[aR] <;> omega) (by omega) (by rw[hj];simpa using ew) ⟨O,j9⟩) hs
theorem aY:IxR X (NN X.K):=by
 intro value slice ag s σ H x y v u Q I rx ry h hs;obtain⟨p,xs,i,z,rfl,rfl,hq,he,q⟩:=h;cases rx;obtain⟨t,rfl⟩:=ry;obtain⟨its,r,pl,hz⟩:=I.tuple hq;obtain⟨j,h1,h2,h3,h4,h5⟩:=Kx he;obtain⟨w,ew,lI⟩:=r.get h2;have hl:=r.length;have hn:=wN;have j9:EP X ag σ Q w s:=⟨z,H,I,lI,q⟩;exact subscriptTail_builtinR (x:=w) pl.typeIs slot_tuple_getitem.lookup
  (getItem_tuple (j:=j) (Q:=fun r s'=>r=w∧EP X ag σ Q r s') pl (by omega) (by omega) (by rw[aR, <- hl];exact h1) (by simpa using ew) ⟨O,j9⟩) hs
theorem afc:IxR X alD:=by
 intro value slice ag s σ H x y v u Q I rx ry h hs;obtain⟨z,i,c,rfl,rfl,hz,he,q⟩:=h;obtain⟨t,rfl⟩:=rx;obtain⟨t',rfl⟩:=ry;obtain⟨j,h1,h2,h3,h4,h5⟩:=Kx he;have hl:z.cps.toList.length=z.length:=by simp[Ja]
 rw[hl]at h1 h4 h5;have hn:=wN;exact tail_any (typeIs_str s z t) slot_str_getitem.lookup (getItem_str (c:=c) (by
  have e1:decide (i < -(2 ^ 63:Int))=false:=decide_eq_false (by omega);have e2:decide (i ≥ 2 ^ 63)=false:=decide_eq_false (by omega);rw[e1,e2,Bool.or_false]) (by rw[h1];simpa using h2) ⟨.str ⟨#[c]⟩,H,I.tok _,⟨_,O⟩,q⟩) hs
theorem TN(its:List Value)(n j:Nat)(u:Value):iS (·.setIfInBounds j u) { cls := .type "list",data := .seq its.toArray n }={ cls := .type "list",data := .seq (its.set j u).toArray n }:=by
 simp[iS]
theorem Inv.lst(I:Inv X ag σ H s)(h:H p=some (.lst xs)) :
  ∃ (its:List Value) (n:Nat),Vals xs its∧s.heap.get? p=some { cls := .type "list",data := .seq its.toArray n }∧xs.length<=sizeLine:=by
 obtain⟨z,its,n,r,e⟩:=I.bO p _ h;exact⟨its,n,r,e,z⟩
theorem Inv.aeL{ys:List V}{n':Nat}{f:Obj->Obj}(I:Inv X ag σ H s)(h:H p=some (.lst xs))(ho:s.heap.get? p=some { cls := .type "list",data := .seq its.toArray n })(hf:f { cls := .type "list",data := .seq its.toArray n }={ cls := .type "list",data := .seq its'.toArray n' })(r:Vals ys its')(hz:ys.length<=sizeLine)(t:Nat) :
  Inv X ag σ (aC H p (.lst ys)) { s with heap:=s.heap.update p f,toks:=t }:=by
 have e:(s.heap.update p f).get? p=some { cls := .type "list",data := .seq its'.toArray n' }:=by
  rw[jI f ho (by rw[hf] <;> rfl),hf]
 refine I.write (x:=p) (e:=p) (by rw[h];trivial) (.inl rfl) (fun b u hb q=>(fV _ _ (bR hb)).trans q) ⟨_,e⟩ ?_;exact⟨hz,its',n',r,e⟩
inductive Ss(o:V)(i:V)(v:V)(H:Hp)(Q:Hp->Prop):Prop
 | mk:∀ p xs k j,(o = .ref p)->(i = .int k)->(H p=some (.lst xs))->(Ii xs.length k=some j)->(Q (aC H p (.lst (xs.set j v))))->Ss o i v H Q
def aif:V->V->V->Hp->(Hp->Prop)->Prop:=fun o i v H Q=>Ss o i v H Q
theorem Nn:ahH X aif:=by
 intro ag s σ H o i v ov iv u Q I ro ri rv h;obtain⟨p,xs,k,j,rfl,rfl,hp,hj,q⟩:=h;cases ro;obtain⟨t,rfl⟩:=ri;obtain⟨its,n,r,ho,hz⟩:=I.lst hp;obtain⟨h1,h2,h3,h4⟩:=Ry hj;have hl:=r.length;have hn:=wN;have I':Inv X ag σ (aC H p (.lst (xs.set j v))) { s with heap:=s.heap.update p (iS (·.setIfInBounds j u)) } :=
  I.aeL hp ho (TN its n j u) (r.set rv j) (by rw[List.length_set];exact hz) s.toks
 by_cases h0:0<=k
 ·have hk:k.toNat=j:=by
   rw[seqIndex_of h0 h4]at h1;exact aP h1
  exact PySem.W.ki_setAt ho h0 (by omega) (by rw[aR, <- hl];exact h4) (by rw[hk];exact⟨_,I',q⟩)
 ·have hk:(k+(its.toArray.size:Int)).toNat=j:=by
   rw[seqIndex_neg (by omega) h3]at h1;rw[aR, <- hl];exact aP h1
  exact PySem.W.ki_setBack ho (by omega) (by rw[aR, <- hl];exact h3) (by omega) (by rw[hk];exact⟨_,I',q⟩)
theorem Ce(lo hi:Option Int)(n:Nat):(sliceBounds lo hi none n).1=((HT.jx n 0 lo:Nat):Int)∧(sliceBounds lo hi none n).2.1=((HT.jx n n hi:Nat):Int)∧(sliceBounds lo hi none n).2.2=1:=by
 refine⟨?_,?_,O⟩
 ·cases lo with
  | none=>simp[sliceBounds,HT.jx]
  | some i =>
   simp only[sliceBounds,HT.jx,G4,show (1:Int) > 0 by decide,if_true];by_cases h:i < 0
   ·simp only[h,if_true] <;> omega
   ·simp only[h,if_false] <;> omega
 ·cases hi with
  | none=>simp[sliceBounds,HT.jx]
  | some i =>
   simp only[sliceBounds,HT.jx,G4,show (1:Int) > 0 by decide,if_true];by_cases h:i < 0
   ·simp only[h,if_true] <;> omega
   ·simp only[h,if_false] <;> omega
theorem Mn(its:List Value)(lo hi:Option Int):slicePick its.toArray lo hi none=((its.drop (HT.jx its.length 0 lo)).take (HT.jx its.length its.length hi - HT.jx its.length 0 lo)).toArray:=by
 obtain⟨h1,h2,h3⟩:=Ce lo hi its.toArray.size;unfold slicePick;rw[h1,h2,h3];simp only[sliceRange_one,pick_run,aR] <;> rfl
inductive XN(K:ai)(x:V)(lo:Option Int)(hi:Option Int)(H:Hp)(Q:VK):Prop
 | mk:∀ a xs,(x = .ref a)->(bw K H a xs)->(∀ p,H p=none->Q (.ref p) (aC H p (.lst (DW xs lo hi))))->XN K x lo hi H Q
def alz(K:ai):V->Option Int->Option Int->Hp->VK->Prop:=fun x lo hi H Q=>XN K x lo hi H Q
theorem EK:SlR X (alz X.K):=by
 intro ag s σ H x v vl vu lo hi sl Q I rx hs pl pu h;obtain⟨a,xs,rfl,hx,q⟩:=h;cases rx;obtain⟨its,r,ht,hz⟩:=I.list hx;have eO:=r.length;refine⟨"list",_,slot_list_getitem.lookup,ht.isList.typeIs,?_⟩;refine wpAny_getItem_list_slice ht.isList hs pl pu .none (by simp) ?_ (by rw[aR] <;> omega);rw[Mn, <- eO];refine⟨.ref s.heap.objs.size,_,I.laid (t':=s.toks) (o := .lst (DW xs lo hi)) (fun b ob q=>aH _ q) (aw _) ?_,O,q _ (I.bO.fresh (aw _))⟩;exact⟨bp (QI xs lo hi) hz,_,0,(r.drop (HT.jx xs.length 0 lo)).take (HT.jx xs.length xs.length hi - HT.jx xs.length 0 lo),bz _ rfl⟩
def oY:V->Bool
 | .cj=>true
 | .bl _=>true
 | .int _=>true
 | .str _=>true
 | _=>false
def BI:V->V->Bool
 | .cj,.cj=>true
 | .bl a,.bl b=>a == b
 | .bl a,.int b=>(if a then 1 else 0) == b
 | .int a,.bl b=>a == (if b then 1 else 0)
 | .int a,.int b=>a == b
 | .str a,.str b=>a == b
 | _,_=>false
theorem W6{A:Around}(ry:RelV y u)(rx:RelV x v)(fy:oY y=true)(fx:oY x=true):d8 A s u v (BI y x):=by
 cases y with
 | cj =>
  cases ry;cases x with
  | cj=>cases rx;exact d8.same _
  | bl b=>cases rx;exact d8.none_bool b
  | int b=>obtain⟨t,rfl⟩:=rx;exact d8.none_int b t
  | str b=>obtain⟨t,rfl⟩:=rx;exact d8.none_str b t
  | _=>exact absurd (show false=true from fx) bB
 | bl a =>
  cases ry;cases x with
  | cj=>cases rx;exact d8.bool_none a
  | bl b=>cases rx;exact d8.bool_bool a b
  | int b=>obtain⟨t,rfl⟩:=rx;exact d8.bool_int a b t
  | str b=>obtain⟨t,rfl⟩:=rx;exact d8.bool_str a b t
  | _=>exact absurd (show false=true from fx) bB
 | int a =>
  obtain⟨t',rfl⟩:=ry;cases x with
  | cj=>cases rx;exact d8.int_none a t'
  | bl b=>cases rx;exact d8.int_bool a t' b
  | int b=>obtain⟨t,rfl⟩:=rx;exact d8.int_int a t' b t
  | str b=>obtain⟨t,rfl⟩:=rx;exact Ec a t' b t
  | _=>exact absurd (show false=true from fx) bB
 | str a =>
  obtain⟨t',rfl⟩:=ry;cases x with
  | cj=>cases rx;exact d8.str_none a t'
  | bl b=>cases rx;exact d8.str_bool a t' b
  | int b=>obtain⟨t,rfl⟩:=rx;exact Eb a t' b t
  | str b=>obtain⟨t,rfl⟩:=rx;exact d8.str_str a t' b t
  | _=>exact absurd (show false=true from fx) bB
 | _=>exact absurd (show false=true from fy) bB
def IP(x:V)(u:Value):Bool:=match u with
 | .none=>BI .cj x
 | .bool b=>BI (.bl b) x
 | .int i _=>BI (.int i) x
 | .str z _=>BI (.str z) x
 | _=>false
theorem W5(r:RelV y u)(f:oY y=true):IP x u=BI y x:=by
 cases y with
 | cj=>cases r;rfl
 | bl b=>cases r;rfl
 | int i=>obtain⟨t,rfl⟩:=r;rfl
 | str z=>obtain⟨t,rfl⟩:=r;rfl
 | _=>exact absurd (show false=true from f) bB
theorem Kz{x:V}:∀ {xs:List V}{us:List Value},Vals xs us->xs.all oY=true->us.any (IP x)=xs.any fun y=>BI y x
 | _,_,.nil,_=>rfl
 | y :: xs,u :: us,.cons r t,f=>by
  rw[List.all_cons,dU]at f;rw[gE,gE,W5 r f.1,Kz t f.2]
theorem GD{A:Around}{s:Shared}{x:V}{v:Value}(rx:RelV x v)(fx:oY x=true):∀ {xs:List V}{us:List Value},Vals xs us->xs.all oY=true->∀ u∈us,d8 A s u v (IP x u)
 | _,_,.nil,_=>fun u hu=>by cases hu
 | y :: xs,u :: us,.cons r t,f=>fun u' hu=>by
  rw[List.all_cons,dU]at f;rcases bC.mp hu with rfl | hu
  ·rw[W5 r f.1];exact W6 r rx f.1 fx
  ·exact GD rx fx t f.2 u' hu
def inV(x:V)(xs:List V):Bool:=xs.any fun y=>BI y x
inductive ab6(K:ai)(neg:Bool)(x:V)(y:V)(H:Hp)(Q:VK):Prop
 | mk:∀ p xs,(y = .ref p)->((bw K H p xs∨aW K H p xs))->(oY x=true)->(xs.all oY=true)->(Q (.bl (if neg then !inV x xs else inV x xs)) H)->ab6 K neg x y H Q
def rIn(K:ai)(neg:Bool):R2:=fun x y H Q=>ab6 K neg x y H Q
theorem Dg:lN X (compareOp .NotIn) (rIn X.K true):=by
 intro ag s σ H x y v u Q I rx ry h;obtain⟨p,xs,rfl,hq,fx,fs,q⟩:=h;cases ry;rcases hq with hq | hq
 ·obtain⟨its,r,pl,hz⟩:=I.list hq;refine SeqAt.notIn_listAt (IP x) pl.isList (fun w hw=>GD rx fx r fs w (by simpa using hw)) ⟨.bl _,H,I,O,?_⟩;rw[show its.toArray.any (IP x)=its.any (IP x) by simp,Kz r fs];exact q
 ·obtain⟨its,r,pl,hz⟩:=I.tuple hq;refine SeqAt.notIn_tupleAt (IP x) pl (fun w hw=>GD rx fx r fs w (by simpa using hw)) ⟨.bl _,H,I,O,?_⟩;rw[show its.toArray.any (IP x)=its.any (IP x) by simp,Kz r fs];exact q
inductive zT(x:V)(y:V)(H:Hp)(Q:VK):Prop
 | mk:∀ i j,(x = .str i)->(y = .str j)->(Q (.bl (!(!(pH j i 0 j.length 1).isEmpty))) H)->zT x y H Q
theorem NV:lN X (compareOp .NotIn) (fun x y H Q=>zT x y H Q):=by
 intro ag s σ H x y v u Q I rx ry h;obtain⟨i,j,rfl,rfl,q⟩:=h;obtain⟨t,rfl⟩:=rx;obtain⟨t',rfl⟩:=ry;exact notIn_str ⟨.bl _,H,I,O,q⟩
inductive ab7(K:ai)(xs:List V)(H:Hp)(Q:VK):Prop
 | mk:∀ p ys,(xs = [.ref p])->(bw K H p ys∨aW K H p ys)->(Q (.int ys.length) H)->ab7 K xs H Q
theorem cX:mQ X (.builtin "len") (fun xs H Q=>ab7 X.K xs H Q):=by
 intro ag s σ H xs us Q I r h;obtain⟨p,ys,rfl,hq,q⟩:=h;obtain⟨u,rfl,rx⟩:=vals1 r;cases rx;have hn:=wN;rcases hq with hq | hq
 ·obtain⟨its,r',pl,hz⟩:=I.list hq;have eO:=r'.length;exact Calls.call_len_list pl.isList (by simp only[aR] <;> omega) ⟨.int ys.length,H,I.tok _,⟨s.toks+1,by rw[aR,eO]⟩,q⟩
 ·obtain⟨its,r',pl,hz⟩:=I.tuple hq;have eO:=r'.length;exact len_tuple pl (by simp only[aR] <;> omega) ⟨.int ys.length,H,I.tok _,⟨s.toks+1,by rw[aR,eO]⟩,q⟩
inductive zY(xs:List V)(H:Hp)(Q:VK):Prop
 | mk:∀ z,(xs = [.str z])->(z.length<=sizeLine)->(Q (.int z.length) H)->zY xs H Q
theorem D0:mQ X (.builtin "len") (fun xs H Q=>zY xs H Q):=by
 intro ag s σ H xs us Q I r h;obtain⟨z,rfl,hz,q⟩:=h;obtain⟨u,rfl,t,rfl⟩:=vals1 r;have hn:=wN;exact len_str (by omega) ⟨.int z.length,H,I.tok _,⟨_,O⟩,q⟩
inductive zX(kK:ai)(xs:List V)(H:Hp)(Q:VK):Prop
 | mk:∀ p ys,(xs = [.ref p])->((bw kK H p ys∨aW kK H p ys))->(∀ l,H l=none->Q (.ref l) (aC H l (.lst ys)))->zX kK xs H Q
theorem kr:mQ X (.type "list") (fun xs H Q=>zX X.K xs H Q):=by
 intro ag s σ H xs us Q I r h;obtain⟨p,ys,rfl,hq,q⟩:=h;obtain⟨u,rfl,rx⟩:=vals1 r;cases rx;have j9:∀ (its:List Value),Vals ys its->ys.length<=sizeLine->∀ (h':Heap) (c':Nat),(∀ b o',s.heap.get? b=some o'->h'.get? b=some o') ->
   h'.get? s.heap.objs.size=some { cls := .type "list",dict:=none,data := .seq its.toArray c',slots := #[] }->EP X ag σ Q (.ref s.heap.objs.size) { s with heap:=h' }:=fun its r' hz h' c' kp e =>
  ⟨.ref s.heap.objs.size,_,I.laid (t':=s.toks) kp (aw _) (show eV X.prog X.w _ h' _ (.lst ys) from ⟨hz,its,c',r',e⟩),O,q _ (I.bO.fresh (aw _))⟩
 rcases hq with hq | hq
 ·obtain⟨its,r',pl,hz⟩:=I.list hq;have eO:=r'.length;obtain⟨o,ho,hc,n,hd⟩:=pl.isList;exact call_list_seq p (.inl rfl) ho hc hd (fun h' c' kp e=>j9 its r' hz h' c' kp e) (by simp only[aR] <;> omega)
 ·obtain⟨its,r',pl,hz⟩:=I.tuple hq;have eO:=r'.length;obtain⟨o,ho,hc,n,hd⟩:=pl;exact call_list_seq p (.inr rfl) ho hc hd (fun h' c' kp e=>j9 its r' hz h' c' kp e) (by simp only[aR] <;> omega)
inductive yr(kK:ai)(xs:List V)(H:Hp)(Q:VK):Prop
 | mk:∀ p ys,(xs = [.ref p])->(((bw kK H p ys∧∀ l,H l=none->Q (.ref l) (aC H l (.tup ys)))∨(aW kK H p ys∧Q (.ref p) H)))->yr kK xs H Q
theorem m6:mQ X (.type "tuple") (fun xs H Q=>yr X.K xs H Q):=by
 intro ag s σ H xs us Q I r h;obtain⟨p,ys,rfl,h⟩:=h;obtain⟨u,rfl,rx⟩:=vals1 r;cases rx;rcases h with⟨hq,q⟩ | ⟨hq,q⟩
 ·obtain⟨its,r',pl,hz⟩:=I.list hq;have eO:=r'.length;refine call_tuple_list pl.isList (fun h' kp =>?_) (by simp only[aR] <;> omega);have I1:Inv X ag σ H { s with heap:=h' }:=I.kept (t':=s.toks) kp;have I2:Inv X ag σ (aC H h'.objs.size (.tup ys)) { s with heap:=h'.push { cls := .type "tuple",data := .seq its.toArray } } :=
   I1.laid (t':=s.toks) (fun b o e=>aH _ e) (aw _) (show eV X.prog X.w _ _ _ (.tup ys) from ⟨hz,its,r',zZ.new _ _⟩)
  exact⟨.ref h'.objs.size,_,I2,O,q _ (I1.bO.fresh (aw _))⟩
 ·obtain⟨its,r',pl,hz⟩:=I.tuple hq;exact call_tuple_same pl ⟨.ref p,H,I,O,q⟩
def tyV(K:ai)(T:String)(x:V)(H:Hp):Prop:=match x with
 | .str _=>T = "str"
 | .int _=>T = "int"
 | .ref p=>(T = "list" ∧ ∃ xs,bw K H p xs)∨(T = "tuple" ∧ ((∃ o,K.lookup p=some o∧o.cls = .type "tuple" ∧ o.dict=none)∨∃ xs,H p=some (.tup xs))) ∨
   (T = "dict" ∧ ((∃ kvs,H p=some (.dK kvs))∨∃ kvs,H p=some (.dT kvs)))∨(T = "set" ∧ ∃ S n,H p=some (.set S n))
 | _=>False
theorem adN{T:String}(I:Inv X ag σ H s)(r:RelV x v)(ty:tyV X.K T x H) :
  s.TypeIs v T∧∀ a,v = .ref a->∃ ob,s.heap.get? a=some ob∧ob.dict=none:=by
 cases x with
 | str z =>
  obtain⟨t,rfl⟩:=r;cases (show T = "str" from ty);exact⟨typeIs_str s z t,fun _ e=>nomatch e⟩
 | int i =>
  obtain⟨t,rfl⟩:=r;cases (show T = "int" from ty);exact⟨typeIs_int s i t,fun _ e=>nomatch e⟩
 | ref p =>
  cases r;rcases ty with⟨rfl,xs,hq⟩ | ⟨rfl,⟨o,hk,hc,hd⟩ | ⟨xs,hk⟩⟩ | ⟨rfl,hk⟩ | ⟨rfl,S,n,hk⟩
  ·obtain⟨its,_,pl,_⟩:=I.list hq;refine⟨pl.isList.typeIs,fun a e =>?_⟩;cases e;obtain⟨o,n,e,c,hd,_⟩:=pl;exact⟨o,e,hd⟩
  ·refine⟨⟨o,I.sv p o hk,hc⟩,fun a e =>?_⟩;cases e;exact⟨o,I.sv _ o hk,hd⟩
  ·obtain⟨_,_,_,o,e,c,n,d,hd⟩:=I.bO p _ hk;refine⟨⟨o,e,c⟩,fun a e2 =>?_⟩;cases e2;exact⟨o,e,hd⟩
  ·have z:∃ o,s.heap.get? p=some o∧o.ExactDict:=by
    rcases hk with⟨kvs,hk⟩ | ⟨kvs,hk⟩
    ·obtain⟨_,_,_,_,o,_,_,e,ex,_⟩:=I.bO p _ hk;exact⟨o,e,ex⟩
    ·obtain⟨_,_,_,_,o,_,_,e,ex,_⟩:=I.bO p _ hk;exact⟨o,e,ex⟩
   obtain⟨o,e,ex⟩:=z;refine⟨⟨o,e,ex.1⟩,fun a e2 =>?_⟩;cases e2;exact⟨o,e,ex.2.1⟩
  ·obtain⟨o,_,_,_,e,ex,_⟩:=I.bO p _ hk;refine⟨⟨o,e,ex.1⟩,fun a e2 =>?_⟩;cases e2;exact⟨o,e,ex.2.1⟩
 | _=>exact gi ty
def tBM(K:ai)(T:String)(r:V->List V->Hp->VK->Prop)(to:TE)(t:TA):TE:=fun σ H Q=>to σ H fun x H1=>tyV K T x H1∧t σ H1 fun xs H2=>r x xs H2 Q
variable {o e:Expr}{es:List Expr}{to:TE}{t:TA}{name:Str}{eP fN:Pos}{T id:String}{r:V->List V->Hp->VK->Prop}
theorem jV(pa:PlainAttrs T)(slot:Slot T name id)(hty:typeOf (.builtin id)=pure (.type "method_descriptor"))(hm:MtR X id r)(ho:PE X o to)(ha:PA X (e :: es) t)(Ue:attributeBase o name X.env (eval o X.env)=eval o X.env:=by rfl)(amH:((backTo fN (starEach (e :: es) X.env)).all (fun x => !x.1) && (backToKw fN (keywordEach [] X.env)).all (fun x=>x.1.isSome)
   && decide ((e :: es).length+([]:List Keyword).length+(if ([]:List Keyword).isEmpty then 0 else 1) < 30))=true:=by rfl)(T9:(eP.endLine == fN.line)=true:=by rfl)(hs:starEach (e :: es) X.env=(false,eval e X.env) :: starEach es X.env:=by rfl)(OE:(backTo fN (starEach es X.env)).any (·.1)=false:=by rfl) :
  PE X (.Call (.Attribute o name eP) (e :: es) [] fN) (tBM X.K T r to t):=by
 intro ag s σ H Q I h;refine wpAny_Call_method_late Ue amH T9 rfl (cm (ho ag s σ H _ I h) fun v s1 ⟨x,H1,I1,r1,ty,q1⟩ =>?_);obtain⟨h1,h2⟩:=adN I1 r1 ty;refine⟨T,id,pa,slot,hty,h1,h2,?_⟩;have hA:=ha fN ag s1 σ H1 _ I1 q1;rw[hs]at hA ⊢;refine ie (by show (false || (backTo fN (starEach es X.env)).any (·.1))=false;rw[OE] <;> rfl) (iX ?_);exact cm hA fun us s2 ⟨vs,H2,I2,r2,q2⟩=>hm ag s2 σ H2 x vs v us Q I2 r1 r2 q2
/- xs.append(e),list.index on a YZ tuple .. are MtR arh of 06m -/
end
def MtM(X:Cx)(id:String)(r:V->List V->Hp->VK->Prop):Prop :=
 ∀ (ag:List (Addr × Obj)) (s:Shared) (σ : St) (H:Hp) (x:V) (xs:List V) (v:Value) (us:List Value) (Q:VK),Inv X ag σ H s->RelV x v->Vals xs us->r x xs H Q ->
  wpAny (model X.prog X.w) X.A (call (.builtin id) (v :: us)) (EP X ag σ Q) X.xe s
theorem Vals.one:∀ {x:V}{us:List Value},Vals [x] us->∃ u,us = [u]∧RelV x u
 | _,_,.cons r .nil=>⟨_,O,r⟩
theorem Vals.rep{us:List Value}(h:Vals xs us):∀ k:Nat,Vals (bq k xs).flatten (bq k us).flatten
 | 0 => .nil
 | k+1=>by
  rw[jk,jk,jf,jf];exact Vals.append h (Vals.rep h k)
theorem foldl_rep(its:List Value):∀ (k:Nat) (acc:List Value),
  Jn (fun x1 x2=>x1 ++ x2) acc.toArray (bq k its.toArray)=(acc ++ (bq k its).flatten).toArray
 | 0,acc=>by simp
 | k+1,acc=>by
  have e:acc.toArray ++ its.toArray=(acc ++ its).toArray:=by simp
  have e2:(acc ++ its) ++ (bq k its).flatten=acc ++ (bq (k+1) its).flatten:=by
   rw[jk,jf,a7]
  rw[<- e2, <- foldl_rep its k (acc ++ its), <- e,jk,se]
section
variable {X:Cx}{ag:List (Addr × Obj)}{σ : St}{H:Hp}{s:Shared}{l b:Addr}{xs ys zs:List V}
theorem Inv.aeM{f:Array Value->Array Value}(I:Inv X ag σ H s)(hH:H l=some (.lst xs))(e:s.heap.get? l=some { cls := .type "list",data := .seq its.toArray n })(hf:f its.toArray=its'.toArray)(hv:Vals ys its')(hz:ys.length<=sizeLine) :
  Inv X ag σ (aC H l (.lst ys)) { s with heap:=s.heap.update l (iS f),toks:=t' }:=by
 have q:=PySem.IsL.update e f;rw[hf]at q;refine I.write (x:=l) (e:=l) (by rw[hH];exact trivial) (.inl rfl) (fun b' u hb hu=>(fV s.heap (iS f) (bR hb)).trans hu) ⟨_,q⟩ ?_;exact⟨hz,its',_,hv,q⟩
theorem Inv.Y5(I:Inv X ag σ H s)(hv:Vals ys its)(hz:ys.length<=sizeLine) :
  Inv X ag σ (aC H s.heap.objs.size (.lst ys)) { s with heap:=s.heap.push { cls := .type "list",data := .seq its.toArray },toks:=t' } :=
 I.laid (fun _ _ q=>aH _ q) (aw _) ⟨hz,its,0,hv,bz _ rfl⟩
theorem Inv.fresh(I:Inv X ag σ H s):H s.heap.objs.size=none:=I.bO.fresh (aw _)
theorem Inv.TU(I:Inv X ag σ H s)(hH:H l=some (.lst xs)):xs.length<=sizeLine∧∃ (its:List Value) (n:Nat),Vals xs its∧xs.length=its.length∧s.heap.get? l=some { cls := .type "list",data := .seq its.toArray n }:=by
 obtain⟨z,its,n,r,e⟩:=I.bO l _ hH;exact⟨z,its,n,r,r.length,e⟩
theorem Ob(h:n<=sizeLine):kF n=false:=by
 unfold kF;exact decide_eq_false (by omega)
end
section
variable {X:Cx}
inductive L8(x:V)(vs:List V)(H:Hp)(Q:VK):Prop
 | mk:∀ l xs y,(x = .ref l)->(vs = [y])->(H l=some (.lst xs))->(xs.length < sizeLine)->(Q .cj (aC H l (.lst (xs ++ [y]))))->L8 x vs H Q
def acD:V->List V->Hp->VK->Prop:=fun x vs H Q=>L8 x vs H Q
theorem fX:MtM X "list.append" acD:=by
 intro ag s σ H x vs v us Q I rx rv h;obtain⟨l,xs,y,rfl,rfl,hH,hz,q⟩:=h;cases rx;obtain⟨u,rfl,ru⟩:=rv.one;obtain⟨z,its,n,r,hl,e⟩:=I.TU hH;refine call_meets F.slot_list_append ⟨_,e,O⟩ F.entry_list_append (F.args_list_append_2 _ _) (PySem.list_append l its.toArray n u (by rw[aR];omega)) ⟨e,?_⟩;refine⟨.cj,_,I.aeM (its':=its ++ [u]) hH e (by simp) (r.append (.cons ru .nil)) ?_,O,q⟩;rw[aO,gn];omega
inductive L7(x:V)(vs:List V)(H:Hp)(Q:VK):Prop
 | mk:∀ l b xs zs,(x = .ref l)->(vs = [.ref b])->(H l=some (.lst xs))->(H b=some (.lst zs))->(xs.length+zs.length<=sizeLine)->(Q .cj (aC H l (.lst (xs ++ zs))))->L7 x vs H Q
def acC:V->List V->Hp->VK->Prop:=fun x vs H Q=>L7 x vs H Q
theorem uI:MtM X "list.extend" acC:=by
 intro ag s σ H x vs v us Q I rx rv h;obtain⟨l,b,xs,zs,rfl,rfl,hH,hB,hz,q⟩:=h;cases rx;obtain⟨u,rfl,ru⟩:=rv.one;cases ru;obtain⟨z,its,n,r,hl,e⟩:=I.TU hH;obtain⟨z2,GH,n2,r2,qN,e2⟩:=I.TU hB;have hsz:its.toArray.size+GH.toArray.size<=sizeLine:=by rw[aR,aR];omega
 have T8:¬ (!its.toArray.isEmpty && kF (its.toArray.size+GH.toArray.size))=true:=by
  rw[Ob hsz,Bool.and_false];exact bB
 refine call_meets F.slot_list_extend ⟨_,e,O⟩ F.entry_list_extend (F.args_list_extend_2 _ _)
  (AutoSeq1.list_extend_list_list_0 l its.toArray n b GH.toArray n2 T8 (by rw[aR];omega) (by omega)) ⟨e,e2,?_⟩
 refine⟨.cj,_,I.aeM (its':=its ++ GH) hH e (by simp) (r.append r2) ?_,O,q⟩;rw[aO];omega
inductive XO(x:V)(y:V)(H:Hp)(Q:VK):Prop
 | mk:∀ l k xs,(x = .ref l)->(y = .int k)->(H l=some (.lst xs))->(-(2 ^ 63)<=k)->(k < 2 ^ 63)->(xs.length * k.toNat<=sizeLine)->(∀ p,H p=none->Q (.ref p) (aC H p (.lst (bq k.toNat xs).flatten)))->XO x y H Q
def alA:R2:=fun x y H Q=>XO x y H Q
theorem ac9{α : Type}(xs:List α)(k:Nat):(bq k xs).flatten.length=k * xs.length:=by
 induction k with
 | zero=>simp
 | succ k ih=>rw[jk,jf,aO,ih,Nat.succ_mul,Nat.add_comm]
theorem aeu:lN X (binaryOp .Mult) alA:=by
 intro ag s σ H x y v u Q I rx ry h;obtain⟨l,k,xs,rfl,rfl,hH,h1,h2,hz,q⟩:=h;cases rx;obtain⟨t,rfl⟩:=ry;obtain⟨z,its,n,r,hl,e⟩:=I.TU hH;have eO:its.toArray.size * k.toNat<=sizeLine:=by rw[aR, <- hl];exact hz
 have amP:¬ its.toArray.size * k.toNat > (2 ^ 63 - 1) / 8:=by
  have:(sizeLine:Nat)<=(2 ^ 63 - 1) / 8:=by decide
  omega
 have amG:¬ (!Builtin.List.listFitsIndex k)=true:=by
  rw[fitsIndex_both h1 h2];exact bB
 have T8:¬ kF (its.toArray.size * k.toNat)=true:=by
  rw[Ob eO];exact bB
 have GI:Jn (fun x1 x2=>x1 ++ x2) #[] (bq (if its.toArray.isEmpty=true then 0 else k.toNat) its.toArray)=(bq k.toNat its).flatten.toArray:=by
  have f0:∀ m:Nat,Jn (fun x1 x2=>x1 ++ x2) #[] (bq m its.toArray)=(bq m its).flatten.toArray:=fun m=>by
   have:=foldl_rep its m [];rw[gh]at this;exact this
  rw[f0];cases its with
  | nil=>simp
  | cons a r'=>rw[if_neg (by simp)]
 refine wpAny_binaryOp_repeat_ref (T := "list") (U := "int") (by decide) ⟨_,e,O⟩ (fun s'=>typeIs_int s' k t) noFill_list_mul F.fills_int_mul F.slot_int_rmul repeat_list F.slot_int_index.lookup
  (call_meets F.slot_int_rmul (typeIs_int s k t) F.entry_int_rmul (F.args_int_rmul_2 _ _) (int___rmul___int_list k t l its.toArray n)
   ⟨e,O,⟨_,e,O⟩,call_meets F.slot_list_mul ⟨_,e,O⟩ F.entry_list_mul (F.args_list_mul_2 _ _) (AutoListH.list___mul___list_int_3 l its.toArray n k t amG amP T8) ⟨e,?_⟩⟩)
 rw[GI];exact⟨.ref _,_,I.Y5 (t':=s.toks) (r.rep k.toNat) (by rw[ac9,Nat.mul_comm];exact hz),O,q _ I.fresh⟩
end
section
variable {prog:Program}{w:World}{A:Around}{E:Value->Shared->Prop}{s:Shared}
end
section
variable {X:Cx}
end
end L2
namespace Att
open PySem PySem.W PySem.Calls PyProof.Rows
variable{P:Params}{h:Heap}
theorem Ik:∀ (ns:List Int) (vs:List Value),WellAll P h vs (ns.map yi)->IntsAre vs ns:=by
 intro ns
 induction ns with
 | nil =>
  intro vs w;rw[fS]at w;cases w;exact .nil
 | cons n ns ih =>
  intro vs w;rw[aS]at w;cases w with
  | cons a b =>
   cases a;exact .cons _ _ (ih _ b)
theorem Vv{l:OpenLaw}{n:Nat}(hn:l.most=some n){args:List WData}{Yb:List Value}(T6:l.row.toRowW.claim.pre args=true)(hwl:WellAll P h Yb args) :
  ∃ a vs ns,Yb = [bL a]∧args = [I8 (ns.map yi)]∧h.get? a=some { cls := .type "list",data := .seq vs.toArray }∧IntsAre vs ns∧ns.length<=n:=by
 have hsh:WShape.hasAll [] args [.list .int]=true:=(pre_splitW T6).1;have hc:l.pre.holds [] { args:=args }=true:=(pre_splitW T6).2;obtain⟨d,r,rfl,h1,h2⟩:=hasAllW_cons hsh;obtain rfl:=hasAllW_nil h2;obtain⟨xs,rfl,h3⟩:=hasW_list h1;obtain⟨ns,rfl⟩:=items_int h3;have eO:ns.length<=n:=by
  unfold OpenLaw.pre at hc;have h4:(WTm.not (.lt (.lit (.int (n:Int))) (.len (.arg 0)))).holds [] { args := [.list (ns.map .int)] }=true:=by
   have h4:=(holds_andW hc).1;rw[hn]at h4;exact h4
  have h5:=condW_of h4 (w_not (w_lt w_lit (w_len_list (w_arg rfl))));rw[ay]at h5;refine Nat.le_of_not_lt fun q =>?_;have q':(n:Int) < ((ns.length:Nat):Int):=by omega
  first
   | (rw[decide_eq_true q']at h5;exact absurd h5 (by decide))
   | (simp at h5;omega)
 cases hwl with
 | cons w1 w2 =>
  cases w2;cases w1 with
  | list ho Uh=>exact⟨_,_,ns,O,O,ho,Ik ns _ Uh,eO⟩
theorem VO(l:OpenLaw)(args:List WData):l.row.toRowW.claim.post args (.bool true) args=true :=
 postW_of (r:=l.row.toRowW) (X:=(true == true))
  (show WShape.has [] (.bool true) .bool=true by first | rfl | decide | simp[WShape.has,WShape.arms,WShape.armsAll])
  (show (WTm.eq .res (.lit (.bool true))).value [] { args:=args,res:=some (.bool true),after:=args }=some (.bool (true == true)) from w_eq_bool (w_res rfl) w_lit) rfl
section
variable {prog:Program}{w:World}{A:Around}{E:Value->Shared->Prop}{s:Shared}{K:Frag}
end
end Att
namespace L2
open PySem PySem.Spec PyProof.Rows
variable{P:Program}{w:World}{K:ai}{mg:Str->Option Value}{fd:FuncData}{x cD:Str}{sp:Sp}{vs:Array Value}{X:Cx}{st:Stmt}{f p C e L:Addr}{N ps:List Str}{A B:Prop}{pos tp:Pos}{H H':Hp}{l outer:List Env}{xs:List V}{o:HO}{GL:List Expr}{g:TG}{scope:Scope}{env:Env}{h1 base h h':Heap}{p7 gO:Expr}{wi:TI}{te:TE}{Q:Unit->Shared->Prop}{oe:Obj}{a0 cls:Value}
theorem xI:∀ {vs:List Value}{ns:List Int},IntsAre vs ns->Vals (ns.map V.int) vs
 | _,_,.nil => .nil
 | _,_,.cons n t h => .cons ⟨t,O⟩ (xI h)
def ahI(H:Hp):Prop := ∀ b,H b=none∨∃ o xs,H b=some (.FF o (.lst xs))
theorem Y7{mb:Str->Option Value}{CX:Ac}{k:Nat}{fa a:Addr}{fz : Shared}{vs:List Value}{ns:List Int}(KX:K.In fz.heap)(hns:fz.heap.Ns mainGlobals mg)(hb:fz.heap.Ns builtinsNs mb)(hbb:∀ x:Str,x ≠ "__name__" -> mb x=bootBuiltins x)(amC:fz.heap.NoLimit)(hg:fz.gens = #[])(ha:fz.heap.get? a=some { cls := .type "list",data := .seq vs.toArray })(hi:IntsAre vs ns)(hl:ns.length<=sizeLine)(hr:eQ k callerA)(F:∀ base:Heap,K.In base->base.Ns mainGlobals mg->kC P w K mg base CX k fa fd [x] sp)(aiA:∀ (s:Shared) (u:Value),BindsTo s fd ⟨[u], []⟩ [(x,u)])(xW:∀ H:Hp,ahI H->bw K H a (ns.map V.int)->sp [.ref a] H (fun v _=>v = .bl true) fun _ _ _=>False)(hCX:∀ H e s',CX [] H fz (fun _ _ _=>False) e s'->False) :
  codeAny (model P w) callerA (.call (.ref fa) ⟨[.ref a], []⟩) (fun r s'=>r = .ok (.ret (.bool true))∧OldK fz.heap s'.heap∧s'.os=fz.os∧AllBare s'.gens) fz := by
 have rv:=xI hi;have amd:=hi.length
 -- from an anH heap in aq8 anL but xK aeg may be JA
 have ag3:∀ H:Hp,ahI H->bw K H a (ns.map V.int)->iG P w H fz.heap->(∀ b,H b≠none->b=a)->(H a≠none->K.lookup a=none) ->
   codeAny (model P w) callerA (.call (.ref fa) ⟨[.ref a], []⟩) (fun r s'=>r = .ok (.ret (.bool true))∧OldK fz.heap s'.heap∧s'.os=fz.os∧AllBare s'.gens) fz := by
  intro H hO hS bO hA hK;have R7:∀ {b:Addr}{o:Obj},fz.heap.get? b=some o->H b=none->(AO fz.heap H).get? b=some o:=fun e n=>Zk e n;have V7:∀ {b:Addr}{o:Obj}{es:Array DictEntry}{ep:Nat},fz.heap.get? b=some o->o.data = .dict es ep->H b=none:=fun {b o es ep} e d=>by
   cases q:H b with
   | none=>rfl
   | some u =>
    have e':b=a:=hA b (by rw[q];simp);subst e';rw[ha]at e;cases e;have d':Data.seq vs.toArray _=Data.dict es ep:=d;cases d'
  have nsK:∀ {b:Addr}{m:Str->Option Value},fz.heap.Ns b m->(AO fz.heap H).Ns b m:=fun {b m} ⟨o,es,ep,e,d,r⟩=>⟨o,es,ep,R7 e (V7 e d),d,r⟩;have hKb:K.In (AO fz.heap H):=fun b o e=>R7 (KX b o e) (by
   cases q:H b with
   | none=>rfl
   | some u =>
    have e':b=a:=hA b (by rw[q];simp);subst e';rw[hK (by rw[q];simp)]at e;cases e)
  have hM:Mod K mg (AO fz.heap H):=⟨hKb,nsK hns,⟨mb,nsK hb,hbb⟩,let ⟨mc,h1,h2⟩:=amC; ⟨mc,nsK h1,h2⟩⟩;have e0:Hd P w K mg (AO fz.heap H) callerA [] fz H:=⟨O,hM,fun b o e=>acZ e,jC (WD _ _),trivial,fun b hb=>absurd (show b∈([]:List Addr) from hb) (by simp),bO,.of_eq hg⟩;refine codeAny_mono ((F _ hKb (nsK hns)).run callerA [] fz H ⟨[.ref a], []⟩ [.ref a] [.ref a] _ _ hr e0 (aiA fz (.ref a)) (.cons rfl .nil) (xW H hO hS)) fun r s' h =>?_;cases r with
  | error e=>exact(hCX H e s' h).elim
  | ok fl =>
   cases fl with
   | next=>exact gi h
   | brk=>exact gi h
   | cont=>exact gi h
   | ret u =>
    obtain⟨v,H',os,bare,un,amw,r',q⟩:=h;have q':v = .bl true:=q;subst q';obtain rfl:u=pj true:=r';refine⟨O,OldK.of_keep fun b o e =>?_,os,bare⟩;cases q:H b with
    | none=>exact un.keep b o e q (by intro z;exact absurd (show b∈([]:List Addr) from z) (by simp)) (by simp)
    | some u =>
     rcases hO b with z | ⟨ob,xs,z⟩
     ·rw[q]at z;cases z
     ·have z2:=un.xg b ob _ z;obtain⟨e1,_⟩:=bO b _ z;obtain⟨e2,_⟩:=amw b _ z2;rw[e]at e1;cases e1;exact e2
 cases hk:K.lookup a with
 | some o =>
  -- xK aeg is one of xK YZ own ac0
  have e:=KX a o hk;rw[ha]at e;cases e;refine ag3 (fun _=>none) (fun _ => .inl rfl) (.inr ⟨_,vs.toArray,_,hk,O,O,O,by rw[aR,amd];exact hl,by simpa using rv⟩) (fun b u z=>by have z':(none:Option HO)=some u:=z;cases z') (fun b z=>absurd rfl z) fun z=>absurd rfl z
 | none =>
  refine ag3 (fun b=>if b=a then some (.FF { cls := .type "list",data := .seq vs.toArray } (.lst (ns.map V.int))) else none) (fun b =>?_) (.inl (.inr ⟨{ cls := .type "list",data := .seq vs.toArray },if_pos rfl⟩)) (fun b u z =>?_) (fun b z =>?_) fun _=>hk
  ·by_cases hb:b=a
   ·exact .inr ⟨_,_,if_pos hb⟩
   ·exact .inl (if_neg hb)
  ·by_cases hb:b=a
   ·have z':=(if_pos hb).symm.trans z;cases z';subst hb;exact⟨ha,by rw[ay];exact hl,vs,_,rv,ha⟩
   ·have z':=(if_neg hb).symm.trans z;cases z'
  ·by_cases hb:b=a
   ·exact hb
   ·exact absurd (if_neg hb) z
def fk(s:Stmt)(j:Nat):Stmt:=match s with
 | .ClassDef _ _ _ body _ _ _ _ _ _ _=>body.getD j (.Pass ⟨0,0,0,0⟩)
 | _ => .Pass ⟨0,0,0,0⟩
def fU(s:Stmt):Arguments:=match s with
 | .FunctionDef _ a _ _ _ _ _ _ _ _=>a
 | _=>{ posonlyargs := [],args := [],vararg:=none,kwonlyargs := [],kw_defaults := [],kwarg:=none,defaults := [] }
def d6(s:Stmt):List Stmt:=match s with
 | .FunctionDef _ _ b _ _ _ _ _ _ _=>b
 | _ => []
def aF(s:Stmt):Scope:=match s with
 | .FunctionDef _ _ _ _ _ _ sc _ _ _=>sc
 | _=>{ kind := .function,names := [],isGenerator:=false,isCoroutine:=false }
abbrev FY:Ac:=fun _ _ _ _ _ _=>False
abbrev E0:XK:=fun _ _ _=>False
theorem aaK:Passes FY X E0:=fun _ _ _ _ _ _ _ h=>h.elim
structure BP(K:ai)(x cD:Str)(st:Stmt)(f:Addr)(fd:FuncData):Prop where
 ex:∃ (oc:Value) (od:Option Addr) (kV doc pm:Value) (an:Option Addr) (bU ct:Value) (zu:Array (Option Value)),
  fd=c9 x cD (fU st) (d6 st) (aF st) .none kV doc pm an bU ct∧K.lookup f=some ⟨oc,od,.func fd,zu⟩∧dG K bU cD=true
 kp:bH K (.ref f)=true
section
variable {P:Program}{w:World}{K:ai}{mg:Str->Option Value}{base:Heap}{CB CF CH CS CN CE CM CR tB:Addr}
theorem BP.ok{k:Nat}(F:BP K x cD st f fd)(S:bu N ps (aF st))(len:∀ vs H Q E,sp vs H Q E->vs.length=ps.length)(jX:∀ (bU:Value) (A:Around) (outer:List Env) (s:Shared) (H:Hp) (vs:List V) (Q:VK) (E:XK),eQ k (A.deeper (envOfC cD (aF st) s.heap.objs.size f bU))->sp vs H Q E ->
   ∃ t,oC (cG FY P w K mg base N cD (aF st) f bU A outer s H E).Rn (d6 st) t∧t { nx:=fun _ H'=>Q .cj H',rt:=Q } (start N vs) H):kC P w K mg base FY (k+1) f fd ps sp:=by
 obtain⟨oc,od,kV,doc,pm,an,bU,ct,zu,rfl,lk,om⟩:=F.ex;refine MG lk om S len fun A outer s H vs Q E hr xW =>?_;obtain⟨t,h,q⟩:=jX bU A outer s H vs Q E hr xW;exact⟨t,h.Rn,q⟩
theorem BP.binds(F:BP K x cD st f fd)(h:∀ (kV doc pm:Value) (an:Option Addr) (bU ct:Value) (us:List Value),us.length=ps.length->bindArgs (c9 x cD (fU st) (d6 st) (aF st) .none kV doc pm an bU ct) ⟨us, []⟩=pure (ps.zip us)):Binds K fd ps []:=by
 obtain⟨oc,od,kV,doc,pm,an,bU,ct,zu,rfl,lk,om⟩:=F.ex;exact .all (h kV doc pm an bU ct)
theorem m5{oc:Value}{od an:Option Addr}{zu:Array (Option Value)}{kV doc pm bU ct:Value}(l:K.lookup f=some ⟨oc,od,.func (c9 x cD (fU st) (d6 st) (aF st) .none kV doc pm an bU ct),zu⟩)(c:dG K bU cD=true)(k:bH K (.ref f)=true):BP K x cD st f (c9 x cD (fU st) (d6 st) (aF st) .none kV doc pm an bU ct):=⟨⟨oc,od,kV,doc,pm,an,bU,ct,zu,O,l,c⟩,k⟩
end
theorem lU{A:Around}{k:Nat}(hr:eQ k A):A.units+1 < cLine:=lx (Nat.add_le_add_left (by decide:1<=64) _) hr.units
theorem dD{n:Nat}(h:n<=1000):n < sizeLine:=lx h (by decide)
section
variable {X:Cx}
theorem pv(i:Nat)(hN:X.N[i]? = some x:=by rfl)(hv:Vis X.env.scope x:=by first | exact aM rfl | exact Or.inr (aM rfl) | exact Or.inr (Or.inr rfl))(hd:(x == ("__debug__" : Str))=false:=by decide)(om:(x == ("__classdict__" : Str))=false:=by decide):PE X (.Name x pos) (adW i):=aep hN hv hd om
end
theorem fC(h:B):if false=true then A else B:=by
 rw[if_neg bB];exact h
theorem gH(h:A):if true=true then A else B:=by
 rw[if_pos rfl];exact h
def a6(H H':Hp):Prop := ∀ b o,H b=some o->H' b=some o
theorem a6.refl(H:Hp):a6 H H:=fun _ _ h=>h
theorem a6.trans{H1 H2:Hp}(a:a6 H H1)(b:a6 H1 H2):a6 H H2:=fun c o h=>b c o (a c o h)
theorem a6.free(e:a6 H H'){l:Addr}(h:H' l=Option.none):H l=Option.none:=by
 cases q:H l with
 | none=>rfl
 | some o =>
  rw[e l o q]at h;cases h
theorem a6.seq{a:Addr}(e:a6 H H')(h:bw K H a xs):bw K H' a xs:=by
 rcases h with(h | ⟨o,h⟩) | h
 ·exact .inl (.inl (e _ _ h))
 ·exact .inl (.inr ⟨o,e _ _ h⟩)
 ·exact .inr h
section
variable {X:Cx}{ag:List (Addr × Obj)}{σ : St}{H:Hp}{s:Shared} {h':Heap}
theorem Inv.Hq{ch:List Addr}{a:Addr}{t':Nat}(I:Inv X ag σ H s)(k:∀ b u,b ∉ ch->s.heap.get? b=some u->h'.get? b=some u)(xX:∀ b∈ch,pP X ag H b)(hp:s.heap.objs.size<=a)(new:eV X.prog X.w (aC H a o) h' a o):Inv X ag σ (aC H a o) { s with heap:=h',toks:=t' }:=by
 have hfr:H a=none:=I.bO.fresh hp;have rF:∀ b ob,s.heap.get? b=some ob->b≠a:=fun b ob e z=>by subst z;exact absurd (cu (a9 e) hp) (e9 _)
 have tr:∀ b u,H b=some u->b≠a:=fun b u e z=>by rw[z,hfr]at e;cases e
 have trc:∀ b u,H b=some u->b ∉ ch:=fun b u e z=>by rw[(xX b z).1]at e;cases e
 refine I.step (g':=s.gens) (d':=s.drawn) (ch:=ch) (fun b hb =>?_) (fun b ob _ _ hc e _=>k b ob hc e) (fun b ob _ _ hc e _=>⟨ob.slots,k b ob hc e⟩) (fun b ob _ e n =>?_)
  (fun b ob hc e=>⟨ob,k b ob hc e⟩) (fun b xs e =>?_) (fun b ob u e =>?_) (fun b ps e=>⟨#[],?_⟩) (fun m hm =>?_) (fun b u e =>?_) I.bare
 ·obtain⟨_,f1,_,f3,f4,f5⟩:=xX b hb;exact⟨f3,f1,f4,f5⟩
 ·rw[av (rF b ob e)];exact n
 ·rw[av (tr b _ e)];exact e
 ·rw[av (tr b _ e)];exact e
 ·rw[av (tr b _ e),e];simp
 ·obtain⟨ob,es,ep,ho,r⟩:=hm;exact⟨ob,es,ep,k _ ob (fun z=>(xX _ z).2.1 rfl) ho,r⟩
 ·by_cases hb:b=a
  ·subst hb;rw[ak]at e;cases e;exact new
  ·rw[av hb]at e;refine(I.bO b u e).B7 (fun c v hc q=>k c v ?_ q) (fun c q=>by rw[av (tr c _ q)];exact q) fun c xs q=>by rw[av (tr c _ q)];exact q
   rcases hc with z | z
   ·rw[z];exact trc b u e
   ·exact trc c _ z
end
def XZ(K:ai)(a:Addr):It :=
 ⟨fun i H=>∃ xs x,bw K H a xs∧xs[i]? = some x,
  fun i H x H'=>∃ p v,H p=none∧x = .ref p∧(∀ xs,bw K H a xs->xs[i]? = some v)∧H'=aC H p (.tup [.int (i:Int),v]),
  fun i H=>∃ xs,bw K H a xs∧xs.length=i⟩
theorem U0{k:Nat}(a e it:Addr)(kM:e≠it) :
  Turn P w K (.Tuple GL k tp) (XZ K a) [e,it] e (fun i h=>(∃ rF,IsEnum h e it (i:Int) rF)∧h.IsListIter it a i) where
 mem:=by simp
 obj:=fun i h st b hb=>by
  obtain⟨⟨rF,he⟩,qO⟩:=st;rcases bC.mp hb with rfl | hb
  ·exact⟨_,he,fun v z=>by
    have z':FX _=yx v:=z;cases z'⟩
  ·have e:b=it:=by simpa using hb
   subst e;obtain⟨o,e,c,d⟩:=qO;exact⟨o,e,fun v z=>by rw[d]at z;cases z⟩
 keep:=fun i h h' st k=>by
  obtain⟨⟨rF,he⟩,qO⟩:=st;exact⟨⟨rF,k e (by simp) _ he⟩,qO.at fun o q=>k it (by simp) o q⟩
 item:=by
  intro X hP hw hK hc i ag s σ H E I hf st hg;subst hP hw hK;obtain⟨⟨rF,he⟩,qO⟩:=st;obtain⟨xs,x,hq,hx⟩:=hg;obtain⟨its,rv,p,hz⟩:=I.list hq;obtain⟨u,hu,ru⟩:=rv.get hx;have hai:a≠it:=fun z=>by
   obtain⟨o,n,e1,c1,_⟩:=p;obtain⟨o',e2,c2,_⟩:=qO;rw[z,e2]at e1;cases e1;rw[c1]at c2;exact absurd (pe c2) (by decide)
  have hae:a≠e:=fun z=>by
   obtain⟨o,n,e1,c1,_⟩:=p;rw[z,he]at e1;cases e1;exact absurd (pe c1) (by decide)
  have ef:i < its.toArray.size:=by
   rw[aR];exact(aj.mp hu).1
  have DA:e < s.heap.objs.size:=a9 he;have hil:it < s.heap.objs.size:=by obtain⟨o,q,_⟩:=qO;exact a9 q
  refine wpAny_pyNext_enum_itemD (Draws.list (A:=X.A.in1) (I.ok.hd hc) it a hai its.toArray) he ⟨qO,p.isList⟩ ef kM (by
   intro z;rcases bC.mp z with z | z
   ·exact kM z
   ·exact hae (a8.mp z).symm) fun y h1 tk hy ho OD hT hsz hk =>?_
  have hyu:y=u:=by
   have e1:its[i]? = some y:=by simpa using hy
   rw[hu]at e1;exact(aP e1).symm
  subst hyu;refine⟨_,O,wpAny_letOwnedTupleGo_enum ho fun h2 he2 jP =>?_⟩;have kk:∀ b o,b ∉ [e,it]->s.heap.get? b=some o->h2.get? b=some o:=fun b o hb q=>by
   have b1:b≠e:=fun z=>hb (by simp[z]);have b2:b≠it:=fun z=>hb (by simp[z]);exact(jP.2 b b1).trans (hk b o b1 b2 q)
  have hTe:s.heap.objs.size≠e:=mn DA;refine⟨.ref s.heap.objs.size,aC H s.heap.objs.size (.tup [.int (i:Int),x]),?_,O,⟨_,x,I.bO.fresh (aw _),O,fun ys hy=>by rw[I.Oo hy hq];exact hx,O⟩,
   ⟨⟨_,by simpa using he2⟩,OD.1.at fun o q=>(jP.2 it (bR kM)).trans q⟩,fun b hb =>?_⟩
  ·refine I.Hq (ch := [e,it]) (t':=tk+1) kk hf (aw _) ⟨by show 2<=sizeLine;decide, [.int (i:Int) tk,y],.cons ⟨_,O⟩ (.cons ru .nil),?_⟩;exact⟨_,(jP.2 _ hTe).trans hT,O,_,O,O⟩
  ·have j8:=hf b hb;have:b≠s.heap.objs.size:=by
    rcases bC.mp hb with rfl | hb
    ·exact cQ DA
    ·rw[a8.mp hb];exact cQ hil
   rw[av this];exact j8.1
 done:=by
   intro X hP hw hK hc i ag s σ H E I hf st hg;subst hP hw hK;obtain⟨⟨rF,he⟩,qO⟩:=st;obtain⟨xs,hq,hx⟩:=hg;obtain⟨its,rv,p,hz⟩:=I.list hq;have hai:a≠it:=fun z=>by
    obtain⟨o,n,e1,c1,_⟩:=p;obtain⟨o',e2,c2,_⟩:=qO;rw[z,e2]at e1;cases e1;rw[c1]at c2;exact absurd (pe c2) (by decide)
   have hl:=rv.length;have hi:i=its.toArray.size:=by rw[aR];omega
   subst hi;obtain⟨f0,f1,f2,f3,f4,f5⟩:=hf it (by simp);exact wpAny_pyNext_enum_endD (Draws.list (A:=X.A.in1) (I.ok.hd hc) it a hai its.toArray) he ⟨qO,p.isList⟩ fun h1 eb=>⟨O,I.turned (t':=s.toks) (fun b o hb q=>eb b o hb q) f0 f1 f3 f4 f5⟩
 self:=fun _ _ _ _ _ st h=>by
  obtain⟨⟨rF,he⟩,_⟩:=st;exact wpAny_pyIter_enum he h
inductive SA(K:ai)(R:It->Hp->Prop)(vs:List V)(H1:Hp):Prop
 | mk:∀ a,(vs = [.ref a])->((∃ xs,bw K H1 a xs))->(R (XZ K a) H1)->SA K R vs H1
def ait(K:ai)(ta:TA):TI:=fun σ H R=>ta σ H fun vs H1=>SA K R vs H1
theorem Xp:bootBuiltins "enumerate" = some (.type "enumerate"):=by decide +kernel
section
variable {X:Cx}
theorem v7{l:Expr}{ta:TA}{k:Nat}{p:Pos}(hg:Gl X "enumerate")(hm:X.mg "enumerate" = none)(ha:PA X [l] ta)(hs:starEach [l] X.env = [(false,eval l X.env)]:=by rfl) :
  PI X (.Tuple GL k tp) (.Call (.Name "enumerate" p) [l] [] pos) (ait X.K ta):=by
 intro ag s σ H R I h;refine Call_ (wO I hg hm Xp (gR (cm (ha pos ag s σ H _ I h) fun us s1 ⟨vs,H1,I1,r1,q1⟩ =>?_) hs rfl));obtain⟨a,e,⟨xs,hq⟩,q⟩:=q1;subst e;obtain⟨u,rfl,ru⟩:=vals1 r1;cases ru;obtain⟨its,rv,pl,hz⟩:=I1.list hq;refine call_enumerate_list pl.isList fun h1 he qO hsz hk =>?_;have I2:Inv X ag σ H1 { s1 with heap:=h1 }:=I1.kept (t':=s1.toks) hk;have kM:s1.heap.objs.size+1≠s1.heap.objs.size:=Nat.succ_ne_self _;refine wpAny_pyIter_enum (s := { s1 with heap:=h1 }) he ⟨_, [s1.heap.objs.size+1,s1.heap.objs.size],_,_,H1,O,I2,U0 a _ _ kM,⟨⟨_,he⟩,qO⟩,fun b hb =>?_,q⟩;rcases bC.mp hb with rfl | hb
 ·exact I1.DR (nu _) (I1.bO.fresh (nu _))
 ·rw[a8.mp hb];exact I1.DR (aw _) (I1.bO.fresh (aw _))
end
theorem tY{a:Addr}{tb:TS}{D:Ends}{σ : St}(Pv:Nat->St->Hp->Prop)(h0:Pv 0 σ H)(hl:∀ i σ H,i<=xs.length->Pv i σ H->bw K H a xs)(hs:∀ i x p σ H,xs[i]? = some x->Pv i σ H->H p=none->g (.ref p) σ (aC H p (.tup [.int (i:Int),x])) fun kW H2=>tb { D with nx:=Pv (i+1),ct:=Pv (i+1),bk:=D.nx } kW H2)(hd:∀ σ H,Pv xs.length σ H->D.nx σ H) :
  ∃ W:Nat->Nat->St->Hp->Prop,(∃ m,W 0 m σ H)∧∀ i m σ H,W i m σ H ->
   ((XZ K a).stop i H∧D.nx σ H)∨((XZ K a).go i H∧∃ N:St->Hp->Prop,(∀ bJ H',N bJ H'->∃ m',m' < m∧W (i+1) m' bJ H')∧∀ x H',(XZ K a).BW i H x H'->g x σ H' fun kW H2=>tb { D with nx:=N,ct:=N,bk:=D.nx } kW H2):=by
 refine⟨fun i m σ H=>m=xs.length - i∧i<=xs.length∧Pv i σ H,⟨xs.length,by simp,aQ _,h0⟩,?_⟩;rintro i m σ H ⟨rfl,hi,p⟩;have q:=hl i σ H hi p;by_cases ef:i < xs.length
 ·refine .inr ⟨⟨xs,xs[i],q,by simp[ef]⟩,Pv (i+1),fun bJ H' p'=>⟨xs.length - (i+1),by omega,O,ef,p'⟩,fun x H' y =>?_⟩;obtain⟨pa,v,RA,rfl,hv,rfl⟩:=y;exact hs i v pa σ H (hv xs q) p RA
 ·have e:i=xs.length:=by omega
  subst e;exact .inl ⟨⟨xs,q,O⟩,hd σ H p⟩
section
variable {X:Cx}
inductive XM(x:V)(lo:Option Int)(hi:Option Int)(H:Hp)(Q:VK):Prop
 | mk:∀ z,(x = .str z)->(z.length<=sizeLine)->(Q (.str (gA z lo hi)) H)->XM x lo hi H Q
def aly:V->Option Int->Option Int->Hp->VK->Prop:=fun x lo hi H Q=>XM x lo hi H Q
theorem Nl:SlR X aly:=by
 intro ag s σ H x v vl vu lo hi sl Q I rx hs pl pu h;obtain⟨z,rfl,hz,q⟩:=h;obtain⟨t,rfl⟩:=rx;refine⟨"str",_,F.slot_str_getitem.lookup,typeIs_str _ _ _,?_⟩;obtain⟨o,ho,hc,hd⟩:=hs;have j9:∀ t' k,EP X ag σ Q (.str (gA z lo hi) t') { s with toks:=k }:=fun t' k=>⟨.str _,H,I.tok _,⟨_,O⟩,q⟩;cases pl with
 | none =>
  cases pu with
  | none=>exact wpAny_getItem_str_slice (l:=none) (u:=none) (st:=none) ⟨o,ho,hc,hd⟩ rfl (post_val_or_str ⟨bp (xh z _ _) hz,j9⟩)
  | int j uj=>exact wpAny_getItem_str_slice (l:=none) (u:=some (j,uj)) (st:=none) ⟨o,ho,hc,hd⟩ rfl (post_val_or_str ⟨bp (xh z _ _) hz,j9⟩)
 | int i ui =>
  cases pu with
  | none=>exact wpAny_getItem_str_slice (l:=some (i,ui)) (u:=none) (st:=none) ⟨o,ho,hc,hd⟩ rfl (post_val_or_str ⟨bp (xh z _ _) hz,j9⟩)
  | int j uj=>exact wpAny_getItem_str_slice (l:=some (i,ui)) (u:=some (j,uj)) (st:=none) ⟨o,ho,hc,hd⟩ rfl (post_val_or_str ⟨bp (xh z _ _) hz,j9⟩)
end
def jz(cells:List (Str × Addr)):List (Str × NameKind)->List (Str × Addr)->List (Str × Addr)
 | [],acc=>acc
 | (n,k) :: r,acc=>if k == .free then (match cells.lookup n with | some c=>jz cells r ((n,c) :: acc) | none=>jz cells r acc) else jz cells r acc
theorem rW{cells:List (Str × Addr)}:∀ {names:List (Str × NameKind)}{acc:List (Str × Addr)}{x:Str}{c:Addr},(∀ x c,acc.lookup x=some c->cells.lookup x=some c)->(jz cells names acc).lookup x=some c->cells.lookup x=some c
 | [],_,x,c,ha,h=>ha x c h
 | (n,k) :: r,acc,x,c,ha,h=>by
  unfold jz at h;by_cases hk:(k == fR)=true
  ·rw[if_pos hk]at h;cases e:cells.lookup n with
   | none =>
    rw[e]at h;exact rW ha h
   | some d =>
    rw[e]at h;refine rW (fun y z hy =>?_) h;rw[iu]at hy;cases q:y == n with
    | true =>
     rw[q]at hy;have:y=n:=by simpa using q
     rw[this,e];exact hy
    | false =>
     rw[q]at hy;exact ha y z hy
  ·rw[if_neg hk]at h;exact rW ha h
theorem vR{cells:List (Str × Addr)}:∀ {names:List (Str × NameKind)}{acc:List (Str × Addr)}{x:Str},(acc.lookup x).isSome=true->((jz cells names acc).lookup x).isSome=true
 | [],_,_,h=>h
 | (n,k) :: r,acc,x,h=>by
  unfold jz;by_cases hk:(k == fR)=true
  ·rw[if_pos hk];cases e:cells.lookup n with
   | none=>exact vR h
   | some d =>
    refine vR ?_;rw[iu];cases q:x == n with
    | true=>rfl
    | false=>exact h
  ·rw[if_neg hk];exact vR h
theorem rV{cells:List (Str × Addr)}:∀ {names:List (Str × NameKind)}{acc:List (Str × Addr)}{x:Str},(x,fR)∈names->(cells.lookup x).isSome=true->((jz cells names acc).lookup x).isSome=true
 | [],_,_,h,_=>nomatch h
 | (n,k) :: r,acc,x,h,hc=>by
  unfold jz;rcases bC.mp h with e | h
  ·cases e;rw[if_pos (show (fR == fR)=true from rfl)];cases e:cells.lookup n with
   | none=>rw[e]at hc;cases hc
   | some d =>
    refine vR ?_;rw[iu];simp
  ·by_cases hk:(k == fR)=true
   ·rw[if_pos hk];cases e:cells.lookup n with
    | none=>exact rV h hc
    | some d=>exact rV h hc
   ·rw[if_neg hk];exact rV h hc
theorem k7{cells:List (Str × Addr)}{names:List (Str × NameKind)}{c:Addr}(h:(jz cells names []).lookup x=some c):cells.lookup x=some c :=
 rW (fun _ _ z=>by simp at z) h
theorem AX{env:Env}:∀ (names:List (Str × NameKind)) (acc:List (Str × Addr)),(∀ y∈names,y.2 = .free->∃ c,env.cells.lookup y.1=some c) ->
  (forIn names acc fun x r=>match x with
   | (name,kind)=>if (kind == fR)=true then (do let c <- cellOf env name;pure (nW ((name,c) :: r))) else pure (nW r):Sem (List (Str × Addr)))=pure (jz env.cells names acc)
 | [],acc,_=>rfl
 | (n,k) :: r,acc,h=>by
  have hr:∀ y∈r,y.2 = .free->∃ c,env.cells.lookup y.1=some c:=fun y hy=>h y (aX _ hy);rw[yq];by_cases hk:(k == fR)=true
  ·have ek:k = .free:=by simpa using hk
   obtain⟨c,hc⟩:=h (n,k) bM ek;have e1:cellOf env n=pure c:=by
    have xY:env.cells.lookup n=some c:=hc;unfold cellOf;rw[xY]
   unfold jz;rw[if_pos hk];have xY:env.cells.lookup n=some c:=hc;rw[xY];simp only[hk,if_true,e1];exact AX r ((n,c) :: acc) hr
  ·unfold jz;rw[if_neg hk];simp only[hk];exact AX r acc hr
theorem DY(h:∀ y∈scope.names,y.2 = .free->∃ c,env.cells.lookup y.1=some c):closureFor scope env=pure (jz env.cells scope.names []):=by
 have e:=AX scope.names [] h;unfold closureFor;show (Bind.bind (forIn scope.names [] fun x r=>match x with
   | (name,kind)=>if (kind == fR)=true then (do let c <- cellOf env name;pure (nW ((name,c) :: r))) else pure (nW r):Sem (List (Str × Addr))) fun r=>pure r)=_
 rw[e];rfl
theorem Cu(hc:∀ y∈scope.names,y.2 ≠ .cell)(h:(relabel scope env).names.lookup x=some .cell∨(relabel scope env).names.lookup x=some .free):(x,fR)∈scope.names:=by
 unfold relabel at h;simp only at h;generalize scope.names=names at h hc
 induction names with
 | nil=>rcases h with h | h <;> cases h
 | cons y r ih =>
  obtain⟨n,k⟩:=y;have hr:∀ y∈r,y.2≠NameKind.cell:=fun y hy=>hc y (aX _ hy);rw[aS]at h;by_cases hk:(k == fR && env.scope.kind == .function && env.kindOf n == some .cell)=true
  ·simp only[hk,if_true,iu]at h;cases q:x == n with
   | true =>
    have e:x=n:=by simpa using q
    have ek:k = .free:=by
     have:=(j3.mp (j3.mp hk).1).1;simpa using this
    rw[e,ek];exact bM
   | false =>
    rw[q]at h;exact aX _ (ih h hr)
  ·simp only[hk,fJ,if_false,iu]at h;cases q:x == n with
   | true =>
    rw[q]at h;have e:x=n:=by simpa using q
    have hk0:k ≠ .cell:=hc (n,k) bM;rcases h with h | h
    ·exact absurd (aP h) hk0
    ·rw[e,aP h];exact bM
   | false =>
    rw[q]at h;exact aX _ (ih h hr)
theorem xR(h:scope.names.lookup x=some .free):(relabel scope env).names.lookup x=some .cell∨(relabel scope env).names.lookup x=some .free:=by
 unfold relabel;simp only;generalize scope.names=names at h
 induction names with
 | nil=>cases h
 | cons y r ih =>
  obtain⟨n,k⟩:=y;rw[aS];rw[iu]at h;by_cases hk:(k == fR && env.scope.kind == .function && env.kindOf n == some .cell)=true
  ·simp only[hk,if_true,iu];cases q:x == n with
   | true=>exact .inl rfl
   | false=>rw[q]at h;exact ih h
  ·simp only[hk,fJ,if_false,iu];cases q:x == n with
   | true=>rw[q]at h;exact .inr h
   | false=>rw[q]at h;exact ih h
def fH(X:Cx)(scope:Scope)(N:List Str)(fp:List Addr)(s:Shared)(H:Hp):Cx :=
 { X with N:=N,lW := s,Em := H,env:=compEnvC scope (jz X.env.cells scope.names []) s.heap.objs.size X.env,outer:=X.stack,ex:=fp,fn:=fun _=>false,pn := [],xe:=fun _ _=>False }
structure oJ(X:Cx)(scope:Scope)(own:List Str)(caps:List (Str × Nat)):Prop where
 kind:scope.kind = .function
 HZ:∀ y∈scope.names,y.2 ≠ .cell
 locs:∀ y∈scope.names,y.2 = .local->scope.names.lookup y.1=some .local
 frees:∀ y∈scope.names,y.2 = .free->X.env.kindOf y.1=some .cell
 own:∀ x∈own,scope.names.lookup x=some .local
 caps:∀ p∈caps,X.N[p.2]? = some p.1∧X.env.kindOf p.1=some .cell∧scope.names.lookup p.1=some .free
def kq(σ : St)(caps:List (Str × Nat)):St:=caps.map fun p=>(σ[p.2]?).join
section
variable {X:Cx}{scope:Scope}{own:List Str}{caps:List (Str × Nat)}{ag:List (Addr × Obj)}{σ : St}{H:Hp}{s:Shared}{fp:List Addr}
theorem ads(S:oJ X scope own caps)(I:Inv X ag σ H s)(hf:∀ b∈fp,pP X ag H b)(hl:∀ b∈fp,b < s.heap.objs.size):(fH X scope (own ++ caps.map (·.1)) fp s H).Ok where
 mod:=I.ok.mod
 kind:=S.kind
 glob:=I.ok.glob
 blt:=I.ok.blt
 above:=aw _
 inj:=fun x y c h1 h2=>I.ok.inj x y c (k7 h1) (k7 h2)
 has:=fun x h=>by
  have hm:=Cu S.HZ h;obtain⟨c,hc⟩:=I.ok.has x (.inl (S.frees _ hm rfl));exact gC.mp (rV hm (by rw[hc];rfl))
 R4:=fun x c h _=>nomatch h
 hd:=I.ok.hd
 frames:=I.ok.frames
 Va := .inl rfl
 exf:=fun b hb=>⟨cQ (hl b hb),fun x c h=>(hf b hb).2.2.2.2.1 x c (k7 h)⟩
 bs:=I.bs
 FJ:=bp I.ok.FJ I.sz
 JX:=fun b o e hb=>by
  rcases(hf b hb).2.2.2.1 with z | z
  ·exact I.ok.JX b o e z
  ·exact absurd (cu (cu (a9 e) I.ok.FJ) z) (e9 _)
 Pc:=fun b hb z=>by
  rcases bC.mp (I.B6 b z) with e | e
  ·exact(hf b hb).2.1 e
  ·exact(hf b hb).2.2.1 e
 tX:=I.stack
 LJ:=I.JF
theorem IS(S:oJ X scope own caps)(I:Inv X ag σ H s)(hf:∀ b∈fp,pP X ag H b)(hl:∀ b∈fp,b < s.heap.objs.size){m:Str->Option Value}{t:Nat}(hn:h1.Ns s.heap.objs.size m)(hk:∀ b o,s.heap.get? b=some o->h1.get? b=some o):Inv (fH X scope (own ++ caps.map (·.1)) fp s H) [] (bq own.length none ++ kq σ caps) H { s with heap:=h1,toks:=t }:=by
 refine⟨ads S I hf hl,O,I.bare,Un.kept hk,⟨m,hn,fun i y v e1 e2 e3 =>?_⟩,fun x c e =>?_,I.bO.fresh (aw _),fun x c e=>I.ux x c (k7 e),(fun p hp=>by cases hp),I.bO.kept hk,?_⟩
 ·have hi:own.length<=i:=by
   by_cases hi:i < own.length
   ·rw[j0 (by simpa using hi),pE,if_pos hi]at e2;cases e2
   ·omega
  rw[fb (by simpa using hi),iF]at e2;unfold kq at e2;rw[aJ]at e2;have e1':(own ++ caps.map (·.1))[i]? = some y:=e1;rw[fb hi,aJ]at e1';cases q:caps[i - own.length]? with
  | none=>rw[q]at e2;cases e2
  | some p =>
   rw[q]at e1' e2;have ey:p.1=y:=aP e1';have ev:(σ[p.2]?).join=some v:=aP e2;have eσ : σ[p.2]? = some (some v):=by
    cases z : σ[p.2]? with
    | none=>rw[z]at ev;cases ev
    | some w'=>rw[z]at ev;rw[show w'=some v from ev]
   obtain⟨hN,IA,EV⟩:=S.caps p (aN q);rw[ey]at hN IA EV;obtain⟨mX,hnX,hlX⟩:=I.loc;obtain⟨u,ru,lk⟩:=hlX p.2 y v hN eσ (.inr (.inl IA));refine⟨u,ru,?_⟩;rcases lk with⟨k1,_⟩ | ⟨_,c,hc,uw⟩
   ·rw[IA]at k1;cases k1
   ·have hm:=Cu S.HZ (xR (env:=X.env) EV);obtain⟨c',xY⟩:=gC.mp (rV (acc := []) hm (by rw[hc];rfl));have:=k7 xY;rw[hc]at this;cases this;obtain⟨o,ho,hd⟩:=uw;exact .inr ⟨xR (env:=X.env) EV,c,xY,⟨o,hk _ _ ho,hd⟩⟩
 ·obtain⟨v,o,ho,hd⟩:=I.cell x c (k7 e);exact⟨v,o,hk _ _ ho,hd⟩
 ·show _=(own ++ caps.map (·.1)).length;simp[kq]
theorem LP{τ : St}{s':Shared}(I:Inv X ag σ H s)(J:Inv (fH X scope N fp s H) [] τ H' s')(hf:∀ b∈fp,pP X ag H b):Inv X ag σ H' s' :=
 I.aiG (ch:=fp) J.os J.base J.bO J.bare fun b hb=>by
  obtain⟨_,f1,_,f3,f4,f5⟩:=hf b hb;exact⟨f3,f1,f4,f5⟩
theorem adt{prog:Program}{A:Around}{R:Result->Shared->Prop}{nY:Expr}{it acc:Value}(Iv:Nat->Shared->Prop)(uY:∀ n s,Iv n s->wpAny (model prog w) A (pyNext it) (fun r fz => match r with
   | none=>R (.ok .next) fz
   | some v=>wpAny (model prog w) A (letOwnedTupleGo nY it v) (fun _ nB => wpAny (model prog w) A (assign nY env v) (fun _ ny => wpAny (model prog w) A (eval p7 env) (fun x M6 =>
       wpAny (model prog w) A (call (.builtin "list.append") [acc,x]) (fun _ M5 => ∃ m,m < n∧Iv m M5) (fun _ _=>False) M6) (fun _ _=>False) ny) (fun _ _=>False) nB) (fun _ _=>False) fz) (fun _ _=>False) s)(n:Nat)(h:Iv n s):codeAny (model prog w) A (.compLoop (.ListComp p7 [⟨nY,gO, [],0⟩] scope pos) 0 it acc env) R s:=by
 refine codeAny_loop rfl Iv (fun n s hI =>?_) n h;show wpAny _ A ((compTurn (.ListComp p7 [⟨nY,gO, [],0⟩] scope pos) 0 it acc env).onRaise (fun x=>do noteFrame x env;theTreesLotGoes x)) _ _ s;refine wpAny_noted ?_;rw[compTurn_list];refine wpAny_bind (wpAny_standAt (wpAny_bind (wpAny_mono (uY n s hI) (fun r fz oh =>?_) fun _ _ z=>z.elim)));cases r with
 | none=>exact wpAny_pure oh
 | some v =>
  refine wpAny_bind (wpAny_mono oh (fun _ nB yR => wpAny_bind (wpAny_mono yR (fun _ ny Oy => wpAny_bind (wpAny_tests_nil ?_)) fun _ _ z=>z.elim)) fun _ _ z=>z.elim);exact wpAny_bind (wpAny_bind (wpAny_mono Oy (fun x M6 Zf => wpAny_bind (wpAny_mono Zf (fun _ M5 Zd => wpAny_pure (wpAny_pure ⟨O,Zd⟩)) fun _ _ z=>z.elim)) fun _ _ z=>z.elim))
def Hj(J:It)(g:TG)(te:TE)(τ0:St)(H1:Hp)(Q:VK):Prop := ∀ D,H1 D=none->∃ W:Nat->Nat->St->List V->Hp->Prop,
 (∃ m,W 0 m τ0 [] (aC H1 D (.lst []))) ∧
 ∀ i m τ ys H,W i m τ ys H->H D=some (.lst ys)∧((J.stop i H∧Q (.ref D) H)∨(J.go i H∧ys.length < sizeLine∧∀ x H',J.BW i H x H'->g x τ H' fun MN H2=>te MN H2 fun y H3 =>
  H3 D=some (.lst ys)∧∃ m',m' < m∧W (i+1) m' MN (ys ++ [y]) (aC H3 D (.lst (ys ++ [y])))))
def aau(wi:TI)(g:TG)(te:TE)(k:Nat)(caps:List (Str × Nat)):TE:=fun σ H Q=>wi σ H fun J H1=>Hj J g te (bq k none ++ kq σ caps) H1 Q
theorem Xf{tg:Expr}{p2:Pos}{use:Option (Value->Sem Unit)}{Q:VK}{Q':Value->Shared->Prop}(S:oJ X scope own caps)(hi:PI X tg gO wi)(hc:X.calm=true)(hg:∀ fp s H,PG (fH X scope (own ++ caps.map (·.1)) fp s H) tg g)(he:∀ fp s H,PE (fH X scope (own ++ caps.map (·.1)) fp s H) p7 te)(I:Inv X ag σ H s)(h:aau wi g te own.length caps σ H Q)(j9:∀ D C H5 s5,Inv X ag σ H5 s5->Q (.ref D) H5->(∃ m,s5.heap.Ns C m)->H5 C=none->C≠X.env.locals->X.lW.heap.objs.size<=C->(∀ x c,X.env.cells.lookup x=some c->c≠C)->(∀ p∈X.pn ++ ag,p.1≠C) ->
   compPost (model X.prog X.w) X.A X.xe use Q' (.ref D) C (.ok .next) s5)(hs:∀ x,foldedSetIterable gO X.env x=pure x:=by intro _;rfl) :
  wpAny (model X.prog X.w) X.A (comprehension (.ListComp p7 [⟨tg,gO, [],0⟩] scope pos) scope X.env p2 (newList []) false (eval gO X.env) use) Q' X.xe s:=by
 have Ud:closureFor scope X.env=pure (jz X.env.cells scope.names []):=DY fun y hy hk=>I.ok.has y.1 (.inl (S.frees y hy hk));refine wpAny_comprehension_free (g:=⟨tg,gO, [],0⟩) (gs := []) rfl hs Ud S.kind S.locs (cm (hi ag s σ H _ I h) fun v s1 h1=>cm h1 fun itv s2 h2 =>?_);obtain⟨it,fp,tn,J,H2,e,I2,T,iz,f2,R⟩:=h2;subst e;refine wpAny_newObj_type (wpAny_newFunctionEnv S.HZ (by intro y hy;simp at hy) (fun oh OI OC =>?_) S.kind);have fr2:H2 s2.heap.objs.size=none:=I2.bO.fresh (aw _);obtain⟨W,⟨m0,w0⟩,uY⟩:=R s2.heap.objs.size fr2;have I3:Inv X ag σ (aC H2 s2.heap.objs.size (.lst [])) { s2 with heap:=s2.heap.push { cls := .type "list",dict:=none,data := .seq ([]:List Value).toArray } }:=I2.Y5 (its := []) (t':=s2.toks) .nil (aQ _);have Wj:∀ b∈fp,b < s2.heap.objs.size:=fun b hb=>by
  obtain⟨o,ho,_⟩:=T.obj _ _ iz b hb;exact a9 ho
 have f3:∀ b∈fp,pP X ag (aC H2 s2.heap.objs.size (.lst [])) b:=fun b hb=>⟨by rw[av (cQ (Wj b hb))];exact(f2 b hb).1,(f2 b hb).2⟩;generalize oi:({ s2 with heap:=s2.heap.push { cls := .type "list",dict:=none,data := .seq ([]:List Value).toArray } }:Shared)=s3 at I3;have hz3:s3.heap.objs.size=s2.heap.objs.size+1:=by rw[<- oi];exact jr _ _
 have Y8:∀ b o,s2.heap.get? b=some o->s3.heap.get? b=some o:=fun b o e=>by rw[<- oi];exact aH _ e
 have Wi:∀ b∈fp,b < s3.heap.objs.size:=fun b hb=>by rw[hz3];exact jR (Wj b hb)
 have Kh:oh.Ns s3.heap.objs.size (fun x=>([]:List (Str × Value)).reverse.lookup x):=by rw[<- oi];exact OI
 have Ot:∀ b o,s3.heap.get? b=some o->oh.get? b=some o:=fun b o e=>by
  have hb:b≠s3.heap.objs.size:=cQ (a9 e);rw[<- oi]at e hb;exact OC.extBut b o hb (aH _ e)
 have J1:=IS S I3 f3 Wi (t:=s2.toks+([]:List (Str × Value)).length) Kh Ot;have qI:tn 0 oh := T.keep _ _ _ iz fun b hb o e=>Ot b o (Y8 b o e)
 -- xK loop
 have loop:∀ ny : Shared,ny = { s3 with heap:=oh,toks:=s2.toks+([]:List (Str × Value)).length } ->
   codeAny (model X.prog X.w) X.A (.compLoop (.ListComp p7 [⟨tg,gO, [],0⟩] scope pos) 0 (.ref it) (.ref s2.heap.objs.size) (fH X scope (own ++ caps.map (·.1)) fp s3 (aC H2 s2.heap.objs.size (.lst []))).env)
    (compPost (model X.prog X.w) X.A X.xe use Q' (.ref s2.heap.objs.size) s3.heap.objs.size) ny := by
  rintro ny rfl;refine adt (fun n s'=>∃ i τ ys H',Inv (fH X scope (own ++ caps.map (·.1)) fp s3 (aC H2 s2.heap.objs.size (.lst []))) [] τ H' s'∧tn i s'.heap∧(∀ b∈fp,H' b=none)∧W i n τ ys H') ?_ m0
   ⟨0,_, [],_,J1,qI,fun b hb=>(f3 b hb).1,w0⟩
  rintro n s' ⟨i, τ,ys,H',J',aG,W3,w'⟩;have fY:∀ {pG:Hp},(∀ b∈fp,pG b=none)->∀ b∈fp,pP (fH X scope (own ++ caps.map (·.1)) fp s3 (aC H2 s2.heap.objs.size (.lst []))) [] pG b:=fun hn b hb =>
   ⟨hn b hb,cQ (Wi b hb),fun z=>by
     rcases bC.mp (I3.B6 b z) with e | e
     ·exact(f3 b hb).2.1 e
     ·exact(f3 b hb).2.2.1 e,.inl hb,fun x c e=>(f3 b hb).2.2.2.2.1 x c (k7 e),(fun p hp=>by cases hp)⟩
  obtain⟨hD,tt⟩:=uY i n τ ys H' w';rcases tt with⟨stop,qn⟩ | ⟨go,eO,step⟩
  ·refine cm (T.done (fH X scope (own ++ caps.map (·.1)) fp s3 (aC H2 s2.heap.objs.size (.lst []))) rfl rfl rfl hc i [] s' τ H' (fun _ _=>False) J' (fY W3) aG stop) fun r s4 ⟨hr,J4⟩ =>?_;subst hr;obtain⟨m4,hn4,_⟩:=J4.loc;have I5:=LP I3 J4 f3;refine j9 _ _ _ s4 I5 qn ⟨m4,hn4⟩ J4.free ?_ ?_ (fun x c e z =>?_) fun p hp z =>?_
   ·exact mn I3.lt
   ·exact I3.sz
   ·obtain⟨v,q⟩:=I3.cell x c e;rw[z]at q;exact absurd q.lt (e9 _)
   ·have q:=(I3.pin p hp).1;rw[z]at q;exact absurd (a9 q) (e9 _)
  ·refine cm (T.item (fH X scope (own ++ caps.map (·.1)) fp s3 (aC H2 s2.heap.objs.size (.lst []))) rfl rfl rfl hc i [] s' τ H' (fun _ _=>False) J' (fY W3) aG go) fun r s4 ⟨u,hr,h4⟩ =>?_;subst hr;refine cm h4 fun _ s5 ⟨x,H5,J5,r5,y5,gY,W2⟩ =>?_;have J5':=J5.pinned (fY W2) (T.obj _ _ gY);refine cm (hg fp s3 _ _ s5 τ H5 x u _ J5' r5 (step x H5 y5)) fun _ s6 ⟨zk,H6,J6,q6⟩ =>?_;refine cm (he fp s3 _ _ s6 zk H6 _ J6 q6) fun yv s7 ⟨y,H7,J7,r7,hD7,m',Iu,w7⟩ =>?_;refine cm (fX (X:=fH X scope (own ++ caps.map (·.1)) fp s3 (aC H2 s2.heap.objs.size (.lst []))) _ s7 zk H7 (.ref s2.heap.objs.size) [y] _ [yv] (fun _ H8=>H8=aC H7 s2.heap.objs.size (.lst (ys ++ [y]))) J7 rfl (.cons r7 .nil) ⟨_,ys,y,O,O,hD7,eO,O⟩) fun _ s8 ⟨_,H8,J8,_,e8⟩ =>?_;subst e8;refine⟨m',Iu,i+1, zk,ys ++ [y],_,J8.sJ,T.keep _ _ _ gY fun b hb o e=>(J8.pin (b,o) (bI _ (bI _ (oV hb e)))).1,fun b hb =>?_,w7⟩;obtain⟨o,e,d⟩:=T.obj _ _ gY b hb;exact(J8.pin (b,o) (bI _ (bI _ (oV hb e)))).2.1
 have Iw:=loop _ rfl;subst oi;exact codeAny_compStart_list Iw (T.self _ 0 _ _ _ qI Iw)
theorem Ri{tg:Expr}(S:oJ X scope own caps)(hi:PI X tg gO wi)(hc:X.calm=true)(hg:∀ fp s H,PG (fH X scope (own ++ caps.map (·.1)) fp s H) tg g)(he:∀ fp s H,PE (fH X scope (own ++ caps.map (·.1)) fp s H) p7 te)(hs:∀ x,foldedSetIterable gO X.env x=pure x:=by intro _;rfl):PE X (.ListComp p7 [⟨tg,gO, [],0⟩] scope pos) (aau wi g te own.length caps):=by
 intro ag s σ H Q I h;rw[eval_ListComp];refine Xf (use:=none) (Q:=Q) S hi hc hg he I h (fun D C H5 s5 I5 q ⟨m,hn⟩ hC hL hz uw Zi =>?_) hs;refine⟨m,hn,fun h' pB =>?_⟩;exact⟨.ref D,H5,I5.turned (t':=s5.toks) (fun b o hb e=>(pB.2 b hb).trans e) hC hL (.inr hz) uw Zi,O,q⟩
end
structure c7(P:Program)(w:World)(K:ai)(mg:Str->Option Value)(base:Heap)(k:Nat)(x:Str)(ps:List Str)(sp:Sp):Prop where
 ex:∃ f fd,kC P w K mg base FY k f fd ps sp∧mg x=some (.ref f)∧bH K (.ref f)=true∧Binds K fd ps []
section
variable {X:Cx} {k k':Nat}{x:Str}{ps:List Str}{sp:Sp}{p pos:Pos}{e:Expr}{es:List Expr}{t:TA}
theorem bb(h:c7 X.prog X.w X.K X.mg X.base k x ps sp)(hr:eQ k' X.A)(hk:k<=k')(hg:Gl X x)(ha:PA X (e :: es) t)(rK:(x == ("__debug__" : Str))=false:=by decide)(he:starEach (e :: es) X.env=(false,eval e X.env) :: starEach es X.env:=by rfl)(j7:(backTo pos (starEach es X.env)).any (·.1)=false:=by rfl) :
  PE X (.Call (.Name x p) (e :: es) [] pos) (Ag sp [] E0 t):=by
 obtain⟨f,fd,F,hm,Dx,hb⟩:=h.ex;exact ER F (hr.mono hk) hg hm Dx hb .nil aaK ha rK he j7
end
structure Def(K:ai)(mg:Str->Option Value)(x:Str)(st:Stmt)(ps:List Str):Prop where
 ex:∃ f fd,BP K x x st f fd∧mg x=some (.ref f)∧Binds K fd ps []
theorem Def.has{k:Nat}(D:Def K mg x st ps)(S:bu N ps (aF st))(len:∀ vs H Q E,sp vs H Q E->vs.length=ps.length)(jX:∀ (f:Addr) (bU:Value) (A:Around) (outer:List Env) (s:Shared) (H:Hp) (vs:List V) (Q:VK) (E:XK),eQ k (A.deeper (envOfC x (aF st) s.heap.objs.size f bU))->sp vs H Q E ->
   ∃ t,oC (cG FY P w K mg base N x (aF st) f bU A outer s H E).Rn (d6 st) t∧t { nx:=fun _ H'=>Q .cj H',rt:=Q } (start N vs) H):c7 P w K mg base (k+1) x ps sp:=by
 obtain⟨f,fd,F,hm,hb⟩:=D.ex;exact⟨f,fd,F.ok S len (jX f),hm,F.kp,hb⟩
theorem aD(h:H p=none)(o:HO):a6 H (aC H p o):=fun b u q=>by rw[av (fe q h)];exact q
theorem a6.tup{a:Addr}(e:a6 H H')(h:aW K H a xs):aW K H' a xs:=by
 rcases h with(h | ⟨o,h⟩) | h
 ·exact .inl (.inl (e _ _ h))
 ·exact .inl (.inr ⟨o,e _ _ h⟩)
 ·exact .inr h
theorem a6.put{H0:Hp}(e:a6 H0 H)(h:H0 p=none):a6 H0 (aC H p o):=fun b u q=>by rw[av (fe q h)];exact e b u q
def LR(UM:Scope)(xN:List Str)(scope:Scope)(own:List Str)(caps:List (Str × Nat)):Bool :=
 scope.names.all (fun y=>y.2 != .cell) && scope.names.all (fun y=>y.2 != .local || scope.names.lookup y.1 == some .local) && scope.names.all (fun y=>y.2 != .free || UM.names.lookup y.1 == some .cell)
  && own.all (fun x=>scope.names.lookup x == some .local) && caps.all (fun p=>xN[p.2]? == some p.1 && UM.names.lookup p.1 == some .cell && scope.names.lookup p.1 == some .free)
theorem rT{own:List Str}{caps:List (Str × Nat)}(UM:Scope)(xN:List Str)(hx:X.env.scope=UM)(hN:X.N=xN)(hk:scope.kind = .function)(c:LR UM xN scope own caps=true):oJ X scope own caps:=by
 unfold LR at c;simp only[dU,iw,Jv,bne_iff_ne,beq_iff_eq,ne_eq]at c;obtain⟨⟨⟨⟨c1,c2⟩,c3⟩,c4⟩,c5⟩:=c;refine⟨hk,c1,fun y hy e =>?_,fun y hy e =>?_,c4,fun p hp =>?_⟩
 ·rcases c2 y hy with z | z
  ·exact absurd e z
  ·exact z
 ·rcases c3 y hy with z | z
  ·exact absurd e z
  ·show X.env.scope.names.lookup y.1=_;rw[hx];exact z
 ·obtain⟨⟨z1,z2⟩,z3⟩:=c5 p hp;refine⟨by rw[hN];exact z1,?_,z3⟩;show X.env.scope.names.lookup p.1=_;rw[hx];exact z2
structure iY(mg:Str->Option Value):Prop where
 jK:mg "len" = none
 Y1:mg "min" = none
 ama:mg "max" = none
 arq:mg "sum" = none
 uD:mg "range" = none
 oZ:mg "enumerate" = none
 ahW:mg "isinstance" = none
 BZ:mg "tuple" = none
 amn:mg "int" = none
 ari:mg "bool" = none
 ars:mg "str" = none
 vO:mg "list" = none
theorem D6:bootBuiltins "min" = some (.builtin "min"):=by decide +kernel
theorem Xn:bootBuiltins "max" = some (.builtin "max"):=by decide +kernel
theorem p8:bootBuiltins "tuple" = some (.type "tuple"):=by decide +kernel
theorem Xo:bootBuiltins "int" = some (.type "int"):=by decide +kernel
theorem jY:bootBuiltins "list" = some (.type "list"):=by decide +kernel
theorem Paired.at{α β : Type}{F : α -> β -> Prop}:∀ {Om : List α}{Ol : List β}{i:Nat}{a : α},Paired F Om Ol -> Om[i]? = some a->∃ b,Ol[i]? = some b∧F a b
 | _,_,_,_,.nil,e=>by simp at e
 | _,_,0,_,.cons h _,e=>by simp at e;subst e;exact⟨_,O,h⟩
 | _,_,i+1,a,.cons _ t,e=>by
  obtain⟨b,h1,h2⟩:=Paired.at (i:=i) (a:=a) t (by simpa using e);exact⟨b,by simpa using h1,h2⟩
theorem nD{j:Int}(h:decide (0 < j)=true:=by decide):0 < j:=of_decide_eq_true h
theorem cC{c:Prop}[Decidable c](h1:c->A)(h2:¬ c->B):if decide c=true then A else B:=by
 by_cases h:c
 ·rw[decide_eq_true h];exact gH (h1 h)
 ·rw[decide_eq_false h];exact fC (h2 h)
theorem ig{c:Prop}[Decidable c](h1:¬ c->A)(h2:c->B):if (!decide c)=true then A else B:=by
 by_cases h:c
 ·rw[decide_eq_true h];exact fC (h2 h)
 ·rw[decide_eq_false h];exact gH (h1 h)
inductive FV where
 | v (x:Value)
 | d (a:Addr)
instance:Coe Value FV:=⟨.v⟩
def FV.at(o:Obj)(vs:Array Value):FV->Prop
 | .v x=>vs[2]? = some x
 | .d a=>o.dict=some a
def F2(h:Heap)(e:Addr)(x:FV):Prop := ∃ o vs,h.get? e=some o∧o.data = .fields vs∧x.at o vs
theorem FV.ahp{o:Obj}{v:Value}(x:FV)(gd:o.data = .fields vs)(h:x.at o vs):x.at (o.mapFields (·.setIfInBounds 1 v)) (vs.setIfInBounds 1 v):=by
 obtain⟨c,dd,da,sl⟩:=o;cases gd;cases x with
 | v x=>show (vs.setIfInBounds 1 v)[2]? = some x;rw[rf (by decide)];exact h
 | d a=>exact h
def ag0:Option Addr->Value
 | none => .none
 | some a => .ref a
def xcv(C d:Addr):Value := .int (C:Int) d
inductive Sb(h:Heap)(ea C:Addr)(m:Option Addr):Value->Prop
 | pl (c0:F2 h ea (ag0 m)):Sb h ea C m (.ref C)
 | di (d:Addr) (c0:F2 h ea (ag0 m)) (d0:F2 h ea (.d d)):Sb h ea C m (xcv C d)
theorem Sb.keep{ea:Addr}{m:Option Addr}{c:Value}(x:Sb h ea C m c)(k:∀ y,F2 h ea y->F2 h' ea y):Sb h' ea C m c:=by
 cases x with
 | pl c0=>exact .pl (k _ c0)
 | di d c0 d0=>exact .di d (k _ c0) (k _ d0)
theorem F2.other{b:Addr}{x:FV}{f:Obj->Obj}(c:F2 h e x)(n:b≠e):F2 (h.update b f) e x:=by
 obtain⟨o,vs,a,d,i⟩:=c;exact⟨o,vs,(fV _ _ n).trans a,d,i⟩
section
variable {M:Model}{A:Around}{E:Value->Shared->Prop}{s:Shared}
inductive we(l:List Env)(e:Addr)(oe:Obj)(L:Addr)(h h':Heap):Prop
 | mk (T:Addr) (oT:Obj) (ts:Array Value) (rF:∀ b o,b≠e->b ∉ l.filterMap (·.frame)->h.get? b=some o->h'.get? b=some o) (slots:∀ b o,b≠e->h.get? b=some o->∃ sl,h'.get? b=some { o with slots:=sl })
  (own:h'.get? e=some (oe.mapFields (·.setIfInBounds 1 (.ref T)))) (new:h.get? T=none) (ne:T≠e) (size:h.objs.size<=T) (there:h'.get? T=some oT) (data:oT.data = .fields ts) (fl:ts[3]? = some (rawInt L)):we l e oe L h h'
theorem Pe{hd:Value}{nx:Bool}(af:A.frames=some (env :: outer))(ff:s.heap.FunFrames base (env :: outer))(fL:env.frame=some L)(ge:s.heap.get? e=some oe)(gd:oe.data = .fields vs)(gz:1 < vs.size)(k:∀ h',we (env :: outer) e oe L s.heap h'->Q () { s with heap:=h' }) :
  wpAny M A (do let a <- frameOf env;let pl <- entryPlaceOf L nx;let b <- BR hd a .none (rawInt L) .none pl;setField (.ref e) 1 b) Q E s:=by
 have kM:e ∉ (env :: outer).filterMap (·.frame):=fun m=>by
  obtain⟨_,o,q,nf⟩:=ff.mem m;rw[ge]at q;cases q;exact nf vs gd
 refine wpAny_bind (wpAny_frameOf_fun af ff fL fun h1 sl =>?_);refine wpAny_bind (wpAny_entryPlaceOf fun pl hp =>?_);unfold BR newFields;refine wpAny_bind (wpAny_newObj_type ?_ (hp.sizeOk5 _ _ _ _ _));have g1:h1.get? e=some oe:=(sl.2.1 e kM).trans ge;generalize hO:({ cls := .type "traceback",dict:=none,data := .fields ([hd,.ref L,.none,rawInt L,.none] ++ (if pl.isEmpty then bq 6 gJ else pl)).toArray }:Obj)=oT;have g2:=aH (h:=h1) oT g1;refine wpAny_setField g2 gd gz (k _ ?_);have nT:h1.objs.size≠e:=mn (a9 g1);have dd:=iE gd (·.setIfInBounds 1 (bL h1.objs.size));have up:∀ b o,b≠e->h1.get? b=some o->((h1.push oT).update e (kU (·.setIfInBounds 1 (bL h1.objs.size)))).get? b=some o:=fun b o n q=>by
  rw[fV _ _ (bR n)];exact aH _ q
 refine⟨h1.objs.size,oT,_,fun b o n m q=>up b o n ((sl.2.1 b m).trans q),fun b o n q =>?_,jI _ g2 (qY dd),iW (jC sl.1.symm),nT,jC sl.1.symm,?_,(by rw[<- hO]),?_⟩
 ·obtain⟨x,q'⟩:=sl.2.2 b o q;exact⟨x,up b _ n q'⟩
 ·rw[fV _ _ (bR nT)];exact bz h1 (by rw[<- hO];rfl)
 ·first
   | (simp;done)
   | (rcases hp with rfl | ⟨_,_,_,_,_,_,_,rfl⟩ <;> simp)
theorem we.aaO(x:we l e oe L h h')(kb:base.StaysIn h)(be:base.get? e=none)(ff:h.FunFrames base l)(gd:oe.data = .fields vs)(gz:1 < vs.size)(g0:vs[0]? = some a0)(ge:h.get? e=some oe) :
  Heap.NotedW base l e oe.cls a0 (rawInt L) h h':=by
 obtain⟨T,oT,ts,rF,slots,own,new,ne,size,there,data,fl⟩:=x;have nr:∀ b o,h.get? b=some o->(∀ ws,o.data ≠ .fields ws)->b≠e:=fun b o q nf z=>by
  rw[z,ge]at q;cases q;exact nf vs gd
 refine⟨fun b o q=>rF b o (fun z=>by rw[z,be]at q;cases q) (fun m=>by rw[(ff.mem m).1]at q;cases q) (kb b o q),ff.of_keeps fun b o q nf =>?_,?_,fun b o q nf=>slots b o (nr b o q nf) q⟩
 ·obtain⟨sl,q'⟩:=slots b o (nr b o q nf) q;exact⟨_,q',O⟩
 ·refine⟨_,_,T,oT,ts,own,⟨Ff _ _,?_⟩,iE gd _,by simp[gz],?_,ne,there,data,fl⟩
  ·rw[rf (by decide)];exact g0
  ·cases q:base.get? T with
   | none=>rfl
   | some o=>have:=kb _ _ q;rw[new]at this;cases this
theorem we.ctx{y:FV}(x:we l e oe L h h')(gd:oe.data = .fields vs)(ge:h.get? e=some oe)(c:F2 h e y):F2 h' e y:=by
 obtain⟨T,oT,ts,rF,slots,own,new,ne,size,there,data,fl⟩:=x;obtain⟨o,ws,q1,q2,q3⟩:=c;rw[ge]at q1;cases q1;rw[gd]at q2;cases q2;exact⟨_,_,own,iE gd _,y.ahp gd q3⟩
theorem YV(af:A.frames=some (env :: outer))(ff:s.heap.FunFrames base (env :: outer))(fL:env.frame=some L)(ge:s.heap.get? e=some oe)(kb:base.StaysIn s.heap)(be:base.get? e=none)(gd:oe.data = .fields vs)(g1:vs[1]? = some .none)(g0:vs[0]? = some a0)(k:∀ h',Heap.HeldW base (env :: outer) e oe.cls a0 L h'->s.heap.UpToSlots h'->(∀ y,F2 s.heap e y->F2 h' e y)->Q () { s with heap:=h' }):wpAny M A (noteFrame (.ref e) env) Q E s:=by
 have gz:=(ik.mp g1).1;unfold noteFrame;simp only[fL];refine wpAny_bind (wpAny_field ge gd g1 ?_);rw[if_neg (by decide)];refine Pe af ff fL ge gd gz fun h' x =>?_;obtain⟨n1,n2,n3,n4⟩:=x.aaO kb be ff gd gz g0 ge;exact k h' ⟨n1,be,n2,n3⟩ n4 fun y c=>x.ctx gd ge c
theorem ac1(af:A.frames=some (env :: outer))(fL:env.frame=some L)(fl:oH base (env :: outer) e cls a0 s.heap)(k:∀ h',Heap.HeldW base (env :: outer) e cls a0 L h'->s.heap.UpToSlots h'->(∀ y,F2 s.heap e y->F2 h' e y)->Q () { s with heap:=h' }):wpAny M A (noteFrame (.ref e) env) Q E s:=by
 obtain⟨kb,be,ff,oe,vs,Tr,oT,ts,ge,⟨gc,g0⟩,gd,g1,bT,Rr,gT,dT,g3⟩:=fl;subst gc;have gz:=(ik.mp g1).1;unfold noteFrame;simp only[fL];refine wpAny_bind (wpAny_field ge gd g1 ?_);rw[if_pos (show (bL Tr != gJ)=true by simp)];refine wpAny_bind (wpAny_field gT dT g3 ?_);rw[if_neg (show ¬ ((gJ == rawInt L)=true) by simp[rawInt])];refine wpAny_bind (wpAny_setField gT dT (ik.mp g3).1 ?_);have ot:∀ b,b≠Tr->(s.heap.update Tr (kU (·.setIfInBounds 3 gJ))).get? b=s.heap.get? b:=fun b n=>fV _ _ (bR n);have nr:∀ b o,s.heap.get? b=some o->(∀ ws,o.data ≠ .fields ws)->b≠Tr:=fun b o q nf z=>by
  rw[z,gT]at q;cases q;exact nf ts dT
 have ff1:=ff.of_keeps (h':=s.heap.update Tr (kU (·.setIfInBounds 3 gJ))) fun b o q nf=>⟨o,(ot b (nr b o q nf)).trans q,O⟩;have kb1:base.StaysIn (s.heap.update Tr (kU (·.setIfInBounds 3 gJ))):=fun b o q=>(ot b fun z=>by rw[z,bT]at q;cases q).trans (kb b o q);have ge1:=(ot e (bR Rr)).trans ge;refine Pe (s := { s with heap:=_ }) af ff1 fL ge1 gd gz fun h' x =>?_;obtain⟨n1,n2,n3,n4⟩:=x.aaO kb1 be ff1 gd gz g0 ge1;exact k h' ⟨n1,be,n2,n3⟩ (fun b o q nf=>n4 b o ((ot b (nr b o q nf)).trans q) nf) fun y c=>x.ctx gd ge1 (c.other Rr)
theorem IL{m:Value}(kb:base.StaysIn s.heap)(be:base.get? e=none)(ff:s.heap.FunFrames base l)(tr:s.heap.TracedAtW base e cls a0 m)(k:∀ h',oH base l e cls a0 h'->s.heap.UpToSlots h'->(∀ y,F2 s.heap e y->F2 h' e y)->Q () { s with heap:=h' }):wpAny M A (setFlight (.ref e) none) Q E s:=by
 obtain⟨oe,vs,Tr,oT,ts,ge,gc,gd,g1,bT,Rr,gT,dT,g3⟩:=tr;have z3:=(ik.mp g3).1;have ot:∀ b,b≠Tr->(s.heap.update Tr (kU (·.setIfInBounds 3 ((none:Option Addr).elim gJ fun f=>rawInt f)))).get? b=s.heap.get? b:=fun b n=>fV _ _ (bR n);have nr:∀ b o,s.heap.get? b=some o->(∀ ws,o.data ≠ .fields ws)->b≠Tr:=fun b o q nf z=>by
  rw[z,gT]at q;cases q;exact nf ts dT
 unfold setFlight;refine wpAny_bind (wpAny_field ge gd g1 ?_);rw[if_pos (show (bL Tr != gJ)=true by simp)];refine wpAny_setField gT dT z3 (k _ ⟨fun b o q=>(ot b fun z=>by rw[z,bT]at q;cases q).trans (kb b o q),be,ff.of_keeps fun b o q nf=>⟨o,(ot b (nr b o q nf)).trans q,O⟩,?_⟩ (fun b o q nf=>⟨o.slots,(ot b (nr b o q nf)).trans q⟩) fun y c=>c.other Rr);exact⟨oe,vs,Tr,_,_,(ot e (bR Rr)).trans ge,gc,gd,g1,bT,Rr,jI _ gT (qY (iE dT _)),iE dT _,by simp[z3]⟩
theorem Y6(af:A.frames=some (env :: outer))(fL:env.frame=some L)(fl:oH base (env :: outer) e cls a0 s.heap)(k:∀ h',oH base outer e cls a0 h'->s.heap.UpToSlots h'->(∀ y,F2 s.heap e y->F2 h' e y)->Q () { s with heap:=h' }):wpAny M A (leaving env (.ref e)) Q E s:=by
 unfold leaving;refine wpAny_bind (ac1 af fL fl fun h1 hh sl c1 =>?_);obtain⟨n1,n2,n3,n4⟩:=hh;refine IL (s := { s with heap:=h1 }) n1 n2 n3 n4 fun h2 f2 sl2 c2 =>?_;obtain⟨m1,m2,⟨_,_,m3⟩,m4⟩:=f2;exact k h2 ⟨m1,m2,m3,m4⟩ (sl.trans sl2) fun y c=>c2 y (c1 y c)
theorem leave_new(af:A.frames=some (env :: outer))(ff:s.heap.FunFrames base (env :: outer))(fL:env.frame=some L)(ge:s.heap.get? e=some oe)(kb:base.StaysIn s.heap)(be:base.get? e=none)(gd:oe.data = .fields vs)(g1:vs[1]? = some .none)(g0:vs[0]? = some a0)(k:∀ h',oH base outer e oe.cls a0 h'->s.heap.UpToSlots h'->(∀ y,F2 s.heap e y->F2 h' e y)->Q () { s with heap:=h' }):wpAny M A (leaving env (.ref e)) Q E s:=by
 unfold leaving;refine wpAny_bind (YV af ff fL ge kb be gd g1 g0 fun h1 hh sl c1 =>?_);obtain⟨n1,n2,n3,n4⟩:=hh;refine IL (s := { s with heap:=h1 }) n1 n2 n3 n4 fun h2 f2 sl2 c2 =>?_;obtain⟨m1,m2,⟨_,_,m3⟩,m4⟩:=f2;exact k h2 ⟨m1,m2,m3,m4⟩ (sl.trans sl2) fun y c=>c2 y (c1 y c)
end
section
variable {P:Program}{w:World} {H H':Hp} {h h':Heap}{a:Addr}{o:HO}
theorem iG.part(x:iG P w H h)(k:∀ b u v,H b=some u->h.get? b=some v->h'.get? b=some v):iG P w H h':=fun a o e =>
 (x a o e).B7 (fun b u hb q=>by
  rcases hb with z | z
  ·subst z;exact k _ _ _ e q
  ·exact k _ _ _ z q) (fun _ q=>q) fun _ _ q=>q
end
theorem Un.fly{fs:List Addr}{Em:Hp}{h0 h2 B:Heap}(U1:Un fs [] Em H h0 h)(U2:Un (L :: fs) [] H H' h h1)(hL:h0.get? L=none)(Pk:∀ b o,h.get? b=some o->b ∉ L :: fs->∃ o',B.get? b=some o')(k1:∀ b o,B.get? b=some o->h1.get? b=some o)(k2:∀ b o,B.get? b=some o->h2.get? b=some o)(sl:h1.UpToSlots h2)(nf:∀ b∈fs,∃ o,h1.get? b=some o∧∀ vs,o.data ≠ .fields vs):Un fs [] Em H' h0 h2:=by
 have nL:∀ b o,h0.get? b=some o->b ∉ fs->b ∉ L :: fs:=fun b o q hb z=>by
  rcases bC.mp z with z | z
  ·rw[z,hL]at q;cases q
  ·exact hb z
 refine⟨fun b o q n hb hx =>?_,fun b o q n hb hx =>?_,fun b o q n hx =>?_,fun b o q hx =>?_,fun b xs q=>U2.yC _ _ (U1.yC _ _ q),fun b o u q=>U2.xg _ _ _ (U1.xg _ _ _ q),fun b ps q =>?_⟩
 ·have q1:=U1.keep b o q n hb hx;have q2:=U2.keep b o q1 (U1.free b o q n hx) (nL b o q hb) hx;obtain⟨o',e⟩:=Pk b o q1 (nL b o q hb);have e1:=k1 _ _ e;rw[q2]at e1;cases e1;exact k2 _ _ e
 ·obtain⟨s1,q1⟩:=U1.slot b o q n hb hx;obtain⟨s2,q2⟩:=U2.slot b _ q1 (U1.free b o q n hx) (aX _ hb) hx;obtain⟨ob,q3,d⟩:=nf b hb;rw[q2]at q3;cases q3;obtain⟨s4,q4⟩:=sl b _ q2 d;exact⟨s4,q4⟩
 ·obtain⟨o1,q1⟩:=U1.there b o q hx;exact U2.free b o1 q1 (U1.free b o q n hx) hx
 ·by_cases hb:b∈fs
  ·obtain⟨ob,q3,d⟩:=nf b hb;obtain⟨s4,q4⟩:=sl b _ q3 d;exact⟨_,q4⟩
  ·obtain⟨o1,q1⟩:=U1.there b o q hx;obtain⟨o',e⟩:=Pk b o1 q1 (nL b o q hb);exact⟨_,k2 _ _ e⟩
 ·obtain⟨m1,e1⟩:=U1.yD b ps q;obtain⟨m2,e2⟩:=U2.yD b _ e1;exact⟨m1 ++ m2,by rw[e2,ED]⟩
def mz(P:Program)(w:World):Ac:=fun outer H s E e s'=>∃ (ea C:Addr) (a0:Value) (B:Heap) (H':Hp),e = .ref ea∧oH B outer ea (.ref C) a0 s'.heap∧s'.os=s.os∧AllBare s'.gens ∧
 iG P w H' B∧Un (jD outer) [] H H' s.heap s'.heap∧(∀ b o,s.heap.get? b=some o->b ∉ jD outer->∃ o',B.get? b=some o')∧∃ (m:Option Addr) (c:Value),Sb s'.heap ea C m c∧E c m H'
section
variable {P:Program}{w:World}{K:ai}{mg:Str->Option Value}{base:Heap}{N:List Str}{cD:Str}{scope:Scope}{f:Addr}{bU:Value}{A:Around}{outer:List Env}{s0 s:Shared}{H0 H:Hp} {E E':XK}
 {ag:List (Addr × Obj)}{σ : St}{CX:Ac}
theorem K8{e:Env}(h:e.frame=some L):jD (e :: l)=L :: jD l:=by
 unfold jD;rw[cF,h]
theorem uy{args:List Value}(I:Inv (cG (mz P w) P w K mg base N cD scope f bU A outer s0 H0 E) ag σ H s)(hx:KU s.heap h' e (.ref C) args)(q:E (.ref C) none H) :
  (cG (mz P w) P w K mg base N cD scope f bU A outer s0 H0 E).xe (.ref e) { s with heap:=h' }:=by
 have fr:s.heap.FunFrames base (envOfC cD scope s0.heap.objs.size f bU :: outer):=I.stack;have sf:∀ b∈jD (envOfC cD scope s0.heap.objs.size f bU :: outer),H b=none:=I.JF;have wV:∀ env∈(envOfC cD scope s0.heap.objs.size f bU :: outer),∀ b,env.frame=some b->b∈jD (envOfC cD scope s0.heap.objs.size f bU :: outer):=fun env he b hb=>ly.mpr ⟨env,he,hb⟩;have es:jD (envOfC cD scope s0.heap.objs.size f bU :: outer)=s0.heap.objs.size :: jD outer:=K8 rfl;show wpAny _ _ (leaving _ _) _ _ _;obtain⟨t,gt,_,_⟩:=hx.there;have ff:=(PySem.W.funFrames_hide fr wV).of_keeps (h':=h') fun b o z _=>⟨o,hx.keeps b o z,O⟩;have kb:(nO s.heap (jD (envOfC cD scope s0.heap.objs.size f bU :: outer))).StaysIn h':=fun b o z=>hx.keeps b o (oB _ z);have be:(nO s.heap (jD (envOfC cD scope s0.heap.objs.size f bU :: outer))).get? e=none:=by
  cases z:(nO s.heap (jD (envOfC cD scope s0.heap.objs.size f bU :: outer))).get? e with
  | none=>rfl
  | some o=>have:=oB _ z;rw[hx.new]at this;cases this
 refine leave_new (s := { s with heap:=h' }) (a0 := .ref t) I.ok.frames ff rfl gt kb be rfl rfl rfl ?_;intro h'' x1 x4 x5;have Pk:∀ b o,s.heap.get? b=some o->b ∉ s0.heap.objs.size :: jD outer->(nO s.heap (jD (envOfC cD scope s0.heap.objs.size f bU :: outer))).get? b=some o:=fun b o z hb=>sE _ z (by rw[es];exact hb);have Ib:Un (jD outer) [] H0 H s0.heap s.heap:=I.base;refine⟨e,C,.ref t,_,H,O,x1,I.os,I.bare,iG.part I.bO fun b u v z1 z2=>sE _ z2 fun hm =>?_,?_,?_,none,_,.pl (x5 _ ⟨_,_,gt,O,O⟩),q⟩
 ·rw[sf b hm]at z1;cases z1
 ·refine Un.fly (h:=s.heap) (h1:=h') (L:=s0.heap.objs.size) Ib (Un.kept hx.keeps) (iW (aw _)) (fun b o z hb=>⟨o,Pk b o z hb⟩) (fun b o z=>hx.keeps _ _ (oB _ z)) x1.1 x4 fun b hb =>?_;obtain⟨_,o,z,d⟩:=fr.mem (b:=b) (by show b∈jD _;rw[es];exact aX _ hb);exact⟨o,hx.keeps _ _ z,d⟩
 ·intro b o z hb;obtain⟨o1,z1⟩:=Ib.there b o z (by simp);refine⟨o1,Pk b o1 z1 fun hm =>?_⟩;rcases bC.mp hm with y | y
  ·rw[y,iW (aw _)]at z;cases z
  ·exact hb y
theorem AA(hE:∀ c m H',E' c m H'->E c m H'):Passes (mz P w) (cG (mz P w) P w K mg base N cD scope f bU A outer s0 H0 E) E':=by
 intro ag σ H s e s' I h;obtain⟨ea,C,a0,B,H',rfl,fl,os,bare,bO,un,Pk,m,c,hm,q⟩:=h;have es:jD (envOfC cD scope s0.heap.objs.size f bU :: outer)=s0.heap.objs.size :: jD outer:=K8 rfl;have Ib:Un (jD outer) [] H0 H s0.heap s.heap:=I.base;have un':Un (s0.heap.objs.size :: jD outer) [] H H' s.heap s'.heap:=by rw[<- es];exact un
 have ag2:∀ b o,s.heap.get? b=some o->b ∉ s0.heap.objs.size :: jD outer->∃ o',B.get? b=some o':=fun b o z hb=>Pk b o z (by show b ∉ jD (envOfC cD scope s0.heap.objs.size f bU :: outer);rw[es];exact hb);show wpAny _ _ (leaving _ _) _ _ _;refine Y6 I.ok.frames rfl fl fun h'' x1 x2 x3 =>?_;refine⟨ea,C,a0,B,H',O,x1,os.trans I.os,bare,bO,?_,?_,m,c,hm.keep x3,hE _ _ _ q⟩
 ·refine Un.fly Ib un' (iW (aw _)) ag2 fl.1 x1.1 x2 fun b hb =>?_;obtain⟨_,o,z,d⟩:=fl.2.2.1.mem (b:=b) (by show b∈jD (envOfC cD scope s0.heap.objs.size f bU :: outer);rw[es];exact aX _ hb);exact⟨o,z,d⟩
 ·intro b o z hb;obtain⟨o1,z1⟩:=Ib.there b o z (by simp);refine ag2 b o1 z1 fun hm =>?_;rcases bC.mp hm with y | y
  ·rw[y,iW (aw _)]at z;cases z
  ·exact hb y
end
structure Exc(K:ai)(mg:Str->Option Value)(x:Str)(C:Addr):Prop where
 glob:mg x=some (.ref C)
 here:BN K C [.type "ValueError",.type "Exception",.type "BaseException",.type "object"] "ValueError.__new__" = true
theorem Exc.own(e:Exc K mg x C)(X:K.In h):OwnCls x C [.type "ValueError",.type "Exception",.type "BaseException",.type "object"] "ValueError.__new__" mg h:=by
 refine⟨e.glob,?_⟩;have q:=e.here;unfold BN at q;split at q
 ·rename_i dd cd sl ho
  split at q
  ·rename_i C' bm k0 k1 k2 k3 n k5 hm hs
   simp only[dU,beq_iff_eq,Fm]at q;obtain⟨⟨⟨⟨⟨rfl,rfl⟩,afW⟩,ht⟩,bO⟩,hni⟩:=q;obtain⟨nm,bs,mro,ns,qn,hd,sn,sub,ab,col,del⟩:=cd;dsimp only at hm afW bO hni;subst hm afW;have Dv:sl = #[k0,k1,k2,k3,some (.builtin "ValueError.__new__"),k5]:=by
    obtain⟨l⟩:=sl;simp only at hs;rw[hs]
   subst Dv;exact⟨bm,ns,nm,qn,bs,hd,sn,sub,ab,col,dd,k0,k1,k2,k3,k5,_,X _ _ ho,.of_isNs (PySem.W.isNs_of_in X bO),PySem.W.nsMap_none_of_in X bO hni,PySem.W.tail_of_in X ht⟩
  ·cases q
 ·cases q
def aiI(X:Cx)(C:Addr)(E:XK):Prop := ∀ (ag:List (Addr × Obj)) (σ : St) (H:Hp) (s:Shared) (h':Heap) (e:Addr) (args:List Value),Inv X ag σ H s->KU s.heap h' e (.ref C) args->E (.ref C) none H->X.xe (.ref e) { s with heap:=h' }
def adY(C:Addr)(E:XK)(t:TA):TS:=fun _ σ H=>t σ H fun vs H1=>vs.length<=sizeLine∧E (.ref C) none H1
theorem lD{E:XK}{Up : Expr}{rest:List Expr}{t:TA}{np fN:Pos}(On:Exc X.K X.mg x C)(hc:X.calm=true)(F:aiI X C E)(ha:PA X (Up :: rest) t)(hg:Gl X x)(he:starEach (Up :: rest) X.env=(false,eval Up X.env) :: starEach rest X.env:=by rfl)(OE:(backTo fN (starEach rest X.env)).any (·.1)=false:=by rfl)(hd:(x == ("__debug__" : Str))=false:=by decide) :
  PS X (.Raise (some (.Call (.Name x np) (Up :: rest) [] fN)) none pos) (adY C E t):=by
 intro ag s σ H D I h;obtain⟨tl,N,nm,q,bs,hdct,sn,sub,ab,col,dd,k0,k1,k2,k3,k5,mN,hC,hN,hni,T⟩:=(On.own I.ok.mod.Lq).obj;refine wpAny_Raise_call_subT (C:=C) (nm:=nm) (q:=q) (N:=N) (bs:=bs) (bm:=tl) (hdct:=hdct) (sn:=sn) (sub:=sub) (ab:=ab) (col:=col) (dd:=dd) (k0:=k0) (k1:=k1) (k2:=k2) (k3:=k3) (k5:=k5)
  vm (mN:=mN) (T.hasType vm.hasBase) (I.ok.hd hc) (by rw[he];show (false || (backTo fN (starEach rest X.env)).any (·.1))=false;rw[OE];rfl) hni (zy I hg On.glob ⟨O,?_⟩ hd)
 have yR := ha fN ag s σ H _ I h;rw[he]at yR ⊢;exact iX (wpAny_mono yR (fun vs nB ⟨xs,H1,I1,r,hl,hq⟩=>⟨O,by rw[<- r.length];exact hl,I1.bk _ _ hC,hN.keeps I1.bk,T.keeps I1.bk,fun h' e hm=>F ag σ H1 nB h' e vs I1 hm hq⟩) fun _ _ y=>y)
end L2
namespace L2
open PySem PySem.Spec PyProof.Rows PySem.W
section
variable {prog:Program}{w:World}{A:Around}{E:Value->Shared->Prop}{h:Heap}{g:Array GenState}{d:Drawn}{t:Nat}{os:OsState}{a:Addr}{o:Obj}
 {nm q:Str}{C N:Addr}{bs bm:List Value}{hdct:Bool}{sn:List Str}{sub:List Value}{ab:Bool}{col:Option Bool}{dd:Option Addr}{k0 k1 k2 k3 k5:Option Value}{TF:String}
end
end L2
namespace L2
open PySem PySem.Spec PyProof.Rows
variable{te:TE}{b:Bool}{pos:Pos}{v y:V}{x z:Str}{P prog:Program}{w:World}{K:ai}{pl:Sem Bool}{xs:List (List Key × Addr × Value)}{us:List Value}{X:Cx}{g:TG}{σ:St}{H H':Hp}{Q:Value->Shared->Prop}{h h':Heap}{u:Value}{A:Around}{s:Shared}{o:Option V}{kvs:List (List Key × V)}{ks:List Key}{t':Nat}{env:Env}{ag:List (Addr × Obj)}{p7 gO Bs:Expr}{wi:TI}{ct:TT}
section
variable {X:Cx}{ag:List (Addr × Obj)}{σ : St}{H:Hp}{s:Shared}{xe:Value->Shared->Prop}{A:Around}
end
section
variable {X:Cx}{ag:List (Addr × Obj)}{σ : St} {H0 H':Hp} {s0 s':Shared}{ea C:Addr}{a0:Value}{B h5:Heap}{env:Env}{outer:List Env}
end
section
variable {X:Cx}{k:Nat}{f:Addr}{fd:FuncData}{ps:List Str}{sp:Sp}{dC:List V}{ds:List Value}{x:Str}{p pos:Pos}{e:Expr}{es:List Expr}{t:TA}
end
theorem Ih{M:Model}{A:Around}{E:Value->Shared->Prop}{R R':Str->Shared->Prop}(h:∀ z s,R z s->R' z s):∀ {l:List (Sem Value)}{acc:Str}{s:Shared},Joins M A E l acc R s->Joins M A E l acc R' s
 | [],acc,s,q=>h _ _ q
 | x :: r,acc,s,q=>wpAny_mono q (fun v s1 ⟨y,t,e,hz,q1⟩=>⟨y,t,e,hz,Ih h q1⟩) fun _ _ z=>z
section
variable {X:Cx}
abbrev TJ:=St->Hp->(Hp->Prop)->Prop
def PJ(X:Cx)(es:List Expr)(t:TJ):Prop := ∀ (ag:List (Addr × Obj)) (s:Shared) (σ : St) (H:Hp) (acc:Str) (Q:Hp->Prop),Inv X ag σ H s->acc.length+1000 * es.length<=100000 ->
 t σ H Q->Joins (model X.prog X.w) X.A X.xe (evalEach es X.env) acc (fun out s1=>out.length<=100000∧∃ H1,Inv X ag σ H1 s1∧Q H1) s
def amm:TJ:=fun _ H Q=>Q H
def aim(te:TE)(t:TJ):TJ:=fun σ H Q=>te σ H fun x H1=>∃ z,x = .str z∧z.length<=1000∧t σ H1 Q
theorem C7:PJ X [] amm:=fun ag s σ H acc R I hl h=>⟨by simpa using hl,H,I,h⟩
theorem ke{e:Expr}{es:List Expr}{t:TJ}(he:PE X e te)(hr:PJ X es t)(hs:evalEach (e :: es) X.env=eval e X.env :: evalEach es X.env:=by rfl):PJ X (e :: es) (aim te t):=by
 intro ag s σ H acc R I hl h;rw[hs];rw[cg]at hl;refine cm (he ag s σ H _ I h) fun v s1 ⟨x,H1,I1,rx,z,ex,hz,q⟩ =>?_;subst ex;obtain⟨tk,rfl⟩:=rx;have eO:(acc ++ z).length=acc.length+z.length:=pM _ _;refine⟨z,tk,O,by rw[eO];exact bp (by omega:_<=100000) (by decide),hr ag s1 σ H1 (acc ++ z) R I1 (by rw[eO];omega) q⟩
def acn(n:Nat)(t:TJ):TE:=fun σ H Q=>n<=90∧t σ H fun H1=>∀ z:Str,Q (.str z) H1
theorem uE{a b:Expr}{r:List Expr}{t:TJ}(h:PJ X (a :: b :: r) t):PE X (.JoinedStr (a :: b :: r) pos) (acn (a :: b :: r).length t):=by
 intro ag s σ H Q I hw;obtain⟨hn,hq⟩:=hw;refine wpAny_JoinedStr (Ih (fun z s1 ⟨hz,H1,I1,q⟩=>⟨bp hz (by decide),⟨.str z,H1,I1.tok _,⟨_,O⟩,q z⟩⟩) (h ag s σ H lg _ I ?_ hq));show 0+_<=_;omega
def ah7(tv:TE):TE:=fun σ H Q=>tv σ H fun x H1=>∃ i,x = .int i∧i.natAbs.log2 < 1920∧Q (.str (toString i)) H1
theorem zt{v:Expr}{tv:TE}(h:PE X v tv):PE X (.FormattedValue v (-1) none pos) (ah7 tv):=by
 intro ag s σ H Q I hw;refine FormattedValue_plain (cm (h ag s σ H _ I hw) fun u s1 ⟨x,H1,I1,rx,i,ex,hi,q⟩ =>?_);subst ex;obtain⟨tk,rfl⟩:=rx;exact formatField_int_small hi ⟨.str _,H1,I1.tok _,⟨_,O⟩,q⟩
theorem YF(h:∃ t,X.mg x=some (.str z t))(hg:Gl X x)(hd:(x == ("__debug__" : Str))=false:=by decide):PE X (.Name x pos) (tC (.str z)) :=
 let ⟨t,e⟩:=h;tD hg e ⟨t,O⟩ hd
theorem d7{i:Int}(h:∃ t,X.mg x=some (.int i t))(hg:Gl X x)(hd:(x == ("__debug__" : Str))=false:=by decide):PE X (.Name x pos) (tC (.int i)) :=
 let ⟨t,e⟩:=h;tD hg e ⟨t,O⟩ hd
end
theorem BP.okE{mg:Str->Option Value}{base:Heap}{cD:Str}{st:Stmt}{f:Addr}{fd:FuncData}{N ps:List Str}{k:Nat}{sp:Sp}(F:BP K x cD st f fd)(S:bu N ps (aF st))(len:∀ vs H Q E,sp vs H Q E->vs.length=ps.length)(jX:∀ (bU:Value) (A:Around) (outer:List Env) (s:Shared) (H:Hp) (vs:List V) (Q:VK) (E:XK),eQ k (A.deeper (envOfC cD (aF st) s.heap.objs.size f bU))->sp vs H Q E ->
   ∃ t,oC (cG (mz P w) P w K mg base N cD (aF st) f bU A outer s H E) (d6 st) t∧t { nx:=fun _ H'=>Q .cj H',rt:=Q } (start N vs) H):kC P w K mg base (mz P w) (k+1) f fd ps sp:=by
 obtain⟨oc,od,kV,doc,pm,an,bU,ct,zu,rfl,lk,om⟩:=F.ex;exact MG lk om S len fun A outer s H vs Q E hr xW=>jX bU A outer s H vs Q E hr xW
structure KW(P:Program)(w:World)(K:ai)(mg:Str->Option Value)(base:Heap)(k:Nat)(x:Str)(ps:List Str)(sp:Sp):Prop where
 ex:∃ f fd,kC P w K mg base (mz P w) k f fd ps sp∧mg x=some (.ref f)∧bH K (.ref f)=true∧Binds K fd ps []
structure ic(P:Program)(w:World)(K:ai)(mg:Str->Option Value)(base:Heap)(k:Nat)(C:Addr)(m:Str)(ps:List Str)(sp:Sp):Prop where
 ex:∃ f fd,kC P w K mg base (mz P w) k f fd ps sp∧Meth K C m f∧Binds K fd ps []
structure pO(P:Program)(w:World)(K:ai)(mg:Str->Option Value)(base:Heap)(k:Nat)(x:Str)(C:Addr)(ps:List Str)(sp:Sp):Prop where
 ex:∃ f fd,kC P w K mg base (mz P w) k f fd ps sp∧mg x=some (.ref C)∧Mk K C f∧Binds K fd ps []
structure gD(K:ai)(C:Addr)(m cD:Str)(st:Stmt)(ps:List Str):Prop where
 ex:∃ f fd,BP K m cD st f fd∧Meth K C m f∧Binds K fd ps []
structure oI(K:ai)(mg:Str->Option Value)(x:Str)(C:Addr)(cD:Str)(st:Stmt)(ps:List Str):Prop where
 ex:∃ f fd,BP K "__init__" cD st f fd∧mg x=some (.ref C)∧Mk K C f∧Binds K fd ps []
section
variable {P:Program}{w:World}{K:ai}{mg:Str->Option Value}{base:Heap}{x m cD:Str}{C:Addr}{st:Stmt}{N ps:List Str}{k:Nat}{sp:Sp}
theorem Def.af5(D:Def K mg x st ps)(S:bu N ps (aF st))(len:∀ vs H Q E,sp vs H Q E->vs.length=ps.length)(jX:∀ (f:Addr) (bU:Value) (A:Around) (outer:List Env) (s:Shared) (H:Hp) (vs:List V) (Q:VK) (E:XK),eQ k (A.deeper (envOfC x (aF st) s.heap.objs.size f bU))->sp vs H Q E ->
   ∃ t,oC (cG (mz P w) P w K mg base N x (aF st) f bU A outer s H E) (d6 st) t∧t { nx:=fun _ H'=>Q .cj H',rt:=Q } (start N vs) H):KW P w K mg base (k+1) x ps sp:=by
 obtain⟨f,fd,F,hm,hb⟩:=D.ex;exact⟨f,fd,F.okE S len (jX f),hm,F.kp,hb⟩
theorem gD.has(D:gD K C m cD st ps)(S:bu N ps (aF st))(len:∀ vs H Q E,sp vs H Q E->vs.length=ps.length)(jX:∀ (f:Addr) (bU:Value) (A:Around) (outer:List Env) (s:Shared) (H:Hp) (vs:List V) (Q:VK) (E:XK),eQ k (A.deeper (envOfC cD (aF st) s.heap.objs.size f bU))->sp vs H Q E ->
   ∃ t,oC (cG (mz P w) P w K mg base N cD (aF st) f bU A outer s H E) (d6 st) t∧t { nx:=fun _ H'=>Q .cj H',rt:=Q } (start N vs) H):ic P w K mg base (k+1) C m ps sp:=by
 obtain⟨f,fd,F,hm,hb⟩:=D.ex;exact⟨f,fd,F.okE S len (jX f),hm,hb⟩
theorem oI.has(D:oI K mg x C cD st ps)(S:bu N ps (aF st))(len:∀ vs H Q E,sp vs H Q E->vs.length=ps.length)(jX:∀ (f:Addr) (bU:Value) (A:Around) (outer:List Env) (s:Shared) (H:Hp) (vs:List V) (Q:VK) (E:XK),eQ k (A.deeper (envOfC cD (aF st) s.heap.objs.size f bU))->sp vs H Q E ->
   ∃ t,oC (cG (mz P w) P w K mg base N cD (aF st) f bU A outer s H E) (d6 st) t∧t { nx:=fun _ H'=>Q .cj H',rt:=Q } (start N vs) H):pO P w K mg base (k+1) x C ps sp:=by
 obtain⟨f,fd,F,hm,hb⟩:=D.ex;exact⟨f,fd,F.okE S len (jX f),hm,hb⟩
end
section
variable {X:Cx} {k k':Nat}{x m:Str}{C:Addr}{ps:List Str}{sp:Sp}{p pos eP:Pos}{e o:Expr}{es:List Expr}{ta:TE}{t:TA}{E:XK}
theorem NT(h:KW X.prog X.w X.K X.mg X.base k x ps sp)(hr:eQ k' X.A)(hk:k<=k')(hx:Passes (mz X.prog X.w) X E)(hg:Gl X x)(ha:PA X (e :: es) t)(rK:(x == ("__debug__" : Str))=false:=by decide)(he:starEach (e :: es) X.env=(false,eval e X.env) :: starEach es X.env:=by rfl)(j7:(backTo pos (starEach es X.env)).any (·.1)=false:=by rfl) :
  PE X (.Call (.Name x p) (e :: es) [] pos) (Ag sp [] E t):=by
 obtain⟨f,fd,F,hm,Dx,hb⟩:=h.ex;exact ER F (hr.mono hk) hg hm Dx hb .nil hx ha rK he j7
theorem lP(h:ic X.prog X.w X.K X.mg X.base k C m ps sp)(c:lB X.K C)(hr:eQ k' X.A)(hk:k<=k')(hx:Passes (mz X.prog X.w) X E)(he:PE X o ta)(ha:PA X (e :: es) t)(nN:starEach (e :: es) X.env=(false,eval e X.env) :: starEach es X.env:=by rfl)(j7:(backTo pos (starEach es X.env)).any (·.1)=false:=by rfl)(ht:eval (.Call (.Attribute o m eP) (e :: es) [] pos) X.env=(do
   let ov <- eval o X.env
   standAt eP.atName
   let (f,first) <- holding [ov] (getMethod ov m pl)
   callWith pos f first (backTo pos (starEach (e :: es) X.env)) (backToKw pos (keywordEach [] X.env))):=by rfl) :
  PE X (.Call (.Attribute o m eP) (e :: es) [] pos) (Hu C m sp [] E ta t):=by
 obtain⟨f,fd,F,hm,hb⟩:=h.ex;exact Rh he c hm F (hr.mono hk) hb .nil hx ha nN j7 ht
theorem aer(h:ic X.prog X.w X.K X.mg X.base k C m ps sp)(c:lB X.K C)(hr:eQ k' X.A)(hk:k<=k')(hx:Passes (mz X.prog X.w) X E)(he:PE X o ta)(ht:eval (.Call (.Attribute o m eP) [] [] pos) X.env=(do
   let ov <- eval o X.env
   standAt eP.atName
   let (f,first) <- holding [ov] (getMethod ov m pl)
   callWith pos f first (backTo pos (starEach [] X.env)) (backToKw pos (keywordEach [] X.env))):=by rfl) :
  PE X (.Call (.Attribute o m eP) [] [] pos) (Hu C m sp [] E ta Yj):=by
 obtain⟨f,fd,F,hm,hb⟩:=h.ex;exact YE he c hm F (hr.mono hk) hb .nil hx ht
theorem qp(h:pO X.prog X.w X.K X.mg X.base k x C ps sp)(hr:eQ k' X.A)(hk:k+1<=k')(hx:Passes (mz X.prog X.w) X E)(hg:Gl X x)(ha:PA X (e :: es) t)(rK:(x == ("__debug__" : Str))=false:=by decide)(he:starEach (e :: es) X.env=(false,eval e X.env) :: starEach es X.env:=by rfl)(j7:(backTo pos (starEach es X.env)).any (·.1)=false:=by rfl) :
  PE X (.Call (.Name x p) (e :: es) [] pos) (aat C sp [] E t):=by
 obtain⟨f,fd,F,hm,M,hb⟩:=h.ex;exact acN M F (hr.mono hk) hg hm hb .nil hx ha rK he j7
end
def eqT(xs ys:List V):Bool:=(aI (min xs.length ys.length)).all (fun j=>BI (xs.getD j .cj) (ys.getD j .cj)) && xs.length == ys.length
theorem K7{xs:List V}(r:Vals xs us)(j:Nat)(h:j < us.length):RelV (xs.getD j .cj) us[j]:=by
 have hx:j < xs.length:=by rw[r.length];exact h
 obtain⟨u,h1,h2⟩:=r.get (ah hx);rw[ah h]at h1;cases h1;rw[aU,ah hx];exact h2
theorem flat_getD{xs:List V}(f:xs.all oY=true)(j:Nat)(h:j < xs.length):oY (xs.getD j .cj)=true:=by
 rw[aU,ah h];exact iw.mp f _ (qD h)
def XY(x:Str):It:=⟨fun i _=>i < x.length,fun i H v H'=>H'=H∧∃ c,x.cps.toList[i]? = some c∧v = .str ⟨#[c]⟩,fun i _=>x.length<=i⟩
theorem Yd{tg:Expr}(x:Str)(t:Tok)(it:Addr):Turn P w K tg (XY x) [it] it (fun i h=>h.IsStrIter it "str_ascii_iterator" x t i) where
 mem:=by simp
 obj:=fun i h st b hb=>by
  have e:b=it:=by simpa using hb
  subst e;obtain⟨o,e,c,d⟩:=st;exact⟨o,e,fun v z=>by rw[d]at z;cases z⟩
 keep:=fun i h h' st k=>by
  obtain⟨o,e,c,d⟩:=st;exact⟨o,k it (by simp) o e,c,d⟩
 item:=by
  intro X hP hw hK hc i ag s σ H E I hf st hg;subst hP hw hK;have hi:i < x.cps.size:=hg;obtain⟨f0,f1,f2,f3,f4,f5⟩:=hf it (by simp);refine wpAny_pyNext_ascii_item st (c:=x.cps[i]) (by simp[hi]) fun h' aG sb =>?_;have I1:Inv X ag σ H { s with heap:=h',toks:=s.toks+1 }:=I.turned (t':=s.toks+1) (fun b o hb e=>(sb.2 b hb).trans e) f0 f1 f3 f4 f5;obtain⟨o,e,c,d⟩:=id aG;exact⟨_,O,IJ (s := { s with heap:=h',toks:=s.toks+1 }) e c d (by decide) ⟨.str ⟨#[x.cps[i]]⟩,H,I1,⟨_,O⟩,⟨O,x.cps[i],by simp[hi],O⟩,aG,fun b hb=>(hf b hb).1⟩⟩
 done:=by
   intro X hP hw hK hc i ag s σ H E I hf st hg;subst hP hw hK;have hi:x.cps.size<=i:=hg;obtain⟨f0,f1,f2,f3,f4,f5⟩:=hf it (by simp);exact wpAny_pyNext_ascii_end (I.ok.hd hc) st (by simp[hi]) fun h' eb=>⟨O,I.turned (t':=s.toks) (fun b o hb e=>eb b o hb e) f0 f1 f3 f4 f5⟩
 self:=fun _ _ _ _ _ st h=>wpAny_pyIter_striter_ascii st h
def amr(tl:TE):TI:=fun σ H R=>tl σ H fun x H1=>∃ z:Str,x = .str z∧z.cps.all (· < 128)=true∧R (XY z) H1
theorem aeo{tg l:Expr}{tl:TE}(hl:PE X l tl):PI X tg l (amr tl):=by
 intro ag s σ H R I h;refine cm (hl ag s σ H _ I h) fun v s1 ⟨x,H1,I1,r1,q1⟩ =>?_;obtain⟨z,e,ha,q⟩:=q1;subst e;obtain⟨tk,rfl⟩:=r1;refine wpAny_pyIter_ascii ha ?_;refine⟨s1.heap.objs.size, [s1.heap.objs.size],_,_,H1,O,I1.kept (t':=s1.toks) fun b o e=>aH _ e,Yd z tk _,⟨_,bz _ rfl,O,O⟩,fun b hb =>?_,q⟩;have e:b=s1.heap.objs.size:=by simpa using hb
 subst e;exact I1.DR (aw _) (I1.bO.fresh (aw _))
theorem adj{tb:TS}{D:Ends}(Pv:Nat->St->Hp->Prop)(h0:Pv 0 σ H)(hs:∀ i c σ H,z.cps.toList[i]? = some c->Pv i σ H->g (.str ⟨#[c]⟩) σ H fun kW H2=>tb { D with nx:=Pv (i+1),ct:=Pv (i+1),bk:=D.nx } kW H2)(hd:∀ σ H,Pv z.length σ H->D.nx σ H) :
  ∃ W:Nat->Nat->St->Hp->Prop,(∃ m,W 0 m σ H)∧∀ i m σ H,W i m σ H ->
   ((XY z).stop i H∧D.nx σ H)∨((XY z).go i H∧∃ N:St->Hp->Prop,(∀ bJ H',N bJ H'->∃ m',m' < m∧W (i+1) m' bJ H')∧∀ x H',(XY z).BW i H x H'->g x σ H' fun kW H2=>tb { D with nx:=N,ct:=N,bk:=D.nx } kW H2):=by
 refine⟨fun i m σ H=>m=z.length - i∧i<=z.length∧Pv i σ H,⟨z.length,by simp,aQ _,h0⟩,?_⟩;rintro i m σ H ⟨rfl,hi,p⟩;by_cases ef:i < z.length
 ·refine .inr ⟨ef,Pv (i+1),fun bJ H' p'=>⟨z.length - (i+1),by omega,O,ef,p'⟩,fun x H' y =>?_⟩;obtain⟨e,c,hc,rfl⟩:=y;subst e;exact hs i c σ _ hc p
 ·have e:i=z.length:=by omega
  subst e;exact .inl ⟨aw _,hd σ H p⟩
section
variable {X:Cx}
inductive FT(xs:List V)(H:Hp)(Q:VK):Prop
 | mk:∀ b,(xs = [.bl b])->(Q (.int (if b then 1 else 0)) H)->FT xs H Q
theorem Xl:mQ X (.type "int") (fun xs H Q=>FT xs H Q):=by
 intro ag s σ H xs us Q I r h;obtain⟨b,rfl,q⟩:=h;obtain⟨u,rfl,rx⟩:=Vals.one r;cases (show u=pj b from rx);exact call_int_bool ⟨.int _,H,I.tok _,⟨_,O⟩,q⟩
def alB(K:ai):R2:=fun x y H Q=>∃ a b xs ys,x = .ref a∧y = .ref b∧aW K H a xs∧aW K H b ys∧xs.all oY=true∧ys.all oY=true∧Q (.bl (!eqT xs ys)) H
theorem VU(hu:X.A.units < cLine):lN X (compareOp .NotEq) (alB X.K):=by
 intro ag s σ H x y v u Q I rx ry h;obtain⟨a,b,xs,ys,rfl,rfl,ha,hb,fx,fy,q⟩:=h;cases (show v=bL a from rx);cases (show u=bL b from ry);obtain⟨its,r1,t1,_⟩:=I.tuple ha;obtain⟨GH,r2,t2,_⟩:=I.tuple hb;have e1:=r1.length;have e2:=r2.length;refine BQ (e:=fun j=>BI (xs.getD j .cj) (ys.getD j .cj)) (items:=its.toArray) (items2:=GH.toArray) t1 t2 hu (fun j h1 h2 =>?_) _ _ _ _ ?_
 ·have O8:j < its.length:=by simpa using h1
  have O7:j < GH.length:=by simpa using h2
  have z1:=K7 r1 j O8;have z2:=K7 r2 j O7;have z:=W6 (A:=X.A.in1) (s:=s) z1 z2 (flat_getD fx j (by omega)) (flat_getD fy j (by omega));simpa using z
 ·refine⟨.bl (!eqT xs ys),H,I,?_,q⟩;show pj _=pj _;unfold eqT;simp only[aR,e1,e2]
end
theorem Xe{a:Addr}{xs ys:List V}{caps:List (Str × Nat)}{Q:VK}(hS:aW K H a xs)(hz:xs.length<=1000)(hy:ys.length=xs.length)(DA:∀ (i:Nat) (x y:V),xs[i]? = some x->ys[i]? = some y->∀ H',a6 H H'->∀ Q':VK,(∀ pG,a6 H' pG->Q' y pG)->te (some x :: kq σ caps) H' Q')(hq:∀ D H',H D=none->a6 H H'->H' D=some (.lst ys)->Q (.ref D) H') :
  Hj (SE K a) (b7 0) te (bq 1 none ++ kq σ caps) H Q:=by
 intro D hD;refine⟨fun i m τ zs H'=>m=xs.length - i∧i<=xs.length∧(∃ o, τ = o :: kq σ caps)∧zs=ys.take i∧a6 H H'∧H' D=some (.lst zs),⟨xs.length,by simp,aQ _,⟨none,O⟩,by simp,aD hD _,ak⟩,?_⟩;rintro i m τ zs H' ⟨rfl,hi,⟨o,rfl⟩,rfl,sm,ya⟩;refine⟨ya,?_⟩;by_cases ef:i < xs.length
 ·refine .inr ⟨⟨xs,xs[i],sm.tup hS,by simp[ef]⟩,?_,fun x pG y =>?_⟩
  ·rw[cf];exact dD (by omega)
  obtain⟨e,y⟩:=y;subst e;have hx:=y xs (sm.tup hS);have hyi:ys[i]? = some ys[i]:=ah (by omega);show te (some x :: kq σ caps) _ _;refine DA i x ys[i] hx hyi _ sm _ (fun H2 s2 =>?_);refine⟨s2 _ _ ya,xs.length - (i+1),by omega,O,ef,⟨_,O⟩,?_,(sm.trans s2).put hD,?_⟩
  ·rw[cW,hyi];rfl
  ·rw[ak]
 ·have e:i=xs.length:=by omega
  subst e;refine .inl ⟨⟨xs,sm.tup hS,aw _⟩,?_⟩;rw[<- hy,du]at ya;exact hq D H' hD sm ya
inductive D where
 | cj | int (i:Int) | str (x:Str) | tup (ds:List D) | lst (ds:List D)
instance:DecidableEq D:=fun _ _=>Classical.propDecidable _
mutual
def D.deep:D->Nat
 | .tup ds=>D.f9 ds+1
 | .lst ds=>D.f9 ds+1
 | .cj=>0
 | .int _=>0
 | .str _=>0
def D.f9:List D->Nat
 | []=>0
 | d :: ds=>max d.deep (D.f9 ds)
end
theorem A9:∀ {ds:List D}{d:D},d∈ds->d.deep<=D.f9 ds
 | e :: ds,d,h=>by
  rw[D.f9];rcases bC.mp h with rfl | h
  ·omega
  ·have:=A9 h;omega
mutual
def cv(h:Heap):D->Value->Prop
 | .cj,u=>u=gJ
 | .int i,u=>(∃ t,u=oA i t)∨∃ b,u=pj b∧i=(if b then 1 else 0)
 | .str x,u=>∃ t,u=yj x t
 | .tup ds,u=>∃ a us,u=bL a∧h.IsTuple a us.toArray∧gv h ds us
 | .lst ds,u=>∃ a us,u=bL a∧h.IsList a us.toArray∧gv h ds us
def gv(h:Heap):List D->List Value->Prop
 | [],us=>us = []
 | d :: ds,us=>∃ u cL,us=u :: cL∧cv h d u∧gv h ds cL
end
mutual
def Den(H:Hp):D->V->Prop
 | .cj,v=>v = .cj
 | .int i,v=>v = .int i∨∃ b,v = .bl b∧i=(if b then 1 else 0)
 | .str x,v=>v = .str x
 | .tup ds,v=>∃ a vs,v = .ref a∧H a=some (.tup vs)∧fO H ds vs
 | .lst ds,v=>∃ a vs,v = .ref a∧H a=some (.lst vs)∧fO H ds vs
def fO(H:Hp):List D->List V->Prop
 | [],vs=>vs = []
 | d :: ds,vs=>∃ v pT,vs=v :: pT∧Den H d v∧fO H ds pT
end
theorem fG{h:Heap}:∀ {ds:List D}{us:List Value},gv h ds us->us.length=ds.length
 | [],us,r=>by rw[gv]at r;subst r;rfl
 | d :: ds,us,r=>by
  rw[gv]at r;obtain⟨u,cL,rfl,_,r⟩:=r;rw[cg,cg,fG r]
theorem qz{h:Heap}:∀ {ds:List D}{us:List Value}{j:Nat}{d:D},gv h ds us->ds[j]? = some d->∃ u,us[j]? = some u∧cv h d u
 | [],us,j,d,r,e=>by simp at e
 | c :: ds,us,0,d,r,e=>by
  rw[gv]at r;obtain⟨u,cL,rfl,r1,_⟩:=r;simp at e;subst e;exact⟨u,O,r1⟩
 | c :: ds,us,j+1,d,r,e=>by
  rw[gv]at r;obtain⟨u,cL,rfl,_,r⟩:=r;obtain⟨u',e',r'⟩:=qz (j:=j) (d:=d) r (by simpa using e);exact⟨u',by simpa using e',r'⟩
theorem Pj{H:Hp}:∀ {ds:List D}{vs:List V},fO H ds vs->vs.length=ds.length
 | [],us,r=>by rw[fO]at r;subst r;rfl
 | d :: ds,us,r=>by
  rw[fO]at r;obtain⟨u,cL,rfl,_,r⟩:=r;rw[cg,cg,Pj r]
theorem FH{H:Hp}:∀ {ds es:List D}{us vs:List V},fO H ds us->fO H es vs->fO H (ds ++ es) (us ++ vs)
 | [],es,us,vs,r,q=>by rw[fO]at r;subst r;exact q
 | d :: ds,es,us,vs,r,q=>by
  rw[fO]at r;obtain⟨u,cL,rfl,r1,r⟩:=r;rw[eS,eS,fO];exact⟨u,cL ++ vs,O,r1,FH r q⟩
theorem lG{d:D}(r:Den H d v):fO H [d] [v]:=by
 rw[fO];exact⟨v, [],O,r,by rw[fO]⟩
theorem gx{d:D}{ds:List D}{vs:List V}(r:Den H d v)(q:fO H ds vs):fO H (d :: ds) (v :: vs):=by
 rw[fO];exact⟨v,vs,O,r,q⟩
theorem GP:fO H [] []:=by rw[fO]
mutual
theorem ZN{H H':Hp}(k:∀ a vs,(H a=some (.tup vs)->H' a=some (.tup vs))∧(H a=some (.lst vs)->H' a=some (.lst vs))):∀ {d:D}{v:V},Den H d v->Den H' d v
 | .cj,v,r=>by rw[Den]at r ⊢;exact r
 | .int i,v,r=>by rw[Den]at r ⊢;exact r
 | .str x,v,r=>by rw[Den]at r ⊢;exact r
 | .tup ds,v,r=>by
  rw[Den]at r ⊢;obtain⟨a,vs,rfl,e,r⟩:=r;exact⟨a,vs,O,(k a vs).1 e,yd k r⟩
 | .lst ds,v,r=>by
  rw[Den]at r ⊢;obtain⟨a,vs,rfl,e,r⟩:=r;exact⟨a,vs,O,(k a vs).2 e,yd k r⟩
theorem yd{H H':Hp}(k:∀ a vs,(H a=some (.tup vs)->H' a=some (.tup vs))∧(H a=some (.lst vs)->H' a=some (.lst vs))):∀ {ds:List D}{vs:List V},fO H ds vs->fO H' ds vs
 | [],vs,r=>by rw[fO]at r ⊢;exact r
 | d :: ds,vs,r=>by
  rw[fO]at r ⊢;obtain⟨v,pT,rfl,r1,r⟩:=r;exact⟨v,pT,O,ZN k r1,yd k r⟩
end
theorem LM{d:List D}{v:List V}(sm:a6 H H')(r:fO H d v):fO H' d v:=yd (fun a vs=>⟨sm _ _,sm _ _⟩) r
mutual
def D.Ro:D->Bool
 | .tup ds=>D.wD ds
 | .lst _=>false
 | .cj=>true
 | .int _=>true
 | .str _=>true
def D.wD:List D->Bool
 | []=>true
 | d :: ds=>d.Ro && D.wD ds
end
mutual
theorem ye{H H':Hp}(k:∀ a vs,H a=some (.tup vs)->H' a=some (.tup vs)):∀ {d:D}{v:V},d.Ro=true->Den H d v->Den H' d v
 | .cj,v,_,r=>by rw[Den]at r ⊢;exact r
 | .int i,v,_,r=>by rw[Den]at r ⊢;exact r
 | .str x,v,_,r=>by rw[Den]at r ⊢;exact r
 | .tup ds,v,n,r=>by
  rw[D.Ro]at n;rw[Den]at r ⊢;obtain⟨a,vs,rfl,e,r⟩:=r;exact⟨a,vs,O,k a vs e,A8 k n r⟩
 | .lst ds,v,n,r=>by rw[D.Ro]at n;cases n
theorem A8{H H':Hp}(k:∀ a vs,H a=some (.tup vs)->H' a=some (.tup vs)):∀ {ds:List D}{vs:List V},D.wD ds=true->fO H ds vs->fO H' ds vs
 | [],vs,_,r=>by rw[fO]at r ⊢;exact r
 | d :: ds,vs,n,r=>by
  rw[D.wD,dU]at n;rw[fO]at r ⊢;obtain⟨v,pT,rfl,r1,r⟩:=r;exact⟨v,pT,O,ye k n.1 r1,A8 k n.2 r⟩
end
mutual
theorem o8{P:Program}{w:World}{H:Hp}{h:Heap}(ok:iG P w H h):∀ {d:D}{v:V}{u:Value},Den H d v->RelV v u->cv h d u
 | .cj,v,u,r,q=>by rw[Den]at r;subst r;rw[cv];exact q
 | .int i,v,u,r,q=>by
  rw[Den]at r;rw[cv];rcases r with rfl | ⟨b,rfl,e⟩
  ·exact .inl q
  ·exact .inr ⟨b,q,e⟩
 | .str x,v,u,r,q=>by rw[Den]at r;subst r;rw[cv];exact q
 | .tup ds,v,u,r,q=>by
  rw[Den]at r;obtain⟨a,vs,rfl,e,r⟩:=r;rw[cv];obtain⟨_,its,rv,p⟩:=(show eV P w H h a (.tup vs) from ok a _ e);exact⟨a,its,q,p.tup,GO ok r rv⟩
 | .lst ds,v,u,r,q=>by
  rw[Den]at r;obtain⟨a,vs,rfl,e,r⟩:=r;rw[cv];obtain⟨_,its,n,rv,p⟩:=(show eV P w H h a (.lst vs) from ok a _ e);exact⟨a,its,q,⟨_,p,O,n,O⟩,GO ok r rv⟩
theorem GO{P:Program}{w:World}{H:Hp}{h:Heap}(ok:iG P w H h):∀ {ds:List D}{vs:List V}{us:List Value},fO H ds vs->Vals vs us->gv h ds us
 | [],vs,us,r,q=>by rw[fO]at r;subst r;cases q;rw[gv]
 | d :: ds,vs,us,r,q=>by
  rw[fO]at r;obtain⟨v,pT,rfl,r1,r⟩:=r;cases q with
  | cons q1 q2 =>
   rw[gv];exact⟨_,_,O,o8 ok r1 q1,GO ok r q2⟩
end
theorem QU{a:Addr}{x y:Array Value}(p:h.IsTuple a x)(q:h.IsTuple a y):x=y:=by
 obtain⟨o,e,_,n,d⟩:=p;obtain⟨o',e',_,n',d'⟩:=q;rw[e]at e';cases e';rw[d]at d';injection d'
theorem ac7{a:Addr}{x y:Array Value}(p:h.IsList a x)(q:h.IsList a y):x=y:=by
 obtain⟨o,e,_,n,d⟩:=p;obtain⟨o',e',_,n',d'⟩:=q;rw[e]at e';cases e';rw[d]at d';injection d'
theorem Ru{a:Addr}{x y:Array Value}(p:h.IsList a x)(q:h.IsTuple a y):False:=by
 obtain⟨o,e,c,n,d⟩:=p;obtain⟨o',e',c',n',d'⟩:=q;rw[e]at e';cases e';rw[c]at c';exact absurd (pe c') (by decide)
mutual
theorem GQ{h:Heap}:∀ {d e:D}{u:Value},cv h d u->cv h e u->d=e
 | .cj,e,u,r,q=>by
  rw[cv]at r;subst r;cases e with
  | cj=>rfl
  | int i=>rw[cv]at q;rcases q with⟨t,z⟩ | ⟨b,z,_⟩ <;> cases z
  | str x=>rw[cv]at q;obtain⟨t,z⟩:=q;cases z
  | tup es=>rw[cv]at q;obtain⟨a,us,z,_⟩:=q;cases z
  | lst es=>rw[cv]at q;obtain⟨a,us,z,_⟩:=q;cases z
 | .int i,e,u,r,q=>by
  rw[cv]at r;cases e with
  | cj=>rw[cv]at q;subst q;rcases r with⟨t,z⟩ | ⟨b,z,_⟩ <;> cases z
  | int j =>
   rw[cv]at q;rcases r with⟨t,rfl⟩ | ⟨b,rfl,hb⟩ <;> rcases q with⟨t',z⟩ | ⟨b',z,j8⟩ <;> cases z
   ·rfl
   ·rw[hb,j8]
  | str x=>rw[cv]at q;obtain⟨t,rfl⟩:=q;rcases r with⟨t,z⟩ | ⟨b,z,_⟩ <;> cases z
  | tup es=>rw[cv]at q;obtain⟨a,us,rfl,_⟩:=q;rcases r with⟨t,z⟩ | ⟨b,z,_⟩ <;> cases z
  | lst es=>rw[cv]at q;obtain⟨a,us,rfl,_⟩:=q;rcases r with⟨t,z⟩ | ⟨b,z,_⟩ <;> cases z
 | .str x,e,u,r,q=>by
  rw[cv]at r;obtain⟨t,rfl⟩:=r;cases e with
  | cj=>rw[cv]at q;cases q
  | int i=>rw[cv]at q;rcases q with⟨t,z⟩ | ⟨b,z,_⟩ <;> cases z
  | str x=>rw[cv]at q;obtain⟨t,z⟩:=q;cases z;rfl
  | tup es=>rw[cv]at q;obtain⟨a,us,z,_⟩:=q;cases z
  | lst es=>rw[cv]at q;obtain⟨a,us,z,_⟩:=q;cases z
 | .tup ds,e,u,r,q=>by
  rw[cv]at r;obtain⟨a,us,rfl,p,r⟩:=r;cases e with
  | cj=>rw[cv]at q;cases q
  | int i=>rw[cv]at q;rcases q with⟨t,z⟩ | ⟨b,z,_⟩ <;> cases z
  | str x=>rw[cv]at q;obtain⟨t,z⟩:=q;cases z
  | tup es =>
   rw[cv]at q;obtain⟨a',cL,z,p',q⟩:=q;cases z;have e:us=cL:=by have:=QU p p';simpa using this
   subst e;rw[DT r q]
  | lst es=>rw[cv]at q;obtain⟨a',cL,z,p',_⟩:=q;cases z;exact absurd p (fun p=>Ru p' p)
 | .lst ds,e,u,r,q=>by
  rw[cv]at r;obtain⟨a,us,rfl,p,r⟩:=r;cases e with
  | cj=>rw[cv]at q;cases q
  | int i=>rw[cv]at q;rcases q with⟨t,z⟩ | ⟨b,z,_⟩ <;> cases z
  | str x=>rw[cv]at q;obtain⟨t,z⟩:=q;cases z
  | tup es=>rw[cv]at q;obtain⟨a',cL,z,p',_⟩:=q;cases z;exact absurd p (fun p=>Ru p p')
  | lst es =>
   rw[cv]at q;obtain⟨a',cL,z,p',q⟩:=q;cases z;have e:us=cL:=by have:=ac7 p p';simpa using this
   subst e;rw[DT r q]
theorem DT{h:Heap}:∀ {ds es:List D}{us:List Value},gv h ds us->gv h es us->ds=es
 | [],es,us,r,q=>by
  rw[gv]at r;subst r;cases es with
  | nil=>rfl
  | cons e es=>rw[gv]at q;obtain⟨u,cL,z,_⟩:=q;cases z
 | d :: ds,es,us,r,q=>by
  rw[gv]at r;obtain⟨u,cL,rfl,r1,r⟩:=r;cases es with
  | nil=>rw[gv]at q;cases q
  | cons e es =>
   rw[gv]at q;obtain⟨u',SQ,z,q1,q⟩:=q;cases z;rw[GQ r1 q1,DT r q]
end
theorem GR{p:Prop}[Decidable p](h:p↔b=true):b=decide p:=by
 cases b with
 | true=>exact(decide_eq_true (h.mpr rfl)).symm
 | false=>exact(decide_eq_false fun z=>bB (h.mp z)).symm
theorem IX(ds es:List D):((aI (min ds.length es.length)).all (fun j=>decide (ds[j]? = es[j]?)) && ds.length == es.length)=decide (ds=es):=by
 refine GR ⟨fun h=>by subst h;simp,fun h =>?_⟩;rw[dU,iw]at h;have hl:ds.length=es.length:=eq_of_beq h.2;refine eY fun j =>?_;by_cases hj:j < ds.length
 ·exact of_decide_eq_true (h.1 j (dH.mpr (by omega)))
 ·rw[cJ (by omega),cJ (by omega)]
theorem KA(ds es:List D)(hl:ds.length=es.length):(aI ds.length).all (fun j=>decide (ds[j]? = es[j]?))=decide (ds=es):=by
 have:=IX ds es;rw[<- hl,Nat.min_self]at this;simpa using this
section
open SeqAt
variable {A:Around}{s:Shared}
theorem bY{v:Value}{c:Bool}(h:EqAt A s u v b)(e:b=c):EqAt A s u v c:=e ▸ h
theorem W7:∀ (n:Nat) {d e:D}{A:Around}{u v:Value},d.deep<=n->cv s.heap d u->cv s.heap e v->A.units+n < cLine->EqAt A s u v (decide (d=e)):=by
 intro n
 induction n with
 | zero =>?_
 | succ n ih =>?_
 all_goals intro d e A u v hn r q hu
 all_goals have k4:A.units < cLine:=by omega
 all_goals cases d with
  | cj =>
   rw[cv]at r;subst r;cases e with
   | cj=>rw[cv]at q;subst q;exact bY (Mh _) (decide_eq_true rfl).symm
   | int j =>
    rw[cv]at q;rcases q with⟨t,rfl⟩ | ⟨b,rfl,_⟩
    ·exact bY (EqAt.none_int j t) (decide_eq_false nofun).symm
    ·exact bY (EqAt.none_bool b) (decide_eq_false nofun).symm
   | str y=>rw[cv]at q;obtain⟨t,rfl⟩:=q;exact bY (EqAt.none_str y t) (decide_eq_false nofun).symm
   | tup es=>rw[cv]at q;obtain⟨a,us,rfl,p,_⟩:=q;exact bY (EqAt.none_tuple p k4) (decide_eq_false nofun).symm
   | lst es=>rw[cv]at q;obtain⟨a,us,rfl,p,_⟩:=q;exact bY (EqAt.none_list p k4) (decide_eq_false nofun).symm
  | int i =>
   rw[cv]at r;cases e with
   | cj =>
    rw[cv]at q;subst q;rcases r with⟨t,rfl⟩ | ⟨b,rfl,_⟩
    ·exact bY (EqAt.int_none i t) (decide_eq_false nofun).symm
    ·exact bY (EqAt.bool_none b) (decide_eq_false nofun).symm
   | int j =>
    rw[cv]at q;have key:∀ x y:Int,(x == y)=decide (D.int x=D.int y):=fun x y=>GR ⟨fun z=>by cases z;simp,fun z=>by rw[eq_of_beq z]⟩;rcases r with⟨t,rfl⟩ | ⟨b,rfl,hb⟩ <;> rcases q with⟨t',rfl⟩ | ⟨b',rfl,j8⟩
    ·exact bY (EqAt.int_int i t j t') (key i j)
    ·rw[j8];exact bY (EqAt.int_bool i t b') (key _ _)
    ·rw[hb];exact bY (EqAt.bool_int b j t') (key _ _)
    ·rw[hb,j8];exact bY (EqAt.bool_bool b b') (by rw[<- key];cases b <;> cases b' <;> rfl)
   | str y =>
    rw[cv]at q;obtain⟨t,rfl⟩:=q;rcases r with⟨t',rfl⟩ | ⟨b,rfl,_⟩
    ·exact bY (EqAt.int_str i t' y t) (decide_eq_false nofun).symm
    ·exact bY (EqAt.bool_str b y t) (decide_eq_false nofun).symm
   | tup es =>
    rw[cv]at q;obtain⟨a,us,rfl,p,_⟩:=q;rcases r with⟨t',rfl⟩ | ⟨b,rfl,_⟩
    ·exact bY (EqAt.int_tuple i t' p k4) (decide_eq_false nofun).symm
    ·exact bY (EqAt.bool_tuple b p k4) (decide_eq_false nofun).symm
   | lst es =>
    rw[cv]at q;obtain⟨a,us,rfl,p,_⟩:=q;rcases r with⟨t',rfl⟩ | ⟨b,rfl,_⟩
    ·exact bY (EqAt.int_list i t' p k4) (decide_eq_false nofun).symm
    ·exact bY (EqAt.bool_list b p k4) (decide_eq_false nofun).symm
  | str x =>
   rw[cv]at r;obtain⟨t',rfl⟩:=r;cases e with
   | cj=>rw[cv]at q;subst q;exact bY (EqAt.str_none x t') (decide_eq_false nofun).symm
   | int j =>
    rw[cv]at q;rcases q with⟨t,rfl⟩ | ⟨b,rfl,_⟩
    ·exact bY (EqAt.str_int x t' j t) (decide_eq_false nofun).symm
    ·exact bY (EqAt.str_bool x t' b) (decide_eq_false nofun).symm
   | str y =>
    rw[cv]at q;obtain⟨t,rfl⟩:=q;exact bY (EqAt.str_str x t' y t) (GR ⟨fun z=>by cases z;simp,fun z=>by rw[eq_of_beq z]⟩)
   | tup es=>rw[cv]at q;obtain⟨a,us,rfl,p,_⟩:=q;exact bY (EqAt.str_tuple x t' p k4) (decide_eq_false nofun).symm
   | lst es=>rw[cv]at q;obtain⟨a,us,rfl,p,_⟩:=q;exact bY (EqAt.str_list x t' p k4) (decide_eq_false nofun).symm
  | tup ds =>?_
  | lst ds =>?_
 ·rw[D.deep]at hn;omega
 ·rw[D.deep]at hn;omega
 ·rw[D.deep]at hn;have r0:=r;rw[cv]at r;obtain⟨a,us,rfl,p,r⟩:=r;cases e with
  | cj=>rw[cv]at q;subst q;exact bY (EqAt.tuple_none p k4) (decide_eq_false nofun).symm
  | int j =>
   rw[cv]at q;rcases q with⟨t,rfl⟩ | ⟨b,rfl,_⟩
   ·exact bY (EqAt.tuple_int j t p k4) (decide_eq_false nofun).symm
   ·exact bY (EqAt.tuple_bool b p k4) (decide_eq_false nofun).symm
  | str y=>rw[cv]at q;obtain⟨t,rfl⟩:=q;exact bY (EqAt.tuple_str y t p k4) (decide_eq_false nofun).symm
  | tup es =>
   have q0:=q;rw[cv]at q;obtain⟨b,cL,rfl,p',q⟩:=q;by_cases Fx:a=b
   ·subst Fx;rw[GQ r0 q0];exact bY (Mh _) (decide_eq_true rfl).symm
   ·refine bY (Eo Fx (RcAt.tuples (e:=fun j=>decide (ds[j]? = es[j]?)) p p' k4 fun j h1 h2 =>?_)) ?_
    ·have l1:=fG r;have l2:=fG q;have O8:j < us.length:=by simpa using h1
     have O7:j < cL.length:=by simpa using h2
     have e1:=ah (l:=ds) (i:=j) (by omega);have e2:=ah (l:=es) (i:=j) (by omega);obtain⟨u,f1,g1⟩:=qz r e1;obtain⟨v,f2,g2⟩:=qz q e2;have z1:us.toArray[j]=u:=by rw[ah O8]at f1;simpa using f1
     have z2:cL.toArray[j]=v:=by rw[ah O7]at f2;simpa using f2
     rw[z1,z2];have:=ih (d:=ds[j]) (e:=es[j]) (A:=A.in1) (by have:=A9 (qD (l:=ds) (n:=j) (by omega));omega) g1 g2 (by show A.units+1+n < cLine;omega);refine bY this ?_;rw[e1,e2];exact decide_eq_decide.mpr ⟨fun z=>by rw[z],fun z=>aP z⟩
    ·have:=IX ds es;simp only[aR,fG r,fG q];rw[this];exact decide_eq_decide.mpr ⟨fun z=>by rw[z],fun z=>by injection z⟩
  | lst es=>rw[cv]at q;obtain⟨b,cL,rfl,p',_⟩:=q;exact bY (EqAt.tuple_list p p' k4) (decide_eq_false nofun).symm
 ·rw[D.deep]at hn;have r0:=r;rw[cv]at r;obtain⟨a,us,rfl,p,r⟩:=r;cases e with
  | cj=>rw[cv]at q;subst q;exact bY (EqAt.list_none p k4) (decide_eq_false nofun).symm
  | int j =>
   rw[cv]at q;rcases q with⟨t,rfl⟩ | ⟨b,rfl,_⟩
   ·exact bY (EqAt.list_int j t p k4) (decide_eq_false nofun).symm
   ·exact bY (EqAt.list_bool b p k4) (decide_eq_false nofun).symm
  | str y=>rw[cv]at q;obtain⟨t,rfl⟩:=q;exact bY (EqAt.list_str y t p k4) (decide_eq_false nofun).symm
  | tup es=>rw[cv]at q;obtain⟨b,cL,rfl,p',_⟩:=q;exact bY (EqAt.list_tuple p p' k4) (decide_eq_false nofun).symm
  | lst es =>
   have q0:=q;rw[cv]at q;obtain⟨b,cL,rfl,p',q⟩:=q;have l1:=fG r;have l2:=fG q;by_cases Fx:a=b
   ·subst Fx;rw[GQ r0 q0];exact bY (Mh _) (decide_eq_true rfl).symm
   by_cases hl:ds.length=es.length
   ·refine bY (Eo Fx (RcAt.lists (e:=fun j=>decide (ds[j]? = es[j]?)) p p' (by simp only[aR];omega) k4 fun j h1 h2 =>?_)) ?_
    ·have O8:j < us.length:=by simpa using h1
     have O7:j < cL.length:=by simpa using h2
     have e1:=ah (l:=ds) (i:=j) (by omega);have e2:=ah (l:=es) (i:=j) (by omega);obtain⟨u,f1,g1⟩:=qz r e1;obtain⟨v,f2,g2⟩:=qz q e2;have z1:us.toArray[j]=u:=by rw[ah O8]at f1;simpa using f1
     have z2:cL.toArray[j]=v:=by rw[ah O7]at f2;simpa using f2
     rw[z1,z2];have:=ih (d:=ds[j]) (e:=es[j]) (A:=A.in1) (by have:=A9 (qD (l:=ds) (n:=j) (by omega));omega) g1 g2 (by show A.units+1+n < cLine;omega);refine bY this ?_;rw[e1,e2];exact decide_eq_decide.mpr ⟨fun z=>by rw[z],fun z=>aP z⟩
    ·have:=KA ds es hl;simp only[aR,l1];rw[this];exact decide_eq_decide.mpr ⟨fun z=>by rw[z],fun z=>by injection z⟩
   ·refine bY (Eo Fx (RcAt.lists_lengths p p' (by simp only[aR];simp;omega) k4)) ?_;exact(decide_eq_false (fun z=>hl (by injection z with z;rw[z]))).symm
end
section
variable {X:Cx}
inductive XS(x:V)(y:V)(H:Hp)(Q:VK):Prop
 | mk:∀ ds es,(((Den H (.tup ds) x∧Den H (.tup es) y)∨(Den H (.lst ds) x∧Den H (.lst es) y)))->(D.f9 ds<=150)->(Q (.bl (decide (ds=es))) H)->XS x y H Q
def alE:R2:=fun x y H Q=>XS x y H Q
inductive XQ(x:V)(y:V)(H:Hp)(Q:VK):Prop
 | mk:∀ ds es,(((Den H (.tup ds) x∧Den H (.tup es) y)∨(Den H (.lst ds) x∧Den H (.lst es) y)))->(D.f9 ds<=150)->(Q (.bl (!decide (ds=es))) H)->XQ x y H Q
def alC:R2:=fun x y H Q=>XQ x y H Q
theorem vQ{ds es:List D}{cL:List Value}(hu:A.units+151 < cLine)(hd:D.f9 ds<=150)(r:gv s.heap ds us)(q:gv s.heap es cL)(j:Nat)(h1:j < us.toArray.size)(h2:j < cL.toArray.size) :
  d8 A.in1 s us.toArray[j] cL.toArray[j] (decide (ds[j]? = es[j]?)):=by
 have l1:=fG r;have l2:=fG q;have O8:j < us.length:=by simpa using h1
 have O7:j < cL.length:=by simpa using h2
 have e1:=ah (l:=ds) (i:=j) (by omega);have e2:=ah (l:=es) (i:=j) (by omega);obtain⟨u,f1,g1⟩:=qz r e1;obtain⟨v,f2,g2⟩:=qz q e2;have z1:us.toArray[j]=u:=by rw[ah O8]at f1;simpa using f1
 have z2:cL.toArray[j]=v:=by rw[ah O7]at f2;simpa using f2
 rw[z1,z2];refine bY (W7 150 (by have:=A9 (qD (l:=ds) (n:=j) (by omega));omega) g1 g2 (by show A.units+1+150 < cLine;omega)) ?_;rw[e1,e2];exact decide_eq_decide.mpr ⟨fun z=>by rw[z],fun z=>aP z⟩
theorem VX(hu:X.A.units+151 < cLine):lN X (compareOp .Eq) alE:=by
 intro ag s σ H x y v u Q I rx ry h;obtain⟨ds,es,hh,hd,q⟩:=h;have k4:X.A.units < cLine:=by omega
 rcases hh with⟨h1,h2⟩ | ⟨h1,h2⟩
 ·have g1:=o8 I.bO h1 rx;have g2:=o8 I.bO h2 ry;rw[cv]at g1 g2;obtain⟨a,us,rfl,p,r⟩:=g1;obtain⟨b,cL,rfl,p',r'⟩:=g2;refine SeqAt.eq_tupleAt (e:=fun j=>decide (ds[j]? = es[j]?)) p p' k4 (vQ hu hd r r') ?_;refine⟨.bl (decide (ds=es)),H,I,?_,q⟩;have:=IX ds es;simp only[aR,fG r,fG r'];rw[this];rfl
 ·have g1:=o8 I.bO h1 rx;have g2:=o8 I.bO h2 ry;rw[cv]at g1 g2;obtain⟨a,us,rfl,p,r⟩:=g1;obtain⟨b,cL,rfl,p',r'⟩:=g2;have l1:=fG r;have l2:=fG r';by_cases hl:ds.length=es.length
  ·refine SeqAt.eq_listAt (e:=fun j=>decide (ds[j]? = es[j]?)) p p' (by simp only[aR];omega) k4 (vQ hu hd r r') ?_;refine⟨.bl (decide (ds=es)),H,I,?_,q⟩;have:=KA ds es hl;simp only[aR,l1];rw[this];rfl
  ·refine SeqAt.eq_list_lengthsAt p p' (by simp only[aR];simp;omega) k4 ⟨.bl (decide (ds=es)),H,I,?_,q⟩;rw[decide_eq_false (fun z=>hl (by rw[z]))];rfl
theorem VV(hu:X.A.units+151 < cLine):lN X (compareOp .NotEq) alC:=by
 intro ag s σ H x y v u Q I rx ry h;obtain⟨ds,es,hh,hd,q⟩:=h;have k4:X.A.units < cLine:=by omega
 rcases hh with⟨h1,h2⟩ | ⟨h1,h2⟩
 ·have g1:=o8 I.bO h1 rx;have g2:=o8 I.bO h2 ry;rw[cv]at g1 g2;obtain⟨a,us,rfl,p,r⟩:=g1;obtain⟨b,cL,rfl,p',r'⟩:=g2;refine BQ (e:=fun j=>decide (ds[j]? = es[j]?)) p p' k4 (vQ hu hd r r') _ _ _ _ ?_;refine⟨.bl (!decide (ds=es)),H,I,?_,q⟩;have:=IX ds es;simp only[aR,fG r,fG r'];rw[this];rfl
 ·have g1:=o8 I.bO h1 rx;have g2:=o8 I.bO h2 ry;rw[cv]at g1 g2;obtain⟨a,us,rfl,p,r⟩:=g1;obtain⟨b,cL,rfl,p',r'⟩:=g2;have l1:=fG r;have l2:=fG r';by_cases hl:ds.length=es.length
  ·refine xk.lists (e:=fun j=>decide (ds[j]? = es[j]?)) p p' (by simp only[aR];omega) k4 (vQ hu hd r r') _ _ _ _ ?_;refine⟨.bl (!decide (ds=es)),H,I,?_,q⟩;have:=KA ds es hl;simp only[aR,l1];rw[this];rfl
  ·refine xk.lists_lengths p p' (by simp only[aR];simp;omega) k4 _ _ _ _ ⟨.bl (!decide (ds=es)),H,I,?_,q⟩;rw[decide_eq_false (fun z=>hl (by rw[z]))];rfl
end
section
variable {κ : Type} [DecidableEq κ]
def cP(kvs:List (κ × V))(k : κ):Option V:=(kvs.find? fun kv=>decide (kv.1=k)).map (·.2)
def gm(kvs:List (κ × V))(k : κ)(v:V):List (κ × V) :=
 if (kvs.any fun kv=>decide (kv.1=k))=true then kvs.map (fun kv=>if kv.1=k then (kv.1,v) else kv) else kvs ++ [(k,v)]
theorem F1{k : κ}:cP ([]:List (κ × V)) k=none:=rfl
theorem ip{p : κ × V}{r:List (κ × V)}{k : κ}(e:p.1=k):cP (p :: r) k=some p.2:=by simp[cP,fE,e]
theorem iq{p : κ × V}{r:List (κ × V)}{k : κ}(e:¬ p.1=k):cP (p :: r) k=cP r k:=by simp[cP,fE,e]
theorem mD(k : κ):∀ kvs:List (κ × V),(kvs.any fun kv=>decide (kv.1=k))=(cP kvs k).isSome
 | []=>rfl
 | p :: r=>by
  rw[gE];by_cases e:p.1=k
  ·simp only[ip e,decide_eq_true e,Bool.true_or,Option.isSome_some]
  ·rw[iq e,decide_eq_false e,Bool.false_or];exact mD k r
theorem MR(k j : κ)(y:V):∀ kvs:List (κ × V),cP (kvs.map fun kv=>if kv.1=k then (kv.1,y) else kv) j=(cP kvs j).map fun x=>if j=k then y else x
 | []=>rfl
 | p :: r=>by
  have ih:=MR k j y r;rw[aS];by_cases h:p.1=k
  ·rw[if_pos h];by_cases e:p.1=j
   ·rw[ip (p:=(p.1,y)) e,ip e,r6,if_pos (e.symm.trans h)]
   ·rw[iq (p:=(p.1,y)) e,iq e,ih]
  ·rw[if_neg h];by_cases e:p.1=j
   ·rw[ip (p:=p) e,ip e,r6,if_neg (fun z=>h (e.trans z))]
   ·rw[iq (p:=p) e,iq e,ih]
theorem xJ(k j : κ)(y:V):∀ kvs:List (κ × V),cP kvs k=none->cP (kvs ++ [(k,y)]) j=if j=k then some y else cP kvs j
 | [],_=>by
  by_cases e:k=j
  ·rw[if_pos e.symm];exact ip (p:=(k,y)) e
  ·rw[if_neg (fun z=>e z.symm)];exact iq (p:=(k,y)) e
 | p :: r,hn=>by
  rw[eS];have hk:¬ p.1=k:=fun z=>by rw[ip z]at hn;cases hn
  rw[iq hk]at hn;have ih:=xJ k j y r hn;by_cases e:p.1=j
  ·rw[ip e,ip e,if_neg (fun z=>hk (e.trans z))]
  ·rw[iq e,iq e,ih]
theorem mC(kvs:List (κ × V))(k j : κ)(y:V):cP (gm kvs k y) j=if j=k then some y else cP kvs j:=by
 unfold gm;by_cases a:(kvs.any fun kv=>decide (kv.1=k))=true
 ·rw[if_pos a,MR];rw[mD]at a;by_cases e:j=k
  ·obtain⟨x,hx⟩:=gC.mp a;rw[if_pos e,e,hx,r6,if_pos rfl]
  ·rw[if_neg e];cases cP kvs j with
   | none=>rfl
   | some x=>rw[r6,if_neg e]
 ·rw[if_neg a];refine xJ k j y kvs ?_;rw[mD]at a;cases q:cP kvs k with
  | none=>rfl
  | some x=>rw[q]at a;exact(a rfl).elim
theorem nc(kvs:List (κ × V))(k : κ)(v:V):(gm kvs k v).length<=kvs.length+1:=by
 unfold gm;split
 ·rw[ay];omega
 ·rw[aO,cg,jG];omega
theorem Au{kvs:List (κ × V)}{k : κ}(v:V)(h:cP kvs k=none):gm kvs k v=kvs ++ [(k,v)]:=by
 unfold gm;rw[mD,h];exact if_neg (by decide)
theorem mj.uJ{u:Option Value}(r:mj o u):o.isSome=u.isSome:=by
 cases o with
 | none=>cases u with
  | none=>rfl
  | some _=>exact(show False from r).elim
 | some _=>cases u with
  | none=>exact(show False from r).elim
  | some _=>rfl
theorem mj.getD{u:Option Value}{d:V}{d':Value}(r:mj o u)(rd:RelV d d'):RelV (o.getD d) (u.getD d'):=by
 cases o with
 | none=>cases u with
  | none=>exact rd
  | some _=>exact(show False from r).elim
 | some _=>cases u with
  | none=>exact(show False from r).elim
  | some _=>exact r
theorem KV.val{kvs:List (κ × V)}{vs:List (κ × Value)}(r:KV kvs vs)(k : κ):mj (cP kvs k) (valueAt vs k):=by
 unfold KV at r
 induction r with
 | nil=>exact jZ
 | @cons p q ps qs h t ih =>
  obtain⟨h1,h2⟩:=h;by_cases e:p.1=k
  ·have e':q.1=k:=h1.symm.trans e;have b:valueAt (q :: qs) k=some q.2:=by simp[valueAt,fE,e']
   rw[ip e,b];exact h2
  ·have e':¬ q.1=k:=fun z=>e (h1.trans z);have b:valueAt (q :: qs) k=valueAt qs k:=by simp[valueAt,fE,e']
   rw[iq e,b];exact ih
theorem KV.any{kvs:List (κ × V)}{vs:List (κ × Value)}(r:KV kvs vs)(k : κ):(kvs.any fun kv=>decide (kv.1=k))=vs.any fun kv=>decide (kv.1=k):=by
 unfold KV at r
 induction r with
 | nil=>rfl
 | cons h t ih=>rw[gE,gE,ih,h.1]
theorem KV.NI{kvs:List (κ × V)}{vs:List (κ × Value)}(r:KV kvs vs)(k : κ)(ry:RelV y u) :
  KV (kvs.map fun kv=>if kv.1=k then (kv.1,y) else kv) (vs.map fun kv=>if kv.1=k then (kv.1,u) else kv):=by
 unfold KV at r ⊢
 induction r with
 | nil=>exact .nil
 | @cons p q ps qs h t ih =>
  rw[aS,aS];refine .cons ?_ ih;obtain⟨h1,h2⟩:=h;by_cases e:p.1=k
  ·rw[if_pos e,if_pos (h1.symm.trans e)];exact⟨h1,ry⟩
  ·rw[if_neg e,if_neg (fun z=>e (h1.trans z))];exact⟨h1,h2⟩
theorem KV.put{kvs:List (κ × V)}{vs:List (κ × Value)}(r:KV kvs vs)(k : κ)(ry:RelV y u):KV (gm kvs k y) (stored vs k u):=by
 unfold gm stored;rw[r.any k];by_cases e:(vs.any fun kv=>decide (kv.1=k))=true
 ·rw[if_pos e,if_pos e];exact r.NI k ry
 ·rw[if_neg e,if_neg e];exact qb r ⟨O,ry⟩
theorem KV.keys{kvs:List (κ × V)}{vs:List (κ × Value)}(r:KV kvs vs):kvs.map (·.1)=vs.map (·.1):=by
 unfold KV at r
 induction r with
 | nil=>rfl
 | cons h t ih=>rw[aS,aS,ih,h.1]
theorem KV.length{kvs:List (κ × V)}{vs:List (κ × Value)}(r:KV kvs vs):kvs.length=vs.length:=bx r
end
theorem AL{k:Key}(r:RelV (kV k) u):(dI P w).is k u=true:=by
 cases k with
 | inl i=>obtain⟨t,e⟩:=(show ∃ t,u=oA i t from r);subst e;exact QD P w i t
 | inr x=>obtain⟨t,e⟩:=(show ∃ t,u=yj x t from r);subst e;exact QC P w x t
theorem Lr{P:Program}{w:World}:∀ {ks:List Key}{us:List Value},Vals (ks.map kV) us->ItemsAre (dI P w) ks us
 | [],_,r=>by rw[fS]at r;cases r;exact .nil
 | k :: ks,_,r=>by
  rw[aS]at r;cases r with
  | cons h t=>exact .cons (AL h) (Lr t)
abbrev KT(H:Hp):List (List Key × V)->List (List Key × Addr × Value)->Prop:=Paired fun p q=>p.1=q.1∧H q.2.1=some (.tup (p.1.map kV))∧RelV p.2 q.2.2
theorem KT.val(r:KT H kvs xs)(k:List Key):mj (cP kvs k) ((atKey xs k).map (·.2)):=by
 induction r with
 | nil=>exact jZ
 | @cons p q ps qs h t ih =>
  obtain⟨h1,_,h2⟩:=h;by_cases e:p.1=k
  ·have e':q.1=k:=h1.symm.trans e;have b:atKey (q :: qs) k=some q.2:=by simp[atKey,fE,e']
   rw[ip e,b];exact h2
  ·have e':¬ q.1=k:=fun z=>e (h1.trans z);have b:atKey (q :: qs) k=atKey qs k:=by simp[atKey,fE,e']
   rw[iq e,b];exact ih
theorem KT.NI(r:KT H kvs xs)(k:List Key)(ry:RelV y u) :
  KT H (kvs.map fun kv=>if kv.1=k then (kv.1,y) else kv) (xs.map (putAt k u)):=by
 induction r with
 | nil=>exact .nil
 | @cons p q ps qs h t ih =>
  rw[aS,aS];refine .cons ?_ ih;obtain⟨h1,h2,h3⟩:=h;unfold putAt;by_cases e:p.1=k
  ·rw[if_pos e,if_pos (h1.symm.trans e)];exact⟨h1,h2,ry⟩
  ·rw[if_neg e,if_neg (fun z=>e (h1.trans z))];exact⟨h1,h2,h3⟩
theorem KT.put(r:KT H kvs xs)(k:List Key){b:Addr}(hb:H b=some (.tup (k.map kV)))(ry:RelV y u) :
  KT H (gm kvs k y) (storedH xs k b u):=by
 have e:(kvs.any fun kv=>decide (kv.1=k))=(atKey xs k).isSome:=by
  rw[mD,(r.val k).uJ,jQ]
 unfold gm storedH;rw[e];by_cases q:(atKey xs k).isSome=true
 ·rw[if_pos q,if_pos q];exact r.NI k ry
 ·rw[if_neg q,if_neg q];exact qb r ⟨O,hb,ry⟩
theorem KT.keeps(r:KT H kvs xs)(ht:∀ b ys,H b=some (.tup ys)->H' b=some (.tup ys)):KT H' kvs xs :=
 Paired.g9 r fun _ _ z=>⟨z.1,ht _ _ z.2.1,z.2.2⟩
section
variable {P:Program}{w:World}{H:Hp}{h:Heap}{a:Addr}
theorem aaH{u:HO}(ok:iG P w H h)(e:Rd H a u):eV P w H h a u:=e.ok ok
theorem A7{kvs:List (Key × V)}(ok:iG P w H h)(e:Rd H a (.dK kvs)):kvs.length<=sizeLine∧(a == sysModules)=false∧∃ vs,KV kvs vs∧h.DictOf (dI P w) a vs :=
 show eV P w H h a (.dK kvs) from aaH ok e
theorem Us{kvs:List (Key × V)}(ok:iG P w H h)(e:H a=some (.dK kvs)):kvs.length<=sizeLine∧(a == sysModules)=false∧∃ vs,KV kvs vs∧h.DictOf (dI P w) a vs:=A7 ok (.inl e)
theorem zD(ok:iG P w H h)(e:H a=some (.tup (ks.map kV))):(tupleKind (dI P w)).is h ks a:=by
 obtain⟨_,its,r,o,h1,h2,n,h3,_⟩:=(show eV P w H h a (.tup (ks.map kV)) from ok a _ e);exact⟨o,its.toArray,n,h1,h2,h3,by simpa using Lr r⟩
theorem EW(ok:iG P w H h)(e:Rd H a (.dT kvs)):kvs.length<=sizeLine∧(a == sysModules)=false ∧
  ∃ xs,KT H kvs xs∧h.DictOfH (tupleKind (dI P w)) a xs:=by
 obtain⟨z,y,xs,r,o,es,ep,h1,h2,h3,h4,h5⟩:=(show eV P w H h a (.dT kvs) from aaH ok e);refine⟨z,y,xs,r,o,es,ep,h1,h2,h3,h4,fun x hx =>?_,h5⟩;have all:∀ {l:List (List Key × V)}{m:List (List Key × Addr × Value)},KT H l m->∀ x∈m,(tupleKind (dI P w)).is h x.1 x.2.1:=by
  intro l m q
  induction q with
  | nil=>intro x hx;exact nomatch hx
  | @cons p q ps qs hq t ih =>
   intro x hx;rcases bC.mp hx with e | hx
   ·subst e;exact zD ok (by rw[<- hq.1];exact hq.2.1)
   ·exact ih x hx
 exact all r x hx
theorem aiE(ok:iG P w H h)(e:H a=some (.dT kvs)):kvs.length<=sizeLine∧(a == sysModules)=false ∧
  ∃ xs,KT H kvs xs∧h.DictOfH (tupleKind (dI P w)) a xs:=EW ok (.inl e)
end
def mP(H:Hp)(a:Addr)(y:V)(r:Option V):Prop :=
 (∃ kvs k,Rd H a (.dK kvs)∧y=kV k∧r=cP kvs k)∨∃ kvs k b,Rd H a (.dT kvs)∧y = .ref b∧H b=some (.tup (k.map kV))∧r=cP kvs k
def EA(H:Hp)(a:Addr)(y v:V)(H':Hp):Prop :=
 (∃ kvs k,H a=some (.dK kvs)∧y=kV k∧kvs.length < sizeLine∧H'=aC H a (.dK (gm kvs k v))) ∨
 ∃ kvs k b,H a=some (.dT kvs)∧y = .ref b∧H b=some (.tup (k.map kV))∧kvs.length < sizeLine∧H'=aC H a (.dT (gm kvs k v))
theorem mP.k{H:Hp}{a:Addr}{kvs:List (Key × V)}{k:Key}(e:H a=some (.dK kvs)):mP H a (kV k) (cP kvs k) := .inl ⟨kvs,k,.inl e,O,O⟩
theorem EA.k{H:Hp}{a:Addr}{kvs:List (Key × V)}{k:Key}{v:V}(e:H a=some (.dK kvs))(hl:kvs.length < sizeLine):EA H a (kV k) v (aC H a (.dK (gm kvs k v))) := .inl ⟨kvs,k,e,O,hl,O⟩
section
variable {X:Cx}{ag:List (Addr × Obj)}{σ : St}{H:Hp}{s:Shared}{a:Addr}{y v:V}{u r:Value}{o:Option V}{A:Around}{E:Value->Shared->Prop}
theorem Inv.big(I:Inv X ag σ H s):sysModules < s.heap.objs.size:=by
 have h:mainGlobals < s.heap.objs.size:=(I.mod.glob.keeps I.bk).lt;exact Nat.lt_trans (by decide) h
theorem Xc(hu:A.units+1 < cLine)(I:Inv X ag σ H s)(g:mP H a y (some v))(ry:RelV y u)(h:∀ w' s',Inv X ag σ H s'->RelV v w'->Q w' s') :
  wpAny (model X.prog X.w) A (getItem (.ref a) u) Q E s:=by
 rcases g with⟨kvs,k,e,ey,l⟩ | ⟨kvs,k,b,e,ey,eb,l⟩
 ·subst ey;obtain⟨z,hd,vs,fD,dd⟩:=A7 I.bO e;obtain⟨w',hw,lI⟩:=mj.some_of (v:=v) (o:=valueAt vs k) (by rw[l];exact fD.val k);exact wpAny_getItem_of (AL ry) dd.mapOf hw (h w' _ (I.tok _) lI)
 ·subst ey;cases (show u=bL b from ry);obtain⟨z,hd,xs,fD,dd⟩:=EW I.bO e;obtain⟨w',hw,lI⟩:=mj.some_of (v:=v) (o:=(atKey xs k).map (·.2)) (by rw[l];exact fD.val k);obtain⟨p,hp,hp2⟩:=b8.mp hw;refine wpAny_getItem_heap (tupleKind_room_in1 hu) (zD I.bO eb) dd hp ?_;rw[hp2];exact h w' _ (I.tok _) lI
theorem anl(hu:A.units+1 < cLine)(I:Inv X ag σ H s)(g:mP H a y o)(ry:RelV y u)(h:∀ s',Inv X ag σ H s'->Q (.bool o.isSome) s') :
  wpAny (model X.prog X.w) A (compareOp .In u (.ref a)) Q E s:=by
 rcases g with⟨kvs,k,e,ey,l⟩ | ⟨kvs,k,b,e,ey,eb,l⟩
 ·subst ey;obtain⟨z,hd,vs,fD,dd⟩:=A7 I.bO e;refine wpAny_in_of (AL ry) hd dd.mapOf ?_;rw[<- (fD.val k).uJ, <- l];exact h _ (I.tok _)
 ·subst ey;cases (show u=bL b from ry);obtain⟨z,hd,xs,fD,dd⟩:=EW I.bO e;refine wpAny_in_heap (tupleKind_room_in1 hu) (zD I.bO eb) hd dd ?_;have q:=(fD.val k).uJ;rw[jQ]at q;rw[<- q, <- l];exact h _ (I.tok _)
theorem zQ{ob:HO}(I:Inv X ag σ H s)(mu:XG (H a))(hs:eT a s.heap h')(he:∃ q,h'.get? a=some q)(new:eV X.prog X.w (aC H a ob) h' a ob) :
  Inv X ag σ (aC H a ob) { s with heap:=h',toks:=t' } :=
 I.write (x:=a) (e:=a) mu (.inl rfl) (fun b q hb z=>(hs.2 b hb).trans z) he new
theorem W9{kvs:List (Key × V)}{vs:List (Key × Value)}(z:kvs.length<=sizeLine)(hd:(a == sysModules)=false)(fD:KV kvs vs)(dd:h'.DictOf (dI P w) a vs) :
  eV P w H' h' a (.dK kvs):=⟨z,hd,vs,fD,dd⟩
theorem Xb{Q:Unit->Shared->Prop}(hu:A.units+1 < cLine)(I:Inv X ag σ H s)(g:EA H a y v H')(ry:RelV y u)(rv:RelV v r)(h:∀ s',Inv X ag σ H' s'->Q () s') :
  wpAny (model X.prog X.w) A (setItem (.ref a) u r) Q E s:=by
 rcases g with⟨kvs,k,e,ey,l,eH⟩ | ⟨kvs,k,b,e,ey,eb,l,eH⟩
 ·subst ey eH;obtain⟨z,hd,vs,fD,dd⟩:=Us I.bO e;have hz:vs.length<=sizeLine:=by rw[<- fD.length];exact z
  have hl:(gm kvs k v).length<=sizeLine:=by have:=nc kvs k v;omega
  refine wpAny_setItem_pairs (hsz:=hz) (AL ry) dd fun h' DU hs=>h _ ?_;have he:∃ q,h'.get? a=some q:=let ⟨q,_,_,hq,_⟩:=DU; ⟨q,hq⟩;exact zQ I (by rw[e];exact jZ) hs he (W9 hl hd (fD.put k rv) DU)
 ·subst ey eH;cases (show u=bL b from ry);obtain⟨z,hd,xs,fD,dd⟩:=aiE I.bO e;have hz:xs.length<=sizeLine:=by rw[<- bx fD];exact z
  have hl:(gm kvs k v).length<=sizeLine:=by have:=nc kvs k v;omega
  refine wpAny_setItem_heap (hsz:=hz) (tupleKind_room_in1 hu) (zD I.bO eb) dd fun h' DU hs=>h _ ?_;obtain⟨q,es,ep,hq,h2,h3,h4,_,h5⟩:=DU;refine zQ I (by rw[e];exact jZ) hs ⟨q,hq⟩ ⟨hl,hd,_,(fD.put k eb rv).keeps fun c ys ec =>?_,q,es,ep,hq,h2,h3,h4,h5⟩;rw[av (b9 ec e nofun)];exact ec
end
section
variable {X:Cx}{ag:List (Addr × Obj)}{σ : St}{H:Hp}{s:Shared}{a:Addr}{kvs:List (Key × V)}{k:Key}{u:Value}{A:Around}{E:Value->Shared->Prop}
end
def aac(i:Expr):Prop := ∀ ov iv,subscripted i false ov iv=operate [ov,iv] (getItem ov iv)
theorem QZ{E:Value->Shared->Prop}{value slice:Expr}{T id:String}(hl:typeLookup (.type T) "__getitem__" = pure (some (.builtin id)))(hs:aac slice)(h:wpAny (model prog w) A (eval value env) (fun o fz => wpAny (model prog w) A (eval slice env) (fun i nB => nB.TypeIs o T∧wpAny (model prog w) A (getItem o i) Q E nB) E fz) E s) :
  wpAny (model prog w) A (eval (.Subscript value slice pos) env) Q E s:=by
 refine Subscript_ (wpAny_mono h (fun o fz oh => wpAny_mono oh (fun i nB yR =>?_) fun _ _ x=>x) fun _ _ x=>x);obtain⟨hT,yR⟩:=yR;unfold subscriptTail;refine wpAny_bind ?_;rw[getitemInPython_of_ne hT.not_modules];refine wpAny_bind (wpAny_specialOf hT hl ?_);have j9:wpAny (model prog w) A (subscripted slice false o i) (fun r ny => wpAny (model prog w) A (letTemporaryGo value o r >>= fun _=>pure r) Q E ny) E nB := by
  rw[hs o i];exact wpAny_operating (wpAny_mono yR (fun r ny Oy => wpAny_bind (wpAny_letTemporaryGo (wpAny_pure Oy))) fun _ _ x=>x)
 first
  | exact wpAny_pure (wpAny_bind j9)
  | exact wpAny_bind (wpAny_pure (wpAny_bind j9))
  | exact wpAny_bind j9
theorem QH{a:Addr}(I:Inv X ag σ H s)(g:mP H a y o):s.TypeIs (.ref a) "dict" := by
 rcases g with⟨kvs,k,e,_,_⟩ | ⟨kvs,k,b,e,_,_,_⟩
 ·obtain⟨_,_,vs,_,dd⟩:=A7 I.bO e;exact dd.typeIs
 ·obtain⟨_,_,xs,_,dd⟩:=EW I.bO e;exact dd.typeIs
inductive So(Q:VK)(x:V)(y:V)(H2:Hp):Prop
 | mk:∀ a v,(x = .ref a)->(mP H2 a y (some v))->(Q v H2)->So Q x y H2
def ah9(td ty:TE):TE:=fun σ H Q=>td σ H fun x H1=>ty σ H1 fun y H2=>So Q x y H2
inductive XH(Q:VK)(y:V)(x:V)(H2:Hp):Prop
 | mk:∀ a o,(x = .ref a)->(mP H2 a y o)->(Q (.bl o.isSome) H2)->XH Q y x H2
def ali(ty td:TE):TE:=fun σ H Q=>ty σ H fun y H1=>td σ H1 fun x H2=>XH Q y x H2
inductive Sr(D:Ends)(σ : St)(v:V)(x:V)(y:V)(H3:Hp):Prop
 | mk:∀ a H4,(x = .ref a)->(EA H3 a y v H4)->(D.nx σ H4)->Sr D σ v x y H3
def aie(td ty tv:TE):TS:=fun D σ H=>tv σ H fun v H1=>td σ H1 fun x H2=>ty σ H2 fun y H3=>Sr D σ v x y H3
section
variable {X:Cx}{o i e value:Expr}{pos nD ak6:Pos}{td ty tv:TE}
theorem qL(hu:X.A.units+1 < cLine)(ho:PE X o td)(hi:PE X i ty)(hs:aac i):PE X (.Subscript o i pos) (ah9 td ty):=by
 intro ag s σ H Q I h;refine QZ vT.lookup hs (cm (ho ag s σ H _ I h) fun u s1 ⟨x,H1,I1,rx,q1⟩=>cm (hi ag s1 σ H1 _ I1 q1) fun iv s2 ⟨y,H2,I2,ry,a,v,ex,g,q2⟩ =>?_);subst ex;obtain rfl:u=bL a:=rx;exact⟨QH I2 g,Xc hu I2 g ry fun w' s3 I3 lI=>⟨v,H2,I3,lI,q2⟩⟩
theorem aes(hu:X.A.units+1 < cLine)(hi:PE X i ty)(ho:PE X o td):PC X .In i o (ali ty td):=by
 intro ag s σ H Q I h;refine cm (hi ag s σ H _ I h) fun iv s1 ⟨y,H1,I1,ry,q1⟩=>cm (ho ag s1 σ H1 _ I1 q1) fun u s2 ⟨x,H2,I2,rx,a,ov,ex,g,q2⟩ =>?_;subst ex;obtain rfl:u=bL a:=rx;exact anl hu I2 g ry fun s3 I3=>⟨.bl ov.isSome,H2,I3,O,q2⟩
theorem EO(hu:X.A.units+1 < cLine)(ho:PE X o td)(hi:PE X i ty)(hv:PE X value tv)(hs:swapsWith value (some (.Subscript o i nD)) pos.line X.env=pure false) :
  PS X (.Assign [.Subscript o i nD] value pos) (aie td ty tv):=by
 intro ag s σ H D I h;refine wpAny_Assign_Subscript (cm (hv ag s σ H _ I h) fun r s1 ⟨v,H1,I1,rv,q1⟩=>cm (ho ag s1 σ H1 _ I1 q1) fun u s2 ⟨x,H2,I2,rx,q2⟩=>cm (hi ag s2 σ H2 _ I2 q2) fun iv s3 ⟨y,H3,I3,ry,a,H4,ex,g,q3⟩ =>?_) hs;subst ex;obtain rfl:u=bL a:=rx;exact Xb hu I3 g ry rv fun s4 I4=>⟨σ,H4,I4,q3⟩
end
theorem ZL(h:Heap)(hb:sysModules < h.objs.size):eV P w H (h.push { cls := .type "dict",data := .dict #[] }) h.objs.size (.dK []) :=
 ⟨aQ _,beq_eq_false_iff_ne.mpr (bR (cQ hb)), [],.nil,Heap.DictOf.new h⟩
def ad2:TE:=fun _ H Q=>∀ p,H p=none->Q (.ref p) (aC H p (.dK []))
section
variable {X:Cx}{pos:Pos}
theorem wB:PE X (.Dict [] [] pos) ad2:=fun ag s σ H Q I h =>
 wpAny_Dict_empty ⟨.ref s.heap.objs.size,_,I.laid (a:=s.heap.objs.size) (o := .dK []) (t':=s.toks) (fun _ _ q=>aH _ q) (aw _) (ZL s.heap I.big),O,h _ (I.bO.fresh (aw _))⟩
end
structure M1(X:Cx)(o:Expr)(m:Str)(eP:Pos)(e:Expr)(fN:Pos):Prop where
 base:attributeBase o m X.env (eval o X.env)=eval o X.env
 iI:((backTo fN (starEach [e] X.env)).all (fun x => !x.1) && (backToKw fN (keywordEach [] X.env)).all (fun x=>x.1.isSome)
  && decide (([e]:List Expr).length+([]:List Keyword).length+(if ([]:List Keyword).isEmpty then 0 else 1) < 30))=true
 line:(eP.endLine == fN.line)=true
 trees:backTo fN (starEach [e] X.env) = [(false,eval e X.env)]
structure M2(X:Cx)(o:Expr)(m:Str)(eP:Pos)(e f:Expr)(fN:Pos):Prop where
 base:attributeBase o m X.env (eval o X.env)=eval o X.env
 iI:((backTo fN (starEach [e,f] X.env)).all (fun x => !x.1) && (backToKw fN (keywordEach [] X.env)).all (fun x=>x.1.isSome)
  && decide (([e,f]:List Expr).length+([]:List Keyword).length+(if ([]:List Keyword).isEmpty then 0 else 1) < 30))=true
 line:(eP.endLine == fN.line)=true
 trees:backTo fN (starEach [e,f] X.env) = [(false,eval e X.env),(false,eval f X.env)]
def IsD(H:Hp)(a:Addr):Prop:=(∃ kvs,Rd H a (.dK kvs))∨∃ kvs,Rd H a (.dT kvs)
theorem Wt{a:Addr}(I:Inv X ag σ H s)(d:IsD H a) :
  s.TypeIs (.ref a) "dict" ∧ (∀ b,bL a = .ref b->∃ ob,s.heap.get? b=some ob∧ob.dict=none)∧(a == sysModules)=false:=by
 rcases d with⟨kvs,e⟩ | ⟨kvs,e⟩
 ·obtain⟨_,hd,vs,_,dd⟩:=A7 I.bO e;refine⟨dd.typeIs,fun b q =>?_,hd⟩;cases q;obtain⟨ob,_,_,h1,h2,_⟩:=dd;exact⟨ob,h1,h2.2.1⟩
 ·obtain⟨_,hd,xs,_,dd⟩:=EW I.bO e;refine⟨dd.typeIs,fun b q =>?_,hd⟩;cases q;obtain⟨ob,_,_,h1,h2,_⟩:=dd;exact⟨ob,h1,h2.2.1⟩
section
variable {X:Cx}{ag:List (Addr × Obj)}{σ : St}{H:Hp}{s:Shared}{a:Addr}{y d:V}{u r:Value}{o:Option V}{A:Around}{E:Value->Shared->Prop}
theorem agY(hu:A.units+1 < cLine)(I:Inv X ag σ H s)(g:mP H a y o)(ry:RelV y u)(rd:RelV d r)(h:∀ w' s',Inv X ag σ H s'->RelV (o.getD d) w'->Q w' s') :
  wpAny (model X.prog X.w) A (call (.builtin "dict.get") [.ref a,u,r]) Q E s:=by
 rcases g with⟨kvs,k,e,ey,l⟩ | ⟨kvs,k,b,e,ey,eb,l⟩
 ·subst ey;obtain⟨z,hd,vs,fD,dd⟩:=A7 I.bO e;refine call_meetsIn jE dd.typeIs p9 (xE _ _ _) (meets_dict_get_default (dI X.prog X.w) a (AL ry) hd r) ⟨_,dd.mapOf,h _ _ (I.tok _) ?_⟩;rw[l];exact(fD.val k).getD rd
 ·subst ey;cases (show u=bL b from ry);obtain⟨z,hd,xs,fD,dd⟩:=EW I.bO e;refine call_meetsIn jE dd.typeIs p9 (xE _ _ _) (meetsH_dict_get_default (tupleKind (dI X.prog X.w)) a b hd r) ⟨tupleKind_room_in1 hu,k,xs,zD I.bO eb,dd,h _ _ (I.tok _) ?_⟩;rw[l];exact(fD.val k).getD rd
end
inductive P0(ty:TE)(tx:TE)(σ : St)(Q:VK)(x:V)(H1:Hp):Prop
 | mk:∀ a,(x = .ref a)->(IsD H1 a)->(ty σ H1 fun y H2=>tx σ H2 fun z H3=>∃ o,mP H3 a y o∧Q (o.getD z) H3)->P0 ty tx σ Q x H1
def ad3(td ty tx:TE):TE:=fun σ H Q=>td σ H fun x H1=>P0 ty tx σ Q x H1
section
variable {X:Cx}{o e f:Expr}{eP fN:Pos}{td ty tx:TE}
theorem GA(hu:X.A.units+1 < cLine)(ho:PE X o td)(he:PE X e ty)(hf:PE X f tx)(m:M2 X o "get" eP e f fN):PE X (.Call (.Attribute o "get" eP) [e,f] [] fN) (ad3 td ty tx):=by
 intro ag s σ H Q I h;refine wpAny_Call_method m.base m.iI m.line jh jE zR (cm (ho ag s σ H _ I h) fun u s1 ⟨x,H1,I1,rx,a,ex,d,q1⟩ =>?_);subst ex;obtain rfl:u=bL a:=rx;obtain⟨t1,t2,_⟩:=Wt I1 d;refine⟨t1,t2,?_⟩;rw[m.trees];refine ie rfl (iX (fI (cm (he ag s1 σ H1 _ I1 q1) fun iv s2 ⟨y,H2,I2,ry,q2⟩ =>
  fI (cm (hf ag s2 σ H2 _ I2 q2) fun fv s3 ⟨z,H3,I3,rz,ov,g,q3⟩=>jS ?_))))
 exact agY hu I3 g ry rz fun w' s4 I4 lI=>⟨_,H3,I4,lI,q3⟩
end
section
variable {X:Cx}{ag:List (Addr × Obj)}{σ : St}{H:Hp}{s:Shared}{a:Addr}{kvs:List (Key × V)}{A:Around}{E:Value->Shared->Prop}
end
section
variable {X:Cx}{ag:List (Addr × Obj)}{σ : St}{H:Hp}{s:Shared}{a:Addr}{y:V}{u:Value}{A:Around}{E:Value->Shared->Prop}
end
abbrev NK:=List (Sum Key (List Key))
def kD:Key->D
 | .inl i => .int i
 | .inr x => .str x
def iD:Sum Key (List Key)->D
 | .inl k=>kD k
 | .inr l => .tup (l.map kD)
def Lk(k:NK):D := .tup (k.map iD)
theorem Wr{a b:Key}(e:kD a=kD b):a=b:=by
 cases a with
 | inl i=>cases b with
  | inl j=>have e':D.int i=D.int j:=e;injection e' with e';rw[e']
  | inr y=>exact nomatch (show D.int i=D.str y from e)
 | inr x=>cases b with
  | inl j=>exact nomatch (show D.str x=D.int j from e)
  | inr y=>have e':D.str x=D.str y:=e;injection e' with e';rw[e']
theorem rG{α β : Type}{f : α -> β}(hf:∀ a b,f a=f b->a=b):∀ {x y:List α},x.map f=y.map f->x=y
 | [], [],_=>rfl
 | [],_ :: _,e=>by simp at e
 | _ :: _, [],e=>by simp at e
 | a :: xs,b :: ys,e=>by
  rw[aS,aS]at e;injection e with e1 e2;rw[hf _ _ e1,rG hf e2]
theorem afe{a b:Sum Key (List Key)}(e:iD a=iD b):a=b:=by
 cases a with
 | inl i=>cases b with
  | inl j=>rw[Wr e]
  | inr y=>cases i <;> exact nomatch e
 | inr x=>cases b with
  | inl j=>cases j <;> exact nomatch e
  | inr y =>
   have e':D.tup (x.map kD)=D.tup (y.map kD):=e;injection e' with e';rw[rG (fun _ _=>Wr) e']
theorem ac3{a b:NK}(e:Lk a=Lk b):a=b:=by
 have e':D.tup (a.map iD)=D.tup (b.map iD):=e;injection e' with e';exact rG (fun _ _=>afe) e'
section
variable (P:Program) (w:World)
def fQ(h:Heap):NK->List Value->Prop
 | [],us=>us = []
 | .inl k :: ks,us=>∃ u cL,us=u :: cL∧(dI P w).is k u=true∧fQ h ks cL
 | .inr l :: ks,us=>∃ b cL,us=bL b :: cL∧IsTupleKey (dI P w) h l b∧fQ h ks cL
def si(h:Heap)(k:NK)(a:Addr):Prop := ∃ us:List Value,IsTup h a us.toArray∧fQ P w h k us
def uu:Sum Key (List Key)->Int
 | .inl k=>(dI P w).hash k
 | .inr l=>tupleKeyHash (dI P w) l
def zE:Sum Key (List Key)->Nat
 | .inl _=>1
 | .inr l=>l.length+1
def Of(k:NK):Int:=reduceHash (gj (k.map (uu P w)))
def JY(k:NK):Nat:=(k.map zE).sum+1
end
section
variable {P:Program}{w:World} {h h':Heap}
theorem fQ.inj:∀ {x y:NK}{us:List Value},fQ P w h x us->fQ P w h y us->x=y
 | [], [],us,_,_=>rfl
 | [],.inl k :: ks,us,r,q=>by rw[fQ]at r;rw[fQ]at q;subst r;obtain⟨_,_,z,_⟩:=q;cases z
 | [],.inr k :: ks,us,r,q=>by rw[fQ]at r;rw[fQ]at q;subst r;obtain⟨_,_,z,_⟩:=q;cases z
 | .inl k :: ks, [],us,r,q=>by rw[fQ]at r;rw[fQ]at q;subst q;obtain⟨_,_,z,_⟩:=r;cases z
 | .inr k :: ks, [],us,r,q=>by rw[fQ]at r;rw[fQ]at q;subst q;obtain⟨_,_,z,_⟩:=r;cases z
 | .inl k :: ks,.inl l :: ls,us,r,q=>by
  rw[fQ]at r;rw[fQ]at q;obtain⟨u,cL,rfl,r1,r⟩:=r;obtain⟨u',SQ,z,q1,q⟩:=q;cases z;rw[(dI P w).inj _ _ _ r1 q1,fQ.inj r q]
 | .inr k :: ks,.inr l :: ls,us,r,q=>by
  rw[fQ]at r;rw[fQ]at q;obtain⟨u,cL,rfl,r1,r⟩:=r;obtain⟨u',SQ,z,q1,q⟩:=q;cases z;rw[r1.inj q1,fQ.inj r q]
 | .inl k :: ks,.inr l :: ls,us,r,q=>by
  rw[fQ]at r;rw[fQ]at q;obtain⟨u,cL,rfl,r1,r⟩:=r;obtain⟨u',SQ,z,q1,q⟩:=q;cases z;rcases fT r1 with⟨i,t,_,e⟩ | ⟨x,t,_,e⟩ <;> cases e
 | .inr k :: ks,.inl l :: ls,us,r,q=>by
  rw[fQ]at r;rw[fQ]at q;obtain⟨u,cL,rfl,r1,r⟩:=r;obtain⟨u',SQ,z,q1,q⟩:=q;cases z;rcases fT q1 with⟨i,t,_,e⟩ | ⟨x,t,_,e⟩ <;> cases e
theorem fQ.keeps{d:Addr}{o:Obj}{es ep}(ho:h.get? d=some o)(hd:o.data = .dict es ep)(hs:eT d h h'):∀ {k:NK}{us:List Value},fQ P w h k us->fQ P w h' k us
 | [],us,r=>by rw[fQ]at r ⊢;exact r
 | .inl k :: ks,us,r=>by
  rw[fQ]at r ⊢;obtain⟨u,cL,e,r1,r⟩:=r;exact⟨u,cL,e,r1,fQ.keeps ho hd hs r⟩
 | .inr k :: ks,us,r=>by
  rw[fQ]at r ⊢;obtain⟨u,cL,e,r1,r⟩:=r;exact⟨u,cL,e,r1.keeps ho hd hs,fQ.keeps ho hd hs r⟩
theorem si.inj{x y:NK}{a:Addr}(r:si P w h x a)(q:si P w h y a):x=y:=by
 obtain⟨us,p,r⟩:=r;obtain⟨cL,p',q⟩:=q;have e:us=cL:=by have:=QU p p';simpa using this
 subst e;exact r.inj q
theorem si.keeps{k:NK}{a d:Addr}{o:Obj}{es ep}(r:si P w h k a)(ho:h.get? d=some o)(hd:o.data = .dict es ep)(hs:eT d h h'):si P w h' k a:=by
 obtain⟨us,⟨o',e',c',n',d'⟩,r⟩:=r;have kM:a≠d:=by
  rintro rfl;rw[ho]at e';cases e';rw[hd]at d';cases d'
 exact⟨us,⟨o',(hs.2 a kM).trans e',c',n',d'⟩,r.keeps ho hd hs⟩
theorem Ow{k:Key}(r:(dI P w).is k u=true):cv h (kD k) u:=by
 rcases fT r with⟨i,t,rfl,rfl⟩ | ⟨x,t,rfl,rfl⟩
 ·show cv h (.int i) _;rw[cv];exact .inl ⟨t,O⟩
 ·show cv h (.str x) _;rw[cv];exact⟨t,O⟩
theorem TZ(r:ItemsAre (dI P w) ks us):gv h (ks.map kD) us:=by
 induction r with
 | nil=>rw[fS,gv]
 | cons r1 _ ih=>rw[aS,gv];exact⟨_,_,O,Ow r1,ih⟩
theorem fQ.Ks:∀ {k:NK}{us:List Value},fQ P w h k us->gv h (k.map iD) us
 | [],us,r=>by rw[fQ]at r;rw[fS,gv];exact r
 | .inl k :: ks,us,r=>by
  rw[fQ]at r;obtain⟨u,cL,e,r1,r⟩:=r;rw[aS,gv];exact⟨u,cL,e,Ow r1,fQ.Ks r⟩
 | .inr k :: ks,us,r=>by
  rw[fQ]at r;obtain⟨b,cL,e,⟨o,its,n,g,c,d,i⟩,r⟩:=r;rw[aS,gv];refine⟨_,cL,e,?_,fQ.Ks r⟩;show cv h (.tup (k.map kD)) _;rw[cv];exact⟨b,its.toList,O,⟨o,g,c,n,by simpa using d⟩,TZ i⟩
theorem si.Ks{k:NK}{a:Addr}(r:si P w h k a):cv h (Lk k) (.ref a):=by
 obtain⟨us,p,r⟩:=r;rw[Lk,cv];exact⟨a,us,O,p,r.Ks⟩
theorem GG:∀ l:List Key,D.f9 (l.map kD)=0
 | []=>by rw[fS,D.f9]
 | .inl k :: ks=>by rw[aS,D.f9,GG ks];show max (D.deep (.int k)) 0=0;rw[D.deep];rfl
 | .inr k :: ks=>by rw[aS,D.f9,GG ks];show max (D.deep (.str k)) 0=0;rw[D.deep];rfl
theorem AG:∀ l:NK,D.f9 (l.map iD)<=1
 | []=>by rw[fS,D.f9];omega
 | .inl (.inl k) :: ks=>by rw[aS,D.f9];have:=AG ks;show max (D.deep (.int k)) _<=1;rw[D.deep];omega
 | .inl (.inr k) :: ks=>by rw[aS,D.f9];have:=AG ks;show max (D.deep (.str k)) _<=1;rw[D.deep];omega
 | .inr l :: ks=>by rw[aS,D.f9];have:=AG ks;show max (D.deep (.tup (l.map kD))) _<=1;rw[D.deep,GG];omega
theorem ac2(k:NK):(Lk k).deep<=2:=by rw[Lk,D.deep];have:=AG k;omega
end
section
variable {P:Program}{w:World}{A:Around}{E:Value->Shared->Prop}{s:Shared}
theorem Hn{x y:NK}{a b:Addr}{Q:Bool->Shared->Prop}(hu:A.units+5 < cLine)(hx:si P w s.heap x a)(hy:si P w s.heap y b)(h:Q (decide (x=y)) s) :
  wpAny (model P w) A (eqBool (.ref a) (.ref b)) Q E s:=by
 refine W7 2 (ac2 x) hx.Ks hy.Ks (by omega) P w E Q ?_;have e:decide (Lk x=Lk y)=decide (x=y):=decide_eq_decide.mpr ⟨ac3,fun z=>by rw[z]⟩;rw[e];exact h
theorem Tn{K:Type}[DecidableEq K]{knd:KeyKind P w K}(n:Nat){ks:List K}{a:Addr}{Q:Bool->Shared->Prop}(hk:IsTupleKey knd s.heap ks a)(h:Q true s):wpAny (model P w) A (eqIsQuiet (n+1) (.ref a)) Q E s:=by
 have hT:=hk.typeIs;obtain⟨o,items,m,ho,_,hd,hi⟩:=hk;unfold eqIsQuiet;refine wpAny_bind (wpAny_specialOf hT F.slot_tuple_eq.lookup ?_);show wpAny _ _ (isInstance (.ref a) (.type "tuple") >>= _) _ _ s;refine wpAny_bind (wpAny_isInstance hT isSubtype_tuple_tuple ?_);simp only[m8,fJ,if_false];refine wpAny_bind (wpAny_seqItems ho hd ?_);refine wpAny_bind ?_;show wpAny _ _ (forIn items _ _) _ _ s;rw[<- uX];refine wpAny_forIn_list _ (fun rest r s'=>r.1=none∧s'=s∧∀ v∈rest,carriedByValue v=true) _ ?_ ?_ _ _ ⟨O,O,hi.byValue⟩
 ·rintro v rest r s' ⟨hr,rfl,Uh⟩;rw[eqIsQuiet_byValue _ (Uh v bM)];refine wpAny_bind (wpAny_pure ?_);simp only[m8,fJ,if_false];exact wpAny_pure ⟨O,O,fun u OA=>Uh u (aX _ OA)⟩
 ·rintro⟨r1,r2⟩ s' ⟨hr,rfl,_⟩;simp only at hr;subst hr;exact wpAny_pure h
theorem YA{k:NK}{a:Addr}{Q:Bool->Shared->Prop}(hk:si P w s.heap k a)(h:Q true s):wpAny (model P w) A (eqIsQuiet 8 (.ref a)) Q E s:=by
 obtain⟨us,p,hi⟩:=hk;have hT:s.TypeIs (.ref a) "tuple" := p.typeIs;obtain⟨o,ho,_,m,hd⟩:=p;unfold eqIsQuiet;refine wpAny_bind (wpAny_specialOf hT F.slot_tuple_eq.lookup ?_);show wpAny _ _ (isInstance (.ref a) (.type "tuple") >>= _) _ _ s;refine wpAny_bind (wpAny_isInstance hT isSubtype_tuple_tuple ?_);simp only[m8,fJ,if_false];refine wpAny_bind (wpAny_seqItems ho hd ?_);refine wpAny_bind ?_;show wpAny _ _ (forIn us.toArray _ _) _ _ s;rw[<- uX];refine wpAny_forIn_list _ (fun rest r s'=>r.1=none∧s'=s∧∃ left,fQ P w s.heap left rest) _ ?_ ?_ _ _ ⟨O,O,k,by simpa using hi⟩
 ·rintro v rest r s' ⟨hr,rfl,left,hl⟩;cases left with
  | nil=>rw[fQ]at hl;cases hl
  | cons i left =>
   cases i with
   | inl k =>
    rw[fQ]at hl;obtain⟨u,cL,e,r1,hl⟩:=hl;cases e;rw[eqIsQuiet_byValue _ ((dI P w).byValue _ _ r1)];refine wpAny_bind (wpAny_pure ?_);simp only[m8,fJ,if_false];exact wpAny_pure ⟨O,O,left,hl⟩
   | inr l =>
    rw[fQ]at hl;obtain⟨b,cL,e,r1,hl⟩:=hl;cases e;refine wpAny_bind (Tn 6 r1 ?_);simp only[m8,fJ,if_false];exact wpAny_pure ⟨O,O,left,hl⟩
 ·rintro⟨r1,r2⟩ s' ⟨hr,rfl,_⟩;simp only at hr;subst hr;exact wpAny_pure h
theorem Hm{k:NK}{a:Addr}{Q:Int->Shared->Prop}(hu:A.units+5 < cLine)(hk:si P w s.heap k a)(h:Q (Of P w k) { s with toks:=s.toks+JY k }) :
  wpAny (model P w) A (pyHash (.ref a)) Q E s:=by
 obtain⟨us,p,hi⟩:=hk;have hT:s.TypeIs (.ref a) "tuple" := p.typeIs;obtain⟨o,ho,_,n,hd⟩:=p;unfold pyHash
 first | unfold pyHashByItsType | skip
 first | refine wpAny_bind (wpAny_cRoomFor_or (.inr (by omega)) ?_) | skip
 refine wpAny_bind (wpAny_specialOf hT pQ.lookup ?_);show wpAny _ _ (if (some (Value.builtin "tuple.__hash__") == some gJ)=true then _ else _) Q E s;rw[if_neg (by rw[beq_builtin_none];exact bB)];refine wpAny_bind (wpAny_specialOf hT pQ.lookup ?_);show wpAny _ _ (callSpecialIfBoundUnlessNone? (.ref a) "__hash__" _ >>= _) Q E s;refine wpAny_bind (wpAny_callSpecialIfBoundUnlessNone?_slot hT pQ (wpAny_call_entry pQ hT F.entry_tuple_hash ?_ (F.args_tuple_hash_1 _)));show wpAny _ _ (Builtin.Tuple.tupleItemsOf (.ref a) >>= _) _ _ s;refine wpAny_bind (wpAny_tupleItemsOf ho hd ?_);refine wpAny_bind ?_;rw[<- uX];refine wpAny_forIn_list _
  (fun rest (b:Array Int) s'=>∃ done left:NK,k=done ++ left∧fQ P w s.heap left rest∧b.toList=done.map (uu P w)∧s'={ s with toks:=s.toks+(done.map zE).sum })
  _ ?_ ?_ _ _ ⟨[],k,O,by simpa using hi,O,O⟩
 ·rintro x rest b s' ⟨done,left,rfl,hl,hb,rfl⟩;cases left with
  | nil=>rw[fQ]at hl;cases hl
  | cons i left =>
   cases i with
   | inl k =>
    rw[fQ]at hl;obtain⟨u,cL,e,r1,hl⟩:=hl;cases e;refine wpAny_bind ((dI P w).pyHash r1 ?_)
    first
     | exact wpAny_pure ⟨done ++ [.inl k],left,by simp,hl,by simp[hb,uu],by simp[jg,zE]⟩
     | exact wpAny_bind (wpAny_pure (wpAny_pure ⟨done ++ [.inl k],left,by simp,hl,by simp[hb,uu],by simp[jg,zE]⟩))
   | inr l =>
    rw[fQ]at hl;obtain⟨c,cL,e,r1,hl⟩:=hl;cases e;refine wpAny_bind (wpAny_pyHash_tuple (by show A.units+1 < cLine;omega) r1 ?_)
    first
     | exact wpAny_pure ⟨done ++ [.inr l],left,by simp,hl,by simp[hb,uu],by simp[jg,zE]⟩
     | exact wpAny_bind (wpAny_pure (wpAny_pure ⟨done ++ [.inr l],left,by simp,hl,by simp[hb,uu],by simp[jg,zE]⟩))
 ·rintro b s' ⟨done,left,rfl,hl,hb,rfl⟩;have e:left = []:=by
   cases left with
   | nil=>rfl
   | cons i left=>cases i <;> rw[fQ]at hl <;> obtain⟨_,_,z,_⟩:=hl <;> cases z
  subst e;rw[cY]at h;show wpAny _ _ (retInt (gj b.toList)) _ _ _;rw[hb];refine wpAny_ret_mkInt ?_;show wpAny _ _ (if (decide (-(2:Int) ^ 63<=gj (done.map (uu P w))) && decide (gj (done.map (uu P w)) < 2 ^ 63))=true then _ else _) Q E _;unfold Of reduceHash JY at h;by_cases hr:(decide (-(2:Int) ^ 63<=gj (done.map (uu P w))) && decide (gj (done.map (uu P w)) < 2 ^ 63))=true
  ·rw[if_pos hr];rw[if_pos hr]at h;exact wpAny_pure (by simpa [jg] using h)
  ·rw[if_neg hr];rw[if_neg hr]at h;exact wpAny_bind (wpAny_rule (wpAny_pure (by simpa [jg] using h)))
end
def uH(P:Program)(w:World):HeapKind P w NK where
 is:=si P w
 hash:=Of P w
 draws:=JY
 room:=fun A=>A.units+5 < cLine
 inj:=fun hx hy=>hx.inj hy
 keeps:=fun x ho hd hs=>x.keeps ho hd hs
 pyHash:=fun hu hk h=>Hm hu hk h
 eqBool:=fun hu hx hy h=>Hn hu hx hy h
 quiet:=fun hk h=>YA hk h
section
variable {prog:Program}{w:World}{K:Type} [DecidableEq K] {knd:HeapKind prog w K}{A:Around}{E:Value->Shared->Prop}{s:Shared}{d a:Addr}{k:K}{xs:List (K × Addr × Value)}
theorem vM{dflt:Value}(hu:knd.room A)(wU:knd.is s.heap k a)(hm:s.heap.DictOfH knd d xs)(afq:∀ p,atKey xs k=some p->Q p.2 { s with toks:=s.toks+knd.draws k })(GI:atKey xs k=none->∀ h',h'.DictOfH knd d (xs ++ [(k,a,dflt)])->eT d s.heap h'->Q dflt { s with heap:=h',toks:=s.toks+knd.draws k })(hsz:xs.length<=sizeLine):wpAny (model prog w) A (dictSetDefault d (.ref a) dflt) Q E s:=by
 obtain⟨o,es,ep,ho,hc,hd,he,his,hn⟩:=hm;unfold dictSetDefault
 try with_reducible refine wpAny_holding ?_
 refine wpAny_bind (knd.pyHash hu wU ?_);refine wpAny_bind (wpAny_dictFind_heap (s := { s with toks:=s.toks+knd.draws k }) hu wU ho hd he his hn ?_ ?_)
 ·intro hno;have amz:k ∉ xs.map (·.1):=not_mem_keys_of_get hno;refine wpAny_bind (wpAny_rule (wpAny_bind (wpAny_updateDictKeys (hz:=by have e:=size_of_entries he;omega) (s := { s with toks:=s.toks+knd.draws k }) ho hd (wpAny_pure (GI (atKey_none_of_get hno) _ ⟨_,_,ep+1,jI _ ho (Obj.isFreed_of_dict (Bg hd _)),
   hc.mapDictKeys _,Bg hd _,?_,?_,?_⟩ (kI ..))))))
  ·simp[he,entryOfKey]
  ·intro x hx;rcases cI.mp hx with hx | hx
   ·exact knd.keeps (his x hx) ho hd (kI ..)
   ·simp only[a8]at hx;subst hx;exact knd.keeps wU ho hd (kI ..)
  ·rw[cR,vJ];refine⟨hn,by simp,?_⟩;intro x hx y hy;simp only[aS,fS,a8]at hy;subst hy;exact fun e=>amz (e ▸ hx)
 ·intro j p hj;refine wpAny_bind (wpAny_dictEntries (s := { s with toks:=s.toks+knd.draws k }) ho hd ?_);rw[entry_at he j,hj];exact wpAny_bind (wpAny_rule (wpAny_pure (afq p (atKey_of_get hn hj))))
end
section
variable {prog:Program}{w:World}{K:Type} [DecidableEq K] (knd:HeapKind prog w K) (d a:Addr)
theorem yQ(hd:(d == sysModules)=false)(dflt:Value) :
  MeetsIn prog w (Builtin.«dict.setdefault» ⟨[.ref d,.ref a,dflt], []⟩) (fun A R s=>knd.room A.in1∧∃ k xs,knd.is s.heap k a∧s.heap.DictOfH knd d xs∧xs.length<=sizeLine ∧
   (∀ p,atKey xs k=some p->R (.ok (.ret p.2)) { s with toks:=s.toks+knd.draws k }) ∧
   (atKey xs k=none->∀ h',h'.DictOfH knd d (xs ++ [(k,a,dflt)])->eT d s.heap h'->R (.ok (.ret dflt)) { s with heap:=h',toks:=s.toks+knd.draws k })) :=
 .of_wp fun A R s ⟨hu,k,xs,wU,hm,hz,h1,h2⟩=>by
  unfold Builtin.«dict.setdefault»;refine wpAny_bind ?_;unfold Builtin.Dict.keyAndDefault;refine wpAny_bind (wpAny_notOrdered_dict hm.typeIs ?_);show wpAny _ _ (pure (d,bL a,some dflt)) _ _ s;refine wpAny_pure ?_;show wpAny _ _ (if (d == sysModules)=true then _ else (dictSetDefault d (.ref a) dflt >>= _)) _ _ s;rw[if_neg (by rw[hd];exact bB)];exact wpAny_bind (vM hu wU hm (fun p hp=>wpAny_pure ⟨p.2,O,h1 p hp⟩) (fun hn h' Iu pB=>wpAny_pure ⟨dflt,O,h2 hn h' Iu pB⟩) hz)
end
section
variable {X:Cx}{scope:Scope}{own:List Str}{caps:List (Str × Nat)}{ag:List (Addr × Obj)}{σ : St}{H:Hp}{s:Shared}{fp:List Addr}
theorem ZO{R:Result->Shared->Prop}{nY:Expr}{it acc:Value}(Iv:Nat->Shared->Prop)(uY:∀ n s,Iv n s->wpAny (model prog w) A (pyNext it) (fun r fz => match r with
   | none=>R (.ok .next) fz
   | some v=>wpAny (model prog w) A (letOwnedTupleGo nY it v) (fun _ nB => wpAny (model prog w) A (assign nY env v) (fun _ ny => wpAny (model prog w) A (isTrue Bs env (eval Bs env)) (fun ok SX => if ok=true then wpAny (model prog w) A (eval p7 env) (fun x M6 =>
       wpAny (model prog w) A (call (.builtin "list.append") [acc,x]) (fun _ M5 => ∃ m,m < n∧Iv m M5) (fun _ _=>False) M6) (fun _ _=>False) SX else ∃ m,m < n∧Iv m SX) (fun _ _=>False) ny) (fun _ _=>False) nB) (fun _ _=>False) fz) (fun _ _=>False) s)(n:Nat)(h:Iv n s):codeAny (model prog w) A (.compLoop (.ListComp p7 [⟨nY,gO, [Bs],0⟩] scope pos) 0 it acc env) R s:=by
 refine codeAny_loop rfl Iv (fun n s hI =>?_) n h;show wpAny _ A ((compTurn (.ListComp p7 [⟨nY,gO, [Bs],0⟩] scope pos) 0 it acc env).onRaise (fun x=>do noteFrame x env;theTreesLotGoes x)) _ _ s;refine wpAny_noted ?_;rw[compTurn_list];refine wpAny_bind (wpAny_standAt (wpAny_bind (wpAny_mono (uY n s hI) (fun r fz oh =>?_) fun _ _ z=>z.elim)));cases r with
 | none=>exact wpAny_pure oh
 | some v =>
  refine wpAny_bind (wpAny_mono oh (fun _ nB yR => wpAny_bind (wpAny_mono yR (fun _ ny Oy => wpAny_bind (wpAny_tests_one (wpAny_mono Oy (fun ok SX afg =>?_) fun _ _ z=>z.elim))) fun _ _ z=>z.elim)) fun _ _ z=>z.elim);cases ok with
  | true =>
   have T4:=(if_pos rfl:(if true=true then _ else _)=_) ▸ afg;exact wpAny_bind (wpAny_bind (wpAny_mono T4 (fun x M6 Zf => wpAny_bind (wpAny_mono Zf (fun _ M5 Zd => wpAny_pure (wpAny_pure ⟨O,Zd⟩)) fun _ _ z=>z.elim)) fun _ _ z=>z.elim))
  | false =>
   have T4:∃ m,m < n∧Iv m SX := afg;exact wpAny_bind (wpAny_pure (wpAny_pure ⟨O,T4⟩))
def yA(J:It)(g:TG)(ct:TT)(te:TE)(τ0:St)(H1:Hp)(Q:VK):Prop := ∀ D,H1 D=none->∃ W:Nat->Nat->St->List V->Hp->Prop,
 (∃ m,W 0 m τ0 [] (aC H1 D (.lst []))) ∧
 ∀ i m τ ys H,W i m τ ys H->H D=some (.lst ys)∧((J.stop i H∧Q (.ref D) H)∨(J.go i H∧ys.length < sizeLine∧∀ x H',J.BW i H x H'->g x τ H' fun MN H2=>ct MN H2 fun b H4=>if b=true then te MN H4 fun y H3 =>
  H3 D=some (.lst ys)∧∃ m',m' < m∧W (i+1) m' MN (ys ++ [y]) (aC H3 D (.lst (ys ++ [y]))) else ∃ m',m' < m∧W (i+1) m' MN ys H4))
def U5(wi:TI)(g:TG)(ct:TT)(te:TE)(k:Nat)(caps:List (Str × Nat)):TE:=fun σ H Q=>wi σ H fun J H1=>yA J g ct te (bq k none ++ kq σ caps) H1 Q
theorem Uu{tg:Expr}{p2:Pos}{use:Option (Value->Sem Unit)}{Q:VK}{Q':Value->Shared->Prop}(S:oJ X scope own caps)(hi:PI X tg gO wi)(hc:X.calm=true)(hg:∀ fp s H,PG (fH X scope (own ++ caps.map (·.1)) fp s H) tg g)(hct:∀ fp s H,PT (fH X scope (own ++ caps.map (·.1)) fp s H) Bs ct)(he:∀ fp s H,PE (fH X scope (own ++ caps.map (·.1)) fp s H) p7 te)(I:Inv X ag σ H s)(h:U5 wi g ct te own.length caps σ H Q)(j9:∀ D C H5 s5,Inv X ag σ H5 s5->Q (.ref D) H5->(∃ m,s5.heap.Ns C m)->H5 C=none->C≠X.env.locals->X.lW.heap.objs.size<=C->(∀ x c,X.env.cells.lookup x=some c->c≠C)->(∀ p∈X.pn ++ ag,p.1≠C) ->
   compPost (model X.prog X.w) X.A X.xe use Q' (.ref D) C (.ok .next) s5)(hs:∀ x,foldedSetIterable gO X.env x=pure x:=by intro _;rfl) :
  wpAny (model X.prog X.w) X.A (comprehension (.ListComp p7 [⟨tg,gO, [Bs],0⟩] scope pos) scope X.env p2 (newList []) false (eval gO X.env) use) Q' X.xe s:=by
 have Ud:closureFor scope X.env=pure (jz X.env.cells scope.names []):=DY fun y hy hk=>I.ok.has y.1 (.inl (S.frees y hy hk));refine wpAny_comprehension_free (g:=⟨tg,gO, [Bs],0⟩) (gs := []) rfl hs Ud S.kind S.locs (cm (hi ag s σ H _ I h) fun v s1 h1=>cm h1 fun itv s2 h2 =>?_);obtain⟨it,fp,tn,J,H2,e,I2,T,iz,f2,R⟩:=h2;subst e;refine wpAny_newObj_type (wpAny_newFunctionEnv S.HZ (by intro y hy;simp at hy) (fun oh OI OC =>?_) S.kind);have fr2:H2 s2.heap.objs.size=none:=I2.bO.fresh (aw _);obtain⟨W,⟨m0,w0⟩,uY⟩:=R s2.heap.objs.size fr2;have I3:Inv X ag σ (aC H2 s2.heap.objs.size (.lst [])) { s2 with heap:=s2.heap.push { cls := .type "list",dict:=none,data := .seq ([]:List Value).toArray } }:=I2.Y5 (its := []) (t':=s2.toks) .nil (aQ _);have Wj:∀ b∈fp,b < s2.heap.objs.size:=fun b hb=>by
  obtain⟨o,ho,_⟩:=T.obj _ _ iz b hb;exact a9 ho
 have f3:∀ b∈fp,pP X ag (aC H2 s2.heap.objs.size (.lst [])) b:=fun b hb=>⟨by rw[av (cQ (Wj b hb))];exact(f2 b hb).1,(f2 b hb).2⟩;generalize oi:({ s2 with heap:=s2.heap.push { cls := .type "list",dict:=none,data := .seq ([]:List Value).toArray } }:Shared)=s3 at I3;have hz3:s3.heap.objs.size=s2.heap.objs.size+1:=by rw[<- oi];exact jr _ _
 have Y8:∀ b o,s2.heap.get? b=some o->s3.heap.get? b=some o:=fun b o e=>by rw[<- oi];exact aH _ e
 have Wi:∀ b∈fp,b < s3.heap.objs.size:=fun b hb=>by rw[hz3];exact jR (Wj b hb)
 have Kh:oh.Ns s3.heap.objs.size (fun x=>([]:List (Str × Value)).reverse.lookup x):=by rw[<- oi];exact OI
 have Ot:∀ b o,s3.heap.get? b=some o->oh.get? b=some o:=fun b o e=>by
  have hb:b≠s3.heap.objs.size:=cQ (a9 e);rw[<- oi]at e hb;exact OC.extBut b o hb (aH _ e)
 have J1:=IS S I3 f3 Wi (t:=s2.toks+([]:List (Str × Value)).length) Kh Ot;have qI:tn 0 oh := T.keep _ _ _ iz fun b hb o e=>Ot b o (Y8 b o e)
 -- xK loop
 have loop:∀ ny : Shared,ny = { s3 with heap:=oh,toks:=s2.toks+([]:List (Str × Value)).length } ->
   codeAny (model X.prog X.w) X.A (.compLoop (.ListComp p7 [⟨tg,gO, [Bs],0⟩] scope pos) 0 (.ref it) (.ref s2.heap.objs.size) (fH X scope (own ++ caps.map (·.1)) fp s3 (aC H2 s2.heap.objs.size (.lst []))).env)
    (compPost (model X.prog X.w) X.A X.xe use Q' (.ref s2.heap.objs.size) s3.heap.objs.size) ny := by
  rintro ny rfl;refine ZO (fun n s'=>∃ i τ ys H',Inv (fH X scope (own ++ caps.map (·.1)) fp s3 (aC H2 s2.heap.objs.size (.lst []))) [] τ H' s'∧tn i s'.heap∧(∀ b∈fp,H' b=none)∧W i n τ ys H') ?_ m0
   ⟨0,_, [],_,J1,qI,fun b hb=>(f3 b hb).1,w0⟩
  rintro n s' ⟨i, τ,ys,H',J',aG,W3,w'⟩;have fY:∀ {pG:Hp},(∀ b∈fp,pG b=none)->∀ b∈fp,pP (fH X scope (own ++ caps.map (·.1)) fp s3 (aC H2 s2.heap.objs.size (.lst []))) [] pG b:=fun hn b hb =>
   ⟨hn b hb,cQ (Wi b hb),fun z=>by
     rcases bC.mp (I3.B6 b z) with e | e
     ·exact(f3 b hb).2.1 e
     ·exact(f3 b hb).2.2.1 e,.inl hb,fun x c e=>(f3 b hb).2.2.2.2.1 x c (k7 e),(fun p hp=>by cases hp)⟩
  obtain⟨hD,tt⟩:=uY i n τ ys H' w';rcases tt with⟨stop,qn⟩ | ⟨go,eO,step⟩
  ·refine cm (T.done (fH X scope (own ++ caps.map (·.1)) fp s3 (aC H2 s2.heap.objs.size (.lst []))) rfl rfl rfl hc i [] s' τ H' (fun _ _=>False) J' (fY W3) aG stop) fun r s4 ⟨hr,J4⟩ =>?_;subst hr;obtain⟨m4,hn4,_⟩:=J4.loc;have I5:=LP I3 J4 f3;refine j9 _ _ _ s4 I5 qn ⟨m4,hn4⟩ J4.free ?_ ?_ (fun x c e z =>?_) fun p hp z =>?_
   ·exact mn I3.lt
   ·exact I3.sz
   ·obtain⟨v,q⟩:=I3.cell x c e;rw[z]at q;exact absurd q.lt (e9 _)
   ·have q:=(I3.pin p hp).1;rw[z]at q;exact absurd (a9 q) (e9 _)
  ·refine cm (T.item (fH X scope (own ++ caps.map (·.1)) fp s3 (aC H2 s2.heap.objs.size (.lst []))) rfl rfl rfl hc i [] s' τ H' (fun _ _=>False) J' (fY W3) aG go) fun r s4 ⟨u,hr,h4⟩ =>?_;subst hr;refine cm h4 fun _ s5 ⟨x,H5,J5,r5,y5,gY,W2⟩ =>?_;have J5':=J5.pinned (fY W2) (T.obj _ _ gY);have Ig:∀ {zk:St}{H8:Hp}{s8:Shared},Inv (fH X scope (own ++ caps.map (·.1)) fp s3 (aC H2 s2.heap.objs.size (.lst []))) ([] ++ C8 fp s5.heap) zk H8 s8->tn (i+1) s8.heap∧∀ b∈fp,H8 b=none:=fun {zk H8 s8} J8=>by
    refine⟨T.keep _ _ _ gY fun b hb o e=>(J8.pin (b,o) (bI _ (bI _ (oV hb e)))).1,fun b hb =>?_⟩;obtain⟨o,e,d⟩:=T.obj _ _ gY b hb;exact(J8.pin (b,o) (bI _ (bI _ (oV hb e)))).2.1
   refine cm (hg fp s3 _ _ s5 τ H5 x u _ J5' r5 (step x H5 y5)) fun _ s6 ⟨zk,H6,J6,q6⟩ =>?_;refine cm (hct fp s3 _ _ s6 zk H6 _ J6 q6) fun ok s9 ⟨H9,J9,q9⟩ =>?_;cases ok with
   | false =>
    obtain⟨m',Iu,w9⟩:=(show ∃ m',m' < n∧W (i+1) m' zk ys H9 from q9);exact⟨m',Iu,i+1, zk,ys,_,J9.sJ,(Ig J9).1,(Ig J9).2,w9⟩
   | true =>
    refine cm (he fp s3 _ _ s9 zk H9 _ J9 q9) fun yv s7 ⟨y,H7,J7,r7,hD7,m',Iu,w7⟩ =>?_;refine cm (fX (X:=fH X scope (own ++ caps.map (·.1)) fp s3 (aC H2 s2.heap.objs.size (.lst []))) _ s7 zk H7 (.ref s2.heap.objs.size) [y] _ [yv] (fun _ H8=>H8=aC H7 s2.heap.objs.size (.lst (ys ++ [y]))) J7 rfl (.cons r7 .nil) ⟨_,ys,y,O,O,hD7,eO,O⟩) fun _ s8 ⟨_,H8,J8,_,e8⟩ =>?_;subst e8;exact⟨m',Iu,i+1, zk,ys ++ [y],_,J8.sJ,(Ig J8).1,(Ig J8).2,w7⟩
 have Iw:=loop _ rfl;subst oi;exact codeAny_compStart_list Iw (T.self _ 0 _ _ _ qI Iw)
theorem GB{tg:Expr}(S:oJ X scope own caps)(hi:PI X tg gO wi)(hc:X.calm=true)(hg:∀ fp s H,PG (fH X scope (own ++ caps.map (·.1)) fp s H) tg g)(hct:∀ fp s H,PT (fH X scope (own ++ caps.map (·.1)) fp s H) Bs ct)(he:∀ fp s H,PE (fH X scope (own ++ caps.map (·.1)) fp s H) p7 te)(hs:∀ x,foldedSetIterable gO X.env x=pure x:=by intro _;rfl):PE X (.ListComp p7 [⟨tg,gO, [Bs],0⟩] scope pos) (U5 wi g ct te own.length caps):=by
 intro ag s σ H Q I h;rw[eval_ListComp];refine Uu (use:=none) (Q:=Q) S hi hc hg hct he I h (fun D C H5 s5 I5 q ⟨m,hn⟩ hC hL hz uw Zi =>?_) hs;refine⟨m,hn,fun h' pB =>?_⟩;exact⟨.ref D,H5,I5.turned (t':=s5.toks) (fun b o hb e=>(pB.2 b hb).trans e) hC hL (.inr hz) uw Zi,O,q⟩
end
def xr(H:Hp):NK->List V->Prop
 | [],vs=>vs = []
 | .inl k :: ks,vs=>∃ pT,vs=kV k :: pT∧xr H ks pT
 | .inr l :: ks,vs=>∃ b pT,vs=V.ref b :: pT∧H b=some (.tup (l.map kV))∧xr H ks pT
def nF(H:Hp)(k:NK)(a:Addr):Prop := ∃ vs,H a=some (.tup vs)∧xr H k vs
theorem xr.keep(ht:∀ b ys,H b=some (.tup ys)->H' b=some (.tup ys)):∀ {k:NK}{vs:List V},xr H k vs->xr H' k vs
 | [],vs,r=>by rw[xr]at r ⊢;exact r
 | .inl k :: ks,vs,r=>by
  rw[xr]at r ⊢;obtain⟨pT,e,r⟩:=r;exact⟨pT,e,xr.keep ht r⟩
 | .inr l :: ks,vs,r=>by
  rw[xr]at r ⊢;obtain⟨b,pT,e,q,r⟩:=r;exact⟨b,pT,e,ht _ _ q,xr.keep ht r⟩
theorem nF.keep{k:NK}{a:Addr}(ht:∀ b ys,H b=some (.tup ys)->H' b=some (.tup ys))(r:nF H k a):nF H' k a:=by
 obtain⟨vs,e,r⟩:=r;exact⟨vs,ht _ _ e,r.keep ht⟩
section
variable {P:Program}{w:World}{H:Hp}{h:Heap}
theorem Oe(ok:iG P w H h):∀ {k:NK}{vs:List V}{us:List Value},xr H k vs->Vals vs us->fQ P w h k us
 | [],vs,us,r,q=>by rw[xr]at r;subst r;cases q;rw[fQ]
 | .inl k :: ks,vs,us,r,q=>by
  rw[xr]at r;obtain⟨pT,rfl,r⟩:=r;cases q with
  | cons q1 q2=>rw[fQ];exact⟨_,_,O,AL q1,Oe ok r q2⟩
 | .inr l :: ks,vs,us,r,q=>by
  rw[xr]at r;obtain⟨b,pT,rfl,e,r⟩:=r;cases q with
  | cons q1 q2 =>
   rw[fQ];cases (show _=bL b from q1);exact⟨b,_,O,zD ok e,Oe ok r q2⟩
theorem v8{k:NK}{a:Addr}(ok:iG P w H h)(r:nF H k a):si P w h k a:=by
 obtain⟨vs,e,r⟩:=r;obtain⟨_,its,rv,p⟩:=(show eV P w H h a (.tup vs) from ok a _ e);exact⟨its,p.tup,Oe ok r rv⟩
end
abbrev KN(H:Hp):List (NK × V)->List (NK × Addr × Value)->Prop:=Paired fun p q=>p.1=q.1∧nF H p.1 q.2.1∧RelV p.2 q.2.2
theorem KN.val{kvs:List (NK × V)}{xs:List (NK × Addr × Value)}(r:KN H kvs xs)(k:NK):mj (cP kvs k) ((atKey xs k).map (·.2)):=by
 induction r with
 | nil=>exact jZ
 | @cons p q ps qs h t ih =>
  obtain⟨h1,_,h2⟩:=h;by_cases e:p.1=k
  ·have e':q.1=k:=h1.symm.trans e;have b:atKey (q :: qs) k=some q.2:=by simp[atKey,fE,e']
   rw[ip e,b];exact h2
  ·have e':¬ q.1=k:=fun z=>e (h1.trans z);have b:atKey (q :: qs) k=atKey qs k:=by simp[atKey,fE,e']
   rw[iq e,b];exact ih
theorem KN.keeps{kvs:List (NK × V)}{xs:List (NK × Addr × Value)}(r:KN H kvs xs)(ht:∀ b ys,H b=some (.tup ys)->H' b=some (.tup ys)):KN H' kvs xs :=
 Paired.g9 r fun _ _ z=>⟨z.1,z.2.1.keep ht,z.2.2⟩
def DN(P:Program)(w:World)(H:Hp)(a:Addr)(kvs:List (NK × V)):Prop:=kvs.length<=sizeLine∧(a == sysModules)=false∧∃ (xs:List (NK × Addr × Value)) (o:Obj) (es:Array DictEntry) (ep:Nat),
 H a=some (.ext fun h=>h.get? a=some o)∧KN H kvs xs∧o.ExactDict∧o.data = .dict es ep∧es.toList=xs.map (entryOfKey (uH P w))∧(xs.map (·.1)).Nodup
theorem DN.keep{a:Addr}{kvs:List (NK × V)}(d:DN P w H a kvs)(ha:∀ φ,H a=some (.ext φ)->H' a=some (.ext φ))(ht:∀ b ys,H b=some (.tup ys)->H' b=some (.tup ys)):DN P w H' a kvs:=by
 obtain⟨z,hd,xs,o,es,ep,e,r,q⟩:=d;exact⟨z,hd,xs,o,es,ep,ha _ e,r.keeps ht,q⟩
theorem DN.same{a:Addr}{kvs:List (NK × V)}(d:DN P w H a kvs)(sm:a6 H H'):DN P w H' a kvs:=d.keep (fun φ => sm _ _) (fun b ys=>sm _ _)
theorem DN.ext{a:Addr}{kvs:List (NK × V)}(d:DN P w H a kvs):∃ φ,H a=some (.ext φ):=by
 obtain⟨_,_,xs,o,es,ep,e,_⟩:=d;exact⟨_,e⟩
theorem EX{a:Addr}{kvs:List (NK × V)}(ok:iG P w H h)(d:DN P w H a kvs):kvs.length<=sizeLine∧(a == sysModules)=false ∧
  ∃ xs,KN H kvs xs∧h.DictOfH (uH P w) a xs:=by
 obtain⟨z,hd,xs,o,es,ep,e,r,h2,h3,h4,h5⟩:=d;obtain⟨h1,_⟩:=(show eV P w H h a (.ext fun h=>h.get? a=some o) from ok a _ e);refine⟨z,hd,xs,r,o,es,ep,h1,h2,h3,h4,fun x hx =>?_,h5⟩;have all:∀ {l:List (NK × V)}{m:List (NK × Addr × Value)},KN H l m->∀ x∈m,(uH P w).is h x.1 x.2.1:=by
  intro l m q
  induction q with
  | nil=>intro x hx;exact nomatch hx
  | @cons p q ps qs hq t ih =>
   intro x hx;rcases bC.mp hx with e | hx
   ·subst e;exact v8 ok (by rw[<- hq.1];exact hq.2.1)
   ·exact ih x hx
 exact all r x hx
theorem Pb{a:Addr}{o:Obj}(e:h.get? a=some o):eV P w H h a (.ext fun h=>h.get? a=some o):=⟨e,⟨o,e⟩,fun h1 h2 e1 k=>k o e1⟩
section
variable {X:Cx}{ag:List (Addr × Obj)}{σ : St}{H:Hp}{s:Shared}{a b:Addr}{kvs Oq:List (NK × V)}{k:NK}{y v:V}{u r:Value}{A:Around}{E:Value->Shared->Prop}
theorem Pg{QS:List (NK × Addr × Value)}(I:Inv X ag σ H s)(d:DN X.prog X.w H a kvs)(hs:eT a s.heap h')(dd:h'.DictOfH (uH X.prog X.w) a QS)(fD:KN H Oq QS)(hl:Oq.length<=sizeLine) :
  ∃ φ,Inv X ag σ (aC H a (.ext φ)) { s with heap:=h',toks:=t' }∧DN X.prog X.w (aC H a (.ext φ)) a Oq:=by
 obtain⟨φ0,e0⟩:=d.ext;have hd:=d.2.1;obtain⟨q,es,ep,hq,h2,h3,h4,_,h5⟩:=dd;have ht:∀ c ys,H c=some (.tup ys)->(aC H a (.ext fun h=>h.get? a=some q)) c=some (.tup ys):=fun c ys ec=>by
  rw[av (b9 ec e0 nofun)];exact ec
 exact⟨_,zQ I (by rw[e0];exact jZ) hs ⟨q,hq⟩ (Pb hq),hl,hd,QS,q,es,ep,ak,fD.keeps ht,h2,h3,h4,h5⟩
theorem KN.snoc{xs:List (NK × Addr × Value)}(fD:KN H kvs xs)(nk:nF H k b)(rv:RelV v r):KN H (kvs ++ [(k,v)]) (xs ++ [(k,b,r)]):=qb fD ⟨O,nk,rv⟩
theorem Mr(hu:A.units+10 < cLine)(I:Inv X ag σ H s)(d:DN X.prog X.w H a kvs)(nk:nF H k b)(rv:RelV v r)(hl:kvs.length < sizeLine)(h1:∀ v' w' s',cP kvs k=some v'->RelV v' w'->Inv X ag σ H s'->Q w' s')(h2:cP kvs k=none->∀ φ s',Inv X ag σ (aC H a (.ext φ)) s'->DN X.prog X.w (aC H a (.ext φ)) a (kvs ++ [(k,v)])->Q r s') :
  wpAny (model X.prog X.w) A (call (.builtin "dict.setdefault") [.ref a,.ref b,r]) Q E s:=by
 obtain⟨z,hd,xs,fD,dd⟩:=EX I.bO d;have hz:xs.length<=sizeLine:=by rw[<- bx fD];exact z
 have ro:=fD.val k;refine call_meetsIn jo dd.typeIs sr (rZ _ _ _) (yQ (uH X.prog X.w) a b hd r)
  ⟨(show A.units+1+5 < cLine by omega),k,xs,v8 I.bO nk,dd,hz,fun p hp =>?_,fun hn h' DU hs =>?_⟩
 ·rw[hp]at ro;cases e:cP kvs k with
  | none=>rw[e]at ro;exact ro.elim
  | some v'=>rw[e]at ro;exact h1 v' _ _ e ro (I.tok _)
 ·rw[hn]at ro;cases e:cP kvs k with
  | some v'=>rw[e]at ro;exact ro.elim
  | none =>
   obtain⟨φ,I',d'⟩:=Pg (t':=s.toks+(uH X.prog X.w).draws k) I d hs DU (fD.snoc nk rv) (by rw[aO];exact hl);exact h2 e φ _ I' d'
end
def ah3(P:Program)(w:World)(td ty tx:TE):TE:=fun σ H Q=>td σ H fun x H1=>∃ a,x = .ref a∧(∃ kvs,DN P w H1 a kvs)∧ty σ H1 fun y H2=>tx σ H2 fun z H3=>∃ kvs k b,DN P w H3 a kvs∧y = .ref b∧nF H3 k b∧kvs.length < sizeLine ∧
 (∀ v,cP kvs k=some v->Q v H3)∧(cP kvs k=none->∀ φ,DN P w (aC H3 a (.ext φ)) a (kvs ++ [(k,z)])->Q z (aC H3 a (.ext φ)))
theorem Ox{a:Addr}(I:Inv X ag σ H s)(d:∃ kvs,DN X.prog X.w H a kvs) :
  s.TypeIs (.ref a) "dict" ∧ (∀ b,bL a = .ref b->∃ ob,s.heap.get? b=some ob∧ob.dict=none)∧(a == sysModules)=false:=by
 obtain⟨kvs,e⟩:=d;obtain⟨_,hd,xs,_,dd⟩:=EX I.bO e;refine⟨dd.typeIs,fun b q =>?_,hd⟩;cases q;obtain⟨ob,_,_,h1,h2,_⟩:=dd;exact⟨ob,h1,h2.2.1⟩
section
variable {X:Cx}{o e f:Expr}{eP fN:Pos}{td ty tx:TE}
theorem acK(hu:X.A.units+10 < cLine)(ho:PE X o td)(he:PE X e ty)(hf:PE X f tx)(m:M2 X o "setdefault" eP e f fN):PE X (.Call (.Attribute o "setdefault" eP) [e,f] [] fN) (ah3 X.prog X.w td ty tx):=by
 intro ag s σ H Q I h;refine wpAny_Call_method m.base m.iI m.line jh jo ua (cm (ho ag s σ H _ I h) fun u s1 ⟨x,H1,I1,rx,a,ex,d,q1⟩ =>?_);subst ex;obtain rfl:u=bL a:=rx;obtain⟨t1,t2,_⟩:=Ox I1 d;refine⟨t1,t2,?_⟩;rw[m.trees];refine ie rfl (iX (fI (cm (he ag s1 σ H1 _ I1 q1) fun iv s2 ⟨y,H2,I2,ry,q2⟩ =>
  fI (cm (hf ag s2 σ H2 _ I2 q2) fun fv s3 ⟨z,H3,I3,rz,kvs,k,b,d3,ey,nk,hl,q3,q4⟩=>jS ?_))))
 subst ey;obtain rfl:iv=bL b:=ry;exact Mr hu I3 d3 nk rz hl (fun v' w' s4 e4 r4 I4=>⟨v',H3,I4,r4,q3 v' e4⟩) fun hn φ s4 I4 d4=>⟨z,_,I4,rz,q4 hn φ d4⟩
def ad1(P:Program)(w:World):TE:=fun _ H Q=>∀ p φ,H p=none->DN P w (aC H p (.ext φ)) p []->Q (.ref p) (aC H p (.ext φ))
theorem Az:PE X (.Dict [] [] pos) (ad1 X.prog X.w):=by
 intro ag s σ H Q I h;have hd:(s.heap.objs.size == sysModules)=false:=beq_eq_false_iff_ne.mpr (bR (cQ I.big));refine wpAny_Dict_empty ⟨.ref s.heap.objs.size,_,I.laid (a:=s.heap.objs.size) (o := .ext fun h=>h.get? s.heap.objs.size=some { cls := .type "dict",data := .dict #[] }) (t':=s.toks) (fun _ _ q=>aH _ q) (aw _) (Pb (bz _ rfl)),O,h _ _ (I.bO.fresh (aw _)) ?_⟩;exact⟨aQ _,hd, [],_, #[],0,ak,.nil,⟨O,O,O⟩,O,O,uc⟩
end
end L2
namespace Sw
variable{ls:List Nat}{hi lo m v i j:Nat}{es:List (Nat × Nat)}
inductive TM(S:Type) where
 | num (n:Int) | name (x:S) | of (x:S) (as:List Nat)
section
variable {S:Type}
inductive Eqv(ts:List (TM S))(es:List (Nat × Nat)):Nat->Nat->Prop where
 | refl (i:Nat):Eqv ts es i i
 | symm {i j:Nat}:Eqv ts es i j->Eqv ts es j i
 | trans {i j k:Nat}:Eqv ts es i j->Eqv ts es j k->Eqv ts es i k
 | ZH {i j:Nat}:(i,j)∈es->Eqv ts es i j
 | same {i j:Nat}{t:TM S}:ts[i]? = some t->ts[j]? = some t->Eqv ts es i j
 | ag4 {i j:Nat}{x:S}{as bs:List Nat}:ts[i]? = some (.of x as)->ts[j]? = some (.of x bs)->as.length=bs.length->(∀ (k a b:Nat),as[k]? = some a->bs[k]? = some b->Eqv ts es a b)->Eqv ts es i j
def pk(ls:List Nat):Prop := ∀ k v:Nat,ls[k]? = some v->v<=k∧ls[v]? = some v
def mT(hi lo v:Nat):Nat:=if v=hi then lo else v
def jn(ls:List Nat)(hi lo:Nat):List Nat:=ls.map (mT hi lo)
theorem rH{k:Nat}:(jn ls hi lo)[k]? = (ls[k]?).map (mT hi lo):=by unfold jn;rw[aJ]
theorem Ws:(jn ls hi lo).length=ls.length:=by unfold jn;rw[ay]
theorem RP(g:pk ls)(Iy:ls[lo]? = some lo)(hl:lo < hi):pk (jn ls hi lo):=by
 intro k v h;rw[rH]at h;cases e:ls[k]? with
 | none=>rw[e]at h;cases h
 | some u =>
  rw[e]at h;have h':mT hi lo u=v:=aP h;obtain⟨g1,g2⟩:=g k u e;unfold mT at h';by_cases hu:u=hi
  ·rw[if_pos hu]at h';subst h';refine⟨by omega,?_⟩;rw[rH,Iy];show some (mT hi lo lo)=some lo;unfold mT;rw[if_neg (by omega)]
  ·rw[if_neg hu]at h';subst h';refine⟨g1,?_⟩;rw[rH,g2];show some (mT hi lo u)=some u;unfold mT;rw[if_neg hu]
def Sound(ts:List (TM S))(es:List (Nat × Nat))(ls:List Nat):Prop := ∀ k v:Nat,ls[k]? = some v->Eqv ts es k v
theorem Nk{ts:List (TM S)}(h:Sound ts es ls)(e:Eqv ts es hi lo):Sound ts es (jn ls hi lo):=by
 intro k v q;rw[rH]at q;cases z:ls[k]? with
 | none=>rw[z]at q;cases q
 | some u =>
  rw[z]at q;have h':mT hi lo u=v:=aP q;have:=h k u z;unfold mT at h';by_cases hu:u=hi
  ·rw[if_pos hu]at h';subst h' hu;exact .trans this e
  ·rw[if_neg hu]at h';subst h';exact this
def Keeps(ls fP:List Nat):Prop := ∀ i j v:Nat,ls[i]? = some v->ls[j]? = some v->∃ u,fP[i]? = some u∧fP[j]? = some u
theorem TY(ls:List Nat):Keeps ls ls:=fun i j v h1 h2=>⟨v,h1,h2⟩
theorem Keeps.trans{a b c:List Nat}(h:Keeps a b)(h':Keeps b c):Keeps a c:=fun i j v h1 h2=>by
 obtain⟨u,e1,e2⟩:=h i j v h1 h2;exact h' i j u e1 e2
theorem Za(ls:List Nat)(hi lo:Nat):Keeps ls (jn ls hi lo):=fun i j v h1 h2=>⟨mT hi lo v,by rw[rH,h1];rfl,by rw[rH,h2];rfl⟩
theorem QX{hi lo:Nat}(hl:lo<=hi):∀ ls:List Nat,(ls.map (mT hi lo)).sum<=ls.sum
 | []=>aw _
 | v :: ls=>by
  have:=QX hl ls;rw[aS,ij,ij];have h1:mT hi lo v<=v:=by unfold mT;split <;> omega
  omega
theorem U8{hi lo:Nat}(hl:lo < hi):∀ {ls:List Nat},hi∈ls->(jn ls hi lo).sum < ls.sum
 | v :: ls,h=>by
  unfold jn;rw[aS,ij,ij];have h1:mT hi lo v<=v:=by unfold mT;split <;> omega
  have h2:=QX (hi:=hi) (lo:=lo) (by omega) ls;rcases bC.mp h with e | e
  ·have:mT hi lo v < v:=by unfold mT;rw[if_pos e.symm];omega
   omega
  ·have:=U8 hl e;unfold jn at this;omega
def By(ls:List Nat)(hi lo m:Nat):List Nat:=ls.mapIdx fun k v=>if k < m then mT hi lo v else v
theorem wJ{k:Nat}:(By ls hi lo m)[k]? = (ls[k]?).map fun v=>if k < m then mT hi lo v else v:=by unfold By;rw[List.getElem?_mapIdx]
theorem Rt:(By ls hi lo m).length=ls.length:=by unfold By;rw[List.length_mapIdx]
theorem Wh(g:pk ls):By ls hi lo hi=ls:=by
 refine eY fun k =>?_;rw[wJ];cases e:ls[k]? with
 | none=>rfl
 | some v =>
  have:=(g k v e).1;show some _=some _;dsimp only;by_cases hk:k < hi
  ·rw[if_pos hk];unfold mT;rw[if_neg (by omega)]
  ·rw[if_neg hk]
theorem ac4(h:ls[m]? = some v):(By ls hi lo m).set m (mT hi lo v)=By ls hi lo (m+1):=by
 have hm:=(aj.mp h).1;refine eY fun k =>?_;rw[Fj,wJ,wJ,Rt];by_cases hk:m=k
 ·subst hk;rw[if_pos rfl,if_pos hm,h];show some _=some _;dsimp only;rw[if_pos (by omega)]
 ·rw[if_neg hk];cases e:ls[k]? with
  | none=>rfl
  | some u =>
   show some _=some _;dsimp only;by_cases h1:k < m
   ·rw[if_pos h1,if_pos (by omega)]
   ·rw[if_neg h1,if_neg (by omega)]
theorem Y0(h:ls[m]? = some v)(hv:v≠hi):By ls hi lo (m+1)=By ls hi lo m:=by
 refine eY fun k =>?_;rw[wJ,wJ];by_cases hk:k=m
 ·subst hk;rw[h];show some _=some _;dsimp only;rw[if_pos (by omega),if_neg (by omega)];unfold mT;rw[if_neg hv]
 ·cases e:ls[k]? with
  | none=>rfl
  | some u =>
   show some _=some _;dsimp only;by_cases h1:k < m
   ·rw[if_pos h1,if_pos (by omega)]
   ·rw[if_neg h1,if_neg (by omega)]
theorem ac5(h:ls.length<=m):By ls hi lo m=jn ls hi lo:=by
 refine eY fun k =>?_;rw[wJ,rH];cases e:ls[k]? with
 | none=>rfl
 | some u =>
  have:=(aj.mp e).1;show some _=some _;dsimp only;rw[if_pos (by omega)]
def mk(ls:List Nat):TM S->TM S
 | .num n => .num n
 | .name x => .name x
 | .of x as => .of x (as.map fun a=>ls.getD a 0)
def Jb(ts:List (TM S))(es:List (Nat × Nat)):TM S->TM S->Prop
 | .of x as,.of y vs=>x=y∧as.length=vs.length∧∀ k a v:Nat,as[k]? = some a->vs[k]? = some v->Eqv ts es a v
 | t,m=>t=m
theorem xM{ts:List (TM S)}(h:Sound ts es ls):∀ {t:TM S},(∀ x as,t = .of x as->∀ a∈as,a < ls.length)->Jb ts es t (mk ls t)
 | .num n,_=>rfl
 | .name x,_=>rfl
 | .of x as,hb=>by
  refine⟨O,by rw[ay],fun k a v h1 h2 =>?_⟩;rw[aJ,h1]at h2;have e:ls.getD a 0=v:=aP h2;have ha:=hb x as rfl a (aN h1);rw[aU,ah ha]at e;refine h a v ?_;rw[ah ha, <- e];rfl
theorem Hw{ts:List (TM S)}{t u m:TM S}(hi:ts[i]? = some t)(hj:ts[j]? = some u)(h1:Jb ts es t m)(h2:Jb ts es u m):Eqv ts es i j:=by
 cases t with
 | num n =>
  have e:TM.num n=m:=h1;subst e;cases u with
  | num k=>cases (show TM.num k=TM.num n from h2);exact .same hi hj
  | name y=>cases (show TM.name y=TM.num n from h2)
  | of y bs=>cases (show TM.of y bs=TM.num n from h2)
 | name x =>
  have e:TM.name x=m:=h1;subst e;cases u with
  | num k=>cases (show TM.num k=TM.name x from h2)
  | name y=>cases (show TM.name y=TM.name x from h2);exact .same hi hj
  | of y bs=>cases (show TM.of y bs=TM.name x from h2)
 | of x as =>
  cases m with
  | num k=>cases (show TM.of x as=TM.num k from h1)
  | name y=>cases (show TM.of x as=TM.name y from h1)
  | of y vs =>
   obtain⟨rfl,l1,q1⟩:=h1;cases u with
   | num k=>cases (show TM.num k=TM.of x vs from h2)
   | name z=>cases (show TM.name z=TM.of x vs from h2)
   | of z bs =>
    obtain⟨rfl,l2,q2⟩:=h2;refine .ag4 hi hj (by omega) fun k a b ha hb =>?_;have hk:k < vs.length:=by have:=(aj.mp ha).1;omega
    exact .trans (q1 k a _ ha (ah hk)) (.symm (q2 k b _ hb (ah hk)))
def Ab(ts:List (TM S))(es:List (Nat × Nat))(ls:List Nat):Prop :=
 ls.length=ts.length∧pk ls∧Sound ts es ls∧∀ i j:Nat,i < ts.length->j < ts.length->Eqv ts es i j->ls[i]? = ls[j]?
def EF(ts:List (TM S)):Prop := ∀ (i:Nat) (x:S) (as:List Nat),ts[i]? = some (.of x as)->∀ a∈as,a < i
theorem Pl{ts:List (TM S)}(ha:EF ts)(he:∀ a b:Nat,(a,b)∈es->a < ts.length∧b < ts.length)(hl:ls.length=ts.length)(h1:∀ a b:Nat,(a,b)∈es->ls[a]? = ls[b]?)(h2:∀ (i j:Nat) (t u:TM S),ts[i]? = some t->ts[j]? = some u->mk ls t=mk ls u->ls[i]? = ls[j]?)(h:Eqv ts es i j):ls[i]? = ls[j]? := by
 induction h with
 | refl i=>rfl
 | symm _ ih=>exact ih.symm
 | trans _ _ ih1 ih2=>exact ih1.trans ih2
 | ZH h=>exact h1 _ _ h
 | same q1 q2=>exact h2 _ _ _ _ q1 q2 rfl
 | @ag4 i j x as bs q1 q2 Fw _ ih =>
  refine h2 _ _ _ _ q1 q2 ?_;have e:as.map (fun a=>ls.getD a 0)=bs.map (fun a=>ls.getD a 0):=by
   refine eY fun k =>?_;rw[aJ,aJ];by_cases hk:k < as.length
   ·have e1:=ah (l:=as) hk;have e2:=ah (l:=bs) (show k < bs.length by omega);have:=ih k _ _ e1 e2;rw[e1,e2];show some (ls.getD _ 0)=some (ls.getD _ 0);rw[aU,aU,this]
   ·rw[cJ (by omega),cJ (by omega)]
  show TM.of x _=TM.of x _;rw[e]
theorem IT{ts:List (TM S)}{fP:List Nat}(h:Ab ts es ls)(h':Ab ts es fP):ls=fP:=by
 obtain⟨l1,g1,s1,c1⟩:=h;obtain⟨l2,g2,s2,c2⟩:=h';refine eY fun k =>?_;by_cases hk:k < ts.length
 ·have e1:=ah (l:=ls) (show k < ls.length by omega);have e2:=ah (l:=fP) (show k < fP.length by omega);obtain⟨a1,b1⟩:=g1 k _ e1;obtain⟨a2,b2⟩:=g2 k _ e2;have q1:=s1 k _ e1;have q2:=s2 k _ e2;have z1:=c2 k (ls[k]'(by omega)) hk (by omega) q1;have z2:=c1 k (fP[k]'(by omega)) hk (by omega) q2;rw[e2]at z1;rw[e1]at z2;have y1:=(g2 _ _ z1.symm).1;have y2:=(g1 _ _ z2.symm).1;rw[e1,e2];have:ls[k]'(by omega)=fP[k]'(by omega):=by omega
  rw[this]
 ·rw[cJ (by omega),cJ (by omega)]
theorem adg(n:Nat):pk (aI n):=fun k v h=>by
 have hk:k < (aI n).length:=(aj.mp h).1;rw[bA]at hk;rw[dO hk]at h;cases h;exact⟨aw _,dO hk⟩
theorem Yl(ts:List (TM S))(es:List (Nat × Nat))(n:Nat):Sound ts es (aI n):=fun k v h=>by
 have hk:k < (aI n).length:=(aj.mp h).1;rw[bA]at hk;rw[dO hk]at h;cases h;exact .refl _
end
end Sw
namespace L2
open PySem PySem.Spec PyProof.Rows
variable{A:Around}{te:TE}{σ:St}{caps:List (Str × Nat)}{H:Hp}{Q:Value->Shared->Prop}{xs:List (NK × Addr × Value)}{y:V}{u:Value}{ag:List (Addr × Obj)}{s:Shared}{ds:List L2.D}
section
variable {X:Cx}
inductive zW(xs:List V)(H:Hp)(Q:VK):Prop
 | mk:∀ (j:Int),(xs = [.int j])->(∀ p,H p=none->Q (.ref p) (aC H p (.Fq 0 j)))->zW xs H Q
theorem Pq:mQ X (.type "range") (fun xs H Q=>zW xs H Q):=by
 intro ag s σ H xs us Q I r h;obtain⟨j,rfl,q⟩:=h;obtain⟨u,rfl,ru⟩:=vals1 r;obtain⟨t,rfl⟩:=ru;exact call_range_1 ⟨.ref s.heap.objs.size,_,I.laid (a:=s.heap.objs.size) (o := .Fq 0 j) (fun _ _ q=>aH _ q) (aw _) ⟨_,_,_,bz _ rfl⟩,O,q _ (I.bO.fresh (aw _))⟩
inductive yt(xs:List V)(H:Hp)(Q:VK):Prop
 | mk:∀ (p:Addr) (n:Nat),(xs = [.ref p])->(H p=some (.Fq 0 (n:Int)))->(n<=1000000)->(∀ l,H l=none->Q (.ref l) (aC H l (.lst ((aI n).map fun i:Nat=>V.int (i:Int)))))->yt xs H Q
theorem Mt(hc:X.calm=true):mQ X (.type "list") (fun xs H Q=>yt xs H Q):=by
 intro ag s σ H xs us Q I r h;obtain⟨p,n,rfl,hp,hn,q⟩:=h;obtain⟨u,rfl,ru⟩:=vals1 r;cases (show u=bL p from ru);obtain⟨t,t',t'',e⟩:=(show eV X.prog X.w H s.heap p (.Fq 0 (n:Int)) from I.bO p _ hp);have hz:xH 0 (n:Int) 1=n:=by rw[rangeSize_one];split <;> omega
 refine call_list_range (I.ok.hd hc) e (small_one (by omega) (by omega) (by omega) (by omega)) hz (by omega) fun h' tk Z4 c' kp hS Ki =>?_;refine⟨.ref s.heap.objs.size,_,I.laid kp (aw _) (show eV X.prog X.w _ h' _ (.lst ((aI n).map fun i:Nat=>V.int (i:Int))) from ⟨?_,Z4.toList,c',?_,by simpa using hS⟩),O,q _ (I.bO.fresh (aw _))⟩
 ·rw[ay,bA];exact bp hn (by decide)
 ·refine US (by rw[ay,bA,bF];exact Ki.1.symm) fun j x v hx hv =>?_;obtain⟨t2,Lw⟩:=Ki.2 j v (by rw[<- rb];exact hv);rw[aJ]at hx;have hj:j < n:=by
   have:=(aj.mp hv).1;rw[bF,Ki.1]at this;exact this
  rw[dO hj]at hx;have ex:V.int ((j:Nat):Int)=x:=aP hx;rw[<- ex,Lw];exact⟨t2,by congr 1;omega⟩
where
 US:∀ {xs:List V}{us:List Value},xs.length=us.length->(∀ (j:Nat) x u,xs[j]? = some x->us[j]? = some u->RelV x u)->Vals xs us
 | [], [],_,_ => .nil
 | [],_ :: _,h,_=>by cases h
 | _ :: _, [],h,_=>by cases h
 | x :: xs,u :: us,h,f => .cons (f 0 x u rfl rfl) (US (by simpa using h) fun j a b ha hb=>f (j+1) a b (by simpa using ha) (by simpa using hb))
end
theorem sL{k:Nat}(hr:eQ k A):A.units+10 < cLine:=by have:=hr.un;omega
theorem Mw{k:Nat}(hr:eQ k A):A.units+151 < cLine:=by have:=hr.un;omega
theorem QJ{lo:Int}{n:Nat}{ct:TT}{Q:VK}(f:Int->Option V)(hn:n<=1000)(DA:∀ (i:Nat),i < n->∀ H',a6 H H'->∀ (R:Bool->Hp->Prop),(R (f (lo+i)).isSome H')->ct (some (.int (lo+i)) :: kq σ caps) H' R)(hev:∀ (i:Nat) v,i < n->f (lo+i)=some v->∀ H',a6 H H'->∀ Q':VK,Q' v H'->te (some (.int (lo+i)) :: kq σ caps) H' Q')(hq:∀ D,H D=none->Q (.ref D) (aC H D (.lst ((aI n).filterMap fun i:Nat=>f (lo+i))))) :
  yA (Mf lo n) (b7 0) ct te (bq 1 none ++ kq σ caps) H Q:=by
 intro D hD;refine⟨fun i m τ zs H'=>m=n - i∧i<=n∧(∃ o, τ = o :: kq σ caps)∧zs=(aI i).filterMap (fun i:Nat=>f (lo+i))∧H'=aC H D (.lst zs),⟨n,by simp,aQ _,⟨none,O⟩,by simp,O⟩,?_⟩;rintro i m τ zs H' ⟨rfl,hi,⟨o,rfl⟩,rfl,rfl⟩;refine⟨ak,?_⟩;have sm:∀ zs,a6 H (aC H D (.lst zs)):=fun zs=>aD hD _;by_cases ef:i < n
 ·refine .inr ⟨ef,?_,fun x pG y =>?_⟩
  ·refine dD (bp (oG _ _) ?_);rw[bA];omega
  obtain⟨e,e2⟩:=y;subst e e2;show ct (some (.int (lo+(i:Int))) :: kq σ caps) _ _;refine DA i ef _ (sm _) _ ?_;have step:(aI (i+1)).filterMap (fun i:Nat=>f (lo+i))=(aI i).filterMap (fun i:Nat=>f (lo+i)) ++ (match f (lo+i) with | some v => [v] | none => []):=by
   rw[eM,jH];congr 1;rw[cF,Ei];cases f (lo+(i:Int)) <;> rfl
  cases e:f (lo+(i:Int)) with
  | none =>
   rw[e]at step;refine⟨n - (i+1),by omega,O,ef,⟨_,O⟩,?_,O⟩;rw[step,cY]
  | some v =>
   rw[e]at step;refine hev i v ef e _ (sm _) _ ?_;refine⟨ak,n - (i+1),by omega,O,ef,⟨_,O⟩,step.symm,?_⟩;rw[sI]
 ·have e:i=n:=by omega
  subst e;exact .inl ⟨aw _,hq D hD⟩
section
variable {prog:Program}{w:World}{K:Type} [DecidableEq K] {knd:HeapKind prog w K}{A:Around}{E:Value->Shared->Prop}{s:Shared}{d:Addr}{xs:List (K × Addr × Value)}
end
section
variable {X:Cx}{ag:List (Addr × Obj)}{σ : St}{H:Hp}{s:Shared}{a b:Addr}{kvs Oq:List (NK × V)}{k:NK}{y v:V}{u r:Value}{A:Around}{E:Value->Shared->Prop}
theorem KN.NI(r:KN H kvs xs)(k:NK)(ry:RelV y u) :
  KN H (kvs.map fun kv=>if kv.1=k then (kv.1,y) else kv) (xs.map (putAt k u)):=by
 induction r with
 | nil=>exact .nil
 | @cons p q ps qs h t ih =>
  rw[aS,aS];refine .cons ?_ ih;obtain⟨h1,h2,h3⟩:=h;unfold putAt;by_cases e:p.1=k
  ·rw[if_pos e,if_pos (h1.symm.trans e)];exact⟨h1,h2,ry⟩
  ·rw[if_neg e,if_neg (fun z=>e (h1.trans z))];exact⟨h1,h2,h3⟩
theorem KN.put(r:KN H kvs xs)(k:NK){b:Addr}(hb:nF H k b)(ry:RelV y u) :
  KN H (gm kvs k y) (storedH xs k b u):=by
 have e:(kvs.any fun kv=>decide (kv.1=k))=(atKey xs k).isSome:=by
  rw[mD,(r.val k).uJ,jQ]
 unfold gm storedH;rw[e];by_cases q:(atKey xs k).isSome=true
 ·rw[if_pos q,if_pos q];exact r.NI k ry
 ·rw[if_neg q,if_neg q];exact qb r ⟨O,hb,ry⟩
theorem Ur(hu:A.units+10 < cLine)(I:Inv X ag σ H s)(d:DN X.prog X.w H a kvs)(nk:nF H k b)(l:cP kvs k=some v)(h:∀ w' s',Inv X ag σ H s'->RelV v w'->Q w' s') :
  wpAny (model X.prog X.w) A (getItem (.ref a) (.ref b)) Q E s:=by
 obtain⟨z,hd,xs,fD,dd⟩:=EX I.bO d;obtain⟨w',hw,lI⟩:=mj.some_of (v:=v) (o:=(atKey xs k).map (·.2)) (by rw[<- l];exact fD.val k);obtain⟨p,hp,hp2⟩:=b8.mp hw;refine wpAny_getItem_heap (show A.units+1+5 < cLine by omega) (v8 I.bO nk) dd hp ?_;rw[hp2];exact h w' _ (I.tok _) lI
theorem ZK(hu:A.units+10 < cLine)(I:Inv X ag σ H s)(d:DN X.prog X.w H a kvs)(nk:nF H k b)(h:∀ s',Inv X ag σ H s'->Q (.bool (!(cP kvs k).isSome)) s') :
  wpAny (model X.prog X.w) A (compareOp .NotIn (.ref b) (.ref a)) Q E s:=by
 obtain⟨z,hd,xs,fD,dd⟩:=EX I.bO d;refine wpAny_notIn_heap (show A.units+1+5 < cLine by omega) (v8 I.bO nk) hd dd ?_;have q:=(fD.val k).uJ;rw[jQ]at q;rw[<- q];exact h _ (I.tok _)
theorem Uq{Q:Unit->Shared->Prop}(hu:A.units+10 < cLine)(I:Inv X ag σ H s)(d:DN X.prog X.w H a kvs)(nk:nF H k b)(rv:RelV v r)(hl:kvs.length < sizeLine)(h:∀ φ s',Inv X ag σ (aC H a (.ext φ)) s'->DN X.prog X.w (aC H a (.ext φ)) a (gm kvs k v)->Q () s') :
  wpAny (model X.prog X.w) A (setItem (.ref a) (.ref b) r) Q E s:=by
 obtain⟨z,hd,xs,fD,dd⟩:=EX I.bO d;have hz:xs.length<=sizeLine:=by rw[<- bx fD];exact z
 have Fw:(gm kvs k v).length<=sizeLine:=by have:=nc kvs k v;omega
 refine wpAny_setItem_heap (hsz:=hz) (show A.units+1+5 < cLine by omega) (v8 I.bO nk) dd fun h' DU hs =>?_;obtain⟨φ,I',d'⟩:=Pg (t':=s.toks+(uH X.prog X.w).draws k) I d hs DU (fD.put k nk rv) Fw;exact h φ _ I' d'
theorem adp(hu:A.units+10 < cLine)(I:Inv X ag σ H s)(d:DN X.prog X.w H a kvs)(nk:nF H k b)(h:∀ w' s',Inv X ag σ H s'->RelV ((cP kvs k).getD .cj) w'->Q w' s') :
  wpAny (model X.prog X.w) A (call (.builtin "dict.get") [.ref a,.ref b]) Q E s:=by
 obtain⟨z,hd,xs,fD,dd⟩:=EX I.bO d;exact call_meetsIn jE dd.typeIs p9 (PySem.F.args_dict_get_2 _ _) (meetsH_dict_get (uH X.prog X.w) a b hd) ⟨(show A.units+1+5 < cLine by omega),k,xs,v8 I.bO nk,dd,h _ _ (I.tok _) ((fD.val k).getD rfl)⟩
end
inductive Sm(P:Program)(w:World)(Q:VK)(x:V)(y:V)(H2:Hp):Prop
 | mk:∀ a b kvs k v,(x = .ref a)->(y = .ref b)->(DN P w H2 a kvs)->(nF H2 k b)->(cP kvs k=some v)->(Q v H2)->Sm P w Q x y H2
def ah5(P:Program)(w:World)(td ty:TE):TE:=fun σ H Q=>td σ H fun x H1=>ty σ H1 fun y H2=>Sm P w Q x y H2
inductive L6(P:Program)(w:World)(Q:VK)(y:V)(x:V)(H2:Hp):Prop
 | mk:∀ a b kvs k,(x = .ref a)->(y = .ref b)->(DN P w H2 a kvs)->(nF H2 k b)->(Q (.bl (!(cP kvs k).isSome)) H2)->L6 P w Q y x H2
def acm(P:Program)(w:World)(ty td:TE):TE:=fun σ H Q=>ty σ H fun y H1=>td σ H1 fun x H2=>L6 P w Q y x H2
inductive Sq(P:Program)(w:World)(D:Ends)(σ : St)(v:V)(x:V)(y:V)(H3:Hp):Prop
 | mk:∀ a b kvs k,(x = .ref a)->(y = .ref b)->(DN P w H3 a kvs)->(nF H3 k b)->(kvs.length < sizeLine)->(∀ φ,DN P w (aC H3 a (.ext φ)) a (gm kvs k v)->D.nx σ (aC H3 a (.ext φ)))->Sq P w D σ v x y H3
def aid(P:Program)(w:World)(td ty tv:TE):TS:=fun D σ H=>tv σ H fun v H1=>td σ H1 fun x H2=>ty σ H2 fun y H3=>Sq P w D σ v x y H3
inductive PZ(P:Program)(w:World)(ty:TE)(σ : St)(Q:VK)(x:V)(H1:Hp):Prop
 | mk:∀ a,(x = .ref a)->((∃ kvs,DN P w H1 a kvs))->(ty σ H1 fun y H2=>∃ b kvs k,y = .ref b∧DN P w H2 a kvs∧nF H2 k b∧Q ((cP kvs k).getD .cj) H2)->PZ P w ty σ Q x H1
def adZ(P:Program)(w:World)(td ty:TE):TE:=fun σ H Q=>td σ H fun x H1=>PZ P w ty σ Q x H1
section
variable {X:Cx}{o i e f value:Expr}{pos nD eP fN:Pos}{td ty tv:TE}
theorem W8{a:Addr}{kvs:List (NK × V)}(I:Inv X ag σ H s)(d:DN X.prog X.w H a kvs):s.TypeIs (.ref a) "dict" := (Ox I ⟨kvs,d⟩).1
theorem acL(hu:X.A.units+10 < cLine)(ho:PE X o td)(hi:PE X i ty)(hs:aac i):PE X (.Subscript o i pos) (ah5 X.prog X.w td ty):=by
 intro ag s σ H Q I h;refine QZ vT.lookup hs (cm (ho ag s σ H _ I h) fun u s1 ⟨x,H1,I1,rx,q1⟩=>cm (hi ag s1 σ H1 _ I1 q1) fun iv s2 ⟨y,H2,I2,ry,a,b,kvs,k,v,ex,ey,d,nk,l,q2⟩ =>?_);subst ex ey;obtain rfl:u=bL a:=rx;obtain rfl:iv=bL b:=ry;exact⟨W8 I2 d,Ur hu I2 d nk l fun w' s3 I3 lI=>⟨v,H2,I3,lI,q2⟩⟩
theorem Lh(hu:X.A.units+10 < cLine)(hi:PE X i ty)(ho:PE X o td):PC X .NotIn i o (acm X.prog X.w ty td):=by
 intro ag s σ H Q I h;refine cm (hi ag s σ H _ I h) fun iv s1 ⟨y,H1,I1,ry,q1⟩=>cm (ho ag s1 σ H1 _ I1 q1) fun u s2 ⟨x,H2,I2,rx,a,b,kvs,k,ex,ey,d,nk,q2⟩ =>?_;subst ex ey;obtain rfl:u=bL a:=rx;obtain rfl:iv=bL b:=ry;exact ZK hu I2 d nk fun s3 I3=>⟨.bl (!(cP kvs k).isSome),H2,I3,O,q2⟩
theorem JS(hu:X.A.units+10 < cLine)(ho:PE X o td)(hi:PE X i ty)(hv:PE X value tv)(hs:swapsWith value (some (.Subscript o i nD)) pos.line X.env=pure false) :
  PS X (.Assign [.Subscript o i nD] value pos) (aid X.prog X.w td ty tv):=by
 intro ag s σ H D I h;refine wpAny_Assign_Subscript (cm (hv ag s σ H _ I h) fun r s1 ⟨v,H1,I1,rv,q1⟩=>cm (ho ag s1 σ H1 _ I1 q1) fun u s2 ⟨x,H2,I2,rx,q2⟩=>cm (hi ag s2 σ H2 _ I2 q2) fun iv s3 ⟨y,H3,I3,ry,a,b,kvs,k,ex,ey,d,nk,hl,q3⟩ =>?_) hs;subst ex ey;obtain rfl:u=bL a:=rx;obtain rfl:iv=bL b:=ry;exact Uq hu I3 d nk rv hl fun φ s4 I4 d4=>⟨σ,_,I4,q3 φ d4⟩
theorem wA(hu:X.A.units+10 < cLine)(ho:PE X o td)(he:PE X e ty)(m:M1 X o "get" eP e fN):PE X (.Call (.Attribute o "get" eP) [e] [] fN) (adZ X.prog X.w td ty):=by
 intro ag s σ H Q I h;refine wpAny_Call_method m.base m.iI m.line jh jE zR (cm (ho ag s σ H _ I h) fun u s1 ⟨x,H1,I1,rx,a,ex,d,q1⟩ =>?_);subst ex;obtain rfl:u=bL a:=rx;obtain⟨t1,t2,_⟩:=Ox I1 d;refine⟨t1,t2,?_⟩;rw[m.trees];refine ie rfl (iX (fI (cm (he ag s1 σ H1 _ I1 q1) fun iv s2 ⟨y,H2,I2,ry,b,kvs,k,ey,d2,nk,q2⟩=>jS ?_)));subst ey;obtain rfl:iv=bL b:=ry;exact adp hu I2 d2 nk fun w' s3 I3 lI=>⟨_,H2,I3,lI,q2⟩
end
section
variable {X:Cx}
variable {o:Expr}{eP fN:Pos}{td:TE}
end
def DXo(P:Program)(w:World)(a:Addr)(o:Obj)(kvs:List (Key × V)):Prop:=kvs.length<=sizeLine∧(a == sysModules)=false∧∃ (vs:List (Key × Value)) (ep:Nat),KV kvs vs∧∀ h:Heap,h.get? a=some o->h.DictAt (dI P w) a vs ep
def Ext(a:Addr)(o:Obj):HO := .ext fun h=>h.get? a=some o
theorem Inv.freeze{X:Cx}{a:Addr}{kvs:List (Key × V)}(I:Inv X ag σ H s)(e:H a=some (.dK kvs)):∃ o,DXo X.prog X.w a o kvs∧Inv X ag σ (aC H a (Ext a o)) s:=by
 obtain⟨z,hd,vs,fD,dd⟩:=Us I.bO e;obtain⟨o,es,ep,ho,r⟩:=dd;refine⟨o,⟨z,hd,vs,ep,fD,fun h hh=>⟨o,es,hh,r⟩⟩,?_⟩;exact zQ (h':=s.heap) (t':=s.toks) I (by rw[e];exact jZ) (eT.refl _ _) ⟨o,ho⟩ (Pb ho)
theorem MJ{P:Program}{w:World}{h:Heap}{a:Addr}{o:Obj}(ok:iG P w H h)(e:H a=some (Ext a o)):h.get? a=some o:=(show eV P w H h a (.ext fun h=>h.get? a=some o) from ok a _ e).1
section
variable {X:Cx}{tg l:Expr}{tl:TE}
end
section
variable {X:Cx}{ag:List (Addr × Obj)}{σ : St}{H:Hp}{s:Shared}{a:Addr}{kvs:List (Key × V)}{k:Key}{v:V}{u r:Value}{A:Around}{E:Value->Shared->Prop}
theorem Ms(I:Inv X ag σ H s)(e:H a=some (.dK kvs))(ry:RelV (kV k) u)(rv:RelV v r)(hl:kvs.length < sizeLine)(h1:∀ v' w' s',cP kvs k=some v'->RelV v' w'->Inv X ag σ H s'->Q w' s')(h2:cP kvs k=none->∀ s',Inv X ag σ (aC H a (.dK (kvs ++ [(k,v)]))) s'->Q r s') :
  wpAny (model X.prog X.w) A (call (.builtin "dict.setdefault") [.ref a,u,r]) Q E s:=by
 obtain⟨z,hd,vs,fD,dd⟩:=Us I.bO e;have hz:vs.length<=sizeLine:=by rw[<- fD.length];exact z
 have ro:=fD.val k;refine call_meetsIn jo dd.typeIs sr (rZ _ _ _) (kt_meets_setdefault (dI X.prog X.w) a (AL ry) hd r) ?_;refine⟨vs,dd,hz,fun w' hw =>?_,fun hn h' DU hs =>?_⟩
 ·rw[hw]at ro;cases e:cP kvs k with
  | none=>rw[e]at ro;exact ro.elim
  | some v'=>rw[e]at ro;exact h1 v' _ _ e ro (I.tok _)
 ·rw[hn]at ro;cases e':cP kvs k with
  | some v'=>rw[e']at ro;exact ro.elim
  | none =>
   refine h2 e' _ ?_;have he:∃ q,h'.get? a=some q:=let ⟨q,_,_,hq,_⟩:=DU; ⟨q,hq⟩;have hp:=fD.put k rv;rw[Au v e']at hp;exact zQ I (by rw[e];exact jZ) hs he (W9 (by rw[aO];exact hl) hd hp DU)
end
def ah2(td ty tx:TE):TE:=fun σ H Q=>td σ H fun x H1=>∃ a,x = .ref a∧IsD H1 a∧ty σ H1 fun y H2=>tx σ H2 fun z H3=>∃ kvs k,H3 a=some (.dK kvs)∧y=kV k∧kvs.length < sizeLine ∧
 (∀ v,cP kvs k=some v->Q v H3)∧(cP kvs k=none->Q z (aC H3 a (.dK (kvs ++ [(k,z)]))))
section
variable {X:Cx}{o e f:Expr}{eP fN:Pos}{td ty tx:TE}
theorem acJ(ho:PE X o td)(he:PE X e ty)(hf:PE X f tx)(m:M2 X o "setdefault" eP e f fN):PE X (.Call (.Attribute o "setdefault" eP) [e,f] [] fN) (ah2 td ty tx):=by
 intro ag s σ H Q I h;refine wpAny_Call_method m.base m.iI m.line jh jo ua (cm (ho ag s σ H _ I h) fun u s1 ⟨x,H1,I1,rx,a,ex,d,q1⟩ =>?_);subst ex;obtain rfl:u=bL a:=rx;obtain⟨t1,t2,_⟩:=Wt I1 d;refine⟨t1,t2,?_⟩;rw[m.trees];refine ie rfl (iX (fI (cm (he ag s1 σ H1 _ I1 q1) fun iv s2 ⟨y,H2,I2,ry,q2⟩ =>
  fI (cm (hf ag s2 σ H2 _ I2 q2) fun fv s3 ⟨z,H3,I3,rz,kvs,k,d3,ey,hl,q3,q4⟩=>jS ?_))))
 subst ey;exact Ms I3 d3 ry rz hl (fun v' w' s4 e4 r4 I4=>⟨v',H3,I4,r4,q3 v' e4⟩) fun hn s4 I4=>⟨z,_,I4,rz,q4 hn⟩
end
theorem Uw:bootBuiltins "dict" = some (.type "dict"):=by decide +kernel
theorem YW(h:∀ d∈ds,d.Ro=true):L2.D.wD ds=true:=by
 induction ds with
 | nil=>rw[D.wD]
 | cons d ds ih=>rw[D.wD,h d bM,ih fun e he=>h e (aX _ he)];rfl
theorem Lj:∀ {ds:List L2.D}{d:L2.D},D.wD ds=true->d∈ds->d.Ro=true
 | e :: ds,d,h,m=>by
  rw[D.wD,dU]at h;rcases bC.mp m with rfl | m
  ·exact h.1
  ·exact Lj h.2 m
theorem Ut{K:ai}{a:Addr}{xs:List V}{Q:VK}(hS:bw K H a xs)(hz:xs.length<=1000)(hy:ds.length=xs.length)(hn:L2.D.wD ds=true)(DA:∀ (i:Nat) (x:V) (d:L2.D),xs[i]? = some x->ds[i]? = some d->∀ H',a6 H H'->∀ Q':VK,(∀ y pG,a6 H' pG->Den pG d y->Q' y pG)->te (some x :: kq σ caps) H' Q')(hq:∀ D H' ys,H D=none->a6 H H'->H' D=some (.lst ys)->fO H' ds ys->Q (.ref D) H') :
  Hj (P2 K a) (b7 0) te (bq 1 none ++ kq σ caps) H Q:=by
 intro D hD;refine⟨fun i m τ zs H'=>m=xs.length - i∧i<=xs.length∧(∃ o, τ = o :: kq σ caps)∧fO H' (ds.take i) zs∧a6 H H'∧H' D=some (.lst zs),⟨xs.length,by simp,aQ _,⟨none,O⟩,GP,aD hD _,ak⟩,?_⟩;rintro i m τ zs H' ⟨rfl,hi,⟨o,rfl⟩,hzs,sm,ya⟩;refine⟨ya,?_⟩;have hlz:=Pj hzs;rw[cf]at hlz;by_cases ef:i < xs.length
 ·refine .inr ⟨⟨xs,xs[i],sm.seq hS,by simp[ef]⟩,dD (by omega),fun x pG y =>?_⟩;obtain⟨e,y⟩:=y;subst e;have hx:=y xs (sm.seq hS);have hdi:ds[i]? = some ds[i]:=ah (by omega);show te (some x :: kq σ caps) _ _;refine DA i x ds[i] hx hdi _ sm _ (fun v H2 s2 hv =>?_);have hD2:=s2 _ _ ya;have kp:∀ b ys,H2 b=some (.tup ys)->(aC H2 D (.lst (zs ++ [v]))) b=some (.tup ys):=fun b ys e=>by rw[av (b9 e hD2 nofun)];exact e
  refine⟨hD2,xs.length - (i+1),by omega,O,ef,⟨_,O⟩,?_,(sm.trans s2).put hD,ak⟩;have n1:L2.D.wD (ds.take (i+1))=true:=YW fun d hd=>Lj hn (iU hd);have e1:ds.take (i+1)=ds.take i ++ [ds[i]]:=by rw[cW,hdi];rfl
  rw[e1]at n1 ⊢;exact A8 kp n1 (FH (LM s2 hzs) (lG hv))
 ·have e:i=xs.length:=by omega
  subst e;refine .inl ⟨⟨xs,sm.seq hS,aw _⟩,?_⟩;rw[<- hy,du]at hzs;exact hq D H' zs hD sm ya hzs
end L2
namespace PySem
section
variable {prog:Program}{w:World}{A:Around}{E:Value->Shared->Prop}{s:Shared}
end
section
variable {prog:Program}{w:World}{A:Around}{s:Shared}{R:Result->Shared->Prop}{I l:Addr}{items:Array Value}
end
section
variable {prog:Program}{w:World}{A:Around}{E:Value->Shared->Prop}{s:Shared}{I l:Addr}{items:Array Value}
end
end PySem
namespace L2
open PySem PySem.Spec PyProof.Rows
variable{X:Cx}{pos:Pos}
theorem gw:Passes (mz X.prog X.w) X E0:=fun ag σ H s e s' I h=>by
 obtain⟨_,_,_,_,_,_,_,_,_,_,_,_,_,_,_,q⟩:=h;exact gi q
theorem Gz{body:List Stmt}{h0:ExceptHandler}{hs:List ExceptHandler}{tb:TS}(hb:oC X.Rn body tb):PS X (.Try body (h0 :: hs) [] [] pos) tb:=by
 intro ag s σ H D I h;refine wpAny_Try_except (show wpAny (model X.prog X.w) X.A (execs body X.env) _ _ s from wpAny_mono (hb ag s σ H D (I.wg _) h) (fun f s1 q =>?_) fun _ _ z=>gi z);cases f with
 | next =>
  obtain⟨bJ,H',J,q⟩:=q;exact wpAny_execs_nil ⟨bJ,H',J.mS,q⟩
 | brk =>
  obtain⟨bJ,H',J,q⟩:=q;exact⟨bJ,H',J.mS,q⟩
 | cont =>
  obtain⟨bJ,H',J,q⟩:=q;exact⟨bJ,H',J.mS,q⟩
 | ret u =>
  obtain⟨v, bJ,H',J,r,q⟩:=q;exact⟨v, bJ,H',J.mS,r,q⟩
structure ahQ(K:ai)(x cD:Str)(st:Stmt)(f:Addr)(fd:FuncData):Prop where
 ex:∃ (oc:Value) (od:Option Addr) (dV kV doc pm:Value) (an:Option Addr) (bU ct:Value) (zu:Array (Option Value)),
  fd=c9 x cD (fU st) (d6 st) (aF st) dV kV doc pm an bU ct∧K.lookup f=some ⟨oc,od,.func fd,zu⟩∧dG K bU cD=true
structure ab9(P:Program)(w:World)(K:ai)(mg:Str->Option Value)(base:Heap)(k:Nat)(C:Addr)(m:Str)(ps:List Str)(dC:List V)(sp:Sp):Prop where
 ex:∃ f fd ds,kC P w K mg base (mz P w) k f fd ps sp∧Meth K C m f∧Binds K fd ps ds∧Vals dC ds
theorem aeq{k k':Nat}{m:Str}{C:Addr}{ps:List Str}{dC:List V}{sp:Sp}{eP:Pos}{e o:Expr}{es:List Expr}{ta:TE}{t:TA}{E:XK}{pl:Sem Bool}(h:ab9 X.prog X.w X.K X.mg X.base k C m ps dC sp)(c:lB X.K C)(hr:eQ k' X.A)(hk:k<=k')(hx:Passes (mz X.prog X.w) X E)(he:PE X o ta)(ha:PA X (e :: es) t)(nN:starEach (e :: es) X.env=(false,eval e X.env) :: starEach es X.env:=by rfl)(j7:(backTo pos (starEach es X.env)).any (·.1)=false:=by rfl)(ht:eval (.Call (.Attribute o m eP) (e :: es) [] pos) X.env=(do
   let ov <- eval o X.env
   standAt eP.atName
   let (f,first) <- holding [ov] (getMethod ov m pl)
   callWith pos f first (backTo pos (starEach (e :: es) X.env)) (backToKw pos (keywordEach [] X.env))):=by rfl) :
  PE X (.Call (.Attribute o m eP) (e :: es) [] pos) (Hu C m sp dC E ta t):=by
 obtain⟨f,fd,ds,F,hm,hb,hv⟩:=h.ex;exact Rh he c hm F (hr.mono hk) hb hv hx ha nN j7 ht
section
variable {X:Cx}
inductive Ek(xs:List V)(H:Hp)(Q:VK):Prop
 | mk:∀ p kvs,(xs = [.ref p])->(H p=some (.dK kvs))->(∀ l,H l=none->Q (.ref l) (aC H l (.dK kvs)))->Ek xs H Q
theorem Uv:mQ X (.type "dict") (fun xs H Q=>Ek xs H Q):=by
 intro ag s σ H xs us Q I r h;obtain⟨p,kvs,rfl,e,q⟩:=h;obtain⟨u,rfl,rx⟩:=vals1 r;cases rx;obtain⟨z,y,vs,fD,dd⟩:=(show eV X.prog X.w H s.heap p (.dK kvs) from I.bO p _ e);have hl:=fD.length;refine kt_call_dict y dd (by rw[<- hl];exact z) fun h' hm hs =>?_;have kp:∀ b o',s.heap.get? b=some o'->h'.get? b=some o':=fun b o' e'=>by
  have hb:b≠s.heap.objs.size:=fun z=>absurd (a9 e') (by rw[z];exact e9 _);have h1:=aH { cls := .type "dict",data := .dict #[] } e';rw[hs.2 b hb];exact h1
 exact⟨.ref s.heap.objs.size,_,I.laid (t':=s.toks) kp (aw _) (show eV X.prog X.w _ h' _ (.dK kvs) from ⟨z,beq_eq_false_iff_ne.mpr (bR (cQ I.big)),vs,fD,hm⟩),O,q _ (I.bO.fresh (aw _))⟩
end
theorem Cv{c:TT}{t u:TS}{D:Ends}{σ : St}{H:Hp}(R:Bool->Hp->Prop)(hc:∀ Q:Bool->Hp->Prop,(∀ b H',R b H'->Q b H')->c σ H Q)(h1:∀ H',R true H'->t D σ H')(h2:∀ H',R false H'->u D σ H'):JC c t u D σ H:=by
 refine hc _ fun b H' r =>?_;cases b with
 | true=>exact gH (h1 _ r)
 | false=>exact fC (h2 _ r)
section
variable {P:Program}{w:World}{A:Around}{s:Shared}
open SeqAt MeetsSeq MeetsSeq2 MeetsSeq3 SeqRoads2
open AutoSeq1 (wpAny_loadPart')
end
end L2
namespace L2
open PySem PySem.W PySem.Calls PyProof.Rows
variable{ns:List Int}
theorem UQ{c:Int}:c∈ns->D8 (.int c)<=IZ (ns.map yi):=by
 induction ns with
 | nil=>intro h;cases h
 | cons n ns ih =>
  intro h;rw[aS,IZ];rcases bC.mp h with rfl | h
  ·omega
  ·have:=ih h;omega
theorem ZV(h:WData.layableAll [I8 (ns.map yi)]=true):∀ c∈ns,BS c<=1048576:=fun c hc=>by
 have h1:WData.layable (I8 (ns.map yi))=true:=iw.mp h _ bM;have h2:=of_decide_eq_true (j3.mp h1).2;rw[D8]at h2;have h3:=UQ hc;rw[D8]at h3;show (if c == 0 then 0 else c.natAbs.log2+1)<=1048576;have:(2:Nat) ^ 20=1048576:=by decide
 omega
theorem X9{l:OpenLaw}{n k:Nat}{q:Program}{loose:List Str}{XP:(Str->Option Value)->Heap->Prop}{YP:World->Heap->Prop}{d:DefRec}{K:Params->Frag}{CX:World->Ac}{sp:World->Sp}{x:Str}(hn:l.most=some n)(Lz:n<=sizeLine)(hdf:d.params.defaults = [])(hr:eQ k callerA)(hY:∀ (w:World) (h:Heap),YP w h->(K w.params).In h)(F:∀ (w:World) (mg:Str->Option Value) (fa:Addr) (h:Heap),(K w.params).In h->h.Ns mainGlobals mg->mg d.name=some (.ref fa) ->
   ∃ fd:FuncData,(∀ (s:Shared) (u:Value),BindsTo s fd ⟨[u], []⟩ [(x,u)])∧∀ base:Heap,(K w.params).In base->base.Ns mainGlobals mg->kC l.prog w (K w.params) mg base (CX w) k fa fd [x] (sp w))(xW:∀ (w:World) (H:Hp) (a:Addr) (ns:List Int),ns.length<=n->(∀ c∈ns,BS c<=1048576)->bw (K w.params) H a (ns.map V.int)->sp w [.ref a] H (fun v _=>v = .bl true) fun _ _ _=>False)(hCX:∀ (w:World) (H:Hp) (s:Shared) (e:Value) (s':Shared),CX w [] H s (fun _ _ _=>False) e s'->False) :
  WalkO q loose XP YP l.row.toRowW d [] (fun f vs=>PySem.call f vs):=by
 intro w s0 s1 mg mb G Y fa o pm cd doc dV kV ho hd om hD hmg hg args Yb as T6 amE hrd hwl Iy;have e1:=Dflts.none hD hdf;have e2:=Dflts.noKw hD;subst e1 e2;obtain⟨a,vs,ns,ev,ea,amy,aiy,eO⟩:=Att.Vv hn T6 hwl;subst ev ea;have KX:=hY w _ Y;obtain⟨fd,hb,hF⟩:=F w mg fa _ KX G.T.g hmg;refine enter_call (codeAny_mono (Y7 KX G.T.g G.T.b G.T.builtins G.T.nolimit hg amy aiy (bp eO Lz) hr hF hb (fun H _ hS=>xW w H a ns eO (ZV amE) hS) fun H e s'=>hCX w H s1 e s') fun r s' hq =>?_);obtain⟨er,h2,h3,h4⟩:=hq;subst er;exact⟨.inl ⟨.bool true,.bool true, [],O,fun _=>rfl,.bool true,Att.VO l _,fun _=>⟨vK,fun _ hm=>(nomatch hm)⟩⟩,h2,h3,h4⟩
end L2
namespace L2
open PySem PySem.Spec PyProof.Rows
variable{K:ai}
structure aae(P:Program)(w:World)(K:ai)(mg:Str->Option Value)(base:Heap)(k:Nat)(f:Addr)(ps:List Str)(sp:Sp):Prop where
 ex:∃ fd,kC P w K mg base FY k f fd ps sp∧bH K (.ref f)=true∧Binds K fd ps []
theorem c7.val{P:Program}{w:World}{mg:Str->Option Value}{base:Heap}{k:Nat}{x:Str}{ps:List Str}{sp:Sp}(h:c7 P w K mg base k x ps sp):∃ f,mg x=some (.ref f)∧aae P w K mg base k f ps sp:=by
 obtain⟨f,fd,F,hm,hk,hb⟩:=h.ex;exact⟨f,hm,fd,F,hk,hb⟩
section
variable {X:Cx}{k:Nat}{y:Str}{p pos:Pos}{e:Expr}{es:List Expr}{tv:TE}{t:TA}
inductive P1(P:Program)(w:World)(K:ai)(mg:Str->Option Value)(base:Heap)(k:Nat)(t:TA)(σ : St)(Q:VK)(x:V)(H1:Hp):Prop
 | mk:∀ f ps sp,(x = .ref f)->(aae P w K mg base k f ps sp)->(Ag sp [] E0 t σ H1 Q)->P1 P w K mg base k t σ Q x H1
def ad4(P:Program)(w:World)(K:ai)(mg:Str->Option Value)(base:Heap)(k:Nat)(tv:TE)(t:TA):TE:=fun σ H Q=>tv σ H fun x H1=>P1 P w K mg base k t σ Q x H1
theorem YG(hv:PE X (.Name y p) tv)(hr:eQ k X.A)(ha:PA X (e :: es) t)(he:starEach (e :: es) X.env=(false,eval e X.env) :: starEach es X.env:=by rfl)(j7:(backTo pos (starEach es X.env)).any (·.1)=false:=by rfl) :
  PE X (.Call (.Name y p) (e :: es) [] pos) (ad4 X.prog X.w X.K X.mg X.base k tv t):=by
 intro ag s σ H Q I h;refine wpAny_Call_Name_kw (cm (hv ag s σ H _ I h) fun u s1 ⟨x,H1,I1,rx,q1⟩ =>?_);obtain⟨f,ps,sp,rfl,hf,q1⟩:=q1;obtain⟨fd,F,hk,hb⟩:=hf.ex;cases rx;refine ll (h₀ := X.base) I1.ok.mod.Lq hk (cm (ha pos ag s1 σ H1 _ I1 q1) fun us s2 ⟨vs,H2,I2,r,q⟩=>⟨I2.sv,?_⟩) he j7;exact Cq F hr hb .nil aaK I2 r q
theorem FI{a:Addr}{xs:List V}{ct:TT}{te:TE}{σ : St}{caps:List (Str × Nat)}{H:Hp}{Q:VK}(f:V->Option V)(hS:bw K H a xs)(hn:xs.length<=1000)(DA:∀ x∈xs,∀ H',a6 H H'->∀ (R:Bool->Hp->Prop),(∀ pG,a6 H' pG->R (f x).isSome pG)->ct (some x :: kq σ caps) H' R)(hev:∀ x v,x∈xs->f x=some v->∀ H',a6 H H'->∀ Q':VK,(∀ pG,a6 H' pG->Q' v pG)->te (some x :: kq σ caps) H' Q')(hq:∀ D H',H D=none->a6 H H'->H' D=some (.lst (xs.filterMap f))->Q (.ref D) H') :
  yA (P2 K a) (b7 0) ct te (bq 1 none ++ kq σ caps) H Q:=by
 intro D hD;refine⟨fun i m τ zs H'=>m=xs.length - i∧i<=xs.length∧(∃ o, τ = o :: kq σ caps)∧zs=(xs.take i).filterMap f∧a6 H H'∧H' D=some (.lst zs),⟨xs.length,by simp,aQ _,⟨none,O⟩,by simp,aD hD _,ak⟩,?_⟩;rintro i m τ zs H' ⟨rfl,hi,⟨o,rfl⟩,rfl,sm,ya⟩;refine⟨ya,?_⟩;by_cases ef:i < xs.length
 ·refine .inr ⟨⟨xs,xs[i],sm.seq hS,by simp[ef]⟩,?_,fun x pG y =>?_⟩
  ·refine dD (bp (oG _ _) ?_);rw[cf];omega
  ·obtain⟨e,y⟩:=y;subst e;have hx:=y xs (sm.seq hS);have er:xs.take (i+1)=xs.take i ++ [x]:=by rw[cW,hx];rfl
   show ct (some x :: kq σ caps) _ _;refine DA x (aN hx) _ sm _ (fun H2 s2 =>?_);cases e:f x with
   | none =>
    refine⟨xs.length - (i+1),by omega,O,ef,⟨_,O⟩,?_,sm.trans s2,s2 _ _ ya⟩;rw[er,jH,cF,e];simp
   | some v =>
    refine hev x v (aN hx) e _ (sm.trans s2) _ (fun H3 s3 =>?_);have hD3:=s3 _ _ (s2 _ _ ya);refine⟨hD3,xs.length - (i+1),by omega,O,ef,⟨_,O⟩,?_,(sm.trans (s2.trans s3)).put hD,ak⟩;rw[er,jH,cF,e];simp
 ·have e:i=xs.length:=by omega
  subst e;rw[du]at ya;exact .inl ⟨⟨xs,sm.seq hS,aw _⟩,hq D H' hD sm ya⟩
theorem wR:∀ {ns:List Int}{us:List Value},Vals (ns.map V.int) us->IntsAre us ns
 | [],us,r=>by cases r;exact .nil
 | n :: ns,us,r=>by
  cases r with
  | cons h t =>
   obtain⟨tk,rfl⟩:=h;exact .cons n tk (wR t)
theorem D5:bootBuiltins "sorted" = some (.builtin "sorted"):=by decide +kernel
inductive zU(kK:ai)(xs:List V)(H:Hp)(Q:VK):Prop
 | mk:∀ (p:Addr) (ns:List Int),(xs = [.ref p])->(bw kK H p (ns.map V.int))->(ns.length < 64)->(∀ (lJ:List Int) (l:Addr),lJ.Perm ns->lJ.Pairwise (· <= ·)->H l=none->Q (.ref l) (aC H l (.lst (lJ.map V.int))))->zU kK xs H Q
theorem DZ:mQ X (.builtin "sorted") (fun xs H Q=>zU X.K xs H Q):=by
 intro ag s σ H xs us Q I r h;obtain⟨p,ns,rfl,hS,h64,q⟩:=h;obtain⟨u,rfl,rx⟩:=vals1 r;cases rx;obtain⟨its,r',pl,hz⟩:=I.list hS;have eO:=r'.length;rw[ay]at eO;refine sorted_ints pl.isList (wR r') (by omega) fun out lJ a1 a2 a3 =>?_;obtain⟨e,he⟩:=sortedAll_at s.heap its out;have hfr:H (s.heap.objs.size+1)=none:=I.bO.fresh (nu _);have Fw:lJ.length=ns.length:=a2.length_eq;refine⟨.ref (s.heap.objs.size+1),_,I.laid (t':=s.toks) (fun b o e'=>sortedAll_old e') (nu _) (show eV X.prog X.w _ (sortedAll s.heap its out) _ (.lst (lJ.map V.int)) from ⟨?_,out.toList,e,xI a1,by rw[he]⟩),O,q lJ _ a2 a3 hfr⟩;rw[ay,Fw];rw[ay]at hz;exact hz
end
section
variable {prog:Program}{w:World}{A:Around}{R:Result->Shared->Prop}{I:Addr}{fp wr:List Addr}{n:Nat}{P:Nat->Value->Prop}{St:Nat->Heap->Prop}{kw:List (Str × Value)}{G:Heap->Prop}
end
section
variable {X:Cx}{e:Expr}{te:TE}{p pos kp cp:Pos}{j:Nat}
end
section
variable {prog:Program}{w:World}{A:Around}{R:Result->Shared->Prop}{I:Addr}{fp wr:List Addr}{n:Nat}{P:Nat->Value->Prop}{St:Nat->Heap->Prop}{kw:List (Str × Value)}{G:Heap->Prop}
end
section
variable {X:Cx}{e:Expr}{te:TE}{p pos kp cp:Pos}{j:Nat}{d:Int}
end
end L2
namespace HT
open PySem PySem.Spec PyProof.Rows
section
variable {prog:Program}{w:World}{A:Around}{E:Value->Shared->Prop}{s:Shared}
end
end HT
namespace L2
open PySem PySem.Spec PyProof.Rows
section
variable {X:Cx}
theorem adw:∀ k,k < 26->pH ("abcdefghijklmnopqrstuvwxyz" : Str) ⟨#[97+k]⟩ 0 ("abcdefghijklmnopqrstuvwxyz" : Str).length 1 = [k]:=by decide +kernel
end
end L2
namespace Sw
open PySem L2
variable{H H' H1:Hp}{v:V}{us:List V}{L:Addr}{o:HO}{ls:List Nat}
abbrev Tm:=TM Str
abbrev nV(n:Nat):V:=V.int (n:Int)
abbrev aa(a:Addr):Option V:=some (.ref a)
abbrev ba(a:Nat):Option V:=some (nV a)
def ix(H:Hp):Tm->V->Prop
 | .num n,v=>∃ a,v = .ref a∧H a=some (.tup [.str "num",.int n])
 | .name x,v=>∃ a,v = .ref a∧H a=some (.tup [.str "name",.str x])
 | .of x as,v=>∃ a b,v = .ref a∧H a=some (.tup [.str "of",.str x,.ref b])∧H b=some (.tup (as.map nV))
theorem ix.keep(ht:∀ b ys,H b=some (.tup ys)->H' b=some (.tup ys)):∀ {t:Tm}{v:V},ix H t v->ix H' t v
 | .num n,v,h=>by obtain⟨a,e,h⟩:=h;exact⟨a,e,ht _ _ h⟩
 | .name x,v,h=>by obtain⟨a,e,h⟩:=h;exact⟨a,e,ht _ _ h⟩
 | .of x as,v,h=>by obtain⟨a,b,e,h,h2⟩:=h;exact⟨a,b,e,ht _ _ h,ht _ _ h2⟩
theorem ix.same{t:Tm}(sm:a6 H H')(h:ix H t v):ix H' t v:=h.keep fun b ys=>sm _ _
abbrev kO(H:Hp):List V->List Tm->Prop:=Paired fun v t=>ix H t v
theorem iK{ts:List Tm}(ht:∀ b ys,H b=some (.tup ys)->H' b=some (.tup ys))(h:kO H us ts):kO H' us ts:=Paired.g9 h fun _ _ z=>z.keep ht
theorem eN{ts:List Tm}(sm:a6 H H')(h:kO H us ts):kO H' us ts:=iK (fun b ys=>sm _ _) h
theorem rg{H:Hp}:∀ {us:List V}{ts:List Tm}{i:Nat}{v:V},kO H us ts->us[i]? = some v->∃ t,ts[i]? = some t∧ix H t v
 | _,_,_,_,.nil,e=>by simp at e
 | _,_,0,_,.cons h _,e=>by simp at e;subst e;exact⟨_,O,h⟩
 | _,_,i+1,v,.cons _ r,e=>by
  obtain⟨t,e',h⟩:=rg (i:=i) (v:=v) r (by simpa using e);exact⟨t,by simpa using e',h⟩
def dJ:Tm->NK
 | .num n => [.inl (.inr "num"),.inl (.inl n)]
 | .name x => [.inl (.inr "name"),.inl (.inr x)]
 | .of x as => [.inl (.inr "of"),.inl (.inr x),.inr (as.map fun n:Nat=>(.inl (n:Int):Key))]
theorem qj:∀ {t u:Tm},dJ t=dJ u->t=u
 | .num n,.num m,e=>by unfold dJ at e;simp at e;rw[e]
 | .name x,.name y,e=>by unfold dJ at e;simp at e;rw[e]
 | .of x as,.of y bs,e=>by
  unfold dJ at e;simp only[lz,BM,BL,and_true,true_and]at e;rw[e.1];have:=rG (f:=fun n:Nat=>(.inl (n:Int):Key)) (fun a b h=>by have h:=y8 h;omega) e.2;rw[this]
 | .num n,.name y,e=>by
  unfold dJ at e;simp only[lz,BM,BL]at e;exact absurd e.1 (by decide)
 | .name n,.num y,e=>by
  unfold dJ at e;simp only[lz,BM,BL]at e;exact absurd e.1 (by decide)
 | .num n,.of y bs,e=>by unfold dJ at e;simp at e
 | .name n,.of y bs,e=>by unfold dJ at e;simp at e
 | .of y bs,.num n,e=>by unfold dJ at e;simp at e
 | .of y bs,.name n,e=>by unfold dJ at e;simp at e
theorem aik(as:List Nat):as.map nV=(as.map fun n:Nat=>(.inl (n:Int):Key)).map kV:=by
 rw[hU];rfl
theorem ix.key:∀ {t:Tm}{v:V},ix H t v->∃ b,v = .ref b∧nF H (dJ t) b
 | .num n,v,h=>by
  obtain⟨a,e,h⟩:=h;refine⟨a,e,_,h,?_⟩;exact⟨_,O,_,O,O⟩
 | .name x,v,h=>by
  obtain⟨a,e,h⟩:=h;refine⟨a,e,_,h,?_⟩;exact⟨_,O,_,O,O⟩
 | .of x as,v,h=>by
  obtain⟨a,b,e,h,h2⟩:=h;refine⟨a,e,_,h,?_⟩;rw[aik]at h2;exact⟨_,O,_,O,b,_,O,h2,O⟩
def kX:Tm->D
 | .num n => .tup [.str "num",.int n]
 | .name x => .tup [.str "name",.str x]
 | .of x as => .tup [.str "of",.str x,.tup (as.map fun n:Nat => .int (n:Int))]
theorem EG:∀ {t u:Tm},kX t=kX u->t=u
 | .num n,.num m,e=>by unfold kX at e;simp at e;rw[e]
 | .name x,.name y,e=>by unfold kX at e;simp at e;rw[e]
 | .of x as,.of y bs,e=>by
  unfold kX at e;simp only[D.tup.injEq,lz,D.str.injEq,and_true,true_and]at e;rw[e.1];have:=rG (f:=fun n:Nat=>D.int (n:Int)) (fun a b h=>by have h:=D.int.inj h;omega) e.2;rw[this]
 | .num n,.name y,e=>by
  unfold kX at e;simp only[D.tup.injEq,lz,D.str.injEq]at e;exact absurd e.1 (by decide)
 | .name n,.num y,e=>by
  unfold kX at e;simp only[D.tup.injEq,lz,D.str.injEq]at e;exact absurd e.1 (by decide)
 | .num n,.of y bs,e=>by unfold kX at e;simp at e
 | .name n,.of y bs,e=>by unfold kX at e;simp at e
 | .of y bs,.num n,e=>by unfold kX at e;simp at e
 | .of y bs,.name n,e=>by unfold kX at e;simp at e
def eZ(L:Addr)(H H':Hp):Prop := ∀ c o,c≠L->H c=some o->H' c=some o
theorem eZ.refl(L:Addr)(H:Hp):eZ L H H:=fun _ _ _ h=>h
theorem eZ.same{H2:Hp}(a:eZ L H H1)(b:a6 H1 H2):eZ L H H2:=fun c o n h=>b c o (a c o n h)
theorem eZ.put(a:eZ L H H1):eZ L H (aC H1 L o):=fun c u n h=>by rw[av n];exact a c u n h
theorem eZ.new{p:Addr}(a:eZ L H H1)(hp:H p=none):eZ L H (aC H1 p o):=fun c u n h=>by rw[av (fe h hp)];exact a c u n h
theorem eZ.tup{ls:List V}(a:eZ L H H1)(hL:H L=some (.lst ls)):∀ b ys,H b=some (.tup ys)->H1 b=some (.tup ys):=fun b ys h=>a b _ (b9 h hL nofun) h
def Ep(H:Hp)(v:V)(e:Nat × Nat):Prop := ∃ a rest,v = .ref a∧H a=some (.tup (nV e.1 :: nV e.2 :: rest))
theorem Ep.keep{e:Nat × Nat}(ht:∀ b ys,H b=some (.tup ys)->H' b=some (.tup ys))(h:Ep H v e):Ep H' v e:=by
 obtain⟨a,r,z,h⟩:=h;exact⟨a,r,z,ht _ _ h⟩
abbrev Bl(H:Hp):List V->List (Nat × Nat)->Prop:=Paired (Ep H)
theorem rR{es:List (Nat × Nat)}(ht:∀ b ys,H b=some (.tup ys)->H' b=some (.tup ys))(h:Bl H us es):Bl H' us es:=Paired.g9 h fun _ _ z=>z.keep ht
theorem Pf{H:Hp}:∀ {us:List V}{ts:List (Nat × Nat)}{i:Nat}{v:V},Bl H us ts->us[i]? = some v->∃ t,ts[i]? = some t∧Ep H v t
 | _,_,_,_,.nil,e=>by simp at e
 | _,_,0,_,.cons h _,e=>by simp at e;subst e;exact⟨_,O,h⟩
 | _,_,i+1,v,.cons _ r,e=>by
  obtain⟨t,e',h⟩:=Pf (i:=i) (v:=v) r (by simpa using e);exact⟨t,by simpa using e',h⟩
theorem kj{t rest:TS}{D:Ends}{σ : St}(R:St->Hp->Prop)(key:∀ bJ H',R bJ H'->rest D bJ H')(h:∀ {N:St->Hp->Prop},(∀ bJ H',R bJ H'->N bJ H')->t { D with nx:=N } σ H):adX t rest D σ H:=h key
theorem gG{k v:Nat}(h:ls[k]? = some v):vF (ls.map nV) (k:Int)=some (nV v):=aB (by rw[aJ,h];rfl)
theorem Wb{k v:Nat}:(ls.map nV).set k (nV v)=(ls.set k v).map nV:=by rw[List.map_set]
def vI:V->Int
 | .int c=>c
 | _=>0
def abc:Str := "abcdefghijklmnopqrstuvwxyz"
def JZ(i:Int):Str:=⟨#[abc.cps.toList.getD (i % 26).toNat 97]⟩
theorem adx(i:Int):vF abc.cps.toList (i % 26)=some (abc.cps.toList.getD (i % 26).toNat 97):=by
 have h0:0<=i % 26:=nU _ (by decide);have h1:i % 26 < 26:=lA _ (by decide);have hl:abc.cps.toList.length=26:=by decide +kernel
 have hi:(i % 26).toNat < abc.cps.toList.length:=by omega
 have z:vF abc.cps.toList (((i % 26).toNat:Nat):Int)=some abc.cps.toList[(i % 26).toNat]:=aB (ah hi);have e:(((i % 26).toNat:Nat):Int)=i % 26:=by omega
 rw[e]at z;rw[z,aU,ah hi];rfl
def PB(ts:List Tm):Prop:=EF ts∧(∀ (i:Nat) x as,ts[i]? = some (.of x as)->as.length<=4∧1<=as.length)∧ts.Nodup
theorem pW{α β : Type}{R : α -> β -> Prop}:∀ (n:Nat) {xs:List α}{ys:List β},Paired R xs ys->Paired R (xs.take n) (ys.take n)
 | 0,_,_,_ => .nil
 | _+1,_,_,.nil => .nil
 | n+1,_,_,.cons h r => .cons h (pW n r)
theorem ju{α β : Type}{R : α -> β -> Prop}:∀ {xs QS:List α} {ys ys':List β},Paired R xs ys->Paired R QS ys'->Paired R (xs ++ QS) (ys ++ ys')
 | _,_,_,_,.nil,h=>h
 | _,_,_,_,.cons h r,q => .cons h (ju r q)
theorem getD_at{k:Nat}(h:k < ls.length):ls[k]? = some (ls.getD k 0):=by rw[aU,ah h];rfl
abbrev DK:=List (Key × V)
def lk(l:Nat):Key:=je (l:Int)
theorem aeN{a b:Nat}(h:lk a=lk b):a=b:=by have h:=y8 h;omega
def abQ:Tm->List Nat
 | .of _ as=>as
 | _ => []
theorem M8{α : Type}{f g : α -> Int}:∀ {l:List α},(∀ a∈l,f a<=g a)->(l.map f).sum<=(l.map g).sum
 | [],_=>hZ _
 | a :: l,h=>by
  rw[aS,aS,ij,ij];have h1:=h a bM;have h2:=M8 (l:=l) fun b hb=>h b (aX _ hb);omega
theorem U7{α : Type}{f g : α -> Int}:∀ {l:List α},(∀ a∈l,f a<=g a)->(∃ a∈l,f a < g a)->(l.map f).sum < (l.map g).sum
 | [],_,h=>by obtain⟨a,ha,_⟩:=h;cases ha
 | a :: l,h,q=>by
  rw[aS,aS,ij,ij];have h1:=h a bM;have h2:=M8 (l:=l) fun b hb=>h b (aX _ hb);obtain⟨b,hb,ef⟩:=q;rcases bC.mp hb with rfl | hb
  ·omega
  ·have:=U7 (l:=l) (fun b hb=>h b (aX _ hb)) ⟨b,hb,ef⟩;omega
theorem U6{α : Type}{f : α -> Int}:∀ {l:List α},(∀ a∈l,0<=f a)->0<=(l.map f).sum
 | [],_=>hZ _
 | a :: l,h=>by
  rw[aS,ij];have h1:=h a bM;have h2:=U6 (l:=l) fun b hb=>h b (aX _ hb);omega
end Sw
namespace L2
open PySem PySem.Spec PyProof.Rows
structure ahS(K:ai)(C f:Addr)(m:Str):Prop where
 ga:Fe K (.ref C) "__getattribute__" = some (some (.builtin "type.__getattribute__"))
 rd:Jg K C (.type "type")=true
 at_:Jh K (.ref C) (.type "type") m=some (.val (.ref f))
structure UC(P:Program)(w:World)(K:ai)(mg:Str->Option Value)(base:Heap)(k:Nat)(x m:Str)(ps:List Str)(sp:Sp):Prop where
 ex:∃ f fd C,kC P w K mg base (mz P w) k f fd ps sp∧mg x=some (.ref C)∧ahS K C f m∧bH K (.ref f)=true∧Binds K fd ps []
structure UE(K:ai)(mg:Str->Option Value)(x m cD:Str)(st:Stmt)(ps:List Str):Prop where
 ex:∃ f fd C,BP K m cD st f fd∧mg x=some (.ref C)∧ahS K C f m∧Binds K fd ps []
section
variable {P:Program}{w:World}{K:ai}{mg:Str->Option Value}{base:Heap}{x m cD:Str}{st:Stmt}{N ps:List Str}{k:Nat}{sp:Sp}
theorem UE.has(D:UE K mg x m cD st ps)(S:bu N ps (aF st))(len:∀ vs H Q E,sp vs H Q E->vs.length=ps.length)(jX:∀ (f:Addr) (bU:Value) (A:Around) (outer:List Env) (s:Shared) (H:Hp) (vs:List V) (Q:VK) (E:XK),eQ k (A.deeper (envOfC cD (aF st) s.heap.objs.size f bU))->sp vs H Q E ->
   ∃ t,oC (cG (mz P w) P w K mg base N cD (aF st) f bU A outer s H E) (d6 st) t∧t { nx:=fun _ H'=>Q .cj H',rt:=Q } (start N vs) H):UC P w K mg base (k+1) x m ps sp:=by
 obtain⟨f,fd,C,F,hm,hc,hb⟩:=D.ex;exact⟨f,fd,C,F.okE S len (jX f),hm,hc,F.kp,hb⟩
end
section
variable {X:Cx} {k k':Nat}{x m:Str}{ps:List Str}{sp:Sp}{p pos eP:Pos}{e:Expr}{es:List Expr}{t:TA}{E:XK}
theorem YH{pl:Sem Bool}(h:UC X.prog X.w X.K X.mg X.base k x m ps sp)(hr:eQ k' X.A)(hk:k<=k')(hx:Passes (mz X.prog X.w) X E)(hg:Gl X x)(ha:PA X (e :: es) t)(rK:(x == ("__debug__" : Str))=false:=by decide)(nN:starEach (e :: es) X.env=(false,eval e X.env) :: starEach es X.env:=by rfl)(j7:(backTo pos (starEach es X.env)).any (·.1)=false:=by rfl)(ht:eval (.Call (.Attribute (.Name x p) m eP) (e :: es) [] pos) X.env=(do
   let ov <- eval (.Name x p) X.env
   standAt eP.atName
   let (f,first) <- holding [ov] (getMethod ov m pl)
   callWith pos f first (backTo pos (starEach (e :: es) X.env)) (backToKw pos (keywordEach [] X.env))):=by rfl) :
  PE X (.Call (.Attribute (.Name x p) m eP) (e :: es) [] pos) (Ag sp [] E t):=by
 obtain⟨f,fd,C,F,hm,hc,Dx,hb⟩:=h.ex;intro ag s σ H Q I h;refine qX (pl:=pl) (zy I hg hm ?_ rK) ht;refine PySem.W.method_cls I.sv hc.ga (PySem.W.cls_value I.sv hc.rd hc.at_ rfl ?_);have I':=I.tok (s.toks+1);refine ll (first := []) (h₀ := X.base) I.ok.mod.Lq Dx (cm (ha pos ag _ σ H _ I' h) fun us s2 ⟨vs,H2,I2,r,q2⟩=>⟨I2.sv,?_⟩) nN j7;exact Cq F (hr.mono hk) hb .nil hx I2 r q2
end
theorem ZY(a b:Nat):fW (a:Int) (b:Int)=((a &&& b:Nat):Int):=by
 unfold fW;rw[decide_eq_true (by omega:(0:Int)<=a),decide_eq_true (by omega:(0:Int)<=b)];show ((((a:Int).toNat &&& (b:Int).toNat:Nat)):Int)=_;rw[bP,bP]
theorem R5(a b:Nat):qh (a:Int) (b:Int)=((a ||| b:Nat):Int):=by
 have e:∀ n:Nat,d9 (d9 (n:Int))=(n:Int):=fun n=>by unfold d9;omega
 unfold qh fW;rw[decide_eq_false (by unfold d9;omega:¬ (0:Int)<=d9 a),decide_eq_false (by unfold d9;omega:¬ (0:Int)<=d9 b)];dsimp only;rw[e,e,e,bP,bP]
theorem ZX(a b:Nat):fW (a:Int) (d9 (b:Int))=(((a - (a &&& b):Nat)):Int):=by
 have e:∀ n:Nat,d9 (d9 (n:Int))=(n:Int):=fun n=>by unfold d9;omega
 unfold fW;rw[decide_eq_true (by omega:(0:Int)<=a),decide_eq_false (by unfold d9;omega:¬ (0:Int)<=d9 b)];dsimp only;rw[e,bP,bP];have:=Nat.and_le_left (n:=a) (m:=b);omega
end L2
namespace Sw
open PySem L2
variable{t:Tm}{ts:List Tm}{w:Str}{n l:Nat}{hs:List Str}{ls:List Nat}{kvs:DK}
def nI:Tm->Option Str
 | .name z=>some z
 | _=>none
theorem AH{z:Str}(h:nI t=some z):t = .name z:=by
 cases t with
 | name y=>cases h;rfl
 | num n=>cases h
 | of x as=>cases h
def df(ts:List Tm):List Str:=ts.filterMap nI
def y4(hs:List Str)(w:Str):Nat:=2 ^ hs.idxOf w
theorem Il:∀ {hs:List Str}{n:Nat}{w:Str},hs.Nodup->hs[n]? = some w->hs.idxOf w=n
 | [],n,w,_,e=>by simp at e
 | x :: hs,0,w,_,e=>by
  rw[List.getElem?_cons_zero]at e;cases e;rw[Jm,beq_self_eq_true];rfl
 | x :: hs,n+1,w,hn,e=>by
  rw[List.getElem?_cons_succ]at e;have hw:=aN e;have hx:=(gg.mp hn).1;have kM:(x == w)=false:=beq_eq_false_iff_ne.mpr fun z=>hx (z ▸ hw);rw[Jm,kM,Il (gg.mp hn).2 e];rfl
theorem vP:∀ {ts:List Tm},ts.Nodup->(df ts).Nodup
 | [],_=>uc
 | t :: ts,h=>by
  obtain⟨h1,h2⟩:=gg.mp h;unfold df;rw[cF];cases e:nI t with
  | none=>exact vP h2
  | some w =>
   refine gg.mpr ⟨fun hm =>?_,vP h2⟩;obtain⟨t',Io,e'⟩:=ly.mp hm;rw[AH e, <- AH e']at h1;exact h1 Io
theorem RF{k:Nat}(h:ts[k]? = some (.name w)):∃ n:Nat,(df ts)[n]? = some w:=by
 have hm:w∈df ts:=ly.mpr ⟨_,aN h,O⟩;exact eG hm
theorem GJ(ts:List Tm):(df ts).length<=ts.length:=oG _ _
theorem aho(hn:ts.Nodup)(h:(df ts)[n]? = some w):y4 (df ts) w=2 ^ n:=by
 unfold y4;rw[Il (vP hn) h]
def lO(hs:List Str)(ts:List Tm)(ls:List Nat)(l:Nat):Nat->Nat
 | 0=>0
 | n+1=>match (ts[n]?).bind nI with
  | some w=>if ls.getD n 0=l then lO hs ts ls l n ||| y4 hs w else lO hs ts ls l n
  | none=>lO hs ts ls l n
theorem S8(h:ts[n]? = some (.name w)):lO hs ts ls l (n+1)=if ls.getD n 0=l then lO hs ts ls l n ||| y4 hs w else lO hs ts ls l n:=by
 rw[lO,h];rfl
theorem S9(h:ts[n]? = some t)(ht:nI t=none):lO hs ts ls l (n+1)=lO hs ts ls l n:=by
 rw[lO,h];show (match nI t with | some w=>_ | none=>_)=_;rw[ht]
def ag5(x b:Nat):Nat:=x - (x &&& b)
def HQ(ks:List Nat)(as:List Nat):Nat:=as.foldl (fun acc a=>acc ||| ks.getD a 0) 0
theorem acO{ks as:List Nat}{i a:Nat}(h:as[i]? = some a):HQ ks (as.take (i+1))=HQ ks (as.take i) ||| ks.getD a 0:=by
 unfold HQ;rw[cW,h,pN];rfl
def Ho(ts:List Tm)(ls ks:List Nat):Tm->Nat
 | .num _=>0
 | .name w=>y4 (df ts) w
 | .of x as=>if x = "bind" ∧ as.length=2 then ag5 (ks.getD (as.getD 1 0) 0) (lO (df ts) ts ls (ls.getD (as.getD 0 0) 0) ts.length) else HQ ks as
theorem X6(ts:List Tm)(ls ks:List Nat)(x:Str)(as:List Nat):Ho ts ls ks (.of x as)=if x = "bind" ∧ as.length=2 then ag5 (ks.getD (as.getD 1 0) 0) (lO (df ts) ts ls (ls.getD (as.getD 0 0) 0) ts.length) else HQ ks as:=rfl
structure uW(hs:List Str)(n:Nat)(kvs:DK):Prop where
 at_:∀ i w,i < n->hs[i]? = some w->cP kvs (fo w)=some (nV (2 ^ i))
 len:kvs.length<=n
 only:∀ z,(∀ i,i < n->hs[i]? ≠ some z)->cP kvs (fo z)=none
theorem ZU(hs:List Str):uW hs 0 []:=⟨fun i w h=>absurd h (gf i),aw _,fun z _=>rfl⟩
theorem Xq(hn:hs.Nodup)(h:uW hs n kvs)(hw:hs[n]? = some w):uW hs (n+1) (gm kvs (fo w) (nV (2 ^ n))):=by
 refine⟨fun i v hi hv =>?_,bp (nc kvs _ _) (xp h.len),fun z hz=>by
  rw[mC,if_neg (fun e=>hz n (mM n) (by rw[hw,y6 e]))];exact h.only z fun i hi=>hz i (jR hi)⟩
 rw[mC];by_cases e:v=w
 ·subst e;have a:=Il hn hv;have b:=Il hn hw;rw[if_pos rfl, <- a, <- b]
 ·rw[if_neg (fun z=>e (y6 z))];refine h.at_ i v ?_ hv;rcases Nat.lt_or_ge i n with z | z
  ·exact z
  ·have:i=n:=by omega
   subst this;rw[hw]at hv;exact absurd (aP hv).symm e
theorem R6(hn:ts.Nodup)(h:uW (df ts) (df ts).length kvs)(hw:(df ts)[n]? = some w):cP kvs (fo w)=some (nV (y4 (df ts) w)):=by
 rw[aho hn hw];exact h.at_ n w (aj.mp hw).1 hw
structure qW(hs:List Str)(ts:List Tm)(ls:List Nat)(n:Nat)(kvs:DK):Prop where
 at_:∀ l,(cP kvs (lk l)).getD (.int 0)=nV (lO hs ts ls l n)
 len:kvs.length<=n
theorem Vc(hs:List Str)(ts:List Tm)(ls:List Nat):qW hs ts ls 0 []:=⟨fun l=>rfl,aw _⟩
theorem Vb(h:qW hs ts ls n kvs)(hw:ts[n]? = some (.name w)) :
  qW hs ts ls (n+1) (gm kvs (lk (ls.getD n 0)) (nV (lO hs ts ls (ls.getD n 0) n ||| y4 hs w))):=by
 refine⟨fun l =>?_,bp (nc kvs _ _) (xp h.len)⟩;rw[mC,S8 hw];by_cases e:ls.getD n 0=l
 ·rw[if_pos e,if_pos (by rw[e]),e];rfl
 ·rw[if_neg e,if_neg (fun z=>e (aeN z).symm)];exact h.at_ l
theorem SY(h:qW hs ts ls n kvs)(hw:ts[n]? = some t)(ht:nI t=none):qW hs ts ls (n+1) kvs :=
 ⟨fun l=>by rw[S9 hw ht];exact h.at_ l,vH h.len⟩
def gy(ls:List Nat)(k:Nat):List Nat:=(aI ls.length).filter fun i=>decide (ls.getD i 0=ls.getD k 0)
def AF:Tm->Option Int
 | .num n=>some n
 | _=>none
def l9(ts:List Tm)(j:Nat):Option Int:=(ts[j]?).bind AF
def AE(ts:List Tm)(ls:List Nat)(k:Nat):List Int:=(gy ls k).filterMap (l9 ts)
end Sw
namespace L2
open PySem PySem.Spec PyProof.Rows
section
variable {X:Cx}
end
end L2
namespace Sw
open PySem L2
variable{ls ks:List Nat}{f j b:Nat}
theorem LO{α : Type}{p q : α -> Bool}:∀ {l:List α},(∀ a∈l,p a=true->q a=true)->(∃ a∈l,q a=true∧p a=false)->l.countP p < l.countP q
 | [],_,h=>by obtain⟨a,h,_⟩:=h;cases h
 | x :: l,h,⟨a,ha,hq,hp⟩=>by
  have le:l.countP p<=l.countP q:=List.countP_mono_left fun b hb=>h b (aX _ hb);rw[Hb,Hb];rcases bC.mp ha with rfl | ha
  ·rw[hq,hp,if_pos rfl,if_neg (by decide)];omega
  ·have ih:=LO (l:=l) (fun b hb=>h b (aX _ hb)) ⟨a,ha,hq,hp⟩;have hx:=h x (bM ..);cases e:p x with
   | true=>rw[hx e,if_pos rfl];omega
   | false=>rw[if_neg (by decide)];split <;> omega
def pc(x:Nat):Nat:=(aI 24).countP fun i=>x.testBit i
theorem aii(x:Nat):pc x<=24:=by
 have:=List.countP_le_length (p:=fun i=>x.testBit i) (l:=aI 24);rw[bA]at this;exact this
theorem VS{x w:Nat}(hx:x < 2 ^ 24)(h:(x &&& w)≠x):pc (x &&& w) < pc x:=by
 refine LO (fun i _ e =>?_) ?_
 ·rw[lu,dU]at e;exact e.1
 ·refine vW fun hn=>h (Bh fun i =>?_);rw[lu];cases ex:x.testBit i with
  | false=>rfl
  | true =>
   cases ew:w.testBit i with
   | true=>rfl
   | false =>
    refine absurd ⟨i,dH.mpr ?_,ex,by rw[lu,ex,ew];rfl⟩ hn;rcases Nat.lt_or_ge i 24 with z | z
    ·exact z
    ·have:x < 2 ^ i:=cu hx (iT (by decide) z);rw[Nat.testBit_lt_two_pow this]at ex;cases ex
def Cf(ls:List Nat)(k f:Nat)(ks:List Nat):List Nat:=(aI ks.length).map fun j=>if ls.getD j 0=ls.getD k 0 then f else ks.getD j 0
theorem Aj(ls:List Nat)(k f:Nat)(ks:List Nat):(Cf ls k f ks).length=ks.length:=by unfold Cf;rw[ay,bA]
theorem zo{k:Nat}(h:j < ks.length):(Cf ls k f ks).getD j 0=if ls.getD j 0=ls.getD k 0 then f else ks.getD j 0:=by
 unfold Cf;rw[aU,aJ,dO h];rfl
def UD(ls ks:List Nat):Prop := ∀ i j,i < ks.length->j < ks.length->ls.getD i 0=ls.getD j 0->ks.getD i 0=ks.getD j 0
theorem ZG{k:Nat}(h:UD ls ks):UD ls (Cf ls k f ks):=fun i j hi hj e=>by
 rw[Aj]at hi hj;rw[zo hi,zo hj,e];split
 ·rfl
 ·exact h i j hi hj e
def mu(ks:List Nat):Int:=((aI ks.length).map fun j=>((pc (ks.getD j 0):Nat):Int)).sum
theorem aeK{k:Nat}(he:UD ls ks)(hk:k < ks.length)(hf:pc f < pc (ks.getD k 0)):mu (Cf ls k f ks) < mu ks:=by
 unfold mu;rw[Aj];refine U7 (fun j hj =>?_) ⟨k,dH.mpr hk,?_⟩
 ·have hj:=dH.mp hj;rw[zo hj];by_cases e:ls.getD j 0=ls.getD k 0
  ·rw[if_pos e,he j k hj hk e];omega
  ·rw[if_neg e];exact hZ _
 ·rw[zo hk,if_pos rfl];omega
theorem ail(ks:List Nat):mu ks<=24 * (ks.length:Int):=by
 unfold mu;have:=M8 (l:=aI ks.length) (f:=fun j=>((pc (ks.getD j 0):Nat):Int)) (g:=fun _=>24) (fun j _=>by have:=aii (ks.getD j 0);omega);refine iV this ?_;have e:∀ n:Nat,((aI n).map fun _=>(24:Int)).sum=24 * (n:Int):=fun n=>by
  induction n with
  | zero=>rfl
  | succ n ih=>rw[eM,cR,sd,ih];show 24 * (n:Int)+(24+0)=_;omega
 rw[e];exact hZ _
theorem TL(ks:List Nat):0<=mu ks:=U6 fun j _=>by omega
def r9(a b:Nat):Prop := ∀ i,a.testBit i=true->b.testBit i=true
theorem YT{a:Nat}:r9 a b↔a &&& b=a:=by
 constructor
 ·intro h;refine Bh fun i =>?_;rw[lu];cases e:a.testBit i with
  | false=>rfl
  | true=>rw[h i e];rfl
 ·intro h i e;rw[<- h,lu,dU]at e;exact e.2
theorem r9.refl(a:Nat):r9 a a:=fun _ h=>h
theorem r9.trans{a c:Nat}(h:r9 a b)(h':r9 b c):r9 a c:=fun i e=>h' i (h i e)
theorem V5(a b:Nat):r9 (a &&& b) a:=fun i e=>by rw[lu,dU]at e;exact e.1
theorem Li(a:Nat):r9 0 a:=fun i e=>by rw[Nat.zero_testBit]at e;cases e
theorem Rm{a:Nat}(h:r9 a b):a<=b:=by rw[<- YT.mp h];exact Nat.and_le_right
def nC(ms:List Nat)(f:Nat)(ks:List Nat):List Nat:=(aI ks.length).map fun j=>if j∈ms then f else ks.getD j 0
theorem Ai(ms:List Nat)(f:Nat)(ks:List Nat):(nC ms f ks).length=ks.length:=by unfold nC;rw[ay,bA]
theorem Yn(f:Nat)(ks:List Nat):nC [] f ks=ks:=by
 refine eY fun j =>?_;unfold nC;by_cases h:j < ks.length
 ·rw[aJ,dO h,ah h];show some (if j∈([]:List Nat) then f else ks.getD j 0)=_;rw[if_neg (by simp),aU,ah h];rfl
 ·rw[cJ (by rw[ay,bA];omega),cJ (by omega)]
theorem Ym{ms:List Nat}{m:Nat}(hm:m < ks.length):(nC ms f ks).set m f=nC (ms ++ [m]) f ks:=by
 refine eY fun j =>?_;rw[Fj];by_cases h:j < ks.length
 ·have e2:(nC (ms ++ [m]) f ks)[j]? = some (if j∈ms ++ [m] then f else ks.getD j 0):=by unfold nC;rw[aJ,dO h];rfl
  have e1:(nC ms f ks)[j]? = some (if j∈ms then f else ks.getD j 0):=by unfold nC;rw[aJ,dO h];rfl
  rw[e2];by_cases e:m=j
  ·subst e;rw[if_pos rfl,if_pos (by rw[Ai];exact h),if_pos (bI _ (a8.mpr rfl))]
  ·rw[if_neg e,e1];congr 1;by_cases hj:j∈ms
   ·rw[if_pos hj,if_pos (fg _ hj)]
   ·rw[if_neg hj,if_neg (fun z=>by rcases cI.mp z with z | z;exact hj z;exact e (a8.mp z).symm)]
 ·have n1:(nC (ms ++ [m]) f ks)[j]? = none:=cJ (by rw[Ai];omega);have n2:(nC ms f ks)[j]? = none:=cJ (by rw[Ai];omega);rw[n1,if_neg (by omega),n2]
theorem AJ{k:Nat}:j∈gy ls k↔j < ls.length∧ls.getD j 0=ls.getD k 0:=by
 unfold gy;rw[jF,dH,decide_eq_true_iff]
theorem Te{k:Nat}(hl:ls.length=ks.length):nC (gy ls k) f ks=Cf ls k f ks:=by
 unfold nC Cf;refine gW fun j hj =>?_;have hj:=dH.mp hj;by_cases e:ls.getD j 0=ls.getD k 0
 ·rw[if_pos e,if_pos (AJ.mpr ⟨by omega,e⟩)]
 ·rw[if_neg e,if_neg fun z=>e (AJ.mp z).2]
theorem NJ{n tp i:Nat}:(bq n tp).getD i 0=if i < n then tp else 0:=by
 rw[aU,pE];split <;> rfl
end Sw
namespace L2
open PySem PySem.Spec PyProof.Rows
section
variable {X:Cx}
end
end L2
namespace Sw
open PySem L2
end Sw
namespace L2
open PySem PySem.Spec PyProof.Rows
variable{P:Program}{w:World}{K:ai}{mg:Str->Option Value}{base:Heap}{m:Str}{C:Addr}{st:Stmt}{N ps:List Str}{sp:Sp}{dC:List V}
structure MM(K:ai)(C:Addr)(m cD:Str)(st:Stmt)(ps:List Str)(dC:List V):Prop where
 ex:∃ f fd ds,ahQ K m cD st f fd∧Meth K C m f∧Binds K fd ps ds∧Vals dC ds∧Binds K fd ps []
structure yu(P:Program)(w:World)(K:ai)(mg:Str->Option Value)(base:Heap)(k:Nat)(C:Addr)(m:Str)(ps:List Str)(dC:List V)(sp:Sp):Prop where
 ex:∃ f fd ds,kC P w K mg base (mz P w) k f fd ps sp∧Meth K C m f∧Binds K fd ps ds∧Vals dC ds∧Binds K fd ps []
theorem MM.has{cD:Str}{k:Nat}(D:MM K C m cD st ps dC)(S:bu N ps (aF st))(len:∀ vs H Q E,sp vs H Q E->vs.length=ps.length)(jX:∀ (f:Addr) (bU:Value) (A:Around) (outer:List Env) (s:Shared) (H:Hp) (vs:List V) (Q:VK) (E:XK),eQ k (A.deeper (envOfC cD (aF st) s.heap.objs.size f bU))->sp vs H Q E ->
   ∃ t,oC (cG (mz P w) P w K mg base N cD (aF st) f bU A outer s H E) (d6 st) t∧t { nx:=fun _ H'=>Q .cj H',rt:=Q } (start N vs) H):yu P w K mg base (k+1) C m ps dC sp:=by
 obtain⟨f,fd,ds,F,hm,hb,hv,j8⟩:=D.ex;obtain⟨oc,od,dV,kV,doc,pm,an,bU,ct,zu,rfl,lk,om⟩:=F.ex;exact⟨f,_,ds,MG lk om S len fun A outer s H vs Q E hr xW=>jX f bU A outer s H vs Q E hr xW,hm,hb,hv,j8⟩
theorem yu.d{k:Nat}(h:yu P w K mg base k C m ps dC sp):ab9 P w K mg base k C m ps dC sp :=
 let ⟨f,fd,ds,F,hm,hb,hv,_⟩:=h.ex; ⟨f,fd,ds,F,hm,hb,hv⟩
theorem yu.a{k:Nat}(h:yu P w K mg base k C m ps dC sp):ic P w K mg base k C m ps sp :=
 let ⟨f,fd,_,F,hm,_,_,hb⟩:=h.ex; ⟨f,fd,F,hm,hb⟩
structure Er(K:ai)(mg:Str->Option Value)(x:Str)(st:Stmt)(ps:List Str)(dC:List V):Prop where
 ex:∃ f fd ds,ahQ K x x st f fd∧mg x=some (.ref f)∧bH K (.ref f)=true∧Binds K fd ps ds∧Vals dC ds∧Binds K fd ps []
structure zd(P:Program)(w:World)(K:ai)(mg:Str->Option Value)(base:Heap)(k:Nat)(x:Str)(ps:List Str)(dC:List V)(sp:Sp):Prop where
 ex:∃ f fd ds,kC P w K mg base (mz P w) k f fd ps sp∧mg x=some (.ref f)∧bH K (.ref f)=true∧Binds K fd ps ds∧Vals dC ds∧Binds K fd ps []
theorem Er.has{x:Str}{k:Nat}(D:Er K mg x st ps dC)(S:bu N ps (aF st))(len:∀ vs H Q E,sp vs H Q E->vs.length=ps.length)(jX:∀ (f:Addr) (bU:Value) (A:Around) (outer:List Env) (s:Shared) (H:Hp) (vs:List V) (Q:VK) (E:XK),eQ k (A.deeper (envOfC x (aF st) s.heap.objs.size f bU))->sp vs H Q E ->
   ∃ t,oC (cG (mz P w) P w K mg base N x (aF st) f bU A outer s H E) (d6 st) t∧t { nx:=fun _ H'=>Q .cj H',rt:=Q } (start N vs) H):zd P w K mg base (k+1) x ps dC sp:=by
 obtain⟨f,fd,ds,F,hm,Dx,hb,hv,j8⟩:=D.ex;obtain⟨oc,od,dV,kV,doc,pm,an,bU,ct,zu,rfl,lk,om⟩:=F.ex;exact⟨f,_,ds,MG lk om S len fun A outer s H vs Q E hr xW=>jX f bU A outer s H vs Q E hr xW,hm,Dx,hb,hv,j8⟩
section
variable {X:Cx} {k k':Nat}{x:Str}{ps:List Str}{dC:List V}{sp:Sp}{p pos:Pos}{e:Expr}{es:List Expr}{t:TA}
theorem Dd(h:zd X.prog X.w X.K X.mg X.base k x ps dC sp)(hr:eQ k' X.A)(hk:k<=k')(hg:Gl X x)(ha:PA X (e :: es) t)(rK:(x == ("__debug__" : Str))=false:=by decide)(he:starEach (e :: es) X.env=(false,eval e X.env) :: starEach es X.env:=by rfl)(j7:(backTo pos (starEach es X.env)).any (·.1)=false:=by rfl) :
  PE X (.Call (.Name x p) (e :: es) [] pos) (Ag sp [] E0 t):=by
 obtain⟨f,fd,ds,F,hm,Dx,_,_,hb⟩:=h.ex;exact ER F (hr.mono hk) hg hm Dx hb .nil gw ha rK he j7
theorem Lf(h:zd X.prog X.w X.K X.mg X.base k x ps dC sp)(hr:eQ k' X.A)(hk:k<=k')(hg:Gl X x)(ha:PA X (e :: es) t)(rK:(x == ("__debug__" : Str))=false:=by decide)(he:starEach (e :: es) X.env=(false,eval e X.env) :: starEach es X.env:=by rfl)(j7:(backTo pos (starEach es X.env)).any (·.1)=false:=by rfl) :
  PE X (.Call (.Name x p) (e :: es) [] pos) (Ag sp dC E0 t):=by
 obtain⟨f,fd,ds,F,hm,Dx,hb,hv,_⟩:=h.ex;exact ER F (hr.mono hk) hg hm Dx hb hv gw ha rK he j7
end
theorem aea{n:Nat}(h:n<=100000):n < sizeLine:=lx h (by decide)
end L2
namespace Sw
open PySem L2
def SH(ts:List Tm):Prop:=ts.length<=400∧(df ts).length<=24
end Sw
namespace L2
open PySem PySem.Spec PyProof.Rows
theorem QM(a d:Value):argsOk "min" ⟨[a], [("default",d)]⟩:=by unfold argsOk;kernel_rfl
section
variable {X:Cx}{e:Expr}{te:TE}{p pos kp cp:Pos}{j:Nat}
inductive XT(x:V)(H:Hp)(Q:VK):Prop
 | mk (a:Addr) (hx:x = .ref a) (ha:H a=some (.lst [])) (q:Q .cj H):XT x H Q
def ah6(te:TE):TE:=fun σ H Q=>te σ H fun x H1=>XT x H1 Q
theorem acM(hu:X.A.units+10 < cLine)(hc:X.calm=true)(hg:Gl X "min")(hm:X.mg "min" = none)(he:PE X e te)(nN:starEach [e] X.env = [(false,eval e X.env)]:=by rfl) :
  PE X (.Call (.Name "min" p) [e] [⟨some "default",.Constant .none j cp,kp⟩] pos) (ah6 te):=by
 intro ag s σ H Q I h;refine wpAny_Call_Name_kw (wO I hg hm D6 ?_ (by decide) (by decide));refine callWith_kw ?_ (by rw[nN];rfl) (by rw[nN];rfl);rw[nN];refine fI (cm (he ag s σ H _ I h) fun u s1 ⟨x,H1,I1,r1,q1⟩ =>?_);refine jS ?_;refine kws_cons (cm (rC (X:=X) ag s1 σ H1 (fun v H2=>v = .cj∧H2=H1) I1 ⟨O,O⟩) fun d s2 ⟨y,H2,I2,r2,q2⟩ =>?_);refine kws_nil ?_;obtain⟨rfl,rfl⟩:=q2;obtain rfl:d=gJ:=r2;obtain⟨a,rfl,ha,q0⟩:=q1;obtain rfl:u=bL a:=r1;obtain⟨z,its,c0,rv,e0⟩:=(show eV X.prog X.w H2 s2.heap a (.lst []) from I2.bO a _ ha);have hl:s2.heap.IsList a its.toArray:=⟨_,e0,O,_,O⟩;have hh:=I2.ok.hd hc;have en:its.toArray.size=0:=by have:=rv.length;simpa using this.symm
 show wpAny _ _ (call (.builtin "min") [.ref a] [("default",.none)]) _ _ s2;have aiw:(toString "min" ++ toString ".loop" : String) = "min.loop" := by decide
 refine kmk_tree PySem.F.kind_min PySem.F.plain_min PySem.F.entry_min (QM _ _) ?_;show wpAny _ X.A.in1 (uV "min" ["key", "default"] 0 ⟨[], [("default",.none)]⟩ >>= _) _ _ s2;refine wpAny_bind (wpAny_of_eq (show uV "min" ["key", "default"] 0 ⟨[], [("default",.none)]⟩=pure [none,some .none] from rfl) ?_);refine wpAny_bind (wpAny_pure ?_);refine wpAny_bind (wpAny_pyIter_list hl ?_);refine wpAny_bind (wpAny_newList ?_ (aQ _));rw[aiw];have hlI:a≠s2.heap.objs.size:=cQ (a9 e0);have rF:∀ b o,s2.heap.get? b=some o->((s2.heap.push { cls := .type "list_iterator",data := .fields #[.ref a,.int 0 0] }).push (seqObj "list" #[] 0)).get? b=some o:=fun b o e=>aH _ (aH _ e);have gI:((s2.heap.push { cls := .type "list_iterator",data := .fields #[.ref a,.int 0 0] }).push (seqObj "list" #[] 0)).get? s2.heap.objs.size=some { cls := .type "list_iterator",data := .fields #[.ref a,.int 0 0] } :=
  aH _ (bz _ rfl)
 refine wpAny_pure ⟨plainId_quiet PySem.F.plain_min_loop _,?_⟩;refine codeAny_builtin F.entry_min_loop ?_;rw[Around.under_plainId F.plain_min_loop _];show wpAny _ X.A.in1 (seqItems? (.ref _) >>= _) _ _ _;refine wpAny_bind (wpAny_seqItems (bz _ rfl) rfl ?_);show wpAny _ X.A.in1 (tryCatch (pyNext (.ref _)) _ >>= _) _ _ _;have W:=Walks.list (prog:=X.prog) (w:=X.w) (A:=X.A.in1) hh s2.heap.objs.size a hlI its.toArray;refine wpAny_bind (wpAny_tryCatch (W.done _ _ _ ?_ fun h' tk IB =>?_))
 ·rw[en];exact⟨⟨_,gI,O,O⟩,⟨_,rF _ _ e0,O,_,O⟩⟩
 exact wpAny_bind (wpAny_rule (wpAny_pure ⟨.cj,H2,I2.kept fun b o e=>IB b o (fun hm=>by rw[a8.mp hm]at e;exact absurd (a9 e) (e9 _)) (rF b o e),O,q0⟩))
end
end L2
namespace TS
open PySem PyProof.Rows
variable{x y:Keyed}{t u:Tok}{arr:Array Keyed}{i:Nat}{left:Bool}{l:List Keyed}
section
variable {prog:Program}{w:World}{A:Around}{E:Value->Shared->Prop}{s:Shared}
theorem Hl{st:SortSt}{a b:Int}{Q:Option Bool->SortSt->Prop}(hk:kindOf st=oneType')(hx:x.1 = .int a t)(hy:y.1 = .int b u)(h:Q (some (decide (a < b))) st) :
  wpS (model prog w) A E s (lt' x y) Q st:=by
 rw[lt'_eq];refine wpS_bind (wpS_get ?_);rw[hk,keyLt'_oneType,hx,hy];refine wpS_bind (wpS_lift (wpAny_attempt (oneLt_int ⟨O,?_⟩)));exact wpS_pure h
theorem fh{st:SortSt}{Q:Keyed->SortSt->Prop}(hx:arr[i]? = some x)(h:Q x st):wpS (model prog w) A E s (elem' arr i) Q st:=by
 rw[elem'_eq,hx];exact wpS_pure h
def ahead(left:Bool)(k x:Int):Bool:=if left then decide (x < k) else !decide (k < x)
theorem UN{st:SortSt}{key:Keyed}{k a:Int}{Q:Option Bool->SortSt->Prop}(hk:kindOf st=oneType')(hx:x.1 = .int a t)(hy:key.1 = .int k u)(h:Q (some (ahead left k a)) st) :
  wpS (model prog w) A E s (if left=true then lt' x key else (lt' key x >>= fun r=>pure (r.map (!·)))) Q st:=by
 cases left with
 | true=>exact Hl hk hx hy h
 | false=>exact wpS_bind (Hl hk hy hx (wpS_pure h))
def adi:Bool->Keyed->Array Keyed->Nat->Nat->Nat->StateT SortSt Sem (Option Nat):=sortPriv% PySem.Builtin.gallop
structure Run(arr:Array Keyed)(base n:Nat):Prop where
 at_:∀ i,i < n->∃ x t,arr[base+i]? = some x∧x.1 = .int (ao arr (base+i)) t
 le:∀ i j,i<=j->j < n->ao arr (base+i)<=ao arr (base+j)
theorem oM{st:SortSt}{key:Keyed}{k:Int}{base n hint:Nat}{Q:Option Nat->SortSt->Prop}(hk:kindOf st=oneType')(hy:key.1 = .int k u)(R:Run arr base n)(hn:hint < n)(h:∀ m,m<=n->(∀ i,i < m->ahead left k (ao arr (base+i))=true)->(∀ i,m<=i->i < n->ahead left k (ao arr (base+i))=false)->Q (some m) st) :
  wpS (model prog w) A E s (adi left key arr base n hint) Q st:=by
 let P:Nat->Bool:=fun i=>ahead left k (ao arr (base+i))
 have Xr:∀ {i:Nat}{Q:Option Bool->SortSt->Prop},i < n->Q (some (ahead left k (ao arr (base+i)))) st->wpS (model prog w) A E s (elem' arr (base+i) >>= fun x=>if left=true then lt' x key else (lt' key x >>= fun r=>pure (r.map (!·)))) Q st:=fun {i Q} hi h=>by
  obtain⟨x,t,e1,e2⟩:=R.at_ i hi;exact wpS_bind (fh e1 (UN hk e2 hy h))
 have mono:∀ i j,i<=j->j < n->ahead left k (ao arr (base+j))=true->ahead left k (ao arr (base+i))=true:=fun i j lK hj h=>by
  have le:=R.le i j lK hj;unfold ahead at h ⊢;cases left with
  | true =>
   have:=of_decide_eq_true (show decide _=true from h);exact decide_eq_true (by omega)
  | false =>
   have h:(!decide (k < ao arr (base+j)))=true:=h;have:=of_decide_eq_false (show decide (k < ao arr (base+j))=false by rw[<- Fm];exact h);show (!decide (k < ao arr (base+i)))=true;rw[decide_eq_false (by omega)];rfl
 refine wpS_bind (Xr hn ?_);dsimp only;have no:∀ {i:Nat},P i=false->∀ j,i<=j->j < n->P j=false:=fun {i} hi j lK hj=>by
  cases hq:P j with
  | false=>rfl
  | true=>exact absurd ((mono i j lK hj hq).symm.trans hi) (by decide)
 cases hr:P hint with
 | true =>
  rw[if_pos (show ahead left k (ao arr (base+hint))=true from hr)];refine wpS_bind (wpS_mono (wpS_forRange (I:=fun x c aG=>st=aG∧∃ la of,c=(none,la,of)∧la < of∧x+1<=of∧la < n - hint∧P (hint+la)=true)
   (Q:=fun c aG=>st=aG∧∃ la of,c=(none,la,of)∧la < of∧la < n - hint∧P (hint+la)=true∧(n - hint<=of∨P (hint+of)=false)) (fun x c aG _ hx =>?_) (fun c aG =>?_) ⟨O,0,1,O,by omega,by omega,by omega,hr⟩) (fun c aG =>?_))
  ·rintro⟨rfl,la,of,rfl,a1,a2,a3,a4⟩;dsimp only;by_cases oj:of ≥ n - hint
   ·rw[if_pos oj];exact wpS_pure ⟨O,la,of,O,a1,a3,a4,.inl oj⟩
   ·rw[if_neg oj];refine wpS_bind (Xr (i:=hint+of) (by omega) ?_);dsimp only;cases hp:ahead left k (ao arr (base+(hint+of))) with
    | true =>
     rw[if_neg (by decide)];exact wpS_pure ⟨O,of,2 * of+1,O,by omega,by omega,by omega,hp⟩
    | false =>
     rw[if_pos (by decide)];exact wpS_pure ⟨O,la,of,O,a1,a3,a4,.inr hp⟩
  ·rintro⟨rfl,la,of,rfl,a1,a2,a3,a4⟩;exact⟨O,la,of,O,a1,a3,a4,.inl (by omega)⟩
  ·rintro⟨rfl,la,of,rfl,a1,a3,a4,a5⟩;dsimp only;have b1:hint+la+1<=hint+min of (n - hint):=by omega
   have b2:hint+min of (n - hint)<=n:=by omega
   have b3:∀ i,i < hint+la+1->P i=true:=fun i hi=>mono i (hint+la) (by omega) (by omega) a4;have b4:∀ i,hint+min of (n - hint)<=i->i < n->P i=false:=fun i hi wV=>by
    rcases a5 with z | z
    ·omega
    ·by_cases hz:hint+of < n
     ·exact no z i (by omega) wV
     ·omega
   refine wpS_bind (wpS_mono (wpS_forRange (I:=fun x c aG=>st=aG∧∃ lo hi,c=(none,lo,hi)∧lo<=hi∧hi<=n∧hi - lo<=n - x∧(∀ i,i < lo->P i=true)∧(∀ i,hi<=i->i < n->P i=false))
    (Q:=fun c aG=>st=aG∧∃ lo hi,c=(none,lo,hi)∧hi<=n∧(∀ i,i < hi->P i=true)∧(∀ i,hi<=i->i < n->P i=false)) (fun x c aG _ hx =>?_) (fun c aG =>?_) ⟨O,_,_,O,b1,b2,by omega,b3,b4⟩) (fun c aG =>?_))
   ·rintro⟨rfl,lo,hi,rfl,l1,l2,l3,l4,l5⟩;dsimp only;by_cases oj:lo ≥ hi
    ·rw[if_pos oj];have:lo=hi:=by omega
     subst this;exact wpS_pure ⟨O,lo,lo,O,l2,l4,l5⟩
    ·rw[if_neg oj];refine wpS_bind (Xr (i:=lo+(hi - lo) / 2) (by omega) ?_);dsimp only;cases hp:ahead left k (ao arr (base+(lo+(hi - lo) / 2))) with
     | true =>
      rw[if_pos rfl];refine wpS_pure ⟨O,_,_,O,by omega,l2,by omega,fun i BD =>?_,l5⟩;exact mono i (lo+(hi - lo) / 2) (by omega) (by omega) hp
     | false =>
      rw[if_neg (by decide)];refine wpS_pure ⟨O,_,_,O,by omega,by omega,by omega,l4,fun i BD wV =>?_⟩;cases hq:P i with
      | false=>rfl
      | true=>exact absurd ((mono _ i BD wV hq).symm.trans hp) (by decide)
   ·rintro⟨rfl,lo,hi,rfl,l1,l2,l3,l4,l5⟩;have:lo=hi:=by omega
    subst this;exact⟨O,lo,lo,O,l2,l4,l5⟩
   ·rintro⟨rfl,lo,hi,rfl,l2,l4,l5⟩;exact wpS_pure (h hi l2 l4 l5)
 | false =>
  rw[if_neg (show ¬ ahead left k (ao arr (base+hint))=true by rw[show ahead left k (ao arr (base+hint))=false from hr];decide)];refine wpS_bind (wpS_mono (wpS_forRange (I:=fun x c aG=>st=aG∧∃ la of,c=(none,la,of)∧la < of∧x+1<=of∧la<=hint∧P (hint - la)=false)
   (Q:=fun c aG=>st=aG∧∃ la of,c=(none,la,of)∧la < of∧la<=hint∧P (hint - la)=false∧(hint+1<=of∨(of<=hint∧P (hint - of)=true))) (fun x c aG _ hx =>?_) (fun c aG =>?_) ⟨O,0,1,O,by omega,by omega,by omega,hr⟩) (fun c aG =>?_))
  ·rintro⟨rfl,la,of,rfl,a1,a2,a3,a4⟩;dsimp only;by_cases oj:of ≥ hint+1
   ·rw[if_pos oj];exact wpS_pure ⟨O,la,of,O,a1,a3,a4,.inl oj⟩
   ·rw[if_neg oj];refine wpS_bind (Xr (i:=hint - of) (by omega) ?_);dsimp only;cases hp:ahead left k (ao arr (base+(hint - of))) with
    | true =>
     rw[if_pos rfl];exact wpS_pure ⟨O,la,of,O,a1,a3,a4,.inr ⟨by omega,hp⟩⟩
    | false =>
     rw[if_neg (by decide)];exact wpS_pure ⟨O,of,2 * of+1,O,by omega,by omega,by omega,hp⟩
  ·rintro⟨rfl,la,of,rfl,a1,a2,a3,a4⟩;exact⟨O,la,of,O,a1,a3,a4,.inl (by omega)⟩
  ·rintro⟨rfl,la,of,rfl,a1,a3,a4,a5⟩;dsimp only;have b1:hint+1 - min of (hint+1)<=hint - la:=by omega
   have b2:hint - la<=n:=by omega
   have b3:∀ i,i < hint+1 - min of (hint+1)->P i=true:=fun i hi=>by
    rcases a5 with z | ⟨z0,z⟩
    ·omega
    ·exact mono i (hint - of) (by omega) (by omega) z
   have b4:∀ i,hint - la<=i->i < n->P i=false:=fun i hi wV=>no a4 i hi wV;refine wpS_bind (wpS_mono (wpS_forRange (I:=fun x c aG=>st=aG∧∃ lo hi,c=(none,lo,hi)∧lo<=hi∧hi<=n∧hi - lo<=n - x∧(∀ i,i < lo->P i=true)∧(∀ i,hi<=i->i < n->P i=false))
    (Q:=fun c aG=>st=aG∧∃ lo hi,c=(none,lo,hi)∧hi<=n∧(∀ i,i < hi->P i=true)∧(∀ i,hi<=i->i < n->P i=false)) (fun x c aG _ hx =>?_) (fun c aG =>?_) ⟨O,_,_,O,b1,b2,by omega,b3,b4⟩) (fun c aG =>?_))
   ·rintro⟨rfl,lo,hi,rfl,l1,l2,l3,l4,l5⟩;dsimp only;by_cases oj:lo ≥ hi
    ·rw[if_pos oj];have:lo=hi:=by omega
     subst this;exact wpS_pure ⟨O,lo,lo,O,l2,l4,l5⟩
    ·rw[if_neg oj];refine wpS_bind (Xr (i:=lo+(hi - lo) / 2) (by omega) ?_);dsimp only;cases hp:ahead left k (ao arr (base+(lo+(hi - lo) / 2))) with
     | true =>
      rw[if_pos rfl];refine wpS_pure ⟨O,_,_,O,by omega,l2,by omega,fun i BD =>?_,l5⟩;exact mono i (lo+(hi - lo) / 2) (by omega) (by omega) hp
     | false =>
      rw[if_neg (by decide)];refine wpS_pure ⟨O,_,_,O,by omega,by omega,by omega,l4,fun i BD wV =>?_⟩;cases hq:P i with
      | false=>rfl
      | true=>exact absurd ((mono _ i BD wV hq).symm.trans hp) (by decide)
   ·rintro⟨rfl,lo,hi,rfl,l1,l2,l3,l4,l5⟩;have:lo=hi:=by omega
    subst this;exact⟨O,lo,lo,O,l2,l4,l5⟩
   ·rintro⟨rfl,lo,hi,rfl,l2,l4,l5⟩;exact wpS_pure (h hi l2 l4 l5)
end
def kv(x:Keyed):Int:=numOf x.1
def gF(l:List Keyed):Prop:=l.Pairwise fun x y=>kv x<=kv y
theorem kR{a:Array Keyed}(h:a[i]? = some x):ao a i=kv x:=by
 unfold ao kv;rw[h]
theorem fm{a:Array Keyed}:a[i]? = a.toList[i]? := by simp
theorem n5(h:gF l){j:Nat}(lK:i<=j)(hx:l[i]? = some x)(hy:l[j]? = some y):kv x<=kv y:=by
 by_cases e:i=j
 ·subst e;rw[hx]at hy;cases hy;exact hZ _
 ·obtain⟨h1,e1⟩:=aj.mp hx;obtain⟨h2,e2⟩:=aj.mp hy;have:=vU.mp h i j h1 h2 (by omega);rw[e1,e2]at this;exact this
theorem j6(h:y∈l.drop i):∃ j,i<=j∧l[j]? = some y:=by
 obtain⟨k,hk⟩:=eG h;rw[uQ]at hk;exact⟨i+k,by omega,hk⟩
theorem NH{a:Array Keyed}(ha:IntKeys a)(sa:gF a.toList)(base:Nat):Run a base (a.size - base):=by
 refine⟨fun i hi =>?_,fun i j lK hj =>?_⟩
 ·have hl:base+i < a.size:=by omega
  have e:a[base+i]? = some a[base+i]:=getElem?_pos a _ hl;obtain⟨n,t,hn⟩:=ha a[base+i] (by simp);refine⟨_,t,e,?_⟩;rw[kR e,hn];unfold kv;rw[hn];rfl
 ·have hl1:base+i < a.size:=by omega
  have qN:base+j < a.size:=by omega
  have e1:a[base+i]? = some a[base+i]:=getElem?_pos a _ hl1;have e2:a[base+j]? = some a[base+j]:=getElem?_pos a _ qN;rw[kR e1,kR e2];exact n5 sa (by omega) (fm ▸ e1) (fm ▸ e2)
structure MI(a b o:Array Keyed)(ia ib:Nat):Prop where
 pm:(o.toList ++ (a.toList.drop ia ++ b.toList.drop ib)).Perm (a.toList ++ b.toList)
 so:gF o.toList
 le:∀ x∈o.toList,∀ y,y∈a.toList.drop ia∨y∈b.toList.drop ib->kv x<=kv y
structure Ef(a b m:Array Keyed):Prop where
 pm:m.toList.Perm (a.toList ++ b.toList)
 so:gF m.toList
theorem A6(a:Array Keyed)(i:Nat):(a.extract i a.size).toList=a.toList.drop i:=by
 rw[gL];simp only[sh];exact hJ (by rw[fj,bF];omega)
variable {a b o:Array Keyed}{ia ib:Nat}
theorem lY{m:List Keyed}(h1:gF l)(h2:gF m)(h:∀ x∈l,∀ y∈m,kv x<=kv y):gF (l ++ m):=Bi.mpr ⟨h1,h2,h⟩
theorem sQ(h:gF l)(i:Nat):gF (l.drop i):=zS (List.drop_sublist i l) h
theorem MI.done(h:MI a b o ia ib)(sa:gF a.toList)(sb:gF b.toList)(he:a.size<=ia∨b.size<=ib):Ef a b (o ++ a.extract ia a.size ++ b.extract ib b.size):=by
 have e:(o ++ a.extract ia a.size ++ b.extract ib b.size).toList=o.toList ++ (a.toList.drop ia ++ b.toList.drop ib):=by
  rw[dB,dB,A6,A6,a7]
 refine⟨by rw[e];exact h.pm,?_⟩;rw[e];refine lY h.so ?_ fun x hx y hy=>h.le x hx y (cI.mp hy);rcases he with z | z
 ·rw[hV (as:=a.toList) (by rw[bF];exact z),gh];exact sQ sb _
 ·rw[hV (as:=b.toList) (by rw[bF];exact z),cY];exact sQ sa _
theorem MI.last(h:MI a b o ia ib)(sa:gF a.toList)(sb:gF b.toList)(he:ia+1=a.size)(la:∀ y∈b.toList,∀ z,a.toList[a.size - 1]? = some z->kv y<=kv z):Ef a b (o ++ b.extract ib b.size ++ a.extract ia a.size):=by
 have e:(o ++ b.extract ib b.size ++ a.extract ia a.size).toList=o.toList ++ (b.toList.drop ib ++ a.toList.drop ia):=by
  rw[dB,dB,A6,A6,a7]
 refine⟨?_,?_⟩
 ·rw[e];exact(gp _ qZ).trans h.pm
 rw[e];refine lY h.so (lY (sQ sb _) (sQ sa _) fun x hx y hy =>?_) fun x hx y hy=>h.le x hx y ((cI.mp hy).symm);obtain⟨j,hj,ej⟩:=j6 hy;have Dy:=(aj.mp ej).1;have:j=a.size - 1:=by rw[bF]at Dy;omega
 subst this;exact la x (mO hx) y ej
theorem Kq(h:l[i]? = some y):l.drop i=y :: l.drop (i+1):=by
 obtain⟨h1,e⟩:=aj.mp h;rw[nR h1,e]
theorem MI.xT(h:MI a b o ia ib)(sa:gF a.toList)(hy:a[ia]? = some y)(pY:∀ z∈b.toList.drop ib,kv y<=kv z):MI a b (o.push y) (ia+1) ib:=by
 have Dr:a.toList[ia]? = some y:=fm ▸ hy;have ed:=Kq Dr;refine⟨?_,?_,fun x hx z hz =>?_⟩
 ·have:=h.pm;rw[ed]at this;rw[dw,a7];exact this
 ·rw[dw];refine lY h.so (xF _ _) fun x hx z hz =>?_;rw[a8.mp hz];exact h.le x hx y (.inl (by rw[ed];exact bM))
 ·rw[dw]at hx;rcases cI.mp hx with hx | hx
  ·refine h.le x hx z (hz.imp (fun q =>?_) id);rw[ed];exact aX _ q
  ·rw[a8.mp hx];rcases hz with q | q
   ·obtain⟨j,hj,ej⟩:=j6 q;exact n5 sa (by omega) Dr ej
   ·exact pY z q
theorem MI.xS(h:MI a b o ia ib)(sb:gF b.toList)(hy:b[ib]? = some y)(pY:∀ z∈a.toList.drop ia,kv y<=kv z):MI a b (o.push y) ia (ib+1):=by
 have Dr:b.toList[ib]? = some y:=fm ▸ hy;have ed:=Kq Dr;refine⟨?_,?_,fun x hx z hz =>?_⟩
 ·have:=h.pm;rw[ed]at this;rw[dw,a7];refine nS ?_ this;show (o.toList ++ (y :: (a.toList.drop ia ++ b.toList.drop (ib+1)))).Perm _;exact gp _ G9.symm
 ·rw[dw];refine lY h.so (xF _ _) fun x hx z hz =>?_;rw[a8.mp hz];exact h.le x hx y (.inr (by rw[ed];exact bM))
 ·rw[dw]at hx;rcases cI.mp hx with hx | hx
  ·refine h.le x hx z (hz.imp id (fun q =>?_));rw[ed];exact aX _ q
  ·rw[a8.mp hx];rcases hz with q | q
   ·exact pY z q
   ·obtain⟨j,hj,ej⟩:=j6 q;exact n5 sb (by omega) Dr ej
theorem Pa{o a:Array Keyed}{k:Nat}(hy:a[i+k]? = some y):o ++ a.extract i (i+(k+1))=(o ++ a.extract i (i+k)).push y:=by
 obtain⟨h1,e⟩:=ik.mp hy;apply xD.mp;rw[dw,dB,dB,gL,gL,a7];congr 1;simp only[sh];rw[show i+(k+1) - i=k+1 by omega,show i+k - i=k by omega,cW,uQ, <- fm,hy];rfl
theorem MI.Ht(h:MI a b o ia ib)(sa:gF a.toList):∀ k,ia+k<=a.size->(∀ i x,i < k->a[ia+i]? = some x->∀ z∈b.toList.drop ib,kv x<=kv z)->MI a b (o ++ a.extract ia (ia+k)) (ia+k) ib
 | 0,_,_=>by
  have:o ++ a.extract ia (ia+0)=o:=by rw[oF,jt (by omega),EC]
  rw[this];exact h
 | k+1,hk,pY=>by
  have e:a[ia+k]? = some a[ia+k]:=getElem?_pos a _ (by omega);rw[Pa e];exact(MI.Ht h sa k (by omega) fun i x hi=>pY i x (by omega)).xT sa e (pY k _ (by omega) e)
theorem MI.Hs(h:MI a b o ia ib)(sb:gF b.toList):∀ k,ib+k<=b.size->(∀ i x,i < k->b[ib+i]? = some x->∀ z∈a.toList.drop ia,kv x<=kv z)->MI a b (o ++ b.extract ib (ib+k)) ia (ib+k)
 | 0,_,_=>by
  have:o ++ b.extract ib (ib+0)=o:=by rw[oF,jt (by omega),EC]
  rw[this];exact h
 | k+1,hk,pY=>by
  have e:b[ib+k]? = some b[ib+k]:=getElem?_pos b _ (by omega);rw[Pa e];exact(MI.Hs h sb k (by omega) fun i x hi=>pY i x (by omega)).xS sb e (pY k _ (by omega) e)
theorem ET(sa:gF a.toList)(hx:a[ia]? = some x)(h:kv y<=kv x):∀ z∈a.toList.drop ia,kv y<=kv z:=fun z hz=>by
 obtain⟨j,hj,ej⟩:=j6 hz;exact iV h (n5 sa hj (fm ▸ hx) ej)
end TS
namespace TS
open PySem PyProof.Rows
variable{b:Bool}{i n:Nat}{x y:Keyed}{M:Model}{l:List Keyed}
structure SG(st aG:SortSt):Prop where
 kind:kindOf aG=kindOf st
 arr:arrOf aG=arrOf st
 pend:pendingOf aG=pendingOf st
 fail:failedOf aG=failedOf st
inductive X0{γ : Type}(a b:Array Keyed)(n:Nat):(Option (Array Keyed) × Array Keyed × Nat × Nat × γ)->Prop
 | go (o:Array Keyed) (ia ib:Nat) (z : γ) (M:MI a b o ia ib) (h1:ia+1 < a.size) (h2:ib < b.size) (h3:n<=ia+ib):X0 a b n (none,o,ia,ib,z)
 | end_ (r o:Array Keyed) (ia ib:Nat) (z : γ) (h:Ef a b r):X0 a b n (some r,o,ia,ib,z)
theorem tE(h:(!b)=true):b=false:=by cases b <;> first | rfl | cases h
theorem tF(h:(!b)=false):b=true:=by cases b <;> first | rfl | cases h
theorem me{a:Array Keyed}(ka:IntKeys a)(h:a[i]? = some x):∃ t,x.1 = .int (kv x) t:=by
 obtain⟨n,t,e⟩:=ka x (aN (fm ▸ h));exact⟨t,by unfold kv;rw[e];rfl⟩
section
variable {prog:Program}{w:World}{A:Around}{E:Value->Shared->Prop}{s:Shared}
def aic:Nat->StateT SortSt Sem Unit:=sortPriv% PySem.Builtin.setMinGallop
theorem Ae{st:SortSt}{g:Nat}{Q:Unit->SortSt->Prop}(h:Q () (jv (kindOf st) (arrOf st) (pendingOf st) g (failedOf st))):wpS (model prog w) A E s (aic g) Q st:=wpS_modify h
def Y2:Array Keyed->Array Keyed->StateT SortSt Sem (Array Keyed):=sortPriv% PySem.Builtin.mergeLo
theorem ji{α : Type}{c:Prop}[Decidable c]{t e:StateT SortSt Sem α}{Q : α -> SortSt->Prop}{st:SortSt}(ht:c->wpS M A E s t Q st)(he:¬ c->wpS M A E s e Q st):wpS M A E s (if c then t else e) Q st:=by
 by_cases h:c
 ·rw[if_pos h];exact ht h
 ·rw[if_neg h];exact he h
theorem MP{α : Type}{p:StateT SortSt Sem α}{Q : α -> SortSt->Prop}{st:SortSt}(h:∀ R : α -> SortSt->Prop,(∀ r aG,Q r aG->R r aG)->wpS M A E s p R st):wpS M A E s p Q st:=h Q fun _ _ h=>h
theorem Qn{st:SortSt}{a b:Array Keyed}{Q:Array Keyed->SortSt->Prop}(hk:kindOf st=oneType')(ka:IntKeys a)(kb:IntKeys b)(sa:gF a.toList)(sb:gF b.toList)(pa:0 < a.size)(pb:0 < b.size)(h1:∀ y,b[0]? = some y->∀ z∈a.toList,kv y<=kv z)(la:∀ y∈b.toList,∀ z,a.toList[a.size - 1]? = some z->kv y<=kv z)(h:∀ m aG,SG st aG->Ef a b m->Q m aG):wpS (model prog w) A E s (Y2 a b) Q st:=by
 have e0:b[0]? = some b[0]:=getElem?_pos b 0 pb;have M0:MI a b #[b[0]] 0 1:=MI.xS (o := #[]) (ia:=0) (ib:=0) ⟨ud _,vK,fun x hx=>by cases hx⟩ sb e0 (h1 _ e0);have s0:SG st st:=⟨O,O,O,O⟩;refine wpS_bind (wpS_lift (wpAny_rule ⟨O,?_⟩));refine wpS_bind (fh e0 ?_);dsimp -zeta only;by_cases c1:(1 == b.size)=true
 ·rw[if_pos c1];exact wpS_pure (h _ _ s0 (M0.done sa sb (.inr (jC (beq_iff_eq.mp c1).symm))))
 rw[if_neg c1];have c1':1≠b.size:=fun z=>c1 (beq_iff_eq.mpr z);by_cases c2:(0+1 == a.size)=true
 ·rw[if_pos c2];exact wpS_pure (h _ _ s0 (M0.last sa sb (beq_iff_eq.mp c2) la))
 rw[if_neg c2];have c2':0+1≠a.size:=fun z=>c2 (beq_iff_eq.mpr z);refine wpS_bind (wpS_get ?_);refine wpS_bind (wpS_mono (wpS_forRange (I:=fun x c aG=>SG st aG∧∃ o ia ib z,c=(none,o,ia,ib,z)∧MI a b o ia ib∧ia+1 < a.size∧ib < b.size∧x<=ia+ib)
  (Q:=fun c aG=>SG st aG∧∃ r o ia ib z,c=(some r,o,ia,ib,z)∧Ef a b r) (fun x c qI _ hx =>?_) (fun c qI =>?_) ⟨s0,_,_,_,_,O,M0,by omega,by omega,by omega⟩) (fun c qI =>?_))
 ·rintro⟨OD,o,ia,ib,mg,rfl,M,b1,b2,b3⟩;dsimp -zeta only;refine wpS_bind (wpS_mono (wpS_forRange (I:=fun x' c aG=>SG st aG∧∃ o ia ib z,c=(none,o,ia,ib,z)∧MI a b o ia ib∧ia+1 < a.size∧ib < b.size∧x+x'<=ia+ib)
   (Q:=fun c aG=>SG st aG∧X0 a b (x+1) c) (fun x' c iz _ Im =>?_) (fun c iz =>?_) ⟨OD,_,_,_,_,O,M,b1,b2,by omega⟩) (fun c iz =>?_))
  ·rintro⟨hs,o,ia,ib,z,rfl,M,b1,b2,b3⟩;obtain⟨ac,bc⟩:=z
   try dsimp only
   obtain⟨y,eb⟩:∃ y,b[ib]? = some y:=⟨_,getElem?_pos b ib b2⟩;obtain⟨v,ea⟩:∃ v,a[ia]? = some v:=⟨_,getElem?_pos a ia (by omega)⟩;obtain⟨ty,ey⟩:=me kb eb;obtain⟨tv,ev⟩:=me ka ea;refine wpS_bind (fh eb (wpS_bind (fh ea (wpS_bind (Hl (hs.kind.trans hk) ey ev ?_)))))
   try dsimp only
   by_cases ef:kv y < kv v
   ·rw[decide_eq_true ef,if_pos rfl];have M2:=M.xS sb eb (ET sa ea (by omega));refine wpS_bind (fh eb ?_)
    try dsimp only
    by_cases cb:(ib+1 == b.size)=true
    ·rw[if_pos cb];exact wpS_pure ⟨hs,.end_ _ _ _ _ _ (M2.done sa sb (.inr (jC (beq_iff_eq.mp cb).symm)))⟩
    ·rw[if_neg cb];have Xj:ib+1≠b.size:=fun z=>cb (beq_iff_eq.mpr z);split
     ·exact wpS_pure ⟨hs,.go _ _ _ _ M2 (by omega) (by omega) (by omega)⟩
     ·exact wpS_pure ⟨hs,_,_,_,_,O,M2,by omega,by omega,by omega⟩
   ·rw[decide_eq_false ef,if_neg (by decide)];have M2:=M.xT sa ea (ET sb eb (by omega));refine wpS_bind (fh ea ?_)
    try dsimp only
    by_cases cb:(ia+1+1 == a.size)=true
    ·rw[if_pos cb];exact wpS_pure ⟨hs,.end_ _ _ _ _ _ (M2.last sa sb (beq_iff_eq.mp cb) la)⟩
    ·rw[if_neg cb];have Xj:ia+1+1≠a.size:=fun z=>cb (beq_iff_eq.mpr z);split
     ·exact wpS_pure ⟨hs,.go _ _ _ _ M2 (by omega) (by omega) (by omega)⟩
     ·exact wpS_pure ⟨hs,_,_,_,_,O,M2,by omega,by omega,by omega⟩
  ·rintro⟨hs,o,ia,ib,z,rfl,M,b1,b2,b3⟩;omega
  ·rintro⟨hs,hc⟩;cases hc with
   | end_ r o ia ib z hm =>
    dsimp -zeta only;exact wpS_pure ⟨hs,r,_,_,_,_,O,hm⟩
   | go o ia ib z M b1 b2 b3 =>
    dsimp -zeta only;refine wpS_bind (wpS_lift (wpAny_rule ⟨O,?_⟩));refine wpS_bind (wpS_mono (wpS_forRange (I:=fun x' c aG=>SG st aG∧∃ o ia ib z,c=(none,o,ia,ib,z)∧MI a b o ia ib∧ia+1 < a.size∧ib < b.size∧x+1<=ia+ib)
     (Q:=fun c aG=>SG st aG∧X0 a b (x+1) c) (fun x' c iz _ Im =>?_) (fun c iz =>?_) ⟨hs,_,_,_,_,O,M,b1,b2,b3⟩) (fun c iz =>?_))
    ·rintro⟨hs,o,ia,ib,z,rfl,M,b1,b2,b3⟩;obtain⟨mg,ac,bc⟩:=z;refine MP fun R hR =>?_;have qd:∀ {c' aG},SG st aG->X0 a b (x+1) c'->R (.done c') aG:=fun h1 h2=>hR _ _ ⟨h1,h2⟩;have qy:∀ {o ia ib z aG},SG st aG->MI a b o ia ib->ia+1 < a.size->ib < b.size->x+1<=ia+ib->R (.yield (none,o,ia,ib,z)) aG:=fun h1 h2 h3 h4 h5=>hR _ _ ⟨h1,_,_,_,_,O,h2,h3,h4,h5⟩;clear hR;dsimp -zeta only
     iterate 11 (extract_lets +onlyGivenNames v;dsimp -zeta only [v];try clear v)
     extract_lets +onlyGivenNames u jp
     have J1:∀ g kJ,SG st kJ->wpS (model prog w) A E s (jp () g) R kJ:=fun g kJ oi=>by
      dsimp -zeta only [jp,u];clear jp;refine wpS_bind (Ae ?_);have jP:SG st (jv (kindOf kJ) (arrOf kJ) (pendingOf kJ) g (failedOf kJ)):=⟨oi.kind,oi.arr,oi.pend,oi.fail⟩;generalize jv (kindOf kJ) (arrOf kJ) (pendingOf kJ) g (failedOf kJ)=jO at jP ⊢;have OK:=jP.kind.trans hk;obtain⟨y,eb⟩:∃ y,b[ib]? = some y:=⟨_,getElem?_pos b ib (by omega)⟩;obtain⟨ty,ey⟩:=me kb eb;refine wpS_bind (fh eb (wpS_bind (oM OK ey (NH ka sa ia) (by omega) fun k l1 lo1 LB =>?_)));dsimp -zeta only;have QA:∀ i z,i < k->a[ia+i]? = some z->∀ v∈b.toList.drop ib,kv z<=kv v:=fun i z hi ez=>ET sb eb (by
       have:=of_decide_eq_false (tE (show (!decide (kv y < ao a (ia+i)))=true from lo1 i hi));rw[kR ez]at this;omega)
      have Sj:∀ v∈a.toList.drop (ia+k),kv y<=kv v:=fun v hv=>by
       obtain⟨j,hj,ej⟩:=j6 hv;have Dy:=(aj.mp ej).1;rw[bF]at Dy;have:=of_decide_eq_true (tF (show (!decide (kv y < ao a (ia+(j - ia))))=false from LB (j - ia) (by omega) (by omega)));rw[show ia+(j - ia)=j by omega,kR (show a[j]? = some v by rw[fm];exact ej)]at this;omega
      extract_lets +onlyGivenNames kc jp
      have J2:∀ o i,MI a b o i ib->(∀ v∈a.toList.drop i,kv y<=kv v)->i+1 < a.size->ia<=i->wpS (model prog w) A E s (jp () o i) R jO:=fun o i M QY LB ON=>by
       dsimp -zeta only [jp,kc];clear jp;refine wpS_bind (fh eb ?_)
       try dsimp -zeta only
       extract_lets +onlyGivenNames v
       dsimp -zeta only [v];clear v;have M2:=M.xS sb eb QY;refine ji (fun cb =>?_) (fun cb =>?_)
       ·exact wpS_pure (qd jP (.end_ _ _ _ _ _ (M2.done sa sb (.inr (jC (beq_iff_eq.mp cb).symm)))))
       have Xj:ib+1≠b.size:=fun z=>cb (beq_iff_eq.mpr z);obtain⟨x',ea⟩:∃ x,a[i]? = some x:=⟨_,getElem?_pos a i (by omega)⟩;obtain⟨tx,ex⟩:=me ka ea;refine wpS_bind (fh ea (wpS_bind (oM OK ex (NH kb sb (ib+1)) (by omega) fun k2 l2 Wm ON =>?_)));dsimp -zeta only;have QB:∀ j z,j < k2->b[ib+1+j]? = some z->∀ v∈a.toList.drop i,kv z<=kv v:=fun j z hj ez=>ET sa ea (by
        have:=of_decide_eq_true (show decide (ao b (ib+1+j) < kv x')=true from Wm j hj);rw[kR ez]at this;omega)
       have QR:∀ v∈b.toList.drop (ib+1+k2),kv x'<=kv v:=fun v hv=>by
        obtain⟨j,hj,ej⟩:=j6 hv;have Dy:=(aj.mp ej).1;rw[bF]at Dy;have:=of_decide_eq_false (show decide (ao b (ib+1+(j - (ib+1))) < kv x')=false from ON (j - (ib+1)) (by omega) (by omega));rw[show ib+1+(j - (ib+1))=j by omega,kR (show b[j]? = some v by rw[fm];exact ej)]at this;omega
       extract_lets +onlyGivenNames kd u2 jp
       have J3:∀ o j,MI a b o i j->(∀ v∈b.toList.drop j,kv x'<=kv v)->j < b.size->ib+1<=j->wpS (model prog w) A E s (jp () o j) R jO:=fun o j M QR hj1 WC=>by
        dsimp -zeta only [jp,u2,kd];clear jp;refine wpS_bind (fh ea ?_);dsimp only;have M3:=M.xT sa ea QR;refine ji (fun cl =>?_) (fun cl =>?_)
        ·exact wpS_pure (qd jP (.end_ _ _ _ _ _ (M3.last sa sb (beq_iff_eq.mp cl) la)))
        have cl':i+1+1≠a.size:=fun z=>cl (beq_iff_eq.mpr z);refine ji (fun _ =>?_) (fun _ =>?_)
        ·exact wpS_pure (qd jP (.go _ _ _ _ M3 (by omega) (by omega) (by omega)))
        ·exact wpS_pure (qy jP M3 (by omega) (by omega) (by omega))
       clear_value jp
       refine ji (fun ck =>?_) (fun ck =>?_)
       ·iterate 2 (extract_lets +onlyGivenNames v;dsimp -zeta only [v];try clear v)
        have MB:=M2.Hs sb k2 (by omega) QB;refine ji (fun Po =>?_) (fun Po =>?_)
        ·exact wpS_pure (qd jP (.end_ _ _ _ _ _ (MB.done sa sb (.inr (jC (beq_iff_eq.mp Po).symm)))))
        have anv:ib+1+k2≠b.size:=fun z=>Po (beq_iff_eq.mpr z);exact J3 _ _ MB QR (by omega) (by omega)
       ·have e:k2=0:=by omega
        subst e;exact J3 _ _ M2 QR (by omega) (by omega)
      clear_value jp
      refine ji (fun ck =>?_) (fun ck =>?_)
      ·iterate 2 (extract_lets +onlyGivenNames v;dsimp -zeta only [v];try clear v)
       have MA:=M.Ht sa k (by omega) QA;refine ji (fun ca =>?_) (fun ca =>?_)
       ·exact wpS_pure (qd jP (.end_ _ _ _ _ _ (MA.last sa sb (beq_iff_eq.mp ca) la)))
       have ca':ia+k+1≠a.size:=fun z=>ca (beq_iff_eq.mpr z);refine ji (fun cz =>?_) (fun cz =>?_)
       ·exact wpS_pure (qd jP (.end_ _ _ _ _ _ (MA.done sa sb (.inl (jC (beq_iff_eq.mp cz).symm)))))
       have cz':ia+k≠a.size:=fun z=>cz (beq_iff_eq.mpr z);exact J2 _ _ MA Sj (by omega) (by omega)
      ·have e:k=0:=by omega
       subst e;exact J2 _ _ M Sj (by omega) (by omega)
     clear_value jp
     exact ji (fun _=>J1 _ _ hs) (fun _=>J1 _ _ hs)
    ·rintro⟨hs,o,ia,ib,z,rfl,M,b1,b2,b3⟩;exact⟨hs,.go _ _ _ _ M b1 b2 b3⟩
    ·rintro⟨hs,hc⟩;cases hc with
     | end_ r o ia ib z hm =>
      dsimp -zeta only;exact wpS_pure ⟨hs,r,_,_,_,_,O,hm⟩
     | go o ia ib z M b1 b2 b3 =>
      obtain⟨mg,ac,bc⟩:=z;dsimp -zeta only;refine wpS_bind (Ae (wpS_pure ⟨⟨hs.kind,hs.arr,hs.pend,hs.fail⟩,_,_,_,_,O,M,b1,b2,b3⟩))
 ·rintro⟨hs,o,ia,ib,z,rfl,M,b1,b2,b3⟩;omega
 ·rintro⟨hs,r,o,ia,ib,z,rfl,hm⟩;exact wpS_pure (h r _ hs hm)
end
structure MH(a b o:Array Keyed)(na nb:Nat):Prop where
 la:na<=a.size
 lb:nb<=b.size
 pm:(a.toList.take na ++ (b.toList.take nb ++ o.toList.reverse)).Perm (a.toList ++ b.toList)
 so:gF o.toList.reverse
 le:∀ x∈o.toList,∀ y,y∈a.toList.take na∨y∈b.toList.take nb->kv y<=kv x
variable {a b o:Array Keyed}{na nb:Nat}
theorem Ax(a:Array Keyed)(n:Nat):(a.extract 0 n).toList=a.toList.take n:=by
 rw[gL];simp[sh]
theorem sP(h:gF l)(i:Nat):gF (l.take i):=zS (Fg i l) h
theorem j5(h:y∈l.take i):∃ j,j < i∧l[j]? = some y:=by
 obtain⟨k,hk⟩:=eG h;have hl:=(aj.mp hk).1;rw[cf]at hl;rw[kz (by omega)]at hk;exact⟨k,by omega,hk⟩
theorem MH.done(h:MH a b o na nb)(sa:gF a.toList)(sb:gF b.toList)(he:na=0∨nb=0):Ef a b (a.extract 0 na ++ b.extract 0 nb ++ o.reverse):=by
 have e:(a.extract 0 na ++ b.extract 0 nb ++ o.reverse).toList=a.toList.take na ++ (b.toList.take nb ++ o.toList.reverse):=by
  rw[dB,dB,Ax,Ax,mR,a7]
 refine⟨by rw[e];exact h.pm,?_⟩;rw[e, <- a7];refine lY ?_ h.so fun x hx y hy=>h.le y (qB.mp hy) x (cI.mp hx);rcases he with z | z
 ·subst z;exact sP sb _
 ·subst z;rw[kh,cY];exact sP sa _
theorem MH.first(h:MH a b o na nb)(sa:gF a.toList)(sb:gF b.toList)(he:nb=1)(h1:∀ y,b[0]? = some y->∀ z∈a.toList,kv y<=kv z):Ef a b (b.extract 0 nb ++ a.extract 0 na ++ o.reverse):=by
 have e:(b.extract 0 nb ++ a.extract 0 na ++ o.reverse).toList=b.toList.take nb ++ (a.toList.take na ++ o.toList.reverse):=by
  rw[dB,dB,Ax,Ax,mR,a7]
 refine⟨?_,?_⟩
 ·rw[e];refine nS ?_ h.pm;rw[<- a7, <- a7];exact lH _ qZ
 rw[e, <- a7];refine lY (lY (sP sb _) (sP sa _) fun x hx y hy =>?_) h.so fun x hx y hy=>h.le y (qB.mp hy) x ((cI.mp hx).symm);obtain⟨j,hj,ej⟩:=j5 hx;have:j=0:=by omega
 subst this;exact h1 x (by rw[fm];exact ej) y (iU hy)
theorem QV(hn:1<=n)(h:l[n - 1]? = some y):l.take n=l.take (n - 1) ++ [y]:=by
 have:=cW (l:=l) (i:=n - 1);rw[show n - 1+1=n by omega,h]at this;exact this
theorem MH.xT(h:MH a b o na nb)(sa:gF a.toList)(hn:1<=na)(hy:a[na - 1]? = some y)(pY:∀ z∈b.toList.take nb,kv z<=kv y):MH a b (o.push y) (na - 1) nb:=by
 have Dr:a.toList[na - 1]? = some y:=fm ▸ hy;have ed:=QV hn Dr;have hl:=h.la;refine⟨by omega,h.lb,?_,?_,fun x hx z hz =>?_⟩
 ·have:=h.pm;rw[ed,a7]at this;rw[dw,nG];refine nS ?_ this;refine gp _ ?_;show (b.toList.take nb ++ (y :: o.toList.reverse)).Perm (y :: (b.toList.take nb ++ o.toList.reverse));exact G9
 ·rw[dw,nG];refine Eg.mpr ⟨fun z hz =>?_,h.so⟩;exact h.le z (qB.mp hz) y (.inl (by rw[ed];exact bI _ bM))
 ·rw[dw]at hx;rcases cI.mp hx with hx | hx
  ·exact h.le x hx z (hz.imp (fun q=>by rw[ed];exact fg _ q) id)
  ·rw[a8.mp hx];rcases hz with q | q
   ·obtain⟨j,hj,ej⟩:=j5 q;exact n5 sa (by omega) ej Dr
   ·exact pY z q
theorem MH.xS(h:MH a b o na nb)(sb:gF b.toList)(hn:1<=nb)(hy:b[nb - 1]? = some y)(pY:∀ z∈a.toList.take na,kv z<=kv y):MH a b (o.push y) na (nb - 1):=by
 have Dr:b.toList[nb - 1]? = some y:=fm ▸ hy;have ed:=QV hn Dr;have hl:=h.lb;refine⟨h.la,by omega,?_,?_,fun x hx z hz =>?_⟩
 ·have:=h.pm;rw[ed,a7]at this;rw[dw,nG];exact this
 ·rw[dw,nG];refine Eg.mpr ⟨fun z hz =>?_,h.so⟩;exact h.le z (qB.mp hz) y (.inr (by rw[ed];exact bI _ bM))
 ·rw[dw]at hx;rcases cI.mp hx with hx | hx
  ·exact h.le x hx z (hz.imp id (fun q=>by rw[ed];exact fg _ q))
  ·rw[a8.mp hx];rcases hz with q | q
   ·exact pY z q
   ·obtain⟨j,hj,ej⟩:=j5 q;exact n5 sb (by omega) ej Dr
theorem RV{o a:Array Keyed}{k:Nat}(hk:k+1<=n)(hn:n<=a.size)(hy:a[n - k - 1]? = some y):o ++ (a.extract (n - (k+1)) n).reverse=(o ++ (a.extract (n - k) n).reverse).push y:=by
 apply xD.mp;rw[dw,dB,dB,mR,mR,gL,gL,a7];congr 1;simp only[sh];have e:a.toList.drop (n - (k+1))=y :: a.toList.drop (n - k):=by
  have:=Kq (l:=a.toList) (i:=n - (k+1)) (y:=y) (by rw[<- fm];exact hy);rw[this,show n - (k+1)+1=n - k by omega]
 rw[e,show n - (n - (k+1))=(n - (n - k))+1 by omega,List.take_succ_cons,List.reverse_cons]
theorem MH.Ht(h:MH a b o na nb)(sa:gF a.toList):∀ k,k<=na->(∀ j x,na - k<=j->j < na->a[j]? = some x->∀ z∈b.toList.take nb,kv z<=kv x)->MH a b (o ++ (a.extract (na - k) na).reverse) (na - k) nb
 | 0,_,_=>by
  have:o ++ (a.extract (na - 0) na).reverse=o:=by rw[xq,jt (by omega)];simp
  rw[this];exact h
 | k+1,hk,pY=>by
  have hl:=h.la;have e:a[na - k - 1]? = some a[na - k - 1]:=getElem?_pos a _ (by omega);rw[RV hk h.la e];exact(MH.Ht h sa k (by omega) fun j x h1 h2=>pY j x (by omega) h2).xT sa (by omega) e (pY _ _ (by omega) (by omega) e)
theorem MH.Hs(h:MH a b o na nb)(sb:gF b.toList):∀ k,k<=nb->(∀ j x,nb - k<=j->j < nb->b[j]? = some x->∀ z∈a.toList.take na,kv z<=kv x)->MH a b (o ++ (b.extract (nb - k) nb).reverse) na (nb - k)
 | 0,_,_=>by
  have:o ++ (b.extract (nb - 0) nb).reverse=o:=by rw[xq,jt (by omega)];simp
  rw[this];exact h
 | k+1,hk,pY=>by
  have hl:=h.lb;have e:b[nb - k - 1]? = some b[nb - k - 1]:=getElem?_pos b _ (by omega);rw[RV hk h.lb e];exact(MH.Hs h sb k (by omega) fun j x h1 h2=>pY j x (by omega) h2).xS sb (by omega) e (pY _ _ (by omega) (by omega) e)
theorem Ie(sa:gF a.toList)(hn:1<=na)(hx:a[na - 1]? = some x)(h:kv x<=kv y):∀ z∈a.toList.take na,kv z<=kv y:=fun z hz=>by
 obtain⟨j,hj,ej⟩:=j5 hz;exact iV (n5 sa (by omega) ej (fm ▸ hx)) h
theorem Rb{a:Array Keyed}(ha:IntKeys a)(sa:gF a.toList)(hn:n<=a.size):Run a 0 n:=by
 have r:=NH ha sa 0;exact⟨fun i hi=>r.at_ i (by omega),fun i j lK hj=>r.le i j lK (by omega)⟩
end TS
namespace TS
open PySem PyProof.Rows
variable{arr xs:Array Keyed}{P X S l m:List Keyed}{i lo n hi j:Nat}
inductive X1{γ : Type}(a b:Array Keyed)(n:Nat):(Option (Array Keyed) × Nat × Nat × Array Keyed × γ)->Prop
 | go (na nb:Nat) (o:Array Keyed) (z : γ) (M:MH a b o na nb) (h1:1<=na) (h2:2<=nb) (h3:n+na+nb<=a.size+b.size):X1 a b n (none,na,nb,o,z)
 | end_ (r:Array Keyed) (na nb:Nat) (o:Array Keyed) (z : γ) (h:Ef a b r):X1 a b n (some r,na,nb,o,z)
section
variable {prog:Program}{w:World}{A:Around}{E:Value->Shared->Prop}{s:Shared}
def Y3:Array Keyed->Array Keyed->StateT SortSt Sem (Array Keyed):=sortPriv% PySem.Builtin.mergeHi
theorem Qo{st:SortSt}{a b:Array Keyed}{Q:Array Keyed->SortSt->Prop}(hk:kindOf st=oneType')(ka:IntKeys a)(kb:IntKeys b)(sa:gF a.toList)(sb:gF b.toList)(pa:0 < a.size)(pb:0 < b.size)(h1:∀ y,b[0]? = some y->∀ z∈a.toList,kv y<=kv z)(la:∀ y∈b.toList,∀ z,a.toList[a.size - 1]? = some z->kv y<=kv z)(h:∀ m aG,SG st aG->Ef a b m->Q m aG):wpS (model prog w) A E s (Y3 a b) Q st:=by
 have e0:a[a.size - 1]? = some a[a.size - 1]:=getElem?_pos a (a.size - 1) (by omega);have M0:MH a b #[a[a.size - 1]] (a.size - 1) b.size:=MH.xT (o := #[]) (na:=a.size) (nb:=b.size) ⟨aw _,aw _,by
  rw[hJ (by rw[bF];exact aw _),hJ (by rw[bF];exact aw _)];simp,vK,fun x hx=>by cases hx⟩ sa (by omega) e0 (fun z hz=>la z (iU hz) _ (fm ▸ e0))
 have s0:SG st st:=⟨O,O,O,O⟩;refine wpS_bind (wpS_lift (wpAny_rule ⟨O,?_⟩));refine wpS_bind (fh e0 ?_);dsimp -zeta only;by_cases c1:(a.size - 1 == 0)=true
 ·rw[if_pos c1];exact wpS_pure (h _ _ s0 (M0.done sa sb (.inl (beq_iff_eq.mp c1))))
 rw[if_neg c1];have c1':a.size - 1≠0:=fun z=>c1 (beq_iff_eq.mpr z);by_cases c2:(b.size == 1)=true
 ·rw[if_pos c2];exact wpS_pure (h _ _ s0 (M0.first sa sb (beq_iff_eq.mp c2) h1))
 rw[if_neg c2];have c2':b.size≠1:=fun z=>c2 (beq_iff_eq.mpr z);refine wpS_bind (wpS_get ?_);refine wpS_bind (wpS_mono (wpS_forRange (I:=fun x c aG=>SG st aG∧∃ na nb o z,c=(none,na,nb,o,z)∧MH a b o na nb∧1<=na∧2<=nb∧x+na+nb<=a.size+b.size)
  (Q:=fun c aG=>SG st aG∧∃ r na nb o z,c=(some r,na,nb,o,z)∧Ef a b r) (fun x c qI _ hx =>?_) (fun c qI =>?_) ⟨s0,_,_,_,_,O,M0,by omega,by omega,by omega⟩) (fun c qI =>?_))
 ·rintro⟨OD,na,nb,o,mg,rfl,M,b1,b2,b3⟩;dsimp -zeta only;refine wpS_bind (wpS_mono (wpS_forRange (I:=fun x' c aG=>SG st aG∧∃ na nb o z,c=(none,na,nb,o,z)∧MH a b o na nb∧1<=na∧2<=nb∧x+x'+na+nb<=a.size+b.size)
   (Q:=fun c aG=>SG st aG∧X1 a b (x+1) c) (fun x' c iz _ Im =>?_) (fun c iz =>?_) ⟨OD,_,_,_,_,O,M,b1,b2,by omega⟩) (fun c iz =>?_))
  ·rintro⟨hs,na,nb,o,z,rfl,M,b1,b2,b3⟩;obtain⟨ac,bc⟩:=z;dsimp only;have la':=M.la;have lb':=M.lb;obtain⟨y,eb⟩:∃ y,b[nb - 1]? = some y:=⟨_,getElem?_pos b (nb - 1) (by omega)⟩;obtain⟨v,ea⟩:∃ v,a[na - 1]? = some v:=⟨_,getElem?_pos a (na - 1) (by omega)⟩;obtain⟨ty,ey⟩:=me kb eb;obtain⟨tv,ev⟩:=me ka ea;refine wpS_bind (fh eb (wpS_bind (fh ea (wpS_bind (Hl (hs.kind.trans hk) ey ev ?_)))));dsimp only;by_cases ef:kv y < kv v
   ·rw[decide_eq_true ef,if_pos rfl];have M2:=M.xT sa (by omega) ea (Ie sb (by omega) eb (by omega));refine wpS_bind (fh ea ?_)
    try dsimp only
    by_cases cb:(na - 1 == 0)=true
    ·rw[if_pos cb];exact wpS_pure ⟨hs,.end_ _ _ _ _ _ (M2.done sa sb (.inl (beq_iff_eq.mp cb)))⟩
    ·rw[if_neg cb];have Xj:na - 1≠0:=fun z=>cb (beq_iff_eq.mpr z);split
     ·exact wpS_pure ⟨hs,.go _ _ _ _ M2 (by omega) (by omega) (by omega)⟩
     ·exact wpS_pure ⟨hs,_,_,_,_,O,M2,by omega,by omega,by omega⟩
   ·rw[decide_eq_false ef,if_neg (by decide)];have M2:=M.xS sb (by omega) eb (Ie sa (by omega) ea (by omega));refine wpS_bind (fh eb ?_)
    try dsimp only
    by_cases cb:(nb - 1 == 1)=true
    ·rw[if_pos cb];exact wpS_pure ⟨hs,.end_ _ _ _ _ _ (M2.first sa sb (beq_iff_eq.mp cb) h1)⟩
    ·rw[if_neg cb];have Xj:nb - 1≠1:=fun z=>cb (beq_iff_eq.mpr z);split
     ·exact wpS_pure ⟨hs,.go _ _ _ _ M2 (by omega) (by omega) (by omega)⟩
     ·exact wpS_pure ⟨hs,_,_,_,_,O,M2,by omega,by omega,by omega⟩
  ·rintro⟨hs,na,nb,o,z,rfl,M,b1,b2,b3⟩;omega
  ·rintro⟨hs,hc⟩;cases hc with
   | end_ r na nb o z hm =>
    dsimp -zeta only;exact wpS_pure ⟨hs,r,_,_,_,_,O,hm⟩
   | go na nb o z M b1 b2 b3 =>
    dsimp -zeta only;refine wpS_bind (wpS_lift (wpAny_rule ⟨O,?_⟩));refine wpS_bind (wpS_mono (wpS_forRange (I:=fun x' c aG=>SG st aG∧∃ na nb o z,c=(none,na,nb,o,z)∧MH a b o na nb∧1<=na∧2<=nb∧x+1+na+nb<=a.size+b.size)
     (Q:=fun c aG=>SG st aG∧X1 a b (x+1) c) (fun x' c iz _ Im =>?_) (fun c iz =>?_) ⟨hs,_,_,_,_,O,M,b1,b2,b3⟩) (fun c iz =>?_))
    ·rintro⟨hs,na,nb,o,z,rfl,M,b1,b2,b3⟩;obtain⟨mg,ac,bc⟩:=z;refine MP fun R hR =>?_;have qd:∀ {c' aG},SG st aG->X1 a b (x+1) c'->R (.done c') aG:=fun h1 h2=>hR _ _ ⟨h1,h2⟩;have qy:∀ {o na nb z aG},SG st aG->MH a b o na nb->1<=na->2<=nb->x+1+na+nb<=a.size+b.size->R (.yield (none,na,nb,o,z)) aG:=fun h1 h2 h3 h4 h5=>hR _ _ ⟨h1,_,_,_,_,O,h2,h3,h4,h5⟩;clear hR;dsimp -zeta only
     iterate 11 (extract_lets +onlyGivenNames v;dsimp -zeta only [v];try clear v)
     extract_lets +onlyGivenNames u jp
     have J1:∀ g kJ,SG st kJ->wpS (model prog w) A E s (jp () g) R kJ:=fun g kJ oi=>by
      dsimp -zeta only [jp,u];clear jp;refine wpS_bind (Ae ?_);have jP:SG st (jv (kindOf kJ) (arrOf kJ) (pendingOf kJ) g (failedOf kJ)):=⟨oi.kind,oi.arr,oi.pend,oi.fail⟩;generalize jv (kindOf kJ) (arrOf kJ) (pendingOf kJ) g (failedOf kJ)=jO at jP ⊢;have OK:=jP.kind.trans hk;have la':=M.la;have lb':=M.lb;obtain⟨y,eb⟩:∃ y,b[nb - 1]? = some y:=⟨_,getElem?_pos b (nb - 1) (by omega)⟩;obtain⟨ty,ey⟩:=me kb eb;refine wpS_bind (fh eb (wpS_bind (oM OK ey (Rb ka sa (n:=na) (by omega)) (by omega) fun m l1 lo1 LB =>?_)));dsimp -zeta only;have QA:∀ j z,m<=j->j < na->a[j]? = some z->∀ v∈b.toList.take nb,kv v<=kv z:=fun j z hj WC ez=>Ie sb (by omega) eb (by
       have:=of_decide_eq_true (tF (show (!decide (kv y < ao a (0+j)))=false from LB j hj WC));rw[jB,kR ez]at this;omega)
      have Sj:∀ v∈a.toList.take m,kv v<=kv y:=fun v hv=>by
       obtain⟨j,hj,ej⟩:=j5 hv;have:=of_decide_eq_false (tE (show (!decide (kv y < ao a (0+j)))=true from lo1 j hj));rw[jB,kR (show a[j]? = some v by rw[fm];exact ej)]at this;omega
      extract_lets +onlyGivenNames kk kc jp
      have J2:∀ o i,MH a b o i nb->(∀ v∈a.toList.take i,kv v<=kv y)->1<=i->i<=na->wpS (model prog w) A E s (jp () i o) R jO:=fun o i M QY LB ON=>by
       dsimp -zeta only [jp,kc,kk];clear jp;refine wpS_bind (fh eb ?_)
       try dsimp -zeta only
       extract_lets +onlyGivenNames v
       dsimp -zeta only [v];clear v;have M2:=M.xS sb (by omega) eb QY;refine ji (fun cb =>?_) (fun cb =>?_)
       ·exact wpS_pure (qd jP (.end_ _ _ _ _ _ (M2.first sa sb (beq_iff_eq.mp cb) h1)))
       have Xj:nb - 1≠1:=fun z=>cb (beq_iff_eq.mpr z);obtain⟨x',ea⟩:∃ x,a[i - 1]? = some x:=⟨_,getElem?_pos a (i - 1) (by omega)⟩;obtain⟨tx,ex⟩:=me ka ea;refine wpS_bind (fh ea (wpS_bind (oM OK ex (Rb kb sb (n:=nb - 1) (by omega)) (by omega) fun m2 l2 Wm ON =>?_)));dsimp -zeta only;have QB:∀ j z,m2<=j->j < nb - 1->b[j]? = some z->∀ v∈a.toList.take i,kv v<=kv z:=fun j z hj WC ez=>Ie sa (by omega) ea (by
        have:=of_decide_eq_false (show decide (ao b (0+j) < kv x')=false from ON j hj WC);rw[jB,kR ez]at this;omega)
       have QR:∀ v∈b.toList.take m2,kv v<=kv x':=fun v hv=>by
        obtain⟨j,hj,ej⟩:=j5 hv;have:=of_decide_eq_true (show decide (ao b (0+j) < kv x')=true from Wm j hj);rw[jB,kR (show b[j]? = some v by rw[fm];exact ej)]at this;omega
       extract_lets +onlyGivenNames kl kd u2 jp
       have J3:∀ o j,MH a b o i j->(∀ v∈b.toList.take j,kv v<=kv x')->2<=j->j<=nb - 1->wpS (model prog w) A E s (jp () j o) R jO:=fun o j M QR hj1 WC=>by
        dsimp -zeta only [jp,u2,kd,kl];clear jp;refine wpS_bind (fh ea ?_)
        try dsimp only
        have M3:=M.xT sa (by omega) ea QR;refine ji (fun cl =>?_) (fun cl =>?_)
        ·exact wpS_pure (qd jP (.end_ _ _ _ _ _ (M3.done sa sb (.inl (beq_iff_eq.mp cl)))))
        have cl':i - 1≠0:=fun z=>cl (beq_iff_eq.mpr z);refine ji (fun _ =>?_) (fun _ =>?_)
        ·exact wpS_pure (qd jP (.go _ _ _ _ M3 (by omega) (by omega) (by omega)))
        ·exact wpS_pure (qy jP M3 (by omega) (by omega) (by omega))
       clear_value jp
       refine ji (fun ck =>?_) (fun ck =>?_)
       ·iterate 2 (extract_lets +onlyGivenNames v;dsimp -zeta only [v];try clear v)
        have MB:=M2.Hs sb (nb - 1 - m2) (by omega) (fun j z q1 q2=>QB j z (by omega) q2);rw[show nb - 1 - (nb - 1 - m2)=m2 by omega]at MB;refine ji (fun Po =>?_) (fun Po =>?_)
        ·exact wpS_pure (qd jP (.end_ _ _ _ _ _ (MB.first sa sb (beq_iff_eq.mp Po) h1)))
        have anv:m2≠1:=fun z=>Po (beq_iff_eq.mpr z);refine ji (fun cb3 =>?_) (fun cb3 =>?_)
        ·exact wpS_pure (qd jP (.end_ _ _ _ _ _ (MB.done sa sb (.inr (beq_iff_eq.mp cb3)))))
        have arH:m2≠0:=fun z=>cb3 (beq_iff_eq.mpr z);exact J3 _ _ MB QR (by omega) (by omega)
       ·have ck:¬ (nb - 1 - m2 > 0):=ck;have e:m2=nb - 1:=by omega
        rw[e]at QR;exact J3 _ _ M2 QR (by omega) (by omega)
      clear_value jp
      refine ji (fun ck =>?_) (fun ck =>?_)
      ·iterate 2 (extract_lets +onlyGivenNames v;dsimp -zeta only [v];try clear v)
       have MA:=M.Ht sa (na - m) (by omega) (fun j z q1 q2=>QA j z (by omega) q2);rw[show na - (na - m)=m by omega]at MA;refine ji (fun ca =>?_) (fun ca =>?_)
       ·exact wpS_pure (qd jP (.end_ _ _ _ _ _ (MA.done sa sb (.inl (beq_iff_eq.mp ca)))))
       have ca':m≠0:=fun z=>ca (beq_iff_eq.mpr z);exact J2 _ _ MA Sj (by omega) (by omega)
      ·have ck:¬ (na - m > 0):=ck;have e:m=na:=by omega
       rw[e]at Sj;exact J2 _ _ M Sj (by omega) (by omega)
     clear_value jp
     exact ji (fun _=>J1 _ _ hs) (fun _=>J1 _ _ hs)
    ·rintro⟨hs,na,nb,o,z,rfl,M,b1,b2,b3⟩;exact⟨hs,.go _ _ _ _ M b1 b2 b3⟩
    ·rintro⟨hs,hc⟩;cases hc with
     | end_ r na nb o z hm =>
      try dsimp -zeta only
      exact wpS_pure ⟨hs,r,_,_,_,_,O,hm⟩
     | go na nb o z M b1 b2 b3 =>
      obtain⟨mg,ac,bc⟩:=z
      try dsimp -zeta only
      refine wpS_bind (Ae (wpS_pure ⟨⟨hs.kind,hs.arr,hs.pend,hs.fail⟩,_,_,_,_,O,M,b1,b2,b3⟩))
 ·rintro⟨hs,na,nb,o,z,rfl,M,b1,b2,b3⟩;omega
 ·rintro⟨hs,r,na,nb,o,z,rfl,hm⟩;exact wpS_pure (h r _ hs hm)
end
theorem seg_at(h:arr.toList=P ++ (X ++ S))(hi:i < X.length):arr[P.length+i]? = X[i]? := by
 rw[fm,h,fb (by omega),kQ,j0 hi]
theorem Ra(ha:IntKeys arr)(h:arr.toList=P ++ (X ++ S))(sx:gF X):Run arr P.length X.length:=by
 refine⟨fun i hi =>?_,fun i j lK hj =>?_⟩
 ·have e:arr[P.length+i]? = some X[i]:=by rw[seg_at h hi,ah hi]
  obtain⟨t,ht⟩:=me ha e;exact⟨_,t,e,by rw[kR e];exact ht⟩
 ·have e1:arr[P.length+i]? = some X[i]:=by rw[seg_at h (by omega),ah (by omega)]
  have e2:arr[P.length+j]? = some X[j]:=by rw[seg_at h hj,ah hj]
  rw[kR e1,kR e2];exact n5 sx lK (ah (by omega)) (ah hj)
theorem RT(h:arr.toList=P ++ (X ++ S)):(arr.extract P.length (P.length+X.length)).toList=X:=by
 rw[gL];simp only[sh];rw[h,List.drop_left,kQ,List.take_left]
theorem Pt{sa:Nat}:∀ (l:List Keyed) (N9:Nat) (arr:Array Keyed) (P X S:List Keyed),arr.toList=P ++ (X ++ S)->X.length=l.length->P.length=sa+N9 ->
  ((l.zipIdx N9).foldl (fun a q=>a.setIfInBounds (sa+q.2) q.1) arr).toList=P ++ (l ++ S)
 | [],N9,arr,P,X,S,h,hx,hp=>by
  have:X = []:=gN.mp hx;subst this;exact h
 | p :: l,N9,arr,P,X,S,h,hx,hp=>by
  cases X with
  | nil=>cases hx
  | cons x X =>
   rw[xt,se];have e:(arr.setIfInBounds (sa+N9) p).toList=(P ++ [p]) ++ (X ++ S):=by
    rw[vt,h, <- hp,List.set_append_right _ _ (aw _),Nat.sub_self];simp
   have:=Pt l (N9+1) (arr.setIfInBounds (sa+N9) p) (P ++ [p]) X S e (by simpa using hx) (by rw[aO,hp];rfl);rw[this];simp
theorem K9(h:gF (l ++ m)):∀ x∈l,∀ y∈m,kv x<=kv y:=(Bi.mp h).2.2
theorem Ou{x:Array Keyed}(ha:IntKeys arr)(h:∀ p∈x.toList,p∈arr.toList):IntKeys x:=fun p hp=>ha p (h p hp)
section
variable {prog:Program}{w:World}{A:Around}{E:Value->Shared->Prop}{s:Shared}
theorem acf{M:Model}{σ : Type}{st aG : σ}{Q:PUnit -> σ -> Prop}(h:Q ⟨⟩ aG):wpS M A E s (set aG:StateT σ Sem PUnit) Q st:=by
 unfold wpS;rw[StateT.run_set];exact wpAny_pure ⟨O,h⟩
structure SP(st aG:SortSt):Prop where
 kind:kindOf aG=kindOf st
 fail:failedOf aG=failedOf st
theorem Qp{st:SortSt}{pw pw2:Nat}{Y:List Keyed}{Q:Bool->SortSt->Prop}(hk:kindOf st=oneType')(hf:failedOf st=none)(ka:IntKeys (arrOf st))(ha:(arrOf st).toList=P ++ (X ++ (Y ++ S)))(sx:gF X)(sy:gF Y)(px:0 < X.length)(py:0 < Y.length)(hi:(pendingOf st)[i]? = some (P.length,X.length,pw))(hj:(pendingOf st)[i+1]? = some (P.length+X.length,Y.length,pw2))(h:∀ aG M,SP st aG->(arrOf aG).toList=P ++ (M ++ S)->M.Perm (X ++ Y)->gF M->pendingOf aG=((pendingOf st).setIfInBounds i (P.length,X.length+Y.length,pw)).eraseIdxIfInBounds (i+1)->Q true aG) :
  wpS (model prog w) A E s (mergeAt' i) Q st:=by
 refine wpS_bind (wpS_get ?_);rw[show (sortPriv% PySem.Builtin.SortState.pending) st=pendingOf st from rfl,hi,hj];dsimp only;refine wpS_bind (acf ?_);have OD:SP st (jv (kindOf st) (arrOf st) (((pendingOf st).setIfInBounds i (P.length,X.length+Y.length,pw)).eraseIdxIfInBounds (i+1)) (gallopOf st) (failedOf st)):=⟨O,O⟩;have WB:kindOf (jv (kindOf st) (arrOf st) (((pendingOf st).setIfInBounds i (P.length,X.length+Y.length,pw)).eraseIdxIfInBounds (i+1)) (gallopOf st) (failedOf st))=oneType':=hk;have ha2:(arrOf st).toList=(P ++ X) ++ (Y ++ S):=by rw[ha,a7]
 have lPX:(P ++ X).length=P.length+X.length:=aO;have e0:(arrOf st)[P.length+X.length]? = some Y[0]:=by
  have:=seg_at ha2 (i:=0) py;rw[lPX,oF,ah py]at this;exact this
 obtain⟨ty,ey⟩:=me ka e0;refine wpS_bind (fh e0 (wpS_bind (oM WB ey (Ra ka ha sx) px fun k l1 lo1 LB =>?_)));dsimp only;have KX:∀ j (hj:j < X.length),ao (arrOf st) (P.length+j)=kv X[j]:=fun j hj=>kR (by rw[seg_at ha hj,ah hj]);have KY:∀ j (hj:j < Y.length),ao (arrOf st) (P.length+X.length+j)=kv Y[j]:=fun j hj=>kR (by
  have:=seg_at ha2 hj;rw[lPX,ah hj]at this;exact this)
 have xlo:∀ x∈X.take k,kv x<=kv Y[0]:=fun x hx=>by
  obtain⟨j,hj,ej⟩:=j5 hx;obtain⟨hl,e⟩:=aj.mp ej;have:=of_decide_eq_false (tE (show (!decide (kv Y[0] < ao (arrOf st) (P.length+j)))=true from lo1 j hj));rw[KX j hl,e]at this;omega
 have xhi:∀ x∈X.drop k,kv Y[0]<=kv x:=fun x hx=>by
  obtain⟨j,hj,ej⟩:=j6 hx;obtain⟨hl,e⟩:=aj.mp ej;have:=of_decide_eq_true (tF (show (!decide (kv Y[0] < ao (arrOf st) (P.length+j)))=false from LB j hj hl));rw[KX j hl,e]at this;omega
 have y0:∀ y∈Y,kv Y[0]<=kv y:=fun y hy=>by
  obtain⟨j,ej⟩:=eG hy;exact n5 sy (aQ _) (ah py) ej
 have plain:(∀ x∈X,∀ y∈Y,kv x<=kv y)->Q true (jv (kindOf st) (arrOf st) (((pendingOf st).setIfInBounds i (P.length,X.length+Y.length,pw)).eraseIdxIfInBounds (i+1)) (gallopOf st) (failedOf st)):=fun c =>
  h _ (X ++ Y) OD (by rw[a7];exact ha) (ud _) (lY sx sy c) rfl
 by_cases c1:(X.length - k == 0)=true
 ·rw[if_pos c1];have kx:X.length<=k:=by have:=beq_iff_eq.mp c1;omega
  refine wpS_pure (plain fun x hx y hy=>iV (xlo x ?_) (y0 y hy));rw[hJ kx];exact hx
 rw[if_neg c1];have c1':X.length - k≠0:=fun z=>c1 (beq_iff_eq.mpr z);have hxl:X.length - 1 < X.length:=by omega
 have el:(arrOf st)[P.length+k+(X.length - k) - 1]? = some X[X.length - 1]:=by
  rw[show P.length+k+(X.length - k) - 1=P.length+(X.length - 1) by omega,seg_at ha hxl,ah hxl]
 obtain⟨tx,ex⟩:=me ka el;have rY:Run (arrOf st) (P.length+X.length) Y.length:=by
  have:=Ra ka ha2 sy;rw[lPX]at this;exact this
 refine wpS_bind (fh el (wpS_bind (oM WB ex rY (by omega) fun n l2 Wm ON =>?_)));dsimp only;have ylo:∀ y∈Y.take n,kv y<=kv X[X.length - 1]:=fun y hy=>by
  obtain⟨j,hj,ej⟩:=j5 hy;obtain⟨hl,e⟩:=aj.mp ej;have:=of_decide_eq_true (show decide (ao (arrOf st) (P.length+X.length+j) < kv X[X.length - 1])=true from Wm j hj);rw[KY j hl,e]at this;omega
 have yhi:∀ y∈Y.drop n,kv X[X.length - 1]<=kv y:=fun y hy=>by
  obtain⟨j,hj,ej⟩:=j6 hy;obtain⟨hl,e⟩:=aj.mp ej;have:=of_decide_eq_false (show decide (ao (arrOf st) (P.length+X.length+j) < kv X[X.length - 1])=false from ON j hj hl);rw[KY j hl,e]at this;omega
 have xl:∀ x∈X,kv x<=kv X[X.length - 1]:=fun x hx=>by
  obtain⟨j,ej⟩:=eG hx;have hl:=(aj.mp ej).1;exact n5 sx (by omega) ej (ah hxl)
 by_cases c2:(n == 0)=true
 ·rw[if_pos c2];have n0:=beq_iff_eq.mp c2;subst n0;exact wpS_pure (plain fun x hx y hy=>iV (xl x hx) (yhi y hy))
 rw[if_neg c2];have c2':n≠0:=fun z=>c2 (beq_iff_eq.mpr z);have ltk:(X.take k).length=k:=by rw[cf];omega
 have ha3:(arrOf st).toList=(P ++ X.take k) ++ (X.drop k ++ (Y ++ S)):=by
  rw[ha,a7, <- a7 (X.take k),cV]
 have ha4:(arrOf st).toList=(P ++ X) ++ (Y.take n ++ (Y.drop n ++ S)):=by
  rw[ha2, <- a7 (Y.take n),cV]
 have ltn:(Y.take n).length=n:=by rw[cf];omega
 have eA:((arrOf st).extract (P.length+k) (P.length+X.length)).toList=X.drop k:=by
  have:=RT ha3;rw[aO,ltk,fj,show P.length+k+(X.length - k)=P.length+X.length by omega]at this;exact this
 have eB:((arrOf st).extract (P.length+X.length) (P.length+X.length+n)).toList=Y.take n:=by
  have:=RT ha4;rw[lPX,ltn]at this;exact this
 generalize hA:(arrOf st).extract (P.length+k) (P.length+X.length)=a2 at eA;generalize hB:(arrOf st).extract (P.length+X.length) (P.length+X.length+n)=b1 at eB;have kA:IntKeys a2:=Ou ka fun p hp=>by rw[eA]at hp;rw[ha3];exact bI _ (fg _ hp)
 have kB:IntKeys b1:=Ou ka fun p hp=>by rw[eB]at hp;rw[ha4];exact bI _ (fg _ hp)
 have sA:gF a2.toList:=by rw[eA];exact sQ sx _
 have sB:gF b1.toList:=by rw[eB];exact sP sy _
 have zA:a2.size=X.length - k:=by rw[<- bF,eA,fj]
 have zB:b1.size=n:=by rw[<- bF,eB,ltn]
 have q1:∀ y,b1[0]? = some y->∀ z∈a2.toList,kv y<=kv z:=fun y hy z hz=>by
  rw[fm,eB,kz (by omega),ah py]at hy;cases hy;rw[eA]at hz;exact xhi z hz
 have q2:∀ y∈b1.toList,∀ z,a2.toList[a2.size - 1]? = some z->kv y<=kv z:=fun y hy z hz=>by
  rw[eB]at hy;rw[eA,zA,uQ,show k+(X.length - k - 1)=X.length - 1 by omega,ah hxl]at hz;cases hz;exact ylo y hy
 have j9:∀ (m:Array Keyed) (iz:SortSt),SG (jv (kindOf st) (arrOf st) (((pendingOf st).setIfInBounds i (P.length,X.length+Y.length,pw)).eraseIdxIfInBounds (i+1)) (gallopOf st) (failedOf st)) iz->Ef a2 b1 m ->
   Q (failedOf iz).isNone (jv (kindOf iz) (m.toList.zipIdx.foldl (fun a q=>a.setIfInBounds (P.length+k+q.2) q.1) (arrOf iz)) (pendingOf iz) (gallopOf iz) (failedOf iz)):=fun m iz g hm=>by
  have f2:failedOf iz=none:=g.fail.trans hf;rw[f2];have ar:arrOf iz=arrOf st:=g.arr;have pmm:m.toList.Perm (X.drop k ++ Y.take n):=by have:=hm.pm;rw[eA,eB]at this;exact this
  have bk:=Pt (sa:=P.length+k) m.toList 0 (arrOf iz) (P ++ X.take k) (X.drop k ++ Y.take n) (Y.drop n ++ S) (by
   rw[ar,ha3];congr 1;rw[a7, <- a7 (Y.take n),cV]) (pmm.length_eq.symm) (by rw[aO,ltk];rfl)
  refine h _ (X.take k ++ (m.toList ++ Y.drop n)) ⟨g.kind,hf.symm⟩ ?_ ?_ ?_ g.pend
  ·show (m.toList.zipIdx.foldl (fun a q=>a.setIfInBounds (P.length+k+q.2) q.1) (arrOf iz)).toList=_;rw[bk];simp only[a7]
  ·refine nS (gp _ (lH _ pmm)) (Jo ?_);rw[a7 (X.drop k),cV, <- a7,cV]
  ·refine lY (sP sx k) (lY hm.so (sQ sy n) fun x hx y hy =>?_) fun x hx y hy =>?_
   ·rcases cI.mp (pmm.mem_iff.mp hx) with z | z
    ·exact iV (xl x (mO z)) (yhi y hy)
    ·have:=K9 (l:=Y.take n) (m:=Y.drop n) (by rw[cV];exact sy);exact this x z y hy
   ·have yy:∀ v∈Y,kv x<=kv v:=fun v hv=>iV (xlo x hx) (y0 v hv);rcases cI.mp hy with z | z
    ·rcases cI.mp (pmm.mem_iff.mp z) with q | q
     ·have:=K9 (l:=X.take k) (m:=X.drop k) (by rw[cV];exact sx);exact this x hx y q
     ·exact yy y (iU q)
    ·exact yy y (mO z)
 by_cases c3:X.length - k<=n
 ·rw[if_pos c3];exact wpS_bind (Qn WB kA kB sA sB (by omega) (by omega) q1 q2 fun m iz g hm=>wpS_bind (wpS_modify (wpS_bind (wpS_get (wpS_pure (j9 m iz g hm))))))
 ·rw[if_neg c3];exact wpS_bind (Qo WB kA kB sA sB (by omega) (by omega) q1 q2 fun m iz g hm=>wpS_bind (wpS_modify (wpS_bind (wpS_get (wpS_pure (j9 m iz g hm))))))
end
def ku(xs:Array Keyed)(lo n:Nat):Prop := ∀ i j,i<=j->j < n->ao xs (lo+i)<=ao xs (lo+j)
def mK(xs:Array Keyed)(lo n:Nat):Prop := ∀ i j,i<=j->j < n->ao xs (lo+j)<=ao xs (lo+i)
theorem ku.snoc(h:ku xs lo n)(h1:1<=n)(hl:ao xs (lo+(n - 1))<=ao xs (lo+n)):ku xs lo (n+1):=fun i j lK hj=>by
 by_cases e:j < n
 ·exact h i j lK e
 ·have:j=n:=by omega
  subst this;by_cases e2:i=j
  ·rw[e2];exact hZ _
  ·exact iV (h i (j - 1) (by omega) (by omega)) hl
theorem mK.snoc(h:mK xs lo n)(h1:1<=n)(hl:ao xs (lo+n)<=ao xs (lo+(n - 1))):mK xs lo (n+1):=fun i j lK hj=>by
 by_cases e:j < n
 ·exact h i j lK e
 ·have:j=n:=by omega
  subst this;by_cases e2:i=j
  ·rw[e2];exact hZ _
  ·exact iV hl (h i (j - 1) (by omega) (by omega))
theorem mK.congr{ys:Array Keyed}(h:mK xs lo n)(e:∀ k,ao ys k=ao xs k):mK ys lo n:=fun i j lK hj=>by rw[e,e];exact h i j lK hj
structure mB(st aG:SortSt)(lo hi:Nat):Prop where
 perm:(arrOf aG).Perm (arrOf st)
 out:∀ k,k < lo∨hi<=k->(arrOf aG)[k]? = (arrOf st)[k]?
 kind:kindOf aG=kindOf st
 fail:failedOf aG=failedOf st
 pend:pendingOf aG=pendingOf st
theorem mB.refl(st:SortSt)(lo hi:Nat):mB st st lo hi:=⟨Jx _,fun _ _=>rfl,O,O,O⟩
theorem mB.size{st aG:SortSt}(h:mB st aG lo hi):(arrOf aG).size=(arrOf st).size:=h.perm.size_eq
theorem mB.keys{st aG:SortSt}(h:mB st aG lo hi)(ka:IntKeys (arrOf st)):IntKeys (arrOf aG):=fun p hp=>ka p ((jN.mp h.perm).mem_iff.mp hp)
theorem mB.rev{st aG:SortSt}(h:mB st aG lo hi)(LB:lo<=i)(hj:j<=hi)(hz:hi<=(arrOf st).size):mB st (setArr aG (mirror (arrOf aG) i j ((j - i) / 2))) lo hi:=by
 refine⟨(mirror_perm _ _ _ _).trans h.perm,fun k hk =>?_,h.kind,h.fail,h.pend⟩;show (mirror (arrOf aG) i j ((j - i) / 2))[k]? = _;rw[getElem?_mirror_all (by rw[h.size];omega),if_neg (by omega)];exact h.out k hk
section
variable {prog:Program}{w:World}{A:Around}{E:Value->Shared->Prop}{s:Shared}
theorem wpS_ltK{st:SortSt}{Q:Option Bool->SortSt->Prop}(hk:kindOf st=oneType')(ka:IntKeys (arrOf st))(hi:i < (arrOf st).size)(hj:j < (arrOf st).size)(h:Q (some (decide (ao (arrOf st) i < ao (arrOf st) j))) st):wpS (model prog w) A E s (ltAt' i j) Q st:=by
 have e1:(arrOf st)[i]? = some (arrOf st)[i]:=getElem?_pos _ i hi;have e2:(arrOf st)[j]? = some (arrOf st)[j]:=getElem?_pos _ j hj;obtain⟨t,p1⟩:=me ka e1;obtain⟨u,p2⟩:=me ka e2;rw[kR e1,kR e2]at h;refine wpS_ltAt (t:=t) (u:=u) (p:=(arrOf st)[i].2) (q:=(arrOf st)[j].2) hk ?_ ?_ h
 ·rw[e1, <- p1]
 ·rw[e2, <- p2]
theorem Jy{st:SortSt}{dN:Nat}{Q:Option Nat->SortSt->Prop}(hk:kindOf st=oneType')(ka:IntKeys (arrOf st))(hz:lo+dN<=(arrOf st).size)(h1:1<=dN)(h:∀ m aG,mB st aG lo (lo+dN)->1<=m->m<=dN->ku (arrOf aG) lo m->Q (some m) aG):wpS (model prog w) A E s (countRun' lo dN) Q st:=by
 rw[countRun'_eq];refine wpS_bind (wpS_mono (wpS_forRange (I:=fun x c aG=>st=aG∧c=(none,x)∧ku (arrOf st) lo x) (Q:=fun c aG=>st=aG∧∃ x,c=(none,x)∧1<=x∧x<=dN∧ku (arrOf st) lo x∧(x=dN∨ao (arrOf st) (lo+x) < ao (arrOf st) (lo+x - 1))) (fun x c aG Ls Rz =>?_) (fun c aG =>?_) ⟨O,O,fun i j lK hj=>by rw[show i=j by omega];exact hZ _⟩) (fun c aG =>?_))
 ·rintro⟨rfl,rfl,so⟩;dsimp only;refine wpS_bind (wpS_ltK hk ka (by omega) (by omega) ?_);dsimp only;by_cases hl:ao (arrOf st) (lo+x) < ao (arrOf st) (lo+x - 1)
  ·rw[decide_eq_true hl,if_pos rfl];exact wpS_pure ⟨O,x,O,Ls,by omega,so,.inr hl⟩
  ·rw[decide_eq_false hl,if_neg (by decide)];exact wpS_pure ⟨O,O,so.snoc Ls (by rw[show lo+(x - 1)=lo+x - 1 by omega];omega)⟩
 ·rintro⟨rfl,rfl,so⟩;rw[show max 1 dN=dN by omega]at so;exact⟨O,dN,by rw[show max 1 dN=dN by omega],h1,aw _,so,.inl rfl⟩
 ·rintro⟨rfl,n,rfl,n1,n2,so,or⟩;dsimp only;by_cases hn:(n == dN)=true
  ·rw[if_pos hn];exact wpS_pure (h n st (mB.refl _ _ _) n1 n2 so)
  rw[if_neg hn];have hn':n≠dN:=fun z=>hn (beq_iff_eq.mpr z);have ef:=or.resolve_left hn';by_cases hg:n > 1
  ·rw[if_pos hg];refine wpS_bind (wpS_ltK hk ka (by omega) (by omega) ?_);dsimp only;by_cases hr:ao (arrOf st) lo < ao (arrOf st) (lo+n - 1)
   ·rw[decide_eq_true hr,if_pos rfl];exact wpS_pure (h n st (mB.refl _ _ _) n1 n2 so)
   ·rw[decide_eq_false hr,if_neg (by decide)];refine wpS_bind (wpS_reverse ?_);have all:∀ k,lo<=k->k < lo+n->ao (arrOf st) k=ao (arrOf st) (lo+n - 1):=fun k k1 k2=>by
     have a1:=so 0 (k - lo) (by omega) (by omega);have a2:=so (k - lo) (n - 1) (by omega) (by omega);rw[oF,show lo+(k - lo)=k by omega]at a1;rw[show lo+(k - lo)=k by omega,show lo+(n - 1)=lo+n - 1 by omega]at a2;omega
    have B3:=(mB.refl st lo (lo+dN)).rev (i:=lo) (j:=lo+n) (aw _) (by omega) hz;have eK:∀ k,ao (mirror (arrOf st) lo (lo+n) ((lo+n - lo) / 2)) k=ao (arrOf st) k:=K_mirror_equal (by omega) all;have ni3:mK (arrOf (setArr st (mirror (arrOf st) lo (lo+n) ((lo+n - lo) / 2)))) lo (n+1):=mK.congr (xs:=arrOf st) (mK.snoc (fun i j lK hj=>by rw[all (lo+i) (by omega) (by omega),all (lo+j) (by omega) (by omega)];exact hZ _) n1 (by rw[show lo+(n - 1)=lo+n - 1 by omega];omega)) eK;generalize setArr st (mirror (arrOf st) lo (lo+n) ((lo+n - lo) / 2))=kJ at B3 ni3;refine wpS_bind (wpS_lift (wpAny_rule ⟨O,?_⟩));refine wpS_bind (wpS_mono (wpS_forRange (I:=fun x c aG=>∃ iC,c=(none,x,iC)∧mB st aG lo (lo+dN)∧mK (arrOf aG) lo x∧iC+1<=x∧(∀ i,x - (iC+1)<=i->i < x->ao (arrOf aG) (lo+i)=ao (arrOf aG) (lo+(x - 1))))
     (Q:=fun c aG=>∃ m iC,c=(none,m,iC)∧n+1<=m∧m<=dN∧mB st aG lo (lo+dN)∧mK (arrOf aG) lo m∧iC+1<=m∧(∀ i,m - (iC+1)<=i->i < m->ao (arrOf aG) (lo+i)=ao (arrOf aG) (lo+(m - 1)))) (fun x c aG Ls Rz =>?_) (fun c aG =>?_) ⟨0,O,B3,ni3,by omega,fun i q1 q2=>by rw[show i=n+1 - 1 by omega]⟩) (fun c aG =>?_))
    ·rintro⟨iC,rfl,B,ni,q,uN⟩;dsimp only;have sz:=B.size;refine wpS_bind (wpS_ltK (B.kind.trans hk) (B.keys ka) (by omega) (by omega) ?_);dsimp only;by_cases hl:ao (arrOf aG) (lo+x) < ao (arrOf aG) (lo+x - 1)
     ·rw[decide_eq_true hl,if_pos rfl];have qI:∀ xs:Array Keyed,(∀ k,ao xs k=ao (arrOf aG) k)->mK xs lo (x+1):=fun xs e=>(ni.snoc (by omega) (by rw[show lo+(x - 1)=lo+x - 1 by omega];omega)).congr e;by_cases hq:iC > 0
      ·rw[if_pos hq];refine wpS_bind (wpS_reverse (wpS_pure ⟨0,O,B.rev (by omega) (by omega) hz,qI _ (K_mirror_equal (by omega) fun k q1 q2 =>?_),by omega,fun i q1 q2=>by rw[show i=x+1 - 1 by omega]⟩));have:=uN (k - lo) (by omega) (by omega);rw[show lo+(k - lo)=k by omega,show lo+(x - 1)=lo+x - 1 by omega]at this;exact this
      ·rw[if_neg hq];exact wpS_pure ⟨0,O,B,qI _ (fun _=>O),by omega,fun i q1 q2=>by rw[show i=x+1 - 1 by omega]⟩
     ·rw[decide_eq_false hl,if_neg (by decide)];refine wpS_bind (wpS_ltK (B.kind.trans hk) (B.keys ka) (by omega) (by omega) ?_);dsimp only;by_cases hg:ao (arrOf aG) (lo+x - 1) < ao (arrOf aG) (lo+x)
      ·rw[decide_eq_true hg,if_pos rfl];exact wpS_pure ⟨x,iC,O,by omega,by omega,B,ni,q,uN⟩
      ·rw[decide_eq_false hg,if_neg (by decide)];have ex:ao (arrOf aG) (lo+x)=ao (arrOf aG) (lo+(x - 1)):=by rw[show lo+(x - 1)=lo+x - 1 by omega];omega
       refine wpS_pure ⟨iC+1,O,B,ni.snoc (by omega) (by omega),by omega,fun i q1 q2 =>?_⟩;rw[show x+1 - 1=x by omega];by_cases hix:i=x
       ·rw[hix]
       ·rw[ex];exact uN i (by omega) (by omega)
    ·rintro⟨iC,rfl,B,ni,q,uN⟩;rw[show max (n+1) dN=dN by omega]at ni q uN;exact⟨dN,iC,by rw[show max (n+1) dN=dN by omega],by omega,aw _,B,ni,q,uN⟩
    ·rintro⟨m,iC,rfl,m1,m2,B,ni,q,uN⟩;dsimp only;have sz:=B.size;by_cases hq:iC > 0
     ·rw[if_pos hq];refine wpS_bind (wpS_reverse ?_);have B4:=B.rev (i:=lo+m - (iC+1)) (j:=lo+m) (by omega) (by omega) hz;have Dl:mK (arrOf (setArr aG (mirror (arrOf aG) (lo+m - (iC+1)) (lo+m) ((lo+m - (lo+m - (iC+1))) / 2)))) lo m:=ni.congr (K_mirror_equal (by omega) fun k q1 q2=>by
       have:=uN (k - lo) (by omega) (by omega);rw[show lo+(k - lo)=k by omega,show lo+(m - 1)=lo+m - 1 by omega]at this;exact this)
      generalize setArr aG (mirror (arrOf aG) (lo+m - (iC+1)) (lo+m) ((lo+m - (lo+m - (iC+1))) / 2))=jO at B4 Dl;refine wpS_bind (wpS_reverse ?_);have B5:=B4.rev (i:=lo) (j:=lo+m) (aw _) (by omega) hz;have Cc:ku (arrOf (setArr jO (mirror (arrOf jO) lo (lo+m) ((lo+m - lo) / 2)))) lo m:=fun i j lK hj=>by
       show ao (mirror (arrOf jO) lo (lo+m) ((lo+m - lo) / 2)) (lo+i)<=ao (mirror (arrOf jO) lo (lo+m) ((lo+m - lo) / 2)) (lo+j);rw[K_mirror (by rw[B4.size];omega),K_mirror (by rw[B4.size];omega),if_pos (by omega),if_pos (by omega),show lo+(lo+m) - 1 - (lo+i)=lo+(m - 1 - i) by omega,show lo+(lo+m) - 1 - (lo+j)=lo+(m - 1 - j) by omega];exact Dl _ _ (by omega) (by omega)
      generalize setArr jO (mirror (arrOf jO) lo (lo+m) ((lo+m - lo) / 2))=gY at B5 Cc;refine wpS_bind (wpS_mono (wpS_forRange (I:=fun x c aG=>gY=aG∧c=(none,x)∧ku (arrOf gY) lo x) (Q:=fun c aG=>gY=aG∧∃ x,c=(none,x)∧1<=x∧x<=dN∧ku (arrOf gY) lo x) (fun x c aG Ls Rz =>?_) (fun c aG =>?_) ⟨O,O,Cc⟩) (fun c aG =>?_))
      ·rintro⟨rfl,rfl,so⟩;dsimp only;refine wpS_bind (wpS_ltK (B5.kind.trans hk) (B5.keys ka) (by rw[B5.size];omega) (by rw[B5.size];omega) ?_);dsimp only;by_cases hl:ao (arrOf gY) (lo+x) < ao (arrOf gY) (lo+x - 1)
       ·rw[decide_eq_true hl,if_pos rfl];exact wpS_pure ⟨O,x,O,by omega,by omega,so⟩
       ·rw[decide_eq_false hl,if_neg (by decide)];exact wpS_pure ⟨O,O,so.snoc (by omega) (by rw[show lo+(x - 1)=lo+x - 1 by omega];omega)⟩
      ·rintro⟨rfl,rfl,so⟩;rw[show max m dN=dN by omega]at so;exact⟨O,dN,by rw[show max m dN=dN by omega],by omega,aw _,so⟩
      ·rintro⟨rfl,x,rfl,x1,x2,so⟩;exact wpS_pure (h x gY B5 x1 x2 so)
     ·rw[if_neg hq];have B4:=B;have Dl:=ni;generalize aG=jO at B4 Dl;refine wpS_bind (wpS_reverse ?_);have B5:=B4.rev (i:=lo) (j:=lo+m) (aw _) (by omega) hz;have Cc:ku (arrOf (setArr jO (mirror (arrOf jO) lo (lo+m) ((lo+m - lo) / 2)))) lo m:=fun i j lK hj=>by
       show ao (mirror (arrOf jO) lo (lo+m) ((lo+m - lo) / 2)) (lo+i)<=ao (mirror (arrOf jO) lo (lo+m) ((lo+m - lo) / 2)) (lo+j);rw[K_mirror (by rw[B4.size];omega),K_mirror (by rw[B4.size];omega),if_pos (by omega),if_pos (by omega),show lo+(lo+m) - 1 - (lo+i)=lo+(m - 1 - i) by omega,show lo+(lo+m) - 1 - (lo+j)=lo+(m - 1 - j) by omega];exact Dl _ _ (by omega) (by omega)
      generalize setArr jO (mirror (arrOf jO) lo (lo+m) ((lo+m - lo) / 2))=gY at B5 Cc;refine wpS_bind (wpS_mono (wpS_forRange (I:=fun x c aG=>gY=aG∧c=(none,x)∧ku (arrOf gY) lo x) (Q:=fun c aG=>gY=aG∧∃ x,c=(none,x)∧1<=x∧x<=dN∧ku (arrOf gY) lo x) (fun x c aG Ls Rz =>?_) (fun c aG =>?_) ⟨O,O,Cc⟩) (fun c aG =>?_))
      ·rintro⟨rfl,rfl,so⟩;dsimp only;refine wpS_bind (wpS_ltK (B5.kind.trans hk) (B5.keys ka) (by rw[B5.size];omega) (by rw[B5.size];omega) ?_);dsimp only;by_cases hl:ao (arrOf gY) (lo+x) < ao (arrOf gY) (lo+x - 1)
       ·rw[decide_eq_true hl,if_pos rfl];exact wpS_pure ⟨O,x,O,by omega,by omega,so⟩
       ·rw[decide_eq_false hl,if_neg (by decide)];exact wpS_pure ⟨O,O,so.snoc (by omega) (by rw[show lo+(x - 1)=lo+x - 1 by omega];omega)⟩
      ·rintro⟨rfl,rfl,so⟩;rw[show max m dN=dN by omega]at so;exact⟨O,dN,by rw[show max m dN=dN by omega],by omega,aw _,so⟩
      ·rintro⟨rfl,x,rfl,x1,x2,so⟩;exact wpS_pure (h x gY B5 x1 x2 so)
  ·rw[if_neg hg];have e1:n=1:=by omega
   have B3:=mB.refl st lo (lo+dN);have ni3:mK (arrOf st) lo (n+1):=mK.snoc (fun i j lK hj=>by rw[show i=j by omega];exact hZ _) n1 (by rw[show lo+(n - 1)=lo+n - 1 by omega];omega);refine wpS_bind (wpS_lift (wpAny_rule ⟨O,?_⟩));refine wpS_bind (wpS_mono (wpS_forRange (I:=fun x c aG=>∃ iC,c=(none,x,iC)∧mB st aG lo (lo+dN)∧mK (arrOf aG) lo x∧iC+1<=x∧(∀ i,x - (iC+1)<=i->i < x->ao (arrOf aG) (lo+i)=ao (arrOf aG) (lo+(x - 1))))
    (Q:=fun c aG=>∃ m iC,c=(none,m,iC)∧n+1<=m∧m<=dN∧mB st aG lo (lo+dN)∧mK (arrOf aG) lo m∧iC+1<=m∧(∀ i,m - (iC+1)<=i->i < m->ao (arrOf aG) (lo+i)=ao (arrOf aG) (lo+(m - 1)))) (fun x c aG Ls Rz =>?_) (fun c aG =>?_) ⟨0,O,B3,ni3,by omega,fun i q1 q2=>by rw[show i=n+1 - 1 by omega]⟩) (fun c aG =>?_))
   ·rintro⟨iC,rfl,B,ni,q,uN⟩;dsimp only;have sz:=B.size;refine wpS_bind (wpS_ltK (B.kind.trans hk) (B.keys ka) (by omega) (by omega) ?_);dsimp only;by_cases hl:ao (arrOf aG) (lo+x) < ao (arrOf aG) (lo+x - 1)
    ·rw[decide_eq_true hl,if_pos rfl];have qI:∀ xs:Array Keyed,(∀ k,ao xs k=ao (arrOf aG) k)->mK xs lo (x+1):=fun xs e=>(ni.snoc (by omega) (by rw[show lo+(x - 1)=lo+x - 1 by omega];omega)).congr e;by_cases hq:iC > 0
     ·rw[if_pos hq];refine wpS_bind (wpS_reverse (wpS_pure ⟨0,O,B.rev (by omega) (by omega) hz,qI _ (K_mirror_equal (by omega) fun k q1 q2 =>?_),by omega,fun i q1 q2=>by rw[show i=x+1 - 1 by omega]⟩));have:=uN (k - lo) (by omega) (by omega);rw[show lo+(k - lo)=k by omega,show lo+(x - 1)=lo+x - 1 by omega]at this;exact this
     ·rw[if_neg hq];exact wpS_pure ⟨0,O,B,qI _ (fun _=>O),by omega,fun i q1 q2=>by rw[show i=x+1 - 1 by omega]⟩
    ·rw[decide_eq_false hl,if_neg (by decide)];refine wpS_bind (wpS_ltK (B.kind.trans hk) (B.keys ka) (by omega) (by omega) ?_);dsimp only;by_cases hg:ao (arrOf aG) (lo+x - 1) < ao (arrOf aG) (lo+x)
     ·rw[decide_eq_true hg,if_pos rfl];exact wpS_pure ⟨x,iC,O,by omega,by omega,B,ni,q,uN⟩
     ·rw[decide_eq_false hg,if_neg (by decide)];have ex:ao (arrOf aG) (lo+x)=ao (arrOf aG) (lo+(x - 1)):=by rw[show lo+(x - 1)=lo+x - 1 by omega];omega
      refine wpS_pure ⟨iC+1,O,B,ni.snoc (by omega) (by omega),by omega,fun i q1 q2 =>?_⟩;rw[show x+1 - 1=x by omega];by_cases hix:i=x
      ·rw[hix]
      ·rw[ex];exact uN i (by omega) (by omega)
   ·rintro⟨iC,rfl,B,ni,q,uN⟩;rw[show max (n+1) dN=dN by omega]at ni q uN;exact⟨dN,iC,by rw[show max (n+1) dN=dN by omega],by omega,aw _,B,ni,q,uN⟩
   ·rintro⟨m,iC,rfl,m1,m2,B,ni,q,uN⟩;dsimp only;have sz:=B.size;by_cases hq:iC > 0
    ·rw[if_pos hq];refine wpS_bind (wpS_reverse ?_);have B4:=B.rev (i:=lo+m - (iC+1)) (j:=lo+m) (by omega) (by omega) hz;have Dl:mK (arrOf (setArr aG (mirror (arrOf aG) (lo+m - (iC+1)) (lo+m) ((lo+m - (lo+m - (iC+1))) / 2)))) lo m:=ni.congr (K_mirror_equal (by omega) fun k q1 q2=>by
      have:=uN (k - lo) (by omega) (by omega);rw[show lo+(k - lo)=k by omega,show lo+(m - 1)=lo+m - 1 by omega]at this;exact this)
     generalize setArr aG (mirror (arrOf aG) (lo+m - (iC+1)) (lo+m) ((lo+m - (lo+m - (iC+1))) / 2))=jO at B4 Dl;refine wpS_bind (wpS_reverse ?_);have B5:=B4.rev (i:=lo) (j:=lo+m) (aw _) (by omega) hz;have Cc:ku (arrOf (setArr jO (mirror (arrOf jO) lo (lo+m) ((lo+m - lo) / 2)))) lo m:=fun i j lK hj=>by
      show ao (mirror (arrOf jO) lo (lo+m) ((lo+m - lo) / 2)) (lo+i)<=ao (mirror (arrOf jO) lo (lo+m) ((lo+m - lo) / 2)) (lo+j);rw[K_mirror (by rw[B4.size];omega),K_mirror (by rw[B4.size];omega),if_pos (by omega),if_pos (by omega),show lo+(lo+m) - 1 - (lo+i)=lo+(m - 1 - i) by omega,show lo+(lo+m) - 1 - (lo+j)=lo+(m - 1 - j) by omega];exact Dl _ _ (by omega) (by omega)
     generalize setArr jO (mirror (arrOf jO) lo (lo+m) ((lo+m - lo) / 2))=gY at B5 Cc;refine wpS_bind (wpS_mono (wpS_forRange (I:=fun x c aG=>gY=aG∧c=(none,x)∧ku (arrOf gY) lo x) (Q:=fun c aG=>gY=aG∧∃ x,c=(none,x)∧1<=x∧x<=dN∧ku (arrOf gY) lo x) (fun x c aG Ls Rz =>?_) (fun c aG =>?_) ⟨O,O,Cc⟩) (fun c aG =>?_))
     ·rintro⟨rfl,rfl,so⟩;dsimp only;refine wpS_bind (wpS_ltK (B5.kind.trans hk) (B5.keys ka) (by rw[B5.size];omega) (by rw[B5.size];omega) ?_);dsimp only;by_cases hl:ao (arrOf gY) (lo+x) < ao (arrOf gY) (lo+x - 1)
      ·rw[decide_eq_true hl,if_pos rfl];exact wpS_pure ⟨O,x,O,by omega,by omega,so⟩
      ·rw[decide_eq_false hl,if_neg (by decide)];exact wpS_pure ⟨O,O,so.snoc (by omega) (by rw[show lo+(x - 1)=lo+x - 1 by omega];omega)⟩
     ·rintro⟨rfl,rfl,so⟩;rw[show max m dN=dN by omega]at so;exact⟨O,dN,by rw[show max m dN=dN by omega],by omega,aw _,so⟩
     ·rintro⟨rfl,x,rfl,x1,x2,so⟩;exact wpS_pure (h x gY B5 x1 x2 so)
    ·rw[if_neg hq];have B4:=B;have Dl:=ni;generalize aG=jO at B4 Dl;refine wpS_bind (wpS_reverse ?_);have B5:=B4.rev (i:=lo) (j:=lo+m) (aw _) (by omega) hz;have Cc:ku (arrOf (setArr jO (mirror (arrOf jO) lo (lo+m) ((lo+m - lo) / 2)))) lo m:=fun i j lK hj=>by
      show ao (mirror (arrOf jO) lo (lo+m) ((lo+m - lo) / 2)) (lo+i)<=ao (mirror (arrOf jO) lo (lo+m) ((lo+m - lo) / 2)) (lo+j);rw[K_mirror (by rw[B4.size];omega),K_mirror (by rw[B4.size];omega),if_pos (by omega),if_pos (by omega),show lo+(lo+m) - 1 - (lo+i)=lo+(m - 1 - i) by omega,show lo+(lo+m) - 1 - (lo+j)=lo+(m - 1 - j) by omega];exact Dl _ _ (by omega) (by omega)
     generalize setArr jO (mirror (arrOf jO) lo (lo+m) ((lo+m - lo) / 2))=gY at B5 Cc;refine wpS_bind (wpS_mono (wpS_forRange (I:=fun x c aG=>gY=aG∧c=(none,x)∧ku (arrOf gY) lo x) (Q:=fun c aG=>gY=aG∧∃ x,c=(none,x)∧1<=x∧x<=dN∧ku (arrOf gY) lo x) (fun x c aG Ls Rz =>?_) (fun c aG =>?_) ⟨O,O,Cc⟩) (fun c aG =>?_))
     ·rintro⟨rfl,rfl,so⟩;dsimp only;refine wpS_bind (wpS_ltK (B5.kind.trans hk) (B5.keys ka) (by rw[B5.size];omega) (by rw[B5.size];omega) ?_);dsimp only;by_cases hl:ao (arrOf gY) (lo+x) < ao (arrOf gY) (lo+x - 1)
      ·rw[decide_eq_true hl,if_pos rfl];exact wpS_pure ⟨O,x,O,by omega,by omega,so⟩
      ·rw[decide_eq_false hl,if_neg (by decide)];exact wpS_pure ⟨O,O,so.snoc (by omega) (by rw[show lo+(x - 1)=lo+x - 1 by omega];omega)⟩
     ·rintro⟨rfl,rfl,so⟩;rw[show max m dN=dN by omega]at so;exact⟨O,dN,by rw[show max m dN=dN by omega],by omega,aw _,so⟩
     ·rintro⟨rfl,x,rfl,x1,x2,so⟩;exact wpS_pure (h x gY B5 x1 x2 so)
end
theorem mB.move{st aG:SortSt}{src d:Nat}(h:mB st aG lo hi)(h1:lo+d<=src)(h2:src < hi)(hz:hi<=(arrOf st).size):mB st (setArr aG (bubble (arrOf aG) src d)) lo hi:=by
 refine⟨(bubble_perm _ _ _).trans h.perm,fun k hk =>?_,h.kind,h.fail,h.pend⟩;show (bubble (arrOf aG) src d)[k]? = _;rw[getElem?_bubble (by rw[h.size];omega) d (by omega),if_neg (by omega),if_neg (by omega)];exact h.out k hk
section
variable {prog:Program}{w:World}{A:Around}{E:Value->Shared->Prop}{s:Shared}
theorem F0{st:SortSt}{ok:Nat}{Q:Bool->SortSt->Prop}(hk:kindOf st=oneType')(ka:IntKeys (arrOf st))(hz:lo+n<=(arrOf st).size)(bO:ok<=n)(so:ku (arrOf st) lo ok)(h:∀ aG,mB st aG lo (lo+n)->ku (arrOf aG) lo n->Q true aG):wpS (model prog w) A E s (binarySort' lo n ok) Q st:=by
 rw[binarySort'_eq];refine wpS_bind (wpS_mono (wpS_forRange (I:=fun k c aG=>c=(none,())∧mB st aG lo (lo+n)∧ku (arrOf aG) lo (min k n))
  (Q:=fun c aG=>c=(none,())∧mB st aG lo (lo+n)∧ku (arrOf aG) lo n) (fun k c aG WB OK =>?_) (fun c aG =>?_) ⟨O,mB.refl _ _ _,fun i j lK hj =>?_⟩) (fun c aG =>?_))
 ·rintro⟨rfl,B,zm⟩;rw[show min k n=k by omega]at zm;have sz:=B.size;refine wpS_bind (wpS_mono (wpS_forRange (I:=fun x c lX=>aG=lX∧∃ l r,c=(none,l,r)∧l<=r∧r<=k∧r - l<=k - x ∧
    (∀ i,i < l->ao (arrOf aG) (lo+i)<=ao (arrOf aG) (lo+k))∧(∀ i,r<=i->i < k->ao (arrOf aG) (lo+k) < ao (arrOf aG) (lo+i)))
   (Q:=fun c lX=>aG=lX∧∃ l r,c=(none,l,r)∧l<=k ∧
    (∀ i,i < l->ao (arrOf aG) (lo+i)<=ao (arrOf aG) (lo+k))∧(∀ i,l<=i->i < k->ao (arrOf aG) (lo+k) < ao (arrOf aG) (lo+i))) (fun x c lX _ hx =>?_) (fun c lX =>?_) ⟨O,0,k,O,by omega,by omega,by omega,fun i hi=>by omega,fun i q1 q2=>by omega⟩) (fun c lX =>?_))
  ·rintro⟨rfl,l,r,rfl,l1,l2,l3,l4,l5⟩;dsimp only;by_cases oj:l ≥ r
   ·rw[if_pos oj];have:l=r:=by omega
    subst this;exact wpS_pure ⟨O,l,l,O,l2,l4,l5⟩
   ·rw[if_neg oj];refine wpS_bind (wpS_ltK (B.kind.trans hk) (B.keys ka) (by omega) (by omega) ?_);dsimp only;by_cases MF:ao (arrOf aG) (lo+k) < ao (arrOf aG) (lo+(l+r) / 2)
    ·rw[decide_eq_true MF,if_pos rfl];refine wpS_pure ⟨O,l,(l+r) / 2,O,by omega,by omega,by omega,l4,fun i q1 q2 =>?_⟩;exact Int.lt_of_lt_of_le MF (zm _ _ q1 q2)
    ·rw[decide_eq_false MF,if_neg (by decide)];refine wpS_pure ⟨O,(l+r) / 2+1,r,O,by omega,by omega,by omega,fun i q1 =>?_,l5⟩;exact iV (zm i ((l+r) / 2) (by omega) (by omega)) (Int.not_lt.mp MF)
  ·rintro⟨rfl,l,r,rfl,l1,l2,l3,l4,l5⟩;have:l=r:=by omega
   subst this;exact⟨O,l,l,O,l2,l4,l5⟩
  ·rintro⟨rfl,l,r,rfl,lk,l4,l5⟩;show wpS _ _ _ _ (do moveDown' (lo+k) (lo+l);pure (nW (none,()))) _ _;rw[moveDown'_eq];have hks:lo+k < (arrOf aG).size:=by omega
   refine wpS_bind (wpS_modify (wpS_pure ⟨O,B.move (by omega) (by omega) (by omega),?_⟩));rw[show min (k+1) n=k+1 by omega];intro i j lK hj;show ao (bubble (arrOf aG) (lo+k) (lo+k - (lo+l))) (lo+i)<=ao (bubble (arrOf aG) (lo+k) (lo+k - (lo+l))) (lo+j);rw[K_bubble hks (by omega),K_bubble hks (by omega),show lo+k - (lo+k - (lo+l))=lo+l by omega];have sub:∀ q,1<=q->lo+q - 1=lo+(q - 1):=fun q hq=>by omega
   repeat' split
   all_goals first
    | (exfalso;omega)
    | exact hZ _
    | exact l4 _ (by omega)
    | exact zm _ _ (by omega) (by omega)
    | (rw[sub _ (by omega)];exact Int.le_of_lt (l5 _ (by omega) (by omega)))
    | (rw[sub _ (by omega),sub _ (by omega)];exact zm _ _ (by omega) (by omega))
    | (rw[sub _ (by omega)];exact zm _ _ (by omega) (by omega))
 ·rintro⟨rfl,B,zm⟩;rw[show min (max (max ok 1) n) n=n by omega]at zm;exact⟨O,B,zm⟩
 ·by_cases h0:ok=0
  ·rw[show i=j by omega];exact hZ _
  ·exact so i j lK (by omega)
 ·rintro⟨rfl,B,zm⟩;exact wpS_pure (h aG B zm)
end
def mE:Nat->List (List Keyed)->List (Nat × Nat)
 | _, [] => []
 | o,x :: l=>(o,x.length) :: mE (o+x.length) l
def pr(q:Nat × Nat × Nat):Nat × Nat:=(q.1,q.2.1)
theorem AB:∀ (A B:List (List Keyed)) (o:Nat),mE o (A ++ B)=mE o A ++ mE (o+A.flatten.length) B
 | [],B,o=>by simp[mE]
 | x :: A,B,o=>by
  rw[eS,mE,mE,AB A B,jf,aO,jg];rfl
theorem qq:∀ (A:List (List Keyed)) (o:Nat),(mE o A).length=A.length
 | [],o=>rfl
 | x :: A,o=>by rw[mE,cg,cg,qq A]
structure RI(a₀ : List Keyed)(st:SortSt)(segs:List (List Keyed))(R:List Keyed):Prop where
 kind:kindOf st=oneType'
 fail:failedOf st=none
 perm:(arrOf st).toList.Perm a₀
 ar:(arrOf st).toList=segs.flatten ++ R
 pd:(pendingOf st).toList.map pr=mE 0 segs
 so:∀ x∈segs,gF x∧0 < x.length
variable {a₀ : List Keyed}{st:SortSt}{segs:List (List Keyed)}{R:List Keyed}
theorem RI.keys(h:RI a₀ st segs R)(ka:∀ p∈a₀,∃ n t,p.1=oA n t):IntKeys (arrOf st):=fun p hp=>ka p (h.perm.mem_iff.mp hp)
theorem RI.size(h:RI a₀ st segs R):(arrOf st).size=a₀.length:=by rw[<- bF];exact h.perm.length_eq
theorem RI.NS(h:RI a₀ st segs R):(pendingOf st).size=segs.length:=by
 have:=congrArg uA h.pd;rw[ay,qq,bF]at this;exact this
theorem Q7:∀ {segs:List (List Keyed)},(∀ x∈segs,gF x∧0 < x.length)->segs.length<=segs.flatten.length
 | [],_=>aQ _
 | x :: l,h=>by
  have ih:=Q7 (segs:=l) fun y hy=>h y (aX _ hy);have:=(h x bM).2;rw[jf,aO,cg];omega
theorem R0:∀ (l:List (List Keyed)) (i:Nat),i+1 < l.length->∃ A X Y B,l=A ++ (X :: Y :: B)∧A.length=i
 | x :: y :: l,0,_=>⟨[],x,y,l,O,O⟩
 | [x],0,h=>by simp at h
 | [],i,h=>by simp at h
 | x :: l,i+1,h=>by
  obtain⟨A,X,Y,B,e,n⟩:=R0 l i (by simpa using h);exact⟨x :: A,X,Y,B,by rw[e];rfl,by rw[cg,n]⟩
theorem Rg(h:RI a₀ st segs R){o:Nat}(e:(mE 0 segs)[i]? = some (o,n)):∃ c,(pendingOf st)[i]? = some (o,n,c):=by
 rw[<- h.pd,aJ]at e;obtain⟨q,hq,e2⟩:=b8.mp e;refine⟨q.2.2,?_⟩;have e3:(pendingOf st)[i]? = some q:=by rw[<- rb];exact hq
 rw[e3];cases q with
 | mk q1 q2=>cases e2;rfl
theorem Lm{α β : Type}(f : α -> β):∀ (l:List α) (i:Nat),(l.eraseIdx i).map f=(l.map f).eraseIdx i
 | [],i=>rfl
 | x :: l,0=>rfl
 | x :: l,i+1=>by rw[pF,aS,aS,pF,Lm f l i]
theorem Lc{α : Type}:∀ (A B:List α) (x y v : α) ,((A ++ (x :: y :: B)).set A.length v).eraseIdx (A.length+1)=A ++ (v :: B)
 | [],B,x,y,v=>rfl
 | a :: A,B,x,y,v=>by
  have:=Lc A B x y v;simp only[eS,cg,List.set_cons_succ,pF,this]
section
variable {prog:Program}{w:World}{A:Around}{E:Value->Shared->Prop}{s:Shared}
theorem yB{Q:Bool->SortSt->Prop}(h:RI a₀ st segs R)(ka:∀ p∈a₀,∃ n t,p.1=oA n t)(hi:i+1 < segs.length)(q:∀ aG Tf,RI a₀ aG Tf R->Tf.length+1=segs.length->Tf.flatten.length=segs.flatten.length->Q true aG):wpS (model prog w) A E s (mergeAt' i) Q st:=by
 obtain⟨C,X,Y,D,e,hc⟩:=R0 segs i hi;subst hc;subst e;have hX:=h.so X (by simp);have hY:=h.so Y (by simp);have ha:(arrOf st).toList=C.flatten ++ (X ++ (Y ++ (D.flatten ++ R))):=by rw[h.ar];simp
 have eo:mE 0 (C ++ (X :: Y :: D))=mE 0 C ++ ((C.flatten.length,X.length) :: (C.flatten.length+X.length,Y.length) :: mE (C.flatten.length+X.length+Y.length) D):=by
  rw[AB,jB,mE,mE]
 obtain⟨c1,p1⟩:=Rg h (i:=C.length) (by rw[eo,fb (by rw[qq];exact aw _),qq,Nat.sub_self];rfl);obtain⟨c2,p2⟩:=Rg h (i:=C.length+1) (by rw[eo,fb (by rw[qq];omega),qq,kQ];rfl);refine Qp h.kind h.fail (h.keys ka) ha hX.1 hY.1 hX.2 hY.2 p1 p2 fun aG M sp ar' pm zm pd' =>?_;have lm:M.length=X.length+Y.length:=by rw[pm.length_eq,aO]
 refine q aG (C ++ (M :: D)) ⟨sp.kind.trans h.kind,sp.fail.trans h.fail,?_,by rw[ar'];simp,?_,fun x hx =>?_⟩ (by simp;omega) (by simp[lm];omega)
 ·refine nS ?_ h.perm;rw[ar',ha];refine gp _ ?_;rw[<- a7 X];exact lH _ pm
 ·rw[pd',Array.toList_eraseIdxIfInBounds,vt,Lm,List.map_set,h.pd,eo];have:=Lc (mE 0 C) (mE (C.flatten.length+X.length+Y.length) D) (C.flatten.length,X.length) (C.flatten.length+X.length,Y.length) (C.flatten.length,X.length+Y.length);rw[qq]at this;refine this.trans ?_;rw[AB,jB,mE,lm,jg]
 ·rcases cI.mp hx with z | z
  ·exact h.so x (fg _ z)
  ·rcases bC.mp z with z | z
   ·subst z;have:=hX.2;exact⟨zm,by omega⟩
   ·exact h.so x (bI _ (aX _ (aX _ z)))
theorem TV(h:l.take n=m):l=m ++ l.drop n:=by rw[<- h,cV]
theorem Vq{L R':List Keyed}(h:arr.toList=L ++ R')(hn:n<=R'.length)(so:ku arr L.length n):gF (R'.take n):=by
 have e:∀ j,j < n->arr[L.length+j]? = R'[j]? := fun j hj=>by rw[fm,h,fb (by omega),kQ]
 refine vU.mpr fun i j hi hj lK =>?_;rw[cf]at hi hj;have:=so i j (by omega) (by omega);have e1:arr[L.length+i]? = some R'[i]:=by rw[e i (by omega),ah (by omega)]
 have e2:arr[L.length+j]? = some R'[j]:=by rw[e j (by omega),ah (by omega)]
 rw[kR e1,kR e2]at this;rw[Fi,Fi];exact this
theorem RI.ahead{aG:SortSt}(h:RI a₀ st segs R)(b:mB st aG segs.flatten.length hi):∃ R',RI a₀ aG segs R'∧R'.length=R.length:=by
 have ep:(arrOf aG).toList.take segs.flatten.length=segs.flatten:=by
  refine eY fun k =>?_;by_cases hk:k < segs.flatten.length
  ·rw[kz hk, <- fm,b.out k (.inl hk),fm,h.ar,j0 hk]
  ·rw[cJ (by rw[cf];omega),cJ (by omega)]
 have ea:=TV ep;have pm:=jN.mp b.perm;refine⟨_,⟨b.kind.trans h.kind,b.fail.trans h.fail,pm.trans h.perm,ea,by rw[b.pend];exact h.pd,h.so⟩,?_⟩;have l1:=pm.length_eq;rw[h.ar,aO]at l1;rw[fj];omega
end
end TS
namespace TS
open PySem PyProof.Rows
variable{a₀ R:List Keyed}{segs:List (List Keyed)}
theorem Ic{α β : Type}(g : α -> β)(f : α -> α)(h:∀ x,g (f x)=g x):∀ (l:List α) (i:Nat),(l.modify i f).map g=l.map g
 | [],0=>rfl
 | [],i+1=>rfl
 | x :: l,0=>by simp[h]
 | x :: l,i+1=>by simp[Ic g f h l i]
theorem yc(segs:List (List Keyed))(X:List Keyed):(segs ++ [X]).flatten.length=segs.flatten.length+X.length:=by simp
theorem RI.push{st:SortSt}{n:Nat}(h:RI a₀ st segs R)(hn:n<=R.length)(h1:1<=n)(so:gF (R.take n)):RI a₀ (setPending st ((pendingOf st).push (segs.flatten.length,n,0))) (segs ++ [R.take n]) (R.drop n):=by
 have ln:(R.take n).length=n:=by rw[cf];omega
 refine⟨h.kind,h.fail,h.perm,?_,?_,fun x hx =>?_⟩
 ·show (arrOf st).toList=_;rw[h.ar,List.flatten_append];simp
 ·show (((pendingOf st).push (segs.flatten.length,n,0)).toList).map pr=_;rw[dw,cR,h.pd,AB,jB];show _ ++ [(segs.flatten.length,n)]=_ ++ [(segs.flatten.length,(R.take n).length)];rw[ln]
 ·rcases cI.mp hx with z | z
  ·exact h.so x z
  ·rw[a8.mp z];exact⟨so,by omega⟩
theorem RI.VD{st:SortSt}{i:Nat}{f:Nat × Nat × Nat->Nat × Nat × Nat}(h:RI a₀ st segs R)(hf:∀ q,pr (f q)=pr q):RI a₀ (setPending st ((pendingOf st).modify i f)) segs R:=by
 refine⟨h.kind,h.fail,h.perm,h.ar,?_,h.so⟩;show (((pendingOf st).modify i f).toList).map pr=_;rw[Array.toList_modify,Ic pr f hf];exact h.pd
section
variable {prog:Program}{w:World}{A:Around}{E:Value->Shared->Prop}{s:Shared}
theorem Qm{st:SortSt}{a₀ : Array Keyed}{Q:Unit->SortSt->Prop}(h0:IntKeys a₀)(hB:SBase a₀ st)(h2:2<=a₀.size)(h:∀ aG,(arrOf aG).Perm a₀ -> failedOf aG=none->SortedTo (arrOf aG) a₀.size->Q () aG):wpS (model prog w) A E s sortRuns' Q st:=by
 have ka:∀ p∈a₀.toList,∃ n t,p.1=oA n t:=h0;have ls:a₀.toList.length=a₀.size:=bF;rw[sortRuns'_eq];refine wpS_bind (wpS_get ?_)
 try dsimp only
 simp only[hB.size];generalize minRun' a₀.size a₀.size 0=mr;have I0:RI a₀.toList st [] (arrOf st).toList:=⟨hB.kind,hB.failed,jN.mp hB.perm,O,by rw[hB.pend];rfl,fun x hx=>nomatch hx⟩;refine wpS_bind (wpS_mono (wpS_forRange (I:=fun x c aG=>∃ segs R lo,c=(none,lo)∧RI a₀.toList aG segs R∧lo=segs.flatten.length∧x<=lo)
  (Q:=fun c aG=>∃ segs lo,c=(none,lo)∧RI a₀.toList aG segs []) (fun x c aG _ hx =>?_) (fun c aG =>?_) ⟨[],_,0,O,I0,O,aw _⟩) (fun c aG =>?_))
 ·rintro⟨segs,R,lo,rfl,I,rfl,xl⟩
  try dsimp only
  have sz:=I.size;have el:segs.flatten.length+R.length=a₀.size:=by
   have:=congrArg uA I.ar;rw[aO,bF]at this;omega
  by_cases oj:segs.flatten.length ≥ a₀.size
  ·rw[if_pos oj];have:R = []:=gN.mp (by omega);subst this;exact wpS_pure ⟨segs,_,O,I⟩
  rw[if_neg oj];refine wpS_bind (Jy I.kind (I.keys ka) (by omega) (by omega) fun n qI B n1 n2 so =>?_)
  try dsimp only
  obtain⟨R1,I1,l1⟩:=I.ahead B;by_cases hm:n < mr
  ·rw[if_pos hm];refine wpS_bind (wpS_lift (wpAny_rule ⟨O,?_⟩));have sz1:=I1.size;refine wpS_bind (F0 I1.kind (I1.keys ka) (by omega) (by omega) so fun iz B2 so2 =>?_);obtain⟨R2,I2,l2⟩:=I1.ahead B2;simp only[m8,fJ,if_false];have hX:=Vq I2.ar (by omega) so2;refine wpS_bind (wpS_get ?_);cases hb:(pendingOf iz).back? with
   | none =>
    try dsimp only
    exact wpS_bind (wpS_modify (wpS_pure ⟨segs ++ [R2.take (min (a₀.size - segs.flatten.length) mr)],R2.drop (min (a₀.size - segs.flatten.length) mr),_,O,I2.push (by omega) (by omega) hX,by rw[yc,cf];omega,by omega⟩))
   | some q =>
    obtain⟨s1,n1,p1⟩:=q
    try dsimp only
    have ne:1<=segs.length:=by
     rcases uP segs.length with z | z
     ·have e:=I2.NS;rw[z]at e;have:pendingOf iz = #[]:=sq e;rw[this]at hb;cases hb
     ·exact z
    refine wpS_bind (wpS_mono (wpS_forRange (I:=fun _ c aG=>c=(none,())∧∃ sg,RI a₀.toList aG sg R2∧sg.flatten.length=segs.flatten.length)
     (Q:=fun c aG=>c=(none,())∧∃ sg,RI a₀.toList aG sg R2∧sg.flatten.length=segs.flatten.length) (fun y c aG _ hy =>?_) (fun c aG z=>z) ⟨O,segs,I2,O⟩) (fun c aG =>?_))
    ·rintro⟨rfl,sg,J,fl⟩;refine wpS_bind (wpS_get ?_)
     try dsimp only
     have pl:=J.NS;by_cases hp:(pendingOf aG).size > 1
     ·rw[if_pos hp];cases ho:(pendingOf aG)[(pendingOf aG).size - 2]? with
      | none=>exact wpS_pure ⟨O,sg,J,fl⟩
      | some q =>
       obtain⟨o1,o2,o3⟩:=q
       try dsimp only
       split
       ·exact wpS_pure ⟨O,sg,J,fl⟩
       ·refine wpS_bind (yB J ka (by omega) fun kJ Vs J3 l3 f3 =>?_);exact wpS_pure ⟨O,Vs,J3,f3.trans fl⟩
     ·rw[if_neg hp];exact wpS_pure ⟨O,sg,J,fl⟩
    ·rintro⟨rfl,sg,J,fl⟩
     try dsimp only
     refine wpS_bind (wpS_modify ?_);have J2:=J.VD (i:=(pendingOf aG).size - 1) (f:=fun (q:Nat × Nat × Nat)=>match q with | (st,len,_)=>(st,len,power' a₀.size (2 * s1+n1) (2 * s1+n1+n1+(min (a₀.size - segs.flatten.length) mr)) a₀.size)) (fun q=>rfl);have J3:=J2.push (n:=(min (a₀.size - segs.flatten.length) mr)) (by omega) (by omega) hX;rw[fl]at J3;exact wpS_bind (wpS_modify (wpS_pure ⟨sg ++ [R2.take (min (a₀.size - segs.flatten.length) mr)],R2.drop (min (a₀.size - segs.flatten.length) mr),_,O,J3,by rw[yc,cf,fl];omega,by omega⟩))
  ·rw[if_neg hm];have hX:=Vq I1.ar (by omega) so;refine wpS_bind (wpS_get ?_);cases hb:(pendingOf qI).back? with
   | none =>
    try dsimp only
    exact wpS_bind (wpS_modify (wpS_pure ⟨segs ++ [R1.take n],R1.drop n,_,O,I1.push (by omega) (by omega) hX,by rw[yc,cf];omega,by omega⟩))
   | some q =>
    obtain⟨s1,n1,p1⟩:=q
    try dsimp only
    have ne:1<=segs.length:=by
     rcases uP segs.length with z | z
     ·have e:=I1.NS;rw[z]at e;have:pendingOf qI = #[]:=sq e;rw[this]at hb;cases hb
     ·exact z
    refine wpS_bind (wpS_mono (wpS_forRange (I:=fun _ c aG=>c=(none,())∧∃ sg,RI a₀.toList aG sg R1∧sg.flatten.length=segs.flatten.length)
     (Q:=fun c aG=>c=(none,())∧∃ sg,RI a₀.toList aG sg R1∧sg.flatten.length=segs.flatten.length) (fun y c aG _ hy =>?_) (fun c aG z=>z) ⟨O,segs,I1,O⟩) (fun c aG =>?_))
    ·rintro⟨rfl,sg,J,fl⟩;refine wpS_bind (wpS_get ?_)
     try dsimp only
     have pl:=J.NS;by_cases hp:(pendingOf aG).size > 1
     ·rw[if_pos hp];cases ho:(pendingOf aG)[(pendingOf aG).size - 2]? with
      | none=>exact wpS_pure ⟨O,sg,J,fl⟩
      | some q =>
       obtain⟨o1,o2,o3⟩:=q
       try dsimp only
       split
       ·exact wpS_pure ⟨O,sg,J,fl⟩
       ·refine wpS_bind (yB J ka (by omega) fun kJ Vs J3 l3 f3 =>?_);exact wpS_pure ⟨O,Vs,J3,f3.trans fl⟩
     ·rw[if_neg hp];exact wpS_pure ⟨O,sg,J,fl⟩
    ·rintro⟨rfl,sg,J,fl⟩
     try dsimp only
     refine wpS_bind (wpS_modify ?_);have J2:=J.VD (i:=(pendingOf aG).size - 1) (f:=fun (q:Nat × Nat × Nat)=>match q with | (st,len,_)=>(st,len,power' a₀.size (2 * s1+n1) (2 * s1+n1+n1+n) a₀.size)) (fun q=>rfl);have J3:=J2.push (n:=n) (by omega) (by omega) hX;rw[fl]at J3;exact wpS_bind (wpS_modify (wpS_pure ⟨sg ++ [R1.take n],R1.drop n,_,O,J3,by rw[yc,cf,fl];omega,by omega⟩))
 ·rintro⟨segs,R,lo,rfl,I,rfl,xl⟩;have el:segs.flatten.length+R.length=a₀.size:=by
   have:=congrArg uA I.ar;rw[aO,bF,I.size]at this;omega
  have:R = []:=gN.mp (by omega);subst this;exact⟨segs,_,O,I⟩
 ·rintro⟨segs,lo,rfl,I⟩
  try dsimp only
  have el:segs.flatten.length=a₀.size:=by
   have:=congrArg uA I.ar;rw[cY,bF,I.size]at this;omega
  have sl:=Q7 I.so;have s1:1<=segs.length:=by
   rcases uP segs.length with z | z
   ·rw[gN.mp z]at el;simp at el;omega
   ·exact z
  refine wpS_bind (wpS_mono (wpS_forRange (I:=fun x c lX=>c=(none,())∧∃ sg,RI a₀.toList lX sg []∧1<=sg.length∧sg.length+x<=a₀.size)
   (Q:=fun c lX=>c=(none,())∧∃ sg,RI a₀.toList lX sg []∧sg.length=1) (fun x c lX _ hx =>?_) (fun c lX =>?_) ⟨O,segs,I,s1,by omega⟩) (fun c lX =>?_))
  ·rintro⟨rfl,sg,J,b1,b2⟩;refine wpS_bind (wpS_get ?_)
   try dsimp only
   have pl:=J.NS;by_cases hp:(pendingOf lX).size<=1
   ·rw[if_pos hp];exact wpS_pure ⟨O,sg,J,by omega⟩
   ·rw[if_neg hp];refine wpS_bind (yB J ka ?_ fun kJ Vs J3 l3 f3 =>?_)
    ·have alN:∀ (c:Prop) [Decidable c] (k n:Nat),k+1 < n->(if c then k - 1 else k)+1 < n:=fun c _ k n hk=>by split <;> omega
     exact alN _ _ _ (by omega)
    ·exact wpS_pure ⟨O,Vs,J3,by omega,by omega⟩
  ·rintro⟨rfl,sg,J,b1,b2⟩;omega
  ·rintro⟨rfl,sg,J,b1⟩;obtain⟨X,rfl⟩:=List.length_eq_one_iff.mp b1;have eX:(arrOf lX).toList=X:=by have:=J.ar;simpa using this
   refine wpS_pure (h lX (jN.mpr J.perm) J.fail fun i j lK hj =>?_);have sX:=(J.so X bM).1;have sz:=J.size;have e1:(arrOf lX)[i]? = some (arrOf lX)[i]:=getElem?_pos _ i (by omega);have e2:(arrOf lX)[j]? = some (arrOf lX)[j]:=getElem?_pos _ j (by omega);rw[kR e1,kR e2];exact n5 sX lK (by rw[<- eX, <- fm];exact e1) (by rw[<- eX, <- fm];exact e2)
end
end TS
namespace L2
open PySem PySem.Spec PyProof.Rows
variable{vs:List Value}{ns:List Int}
section
variable {prog:Program}{w:World}{A:Around}{E:Value->Shared->Prop}{s:Shared}
theorem Vp{a:Addr}{n:Nat}{P:Fin->Shared->Prop}(ho:s.heap.get? a=some (seqObj "list" vs.toArray n))(hI:IntsAre vs ns)(h2:2<=vs.length)(hz:vs.length<=sizeLine)(q:∀ (out:Array Value) (lJ:List Int),IntsAre out.toList lJ->lJ.Perm ns->lJ.Pairwise (· <= ·)->P (.done (.ret .none)) { s with heap:=sortedHeap s.heap a vs out }) :
  wpAny (model prog w) A (Builtin.«list.sort» ⟨[.ref a], []⟩) P E s:=by
 have lt:a < s.heap.objs.size:=a9 ho;have zs:vs.toArray.size<=sizeLine:=by rw[aR];exact hz
 obtain⟨m,o1⟩:∃ m,(s.heap.update a (iS fun _ => #[])).get? a=some (seqObj "list" #[] m):=⟨_,get?_update_seq ho _⟩;have o2:(((s.heap.update a (iS fun _ => #[])).push (seqObj "tuple" vs.toArray 0)).push (seqObj "list" #[] 0)).get? a=some (seqObj "list" #[] m) :=
  aH _ (aH _ o1)
 rw[list_sort_plain];refine wpAny_bind (listItems_at ho rfl (wpAny_bind (listUpdate_at ho rfl ?_ (hsz:=zs))));refine wpAny_bind (seqEpoch_at (s := { s with heap:=s.heap.update a (iS fun _ => #[]) }) o1 rfl ?_);refine wpAny_bind (wpAny_newTuple (wpAny_bind (wpAny_newList (wpAny_holding ?_))));have big:¬ vs.toArray.size < 2:=by rw[aR];omega
 rw[if_neg big,if_neg big];have kk:keyKind' vs.toArray=pure oneType':=by
  match vs,h2,hI with
  | x :: y :: l,_,hI=>exact keyKind_ints hI
  | [_],h,_=>exact absurd (show 2<=1 from h) (by decide)
  | [],h,_=>exact absurd (show 2<=0 from h) (by decide)
 rw[kk];refine wpAny_bind (wpAny_pure (wpAny_bind (wpAny_mono (TS.Qm (a₀ := pairsOf vs) (st:=jv oneType' (vs.toArray.zip vs.toArray) #[] 7 none)
  (Q:=fun _ t=>(arrOf t).Perm (pairsOf vs)∧failedOf t=none∧SortedTo (arrOf t) (pairsOf vs).size) hI.intKeys ⟨Jx _,O,O,O⟩ (by rw[pairsOf_size];exact h2) fun t p1 p2 p3=>⟨p1,p2,p3⟩) (fun r t z =>?_) fun _ _ z=>z)))
 obtain⟨⟨⟩,t'⟩:=r;obtain⟨rfl,pm,fl,so⟩:=z;dsimp only;obtain⟨lJ,r1,r2,r3⟩:=sorted_out hI pm so;refine wpAny_bind (seqEpoch_at (s := { s with heap:=_ }) o2 rfl (wpAny_bind (listUpdate_at (s := { s with heap:=_ }) o2 rfl ?_ (hsz:=aQ _) (hsz2:=?_))))
 ·rw[fl];simp only[bne_self_eq_false,fJ,if_false];exact wpAny_pure (q _ lJ r1 r2 r3)
 ·rw[Array.size_map,pm.size_eq,pairsOf_size];exact vH hz
theorem Qs{l:Addr}{Q:Value->Shared->Prop}(hl:s.heap.IsList l vs.toArray)(hI:IntsAre vs ns)(h2:2<=vs.length)(hz:vs.length<=sizeLine)(q:∀ (out:Array Value) (lJ:List Int),IntsAre out.toList lJ->lJ.Perm ns->lJ.Pairwise (· <= ·)->Q (.ref (s.heap.objs.size+1)) { s with heap:=sortedAll s.heap vs out }) :
  wpAny (model prog w) A (call (.builtin "sorted") [.ref l]) Q E s:=by
 have e1:((s.heap.push (seqObj "list" #[] 0)).update s.heap.objs.size (iS (· ++ vs.toArray))).objs.size=s.heap.objs.size+1:=by rw[Heap.size_update,size_push']
 have e2:(((s.heap.push (seqObj "list" #[] 0)).update s.heap.objs.size (iS (· ++ vs.toArray))).push (seqObj "list" vs.toArray 0)).get? (s.heap.objs.size+1)=some (seqObj "list" vs.toArray 0):=by
  have:=bz ((s.heap.push (seqObj "list" #[] 0)).update s.heap.objs.size (iS (· ++ vs.toArray))) (o:=seqObj "list" vs.toArray 0) rfl;rw[e1]at this;exact this
 refine Calls.call_function_entry kind_sorted plain_sorted entry_sorted (args_sorted1 _) ?_;unfold Builtin.«sorted»;refine wpAny_bind (m:=checkCount "sorted" 1 1 _) (wpAny_pure (wpAny_bind (collect_list hl (wpAny_bind (wpAny_newList ?_)) hz)));show wpAny _ _ _ _ _ { s with heap:=((s.heap.push (seqObj "list" #[] 0)).update s.heap.objs.size (iS (· ++ vs.toArray))).push (seqObj "list" vs.toArray 0) };rw[e1];exact wpAny_bind (wpAny_holding (wpAny_call_entry slot_list_sort ⟨_,e2,O⟩ entry_list_sort (Vp e2 hI h2 hz fun out lJ a1 a2 a3=>⟨_,O,wpAny_pure ⟨_,O,q out lJ a1 a2 a3⟩⟩) (args_list_sort _)))
end
section
variable {X:Cx}
inductive zV(kK:ai)(xs:List V)(H:Hp)(Q:VK):Prop
 | mk:∀ (p:Addr) (ns:List Int),(xs = [.ref p])->(bw kK H p (ns.map V.int))->(∀ (lJ:List Int) (l:Addr),lJ.Perm ns->lJ.Pairwise (· <= ·)->H l=none->Q (.ref l) (aC H l (.lst (lJ.map V.int))))->zV kK xs H Q
theorem Pp:mQ X (.builtin "sorted") (fun xs H Q=>zV X.K xs H Q):=by
 intro ag s σ H xs us Q I r h;obtain⟨p,ns,rfl,hS,q⟩:=h;by_cases h64:ns.length < 64
 ·exact DZ ag s σ H [.ref p] us Q I r ⟨p,ns,O,hS,h64,q⟩
 obtain⟨u,rfl,rx⟩:=vals1 r;cases rx;obtain⟨its,r',pl,hz⟩:=I.list hS;have eO:=r'.length;rw[ay]at eO hz;refine Qs pl.isList (wR r') (by omega) (by omega) fun out lJ a1 a2 a3 =>?_;obtain⟨e,he⟩:=sortedAll_at s.heap its out;have Fw:lJ.length=ns.length:=a2.length_eq;exact⟨.ref (s.heap.objs.size+1),_,I.laid (t':=s.toks) (fun b o e'=>sortedAll_old e') (nu _) (show eV X.prog X.w _ (sortedAll s.heap its out) _ (.lst (lJ.map V.int)) from ⟨by rw[ay,Fw];exact hz,out.toList,e,xI a1,by rw[he]⟩),O,q lJ _ a2 a3 (I.bO.fresh (nu _))⟩
end
end L2
namespace Sw
open PySem L2
variable{ms ts:List Tm}{n l i:Nat}{zs ls:List Nat}{b L M CB dx:Addr}{H H' H1 H2:Hp}{kvs:List (Key × V)}{t:Tm}{v:V}{P:Program}{w:World}{u o:HO}{x:Str}{room:Int}
def lS(ms:List Tm)(k:Nat):Bool:=match ms[k]? with | some m => !decide (kX m∈(ms.take k).map kX) | none=>false
def dQ(ms:List Tm)(n:Nat):List Nat:=(aI n).filter (lS ms)
theorem p6(ms:List Tm)(n:Nat):dQ ms (n+1)=dQ ms n ++ (if lS ms n then [n] else []):=by
 unfold dQ;rw[eM,uR];congr 1;cases h:lS ms n <;> simp[h]
theorem rQ(ms:List Tm)(n:Nat):(dQ ms n).length<=n:=by
 have:=ra (lS ms) (aI n)
 rwa [bA]at this
theorem LK{k:Nat}(h:k∈dQ ms n):k < n:=dH.mp (jF.mp h).1
theorem oa{m:Tm}(h:ms[n]? = some m):lS ms n=false↔∃ i,i < n∧ms[i]? = some m:=by
 unfold lS;rw[h];show (!decide (kX m∈(ms.take n).map kX))=false↔_;rw[Bool.not_eq_false',decide_eq_true_iff];constructor
 ·intro z;obtain⟨m',Iu,e⟩:=eD.mp z;have e:=EG e;subst e;obtain⟨i,hi⟩:=q8.mp Iu;rw[Eh]at hi;split at hi
  ·exact⟨i,by assumption,hi⟩
  ·cases hi
 ·rintro⟨i,hi,e⟩;refine eD.mpr ⟨m,q8.mpr ⟨i,?_⟩,O⟩;rw[Eh,if_pos hi];exact e
abbrev Row:=Nat × List Nat
def jW(ps:List Row)(l:Nat):Option (List Nat):=(ps.find? fun p=>decide (p.1=l)).map (·.2)
def rq(ps:List Row)(l:Nat)(zs:List Nat):List Row:=if (ps.any fun p=>decide (p.1=l))=true then ps.map (fun p=>if p.1=l then (p.1,zs) else p) else ps ++ [(l,zs)]
def qA(ps:List Row)(l k:Nat):List Row:=rq ps l ((jW ps l).getD [] ++ [k])
def jU(ls fs:List Nat):List Row:=fs.foldl (fun ps k=>qA ps (ls.getD k 0) k) []
theorem Cr(ls fs:List Nat)(k:Nat):jU ls (fs ++ [k])=qA (jU ls fs) (ls.getD k 0) k:=by unfold jU;rw[pN];rfl
theorem VG(ps:List Row)(l:Nat)(zs:List Nat)(h:(ps.map (·.1)).Nodup):((rq ps l zs).map (·.1)).Nodup:=by
 unfold rq;split
 ·have e:(ps.map (fun p=>if p.1=l then (p.1,zs) else p)).map (·.1)=ps.map (·.1):=by
   rw[hU];refine gW fun p _ =>?_;show (if p.1=l then (p.1,zs) else p).1=p.1;split <;> rfl
  rw[e];exact h
 ·rename_i q
  rw[cR,vJ];refine⟨h,by simp,?_⟩;intro a ha b hb e;simp only[aS,fS,a8]at hb;obtain⟨p,hp,rfl⟩:=eD.mp ha;exact q (List.any_eq_true.mpr ⟨p,hp,decide_eq_true (e.trans hb)⟩)
theorem Ct(ls:List Nat):∀ fs:List Nat,((jU ls fs).map (·.1)).Nodup:=by
 have key:∀ (fs:List Nat) (ps:List Row),(ps.map (·.1)).Nodup->((fs.foldl (fun ps k=>qA ps (ls.getD k 0) k) ps).map (·.1)).Nodup:=by
  intro fs
  induction fs with
  | nil=>intro ps h;exact h
  | cons k fs ih=>intro ps h;exact ih _ (VG _ _ _ h)
 exact fun fs=>key fs [] uc
theorem YB(ps:List Row)(l:Nat)(zs:List Nat):(rq ps l zs).length<=ps.length+1:=by
 unfold rq;split
 ·rw[ay];omega
 ·rw[aO];exact aw _
theorem Yx(ls:List Nat):∀ fs:List Nat,(jU ls fs).length<=fs.length:=by
 have key:∀ (fs:List Nat) (ps:List Row),(fs.foldl (fun ps k=>qA ps (ls.getD k 0) k) ps).length<=ps.length+fs.length:=by
  intro fs
  induction fs with
  | nil=>intro ps;exact aw _
  | cons k fs ih =>
   intro ps;have h1:=ih (qA ps (ls.getD k 0) k);have h2:(qA ps (ls.getD k 0) k).length<=ps.length+1:=YB _ _ _;rw[cg];exact bp h1 (by omega)
 intro fs;have:=key fs []
 rwa [jG,jB]at this
theorem To{ps:List Row}(h:∀ p∈ps,p.2.length<=n)(hz:zs.length<=n):∀ p∈rq ps l zs,p.2.length<=n:=by
 intro p hp;unfold rq at hp;split at hp
 ·obtain⟨q,hq,rfl⟩:=eD.mp hp;split
  ·exact hz
  ·exact h q hq
 ·rcases cI.mp hp with hp | hp
  ·exact h p hp
  ·rw[a8.mp hp];exact hz
theorem Ln{ps:List Row}(h:jW ps l=some zs):(l,zs)∈ps:=by
 unfold jW at h;obtain⟨p,hp,rfl⟩:=b8.mp h;have e0:(fun p:Row=>decide (p.1=l)) p=true:=List.find?_some (p:=fun p:Row=>decide (p.1=l)) hp;have e:=of_decide_eq_true e0;have:=nQ hp;rw[<- e];exact this
theorem Ux{ps:List Row}{k:Nat}(h:∀ p∈ps,p.2.length<=n):∀ p∈qA ps l k,p.2.length<=n+1:=by
 refine To (fun p hp=>vH (h p hp)) ?_;rw[aO];cases e:jW ps l with
 | none=>show 0+1<=n+1;omega
 | some zs=>have:=h _ (Ln e);show zs.length+1<=n+1;exact xp this
theorem Tj(ls:List Nat):∀ fs:List Nat,∀ p∈jU ls fs,p.2.length<=fs.length:=by
 have key:∀ (fs:List Nat) (ps:List Row) (n:Nat),(∀ p∈ps,p.2.length<=n)->∀ p∈fs.foldl (fun ps k=>qA ps (ls.getD k 0) k) ps,p.2.length<=n+fs.length:=by
  intro fs
  induction fs with
  | nil=>intro ps n h;exact h
  | cons k fs ih =>
   intro ps n h p hp;have:=ih (qA ps (ls.getD k 0) k) (n+1) (Ux h) p hp;rw[cg];omega
 intro fs p hp;have:=key fs [] 0 (fun p hp=>by cases hp) p hp;omega
def aiH(H:Hp)(kv:Key × V)(p:Row):Prop:=kv.1 = .inl ((p.1:Nat):Int)∧∃ l,kv.2 = .ref l∧H l=some (.lst (p.2.map nV))
abbrev lM(H:Hp):List (Key × V)->List Row->Prop:=Paired (aiH H)
theorem Ov{a b:Nat}:(je ((a:Nat):Int):Key)=je ((b:Nat):Int)↔a=b:=by
 constructor
 ·intro h;have:=y8 h;omega
 ·intro h;rw[h]
theorem lM.look{ps:List Row}(r:lM H kvs ps)(l:Nat):(cP kvs (.inl (l:Int))=none∧jW ps l=none)∨∃ a zs,cP kvs (.inl (l:Int))=some (.ref a)∧jW ps l=some zs∧H a=some (.lst (zs.map nV)):=by
 induction r with
 | nil=>exact .inl ⟨O,O⟩
 | @cons kv p kvs ps h t ih =>
  obtain⟨h1,a,h2,h3⟩:=h;by_cases e:p.1=l
  ·refine .inr ⟨a,p.2,?_,?_,h3⟩
   ·rw[ip (by rw[h1,e]),h2]
   ·unfold jW;rw[fE,decide_eq_true e];rfl
  ·have n1:¬ kv.1 = .inl (l:Int):=fun z=>e (Ov.mp (h1.symm.trans z));have n2:jW (p :: ps) l=jW ps l:=by unfold jW;rw[fE,decide_eq_false e]
   rw[iq n1,n2];exact ih
theorem lM.any{ps:List Row}(r:lM H kvs ps)(l:Nat):(kvs.any fun kv=>decide (kv.1 = .inl (l:Int)))=ps.any fun p=>decide (p.1=l):=by
 induction r with
 | nil=>rfl
 | @cons kv p kvs ps h t ih =>
  rw[gE,gE,ih];congr 1;rw[h.1];exact decide_eq_decide.mpr Ov
theorem lM.keep{ps:List Row}(r:lM H kvs ps)(h:∀ l xs,(∃ kv∈kvs,kv.2 = .ref l)->H l=some (.lst xs)->H' l=some (.lst xs)):lM H' kvs ps:=by
 induction r with
 | nil=>exact .nil
 | @cons kv p kvs ps q t ih =>
  refine .cons ?_ (ih fun l xs ⟨kv,hm,e⟩=>h l xs ⟨kv,aX _ hm,e⟩);obtain⟨q1,a,q2,q3⟩:=q;exact⟨q1,a,q2,h a _ ⟨kv,bM,q2⟩ q3⟩
theorem lM.same{ps:List Row}(r:lM H kvs ps)(sm:a6 H H'):lM H' kvs ps:=r.keep fun l xs _ e=>sm _ _ e
theorem lM.grow{ps:List Row}{a:Nat}(r:lM H kvs ps)(nd:(kvs.map (·.2)).Nodup)(nk:(ps.map (·.1)).Nodup)(hv:cP kvs (.inl (l:Int))=some (.ref a)) :
  lM (aC H a (.lst (zs.map nV))) kvs (rq ps l zs):=by
 have Ug:(ps.any fun p=>decide (p.1=l))=true:=by rw[<- r.any l,mD,hv];rfl
 unfold rq;rw[if_pos Ug];clear Ug
 induction r with
 | nil=>exact .nil
 | @cons kv p kvs ps h t ih =>
  rw[aS]at nd nk;rw[gg]at nd nk;rw[aS];by_cases e:p.1=l
  ·have ek:kv.1 = .inl (l:Int):=by rw[h.1,e]
   rw[ip ek]at hv;have e2:kv.2 = .ref a:=aP hv;rw[if_pos e];refine .cons ⟨h.1,a,e2,ak⟩ ?_;have em:ps.map (fun p=>if p.1=l then (p.1,zs) else p)=ps:=by
    rw[show ps=ps.map id from (FP ps).symm,hU];refine gW fun q hq =>?_;show (if q.1=l then (q.1,zs) else q)=q;rw[if_neg (fun z=>nk.1 (eD.mpr ⟨q,hq,by rw[z,e]⟩))]
   rw[em];refine lM.keep t fun b xs ⟨zC,hm,e3⟩ eb =>?_;rw[av (fun z=>nd.1 (eD.mpr ⟨zC,hm,by rw[e3,z,e2]⟩))];exact eb
  ·have ek:¬ kv.1 = .inl (l:Int):=fun z=>e (Ov.mp (h.1.symm.trans z));rw[iq ek]at hv;rw[if_neg e];refine .cons ?_ (ih nd.2 nk.2 hv);obtain⟨h1,b,h2,h3⟩:=h;refine⟨h1,b,h2,?_⟩;have hm:(.ref a:V)∈kvs.map (·.2):=by
    obtain⟨zC,hf,e4⟩:=b8.mp hv;exact eD.mpr ⟨zC,nQ hf,e4⟩
   rw[av (fun z=>nd.1 (by rw[h2,z];exact hm))];exact h3
def Jp(ts:List Tm)(ls:List Nat):Prop := ∀ (i j:Nat) (t u:Tm),ts[i]? = some t->ts[j]? = some u->mk ls t=mk ls u->ls[i]? = ls[j]?
theorem ac8{es:List (Nat × Nat)}(ha:EF ts)(h:Ab ts es ls):Jp ts ls:=fun i j t u hi hj e=>by
 obtain⟨c1,c2,c3,c4⟩:=h;have li:=(aj.mp hi).1;have lj:=(aj.mp hj).1;have b1:∀ x as,t = .of x as->∀ a∈as,a < ls.length:=fun x as q a hm=>by subst q;have:=ha i x as hi a hm;omega
 have b2:∀ x as,u = .of x as->∀ a∈as,a < ls.length:=fun x as q a hm=>by subst q;have:=ha j x as hj a hm;omega
 refine c4 i j (by omega) (by omega) (Hw hi hj (xM c3 b1) ?_);rw[e];exact xM c3 b2
theorem ES(h:ts[i]? = some t):(ts.map (mk ls))[i]? = some (mk ls t):=by rw[aJ,h];rfl
def yl(ts:List Tm)(ls:List Nat)(n:Nat)(kvs:List (NK × V)):Prop :=
 (∀ (i:Nat) t,i < n->ts[i]? = some t->cP kvs (dJ (mk ls t))=some (nV (ls.getD i 0)))∧(∀ k v,cP kvs k=some v->∃ i t,i < n∧ts[i]? = some t∧k=dJ (mk ls t))∧kvs.length=(dQ (ts.map (mk ls)) n).length
theorem YC{κ : Type}[DecidableEq κ]{kvs:List (κ × V)}{k : κ}(y:V)(h:cP kvs k=some v):(gm kvs k y).length=kvs.length:=by
 unfold gm;rw[mD,h];show (if true=true then _ else _:List _).length=_;rw[if_pos rfl,ay]
theorem Yi{kvs:List (NK × V)}(vg:Jp ts ls)(hl:ls.length=ts.length)(h:yl ts ls n kvs)(ht:ts[n]? = some t):yl ts ls (n+1) (gm kvs (dJ (mk ls t)) (nV (ls.getD n 0))):=by
 obtain⟨h1,h2,h3⟩:=h;have hn:=(aj.mp ht).1;refine⟨fun i u hi hu =>?_,fun k v hv =>?_,?_⟩
 ·rw[mC];by_cases e:dJ (mk ls u)=dJ (mk ls t)
  ·rw[if_pos e];have e2:=vg i n u t hu ht (qj e);rw[aU,aU,e2]
  ·rw[if_neg e];refine h1 i u ?_ hu;rcases oE.mp hi with q | q
   ·exact q
   ·subst q;rw[ht]at hu;cases hu;exact absurd rfl e
 ·rw[mC]at hv;by_cases e:k=dJ (mk ls t)
  ·exact⟨n,t,mM n,ht,e⟩
  ·rw[if_neg e]at hv;obtain⟨i,u,hi,hu,ek⟩:=h2 k v hv;exact⟨i,u,jR hi,hu,ek⟩
 ·rw[p6,aO];cases hv:cP kvs (dJ (mk ls t)) with
  | some v =>
   obtain⟨i,u,hi,hu,ek⟩:=h2 _ _ hv;have hf:lS (ts.map (mk ls)) n=false:=(oa (ES ht)).mpr ⟨i,hi,by rw[ES hu,qj ek]⟩;rw[YC _ hv,hf,h3];rfl
  | none =>
   have hf:lS (ts.map (mk ls)) n=true:=by
    cases e:lS (ts.map (mk ls)) n with
    | true=>rfl
    | false =>
     obtain⟨i,hi,q⟩:=(oa (ES ht)).mp e;rw[aJ]at q;cases e2:ts[i]? with
     | none=>rw[e2]at q;cases q
     | some u =>
      rw[e2]at q;have q2:mk ls u=mk ls t:=aP q;have:=h1 i u hi e2;rw[q2,hv]at this;cases this
   rw[Au _ hv,hf,aO,h3];rfl
theorem DN.qi{S a:Addr}{kvs:List (NK × V)}(d:DN P w H S kvs)(ha:H a=some u)(h1:∀ φ,u ≠ .ext φ)(h2:∀ ys,u ≠ .tup ys):DN P w (aC H a o) S kvs :=
 d.keep (fun φ e=>by rw[av (fun z=>by rw[z,ha]at e;exact h1 φ (aP e))];exact e) (fun b ys e=>by rw[av (fun z=>by rw[z,ha]at e;exact h2 ys (aP e))];exact e)
theorem lM.qi{a:Addr}{ps:List Row}(r:lM H kvs ps)(ha:H a=some u)(h1:∀ xs,u ≠ .lst xs):lM (aC H a o) kvs ps :=
 r.keep fun l xs _ e=>by rw[av (fun z=>by rw[z,ha]at e;exact h1 xs (aP e))];exact e
def xm(ts:List Tm)(ls:List Nat)(n:Nat)(kvs:List (NK × V)):Prop :=
 (∀ (i:Nat) t,i < n->ts[i]? = some t->cP kvs (dJ (mk ls t))≠none)∧(∀ k v,cP kvs k=some v->∃ i t,i < n∧ts[i]? = some t∧k=dJ (mk ls t))∧kvs.length<=n
theorem Yp(ts:List Tm)(ls:List Nat):xm ts ls 0 []:=⟨fun i t hi=>absurd hi (gf _),(fun k v e=>by rw[F1]at e;cases e),aw _⟩
theorem Yq{kvs:List (NK × V)}(h:xm ts ls n kvs)(ht:ts[n]? = some t) :
  (cP kvs (dJ (mk ls t))=none∧lS (ts.map (mk ls)) n=true)∨((cP kvs (dJ (mk ls t))).isSome=true∧lS (ts.map (mk ls)) n=false):=by
 obtain⟨h1,h2,_⟩:=h;cases hv:cP kvs (dJ (mk ls t)) with
 | some v =>
  obtain⟨i,u,hi,hu,ek⟩:=h2 _ _ hv;exact .inr ⟨O,(oa (ES ht)).mpr ⟨i,hi,by rw[ES hu,qj ek]⟩⟩
 | none =>
  refine .inl ⟨O,?_⟩;cases e:lS (ts.map (mk ls)) n with
  | true=>rfl
  | false =>
   obtain⟨i,hi,q⟩:=(oa (ES ht)).mp e;rw[aJ]at q;cases e2:ts[i]? with
   | none=>rw[e2]at q;cases q
   | some u =>
    rw[e2]at q;have q2:mk ls u=mk ls t:=aP q;have:=h1 i u hi e2;rw[q2]at this;exact absurd hv this
theorem Yo{kvs:List (NK × V)}(y:V)(h:xm ts ls n kvs)(ht:ts[n]? = some t):xm ts ls (n+1) (gm kvs (dJ (mk ls t)) y):=by
 obtain⟨h1,h2,h3⟩:=h;refine⟨fun i u hi hu =>?_,fun k v hv =>?_,?_⟩
 ·rw[mC];split
  ·exact fun z=>nomatch z
  ·rename_i e
   refine h1 i u ?_ hu;rcases oE.mp hi with q | q
   ·exact q
   ·subst q;rw[ht]at hu;cases hu;exact absurd rfl e
 ·rw[mC]at hv;by_cases e:k=dJ (mk ls t)
  ·exact⟨n,t,mM n,ht,e⟩
  ·rw[if_neg e]at hv;obtain⟨i,u,hi,hu,ek⟩:=h2 k v hv;exact⟨i,u,jR hi,hu,ek⟩
 ·have:=nc kvs (dJ (mk ls t)) y;omega
theorem Vt{kvs:List (NK × V)}(h:xm ts ls n kvs)(ht:ts[n]? = some t)(hs:(cP kvs (dJ (mk ls t))).isSome=true):xm ts ls (n+1) kvs:=by
 obtain⟨h1,h2,h3⟩:=h;refine⟨fun i u hi hu =>?_,fun k v hv =>?_,by omega⟩
 ·rcases oE.mp hi with q | q
  ·exact h1 i u q hu
  ·subst q;rw[ht]at hu;cases hu;intro z;rw[z]at hs;cases hs
 ·obtain⟨i,u,hi,hu,ek⟩:=h2 k v hv;exact⟨i,u,jR hi,hu,ek⟩
def Own(H:Hp)(kvs:List (Key × V)):Prop:=(kvs.map (·.2)).Nodup∧∀ kv∈kvs,∃ l,kv.2 = .ref l∧H l=none
theorem Own.fresh(h:Own H kvs){a:Addr}(hv:(.ref a:V)∈kvs.map (·.2)):H a=none:=by
 obtain⟨kv,hm,e⟩:=eD.mp hv;obtain⟨l,e2,hl⟩:=h.2 kv hm;rw[e]at e2;cases e2;exact hl
theorem ach{κ : Type}[DecidableEq κ]{kvs:List (κ × V)}{k : κ}(h:cP kvs k=some v):v∈kvs.map (·.2):=by
 obtain⟨zC,hf,e4⟩:=b8.mp h;exact eD.mpr ⟨zC,nQ hf,e4⟩
theorem Own.snoc{ps:List Row}{N:Addr}{k:Key}(h:Own H kvs)(r:lM H1 kvs ps)(hN:H1 N=none)(hN0:H N=none):Own H (kvs ++ [(k,.ref N)]):=by
 refine⟨?_,fun kv hm =>?_⟩
 ·rw[cR,vJ];refine⟨h.1,by simp,?_⟩;intro x hx y hy e;simp only[aS,fS,a8]at hy;subst hy;subst e;have:∀ {kvs:List (Key × V)}{ps:List Row},lM H1 kvs ps->(.ref N:V)∈kvs.map (·.2)->False:=by
   intro kvs ps r
   induction r with
   | nil=>intro hm;cases hm
   | @cons kv p kvs ps q t ih =>
    intro hm;rw[aS]at hm;rcases bC.mp hm with e | hm
    ·obtain⟨_,l,e2,hl⟩:=q;rw[<- e]at e2;cases e2;rw[hN]at hl;cases hl
    ·exact ih hm
  exact this r hx
 ·rcases cI.mp hm with hm | hm
  ·exact h.2 kv hm
  ·rw[a8.mp hm];exact⟨N,O,hN0⟩
theorem acp{y:Str}(h:x.cps.toList=y.cps.toList):x=y:=by
 cases x;cases y;simp only[Str.mk.injEq];exact xD.mp h
theorem xO(x:Str)(lo hi:Option Int):(gA x lo hi).cps.toList=(x.cps.toList.drop (HT.jx x.length 0 lo)).take (HT.jx x.length x.length hi - HT.jx x.length 0 lo):=by
 have hx:x.cps.toList.length=x.length:=by simp[Ja]
 obtain⟨h1,h2,h3⟩:=Ce lo hi x.length;have ha:HT.jx x.length 0 lo<=x.length:=HT.NF _ _ (aQ _) _;have hb:HT.jx x.length x.length hi<=x.length:=HT.NF _ _ (aw _) _;have e:uU lo hi 1 x.length=sliceRange ((HT.jx x.length 0 lo:Nat):Int) ((HT.jx x.length x.length hi:Nat):Int) 1:=by
  rw[<- h1, <- h2];unfold uU sliceBounds;rfl
 have e2:((sliceRange ((HT.jx x.length 0 lo:Nat):Int) ((HT.jx x.length x.length hi:Nat):Int) 1).filterMap (x.cps[·]?))=(x.cps.toList.drop (HT.jx x.length 0 lo)).take (HT.jx x.length x.length hi - HT.jx x.length 0 lo):=by
  rw[sliceRange_one,pick_run]
 unfold gA;rw[e];split
 ·rename_i hc
  have hl:(sliceRange ((HT.jx x.length 0 lo:Nat):Int) ((HT.jx x.length x.length hi:Nat):Int) 1).length=x.length:=by simpa using hc
  rw[sliceRange_one,ay,bA]at hl;have ea:HT.jx x.length 0 lo=0∨x.length=0:=by omega
  rcases ea with ea | ea
  ·rw[ea,xq]at hl ⊢;rw[KS,hl, <- hx,du]
  ·have:x.cps.toList = []:=gN.mp (hx.trans ea);rw[this];simp
 ·show (_:List Nat).toArray.toList=_;rw[e2]
theorem Rw(x:Str):x.length=x.cps.toList.length:=by simp[Ja]
inductive T where
 | num (n:Int)
 | name (w:Str)
 | any (w:Str)
 | of (w:Str) (ts:List T)
def P4(w:Str):Prop:=1<=w.length∧w.length<=8∧∀ c∈w.cps.toList,97<=c∧c<=122
mutual
def T.parts:T->Nat
 | .num _=>1
 | .name _=>1
 | .any _=>1
 | .of _ ts=>1+T.fw ts
def T.fw:List T->Nat
 | []=>0
 | t :: ts=>t.parts+T.fw ts
end
mutual
def T.depth:T->Nat
 | .num _=>1
 | .name _=>1
 | .any _=>1
 | .of _ ts=>1+T.fM ts
def T.fM:List T->Nat
 | []=>0
 | t :: ts=>max t.depth (T.fM ts)
end
theorem oO:∀ ts:List T,T.fw ts=(ts.map T.parts).sum
 | []=>rfl
 | t :: ts=>by rw[T.fw,oO ts];rfl
theorem o9:∀ {ts:List T}{t:T},t∈ts->t.depth<=T.fM ts
 | t' :: ts,t,h=>by
  rw[T.fM];rcases bC.mp h with rfl | h
  ·exact Nat.le_max_left _ _
  ·exact bp (o9 h) (Nat.le_max_right _ _)
theorem uO:∀ t:T,1<=t.depth
 | .num _=>by rw[T.depth];exact aw _
 | .name _=>by rw[T.depth];exact aw _
 | .any _=>by rw[T.depth];exact aw _
 | .of _ ts=>by rw[T.depth];omega
mutual
def dj(H:Hp):T->V->Prop
 | .num n,v=>∃ a,v = .ref a∧H a=some (.tup [.str "num",.int n])
 | .name w,v=>∃ a,v = .ref a∧H a=some (.tup [.str "name",.str w])
 | .any w,v=>∃ a,v = .ref a∧H a=some (.tup [.str "any",.str w])
 | .of w ts,v=>∃ a b vs,v = .ref a∧H a=some (.tup [.str "of",.str w,.ref b])∧H b=some (.tup vs)∧j1 H ts vs
def j1(H:Hp):List T->List V->Prop
 | [],vs=>vs = []
 | t :: ts,vs=>∃ v r,vs=v :: r∧dj H t v∧j1 H ts r
end
mutual
theorem iZ{H H':Hp}(k:∀ a xs,H a=some (.tup xs)->H' a=some (.tup xs)):∀ {t:T}{v:V},dj H t v->dj H' t v
 | .num n,v,h=>by
  rw[dj]at h ⊢;obtain⟨a,e,h⟩:=h;exact⟨a,e,k _ _ h⟩
 | .name n,v,h=>by
  rw[dj]at h ⊢;obtain⟨a,e,h⟩:=h;exact⟨a,e,k _ _ h⟩
 | .any n,v,h=>by
  rw[dj]at h ⊢;obtain⟨a,e,h⟩:=h;exact⟨a,e,k _ _ h⟩
 | .of w ts,v,h=>by
  rw[dj]at h ⊢;obtain⟨a,b,vs,e,h1,h2,h3⟩:=h;exact⟨a,b,vs,e,k _ _ h1,k _ _ h2,MU k h3⟩
theorem MU{H H':Hp}(k:∀ a xs,H a=some (.tup xs)->H' a=some (.tup xs)):∀ {ts:List T}{vs:List V},j1 H ts vs->j1 H' ts vs
 | [],vs,h=>by rw[j1]at h ⊢;exact h
 | t :: ts,vs,h=>by
  rw[j1]at h ⊢;obtain⟨v,r,e,h1,h2⟩:=h;exact⟨v,r,e,iZ k h1,MU k h2⟩
end
theorem vX(s:a6 H H'){t:T}(h:dj H t v):dj H' t v:=iZ (fun a xs e=>s _ _ e) h
def aeC:HO->Prop
 | .tup _=>False
 | _=>True
theorem lF{p:Addr}{o':HO}(hp:H p=some o)(hn:aeC o):∀ a xs,H a=some (.tup xs)->aC H p o' a=some (.tup xs):=fun a xs e=>by
 have:a≠p:=fun z=>by
  rw[z,hp]at e;cases e;exact hn
 rw[av this];exact e
theorem sO{H:Hp}:∀ {ts:List T}{vs:List V},j1 H ts vs->ts.length=vs.length
 | [],vs,h=>by rw[j1]at h;subst h;rfl
 | t :: ts,vs,h=>by
  rw[j1]at h;obtain⟨v,r,rfl,_,h2⟩:=h;rw[cg,cg,sO h2]
theorem wk{H:Hp}:∀ {ts:List T}{vs:List V}{i:Nat}{v:V},j1 H ts vs->vs[i]? = some v->∃ t,ts[i]? = some t∧dj H t v
 | [],vs,i,v,h,e=>by rw[j1]at h;subst h;simp at e
 | t :: ts,vs,i,v,h,e=>by
  rw[j1]at h;obtain⟨v',r,rfl,h1,h2⟩:=h;cases i with
  | zero=>simp at e;subst e;exact⟨t,O,h1⟩
  | succ i=>simpa using wk (i:=i) h2 (by simpa using e)
def fB:List Tm->Tm->Option Nat
 | [],_=>none
 | u :: ts,t=>if kX u=kX t then some 0 else (fB ts t).map (· + 1)
theorem wz:∀ {ts:List Tm}{t:Tm}{i:Nat},fB ts t=some i->ts[i]? = some t
 | [],_,_,h=>by rw[fB]at h;cases h
 | u :: ts,t,i,h=>by
  rw[fB]at h;by_cases e:kX u=kX t
  ·rw[if_pos e]at h;cases h;rw[EG e];rfl
  ·rw[if_neg e]at h;cases q:fB ts t with
   | none=>rw[q]at h;cases h
   | some j=>rw[q]at h;cases h;simpa using wz q
theorem wy:∀ {ts:List Tm}{t:Tm},fB ts t=none↔t ∉ ts
 | [],t=>by rw[fB];simp
 | u :: ts,t=>by
  rw[fB];by_cases e:kX u=kX t
  ·rw[if_pos e,EG e];simp
  ·rw[if_neg e,Option.map_eq_none_iff,wy,bC,not_or];exact⟨fun h=>⟨fun z=>e (by rw[z]),h⟩,fun h=>h.2⟩
theorem Rc:∀ (ts:List Tm) (u t:Tm),fB (ts ++ [u]) t=match fB ts t with
  | some i=>some i
  | none=>if kX u=kX t then some ts.length else none
 | [],u,t=>by rw[gh,fB,fB,fB];rfl
 | x :: ts,u,t=>by
  rw[eS,fB,fB,Rc ts u t];by_cases e:kX x=kX t
  ·rw[if_pos e,if_pos e]
  ·rw[if_neg e,if_neg e];cases fB ts t with
   | some j=>rfl
   | none =>
    by_cases e2:kX u=kX t
    ·simp[e2]
    ·simp[e2]
theorem xU:∀ {ts:List Tm}{t:Tm}{i:Nat},fB ts t=some i->∀ j,j < i->ts[j]? ≠ some t
 | [],_,_,h=>by rw[fB]at h;cases h
 | u :: ts,t,i,h=>by
  rw[fB]at h;by_cases e:kX u=kX t
  ·rw[if_pos e]at h;cases h;intro j hj;omega
  ·rw[if_neg e]at h;cases q:fB ts t with
   | none=>rw[q]at h;cases h
   | some k =>
    rw[q]at h;cases h;intro j hj;cases j with
    | zero=>simp;exact fun z=>e (by rw[z])
    | succ j=>simpa using xU q j (Nat.lt_of_succ_lt_succ hj)
theorem aem(h:ts[i]? = some t)(hf:∀ j,j < i->ts[j]? ≠ some t):fB ts t=some i:=by
 cases q:fB ts t with
 | none=>exact absurd (aN h) (wy.mp q)
 | some k =>
  have h1:=xU q;have h2:=wz q;rcases Nat.lt_trichotomy i k with z | z | z
  ·exact absurd h (h1 i z)
  ·rw[z]
  ·exact absurd h2 (hf k z)
def mJ(ts:List Tm)(t:Tm):List Tm × Nat:=match fB ts t with
 | some i=>(ts,i)
 | none=>(ts ++ [t],ts.length)
theorem E1(h:fB ts t=some i):mJ ts t=(ts,i):=by unfold mJ;rw[h]
theorem E2(h:fB ts t=none):mJ ts t=(ts ++ [t],ts.length):=by unfold mJ;rw[h]
theorem wc(ts:List Tm)(t:Tm):ts <+: (mJ ts t).1:=by
 cases h:fB ts t with
 | some i=>rw[E1 h];exact xu _
 | none=>rw[E2 h];exact List.prefix_append _ _
mutual
def gZ(bf:Str->Nat):List Tm->T->List Tm × Nat
 | ts,.any w=>(ts,bf w)
 | ts,.num n=>mJ ts (.num n)
 | ts,.name w=>mJ ts (.name w)
 | ts,.of w as=>mJ (dF bf ts as).1 (.of w (dF bf ts as).2)
def dF(bf:Str->Nat):List Tm->List T->List Tm × List Nat
 | ts, []=>(ts, [])
 | ts,t :: as=>((dF bf (gZ bf ts t).1 as).1,(gZ bf ts t).2 :: (dF bf (gZ bf ts t).1 as).2)
end
theorem C6(bf:Str->Nat):∀ (as:List T) (ts:List Tm) (t:T),dF bf ts (as ++ [t])=((gZ bf (dF bf ts as).1 t).1,(dF bf ts as).2 ++ [(gZ bf (dF bf ts as).1 t).2])
 | [],ts,t=>by rw[gh,dF,dF,dF];rfl
 | a :: as,ts,t=>by rw[eS,dF,dF,C6 bf as];rfl
theorem NO(bf:Str->Nat):∀ (as:List T) (ts:List Tm),(dF bf ts as).2.length=as.length
 | [],ts=>by rw[dF];rfl
 | a :: as,ts=>by rw[dF];simp[NO bf as]
mutual
theorem acE(bf:Str->Nat):∀ (t:T) (ts:List Tm),ts <+: (gZ bf ts t).1
 | .any w,ts=>by rw[gZ];exact xu _
 | .num n,ts=>by rw[gZ];exact wc _ _
 | .name n,ts=>by rw[gZ];exact wc _ _
 | .of w as,ts=>by rw[gZ];exact(Gy bf as ts).trans (wc _ _)
theorem Gy(bf:Str->Nat):∀ (as:List T) (ts:List Tm),ts <+: (dF bf ts as).1
 | [],ts=>by rw[dF];exact xu _
 | a :: as,ts=>by rw[dF];exact(acE bf a ts).trans (Gy bf as _)
end
theorem NP(bf:Str->Nat):∀ (as bs:List T) (ts:List Tm),(dF bf ts (as ++ bs)).1=(dF bf (dF bf ts as).1 bs).1
 | [],bs,ts=>by rw[gh,dF]
 | a :: as,bs,ts=>by rw[eS,dF,dF];exact NP bf as bs _
theorem VF(bf:Str->Nat)(as:List T)(ts:List Tm)(i:Nat):(dF bf ts (as.take i)).1 <+: (dF bf ts as).1:=by
 conv=>rhs;rw[<- cV i as]
 rw[NP];exact Gy _ _ _
def kE(L M:Addr)(H H':Hp):Prop := ∀ c o,c≠L->c≠M->H c=some o->H' c=some o
theorem kE.refl(L M:Addr)(H:Hp):kE L M H H:=fun _ _ _ _ h=>h
theorem kE.trans(a:kE L M H H1)(b:kE L M H1 H2):kE L M H H2:=fun c o n m h=>b c o n m (a c o n m h)
theorem kE.same(a:kE L M H H1)(b:a6 H1 H2):kE L M H H2:=fun c o n m h=>b c o (a c o n m h)
theorem a6.ZS(b:a6 H H1):kE L M H H1:=fun c o n m h=>b c o h
def gk(P:Program)(w:World)(CB:Addr)(H:Hp)(b dx L M:Addr)(room:Int)(ts:List Tm):Prop :=
 H b=some (.ins CB dx [("room",.int room),("terms",.ref L),("places",.ref M)])∧(∃ us,H L=some (.lst us)∧kO H us ts) ∧
 ∃ kvs,DN P w H M kvs∧kvs.length=ts.length∧∀ t,cP kvs (dJ t)=(fB ts t).map nV
theorem gk.same(h:gk P w CB H b dx L M room ts)(sm:a6 H H'):gk P w CB H' b dx L M room ts:=by
 obtain⟨h1,⟨us,h2,h3⟩,kvs,h4,h5,h6⟩:=h;exact⟨sm _ _ h1,⟨us,sm _ _ h2,eN sm h3⟩,kvs,h4.same sm,h5,h6⟩
theorem gk.ne(h:gk P w CB H b dx L M room ts):L≠M∧b≠L∧b≠M:=by
 obtain⟨h1,⟨us,h2,h3⟩,kvs,h4,h5,h6⟩:=h;obtain⟨φ,e⟩:=h4.ext;exact⟨b9 h2 e nofun,b9 h1 h2 nofun,b9 h1 e nofun⟩
theorem gk.tup(h:gk P w CB H b dx L M room ts)(bt:kE L M H H'):∀ c ys,H c=some (.tup ys)->H' c=some (.tup ys):=by
 obtain⟨h1,⟨us,h2,h3⟩,kvs,h4,h5,h6⟩:=h;obtain⟨φ,e⟩:=h4.ext;exact fun c ys z=>bt c _ (b9 z h2 nofun) (b9 z e nofun) z
theorem gk.keep{R:Addr}{us:List V}(h:gk P w CB H b dx L M room ts)(hR:H R=some (.lst us))(hn:R≠L)(bt:eZ R H H'):gk P w CB H' b dx L M room ts:=by
 obtain⟨h1,⟨us,h2,h3⟩,kvs,h4,h5,h6⟩:=h;have ht:∀ c ys,H c=some (.tup ys)->H' c=some (.tup ys):=bt.tup hR;obtain⟨φ,e⟩:=h4.ext;exact⟨bt _ _ (b9 h1 hR nofun) h1,⟨us,bt _ _ (bR hn) h2,iK ht h3⟩,kvs,h4.keep (fun φ' z=>bt _ _ (b9 z hR nofun) z) ht,h5,h6⟩
mutual
def T.mV:T->List Str
 | .num _ => []
 | .name _ => []
 | .any w => [w]
 | .of _ ts=>T.jy ts
def T.jy:List T->List Str
 | [] => []
 | t :: ts=>t.mV ++ T.jy ts
end
theorem OF:∀ {ts:List T}{t:T}{w:Str},t∈ts->w∈t.mV->w∈T.jy ts
 | a :: ts,t,w,h,e=>by
  rw[T.jy];rcases bC.mp h with z | z
  ·subst z;exact fg _ e
  ·exact bI _ (OF z e)
def X4(H:Hp)(bv:V)(bf:Str->Nat)(l:List Str):Prop := ∀ w∈l,∃ D kvs,bv = .ref D∧H D=some (.dK kvs)∧cP kvs (.inr w)=some (nV (bf w))
theorem gk.bok{bv:V}{bf:Str->Nat}{l:List Str}(h:gk P w CB H b dx L M room ts)(bt:kE L M H H')(q:X4 H bv bf l):X4 H' bv bf l:=fun x hx=>by
 obtain⟨D,kvs,e,hD,hv⟩:=q x hx;obtain⟨h1,⟨us,h2,h3⟩,Oq,h4,h5,h6⟩:=h;obtain⟨φ,e4⟩:=h4.ext;exact⟨D,kvs,e,bt _ _ (b9 hD h2 nofun) (b9 hD e4 nofun) hD,hv⟩
theorem ah0{as:List Nat}{a:Addr}(h:H a=some (.tup [.str "of",.str x,.ref b]))(h2:H b=some (.tup (as.map nV))):ix H (.of x as) (.ref a):=⟨a,b,O,h,h2⟩
mutual
def T.vk:T->Prop
 | .num _=>True
 | .name _=>True
 | .any _=>True
 | .of _ ts=>ts.length<=900∧T.qf ts
def T.qf:List T->Prop
 | []=>True
 | t :: ts=>t.vk∧T.qf ts
end
theorem Lb:∀ {ts:List T},T.qf ts↔∀ t∈ts,t.vk
 | []=>by rw[T.qf];simp
 | t :: ts=>by rw[T.qf,Lb];simp
end Sw
namespace L2
open PySem PySem.Spec PyProof.Rows
end L2
namespace Sw
open PySem L2
section
variable {S:Type}
end
def JB(ts:List Tm)(ls:List Nat)(m:Tm):Option Nat:=(fB (ts.map (mk ls)) m).map fun i=>ls.getD i 0
section
variable {ts ts1:List Tm}{es:List (Nat × Nat)}{ls ls1:List Nat}
end
section
variable {ts:List Tm}{es:List (Nat × Nat)}{ls:List Nat}
end
abbrev Bd:=List (Str × Nat)
def look:Bd->Str->Option Nat
 | [],_=>none
 | p :: r,w=>if p.1=w then some p.2 else look r w
def Iq(lead:Nat)(w:Str)(b:Bd):List Bd:=match look b w with
 | some l=>if l=lead then [b] else []
 | none => [b ++ [(w,lead)]]
section
variable (ts:List Tm) (ls:List Nat) (hd:Nat->List Nat)
mutual
def ox:T->Nat->Bd->List Bd
 | .any w,lead,b=>Iq lead w b
 | .num n,lead,b=>if JB ts ls (.num n)=some lead then [b] else []
 | .name w,lead,b=>if JB ts ls (.name w)=some lead then [b] else []
 | .of x ps,lead,b=>(hd lead).flatMap fun (k:Nat)=>match ts[k]? with
  | some (TM.of y as)=>if y=x∧as.length=ps.length then pD ps as [b] else []
  | _ => []
def pD:List T->List Nat->List Bd->List Bd
 | [],_,ws=>ws
 | p :: ps,as,ws=>pD ps as.tail (ws.flatMap fun b=>ox p (ls.getD (as.headD 0) 0) b)
end
end
structure Hds(ts:List Tm)(ls:List Nat)(hd:Nat->List Nat):Prop where
 at_:∀ lead,∀ k∈hd lead,∃ u,ts[k]? = some u∧ls[k]? = some lead
 all:∀ (i:Nat) u lead,ts[i]? = some u->ls[i]? = some lead->∃ k∈hd lead,∃ u',ts[k]? = some u'∧mk ls u'=mk ls u
 one:∀ lead,(hd lead).Pairwise fun k k'=>∀ u u',ts[k]? = some u->ts[k']? = some u'->mk ls u≠mk ls u'
 vg:∀ (i j:Nat) t u,ts[i]? = some t->ts[j]? = some u->mk ls t=mk ls u->ls[i]? = ls[j]?
section
variable {ts:List Tm}{ls:List Nat}{hd:Nat->List Nat}
end
end Sw
namespace Sw
open PySem L2
variable{l:Nat}
def IY:List Row->Nat->Nat->List Row
 | [],l,k => [(l, [k])]
 | q :: ps,l,k=>if q.1=l then (q.1,q.2 ++ [k]) :: ps else q :: IY ps l k
theorem og(q:Row)(ps:List Row)(l:Nat):jW (q :: ps) l=if q.1=l then some q.2 else jW ps l:=by
 unfold jW;rw[fE];by_cases e:q.1=l
 ·rw[decide_eq_true e,if_pos e];rfl
 ·rw[decide_eq_false e,if_neg e]
theorem VH{q:Row}{ps:List Row}{zs:List Nat}(e:q.1≠l):rq (q :: ps) l zs=q :: rq ps l zs:=by
 unfold rq;rw[gE,decide_eq_false e,Bool.false_or,aS,if_neg e];split <;> rfl
theorem Pz:∀ (ps:List Row) (l k:Nat),(ps.map (·.1)).Nodup->qA ps l k=IY ps l k
 | [],l,k,_=>rfl
 | q :: ps,l,k,h=>by
  rw[aS,gg]at h;rw[IY];by_cases e:q.1=l
  ·rw[if_pos e];unfold qA rq;rw[og,if_pos e,gE,decide_eq_true e,Bool.true_or,if_pos rfl,aS,if_pos e];congr 1;refine(gW fun p hp =>?_).trans (FP _);rw[if_neg];rfl;exact fun z=>h.1 (by rw[e, <- z];exact eD.mpr ⟨p,hp,O⟩)
  ·rw[if_neg e, <- Pz ps l k h.2];unfold qA;rw[og,if_neg e,VH e]
theorem Py:∀ (ps:List Row) (l k l':Nat),(jW (IY ps l k) l').getD []=(jW ps l').getD [] ++ if l=l' then [k] else []
 | [],l,k,l'=>by
  rw[IY,og];by_cases e:l=l'
  ·rw[if_pos e,if_pos e];rfl
  ·rw[if_neg e,if_neg e];rfl
 | q :: ps,l,k,l'=>by
  rw[IY];by_cases e:q.1=l
  ·rw[if_pos e,og,og];by_cases e':l=l'
   ·rw[if_pos (e.trans e'),if_pos (e.trans e'),if_pos e'];rfl
   ·have e2:q.1≠l':=fun z=>e' (e.symm.trans z);rw[if_neg e2,if_neg e2,if_neg e',cY]
  ·rw[if_neg e,og,og];by_cases e2:q.1=l'
   ·rw[if_pos e2,if_pos e2,if_neg (fun z=>e (e2.trans z.symm)),cY]
   ·rw[if_neg e2,if_neg e2];exact Py ps l k l'
theorem Px:∀ (ps:List Row) (l k:Nat),((IY ps l k).flatMap (·.2)).Perm (ps.flatMap (·.2) ++ [k])
 | [],l,k=>by rw[IY];exact ud _
 | q :: ps,l,k=>by
  rw[IY];by_cases e:q.1=l
  ·rw[if_pos e,f6,f6,a7,a7];exact gp _ qZ
  ·rw[if_neg e,f6,f6,a7];exact gp _ (Px ps l k)
section
variable (ls:List Nat) (ms:List Tm)
theorem rn(l:Nat):∀ n,(jW (jU ls (dQ ms n)) l).getD []=(dQ ms n).filter fun k=>decide (ls.getD k 0=l)
 | 0=>rfl
 | n+1=>by
  rw[p6];cases lS ms n with
  | false=>rw[if_neg (by decide),cY];exact rn l n
  | true =>
   rw[if_pos rfl,Cr,Pz _ _ _ (Ct ls _),Py,uR,rn l n];congr 1;by_cases e:ls.getD n 0=l
   ·rw[if_pos e,xx,decide_eq_true e,if_pos rfl];rfl
   ·rw[if_neg e,xx,decide_eq_false e,if_neg (by decide)];rfl
theorem Cs:∀ n,((jU ls (dQ ms n)).flatMap (·.2)).Perm (dQ ms n)
 | 0=>ud _
 | n+1=>by
  rw[p6];cases lS ms n with
  | false=>rw[if_neg (by decide),cY];exact Cs n
  | true =>
   rw[if_pos rfl,Cr,Pz _ _ _ (Ct ls _)];exact(Px _ _ _).trans (lH _ (Cs n))
end
def pZ(ts:List Tm)(ls:List Nat)(l:Nat):List Nat:=(jW (jU ls (dQ (ts.map (mk ls)) ts.length)) l).getD []
section
variable {ts:List Tm}{ls:List Nat}
theorem WI{k:Nat}:k∈pZ ts ls l↔k∈dQ (ts.map (mk ls)) ts.length∧ls.getD k 0=l:=by
 unfold pZ;rw[rn,jF,decide_eq_true_iff]
theorem DS{k:Nat}:k∈dQ (ts.map (mk ls)) ts.length↔∃ u,ts[k]? = some u∧fB (ts.map (mk ls)) (mk ls u)=some k:=by
 unfold dQ;rw[jF,dH];constructor
 ·rintro⟨hk,hn⟩;have hu:=ah hk;refine⟨ts[k],hu,aem (by rw[aJ,hu];rfl) fun j hj e =>?_⟩;have:=(oa (ms:=ts.map (mk ls)) (n:=k) (m:=mk ls ts[k]) (by rw[aJ,hu];rfl)).mpr ⟨j,hj,e⟩;rw[hn]at this;cases this
 ·rintro⟨u,hu,hp⟩;refine⟨(aj.mp hu).1,?_⟩;cases q:lS (ts.map (mk ls)) k with
  | true=>rfl
  | false =>
   obtain⟨j,hj,e⟩:=(oa (wz hp)).mp q;exact absurd e (xU hp j hj)
theorem WH(eO:ls.length=ts.length)(vg:Jp ts ls):Hds ts ls (pZ ts ls) where
 at_:=fun lead k hk=>by
  obtain⟨hf,hl⟩:=WI.mp hk;obtain⟨u,hu,_⟩:=DS.mp hf;have hk:=(aj.mp hu).1;refine⟨u,hu,?_⟩;rw[<- hl,ah (by omega),aU,ah (by omega)];rfl
 all:=fun i u lead hi hl=>by
  have hm:(ts.map (mk ls))[i]? = some (mk ls u):=by rw[aJ,hi];rfl
  cases q:fB (ts.map (mk ls)) (mk ls u) with
  | none=>exact absurd (aN hm) (wy.mp q)
  | some k =>
   have h1:=wz q;rw[aJ]at h1;obtain⟨u',OA,em⟩:=b8.mp h1;refine⟨k,WI.mpr ⟨DS.mpr ⟨u',OA,by rw[em];exact q⟩,?_⟩,u',OA,em⟩;have:=vg k i u' u OA hi em;rw[aU,this,hl];rfl
 one:=fun lead=>by
  unfold pZ;rw[rn];refine Bk _ (jL.imp_of_mem ?_ (Bk _ zb));intro k k' hk IB ef u u' hu OA e;obtain⟨v,hv,hp⟩:=DS.mp IB;rw[OA]at hv;cases hv;refine xU hp k ef ?_;rw[aJ,hu, <- e];rfl
 vg:=vg
theorem ade{j:Nat}{t:Tm}(eO:ls.length=ts.length)(vg:Jp ts ls)(hj:ts[j]? = some t):∃ zs,jW (jU ls (dQ (ts.map (mk ls)) ts.length)) (ls.getD j 0)=some zs:=by
 have hl:ls[j]? = some (ls.getD j 0):=by
  have:=(aj.mp hj).1;rw[aU,ah (by omega)];rfl
 obtain⟨k,hk,_⟩:=(WH eO vg).all j t _ hj hl;unfold pZ at hk;cases q:jW (jU ls (dQ (ts.map (mk ls)) ts.length)) (ls.getD j 0) with
 | none=>rw[q]at hk;cases hk
 | some zs=>exact⟨zs,O⟩
theorem OQ(l:Nat):(pZ ts ls l).length<=ts.length:=by
 unfold pZ;rw[rn];exact bp (ra _ _) (rQ _ _)
end
mutual
def T.kn:T->Nat
 | .num _=>0
 | .name _=>0
 | .any _=>0
 | .of _ ps=>1+T.nJ ps
def T.nJ:List T->Nat
 | []=>0
 | p :: ps=>p.kn+T.nJ ps
end
theorem AZ{α β : Type}{f : α -> List β}{n:Nat}:∀ {l:List α},(∀ a∈l,(f a).length<=n)->(l.flatMap f).length<=l.length * n
 | [],_=>by simp
 | a :: l,h=>by
  rw[f6,aO,cg,Nat.succ_mul];have h1:=h a bM;have h2:=AZ (l:=l) fun b hb=>h b (aX _ hb);omega
section
variable {ts:List Tm}{ls:List Nat}{hd:Nat->List Nat}{N:Nat}
mutual
theorem Xi(hN:1<=N)(h:∀ l,(hd l).length<=N):∀ (p:T) (lead:Nat) (b:Bd),(ox ts ls hd p lead b).length<=N ^ p.kn
 | .any x,lead,b=>by
  rw[ox,T.kn,Nat.pow_zero];unfold Iq;split
  ·split <;> simp
  ·simp
 | .num n,lead,b=>by rw[ox,T.kn];split <;> simp
 | .name n,lead,b=>by rw[ox,T.kn];split <;> simp
 | .of x ps,lead,b=>by
  rw[ox,T.kn,FN,FL];refine bp (AZ (n:=N ^ T.nJ ps) fun k _ =>?_) (r8 _ (h lead));split
  ·split
   ·refine bp (IW hN h ps _ [b]) ?_;rw[gn,FO];exact aw _
   ·exact aQ _
  ·exact aQ _
theorem IW(hN:1<=N)(h:∀ l,(hd l).length<=N):∀ (ps:List T) (as:List Nat) (ws:List Bd),(pD ts ls hd ps as ws).length<=ws.length * N ^ T.nJ ps
 | [],as,ws=>by rw[pD,T.nJ,Nat.pow_zero,Nat.mul_one];exact aw _
 | p :: ps,as,ws=>by
  rw[pD,T.nJ,FN, <- Nat.mul_assoc];refine bp (IW hN h ps _ _) (r8 _ ?_);exact AZ fun b _=>Xi hN h p _ b
end
mutual
theorem adu:∀ (p:T) {lead:Nat}{b w:Bd},w∈ox ts ls hd p lead b->w.length<=b.length+p.mV.length
 | .any x,lead,b,w,h=>by
  rw[ox]at h;rw[T.mV];unfold Iq at h;split at h
  ·split at h
   ·rw[a8.mp h];exact ir _ _
   ·cases h
  ·rw[a8.mp h,aO];exact aw _
 | .num n,lead,b,w,h=>by
  rw[ox]at h;split at h
  ·rw[a8.mp h];exact ir _ _
  ·cases h
 | .name n,lead,b,w,h=>by
  rw[ox]at h;split at h
  ·rw[a8.mp h];exact ir _ _
  ·cases h
 | .of x ps,lead,b,w,h=>by
  rw[ox]at h;rw[T.mV];obtain⟨k,_,hw⟩:=Ha.mp h;split at hw
  ·split at hw
   ·obtain⟨b0,hb0,l⟩:=Ky ps hw;rw[a8.mp hb0]at l;exact l
   ·cases hw
  ·cases hw
theorem Ky:∀ (ps:List T) {as:List Nat}{ws:List Bd}{w:Bd},w∈pD ts ls hd ps as ws->∃ b∈ws,w.length<=b.length+(T.jy ps).length
 | [],as,ws,w,h=>by rw[pD]at h;exact⟨w,h,ir _ _⟩
 | p :: ps,as,ws,w,h=>by
  rw[pD]at h;rw[T.jy];obtain⟨b1,hb1,l1⟩:=Ky ps h;obtain⟨b,hb,h2⟩:=Ha.mp hb1;have:=adu p h2;exact⟨b,hb,by rw[aO];omega⟩
end
end
def wm(ts:List Tm)(ls:List Nat)(k:Nat)(x:Str)(ps:List T)(b:Bd):List Bd:=match ts[k]? with
 | some (TM.of y as)=>if y=x∧as.length=ps.length then pD ts ls (pZ ts ls) ps as [b] else []
 | _ => []
theorem ag6(ts:List Tm)(ls:List Nat)(x:Str)(ps:List T)(lead:Nat)(b:Bd):ox ts ls (pZ ts ls) (.of x ps) lead b=(pZ ts ls lead).flatMap fun k=>wm ts ls k x ps b:=by rw[ox];rfl
def FK(ts:List Tm)(ls:List Nat)(ps:List T)(as:List Nat)(b:Bd)(i:Nat):List Bd:=pD ts ls (pZ ts ls) (ps.take i) as [b]
theorem R9{ts:List Tm}{ls:List Nat}{hd:Nat->List Nat}:∀ (ps:List T) (p:T) (as:List Nat) (ws:List Bd),pD ts ls hd (ps ++ [p]) as ws=(pD ts ls hd ps as ws).flatMap fun b=>ox ts ls hd p (ls.getD (as.getD ps.length 0) 0) b
 | [],p,as,ws=>by
  rw[gh,pD,pD,pD];cases as <;> rfl
 | q :: ps,p,as,ws=>by
  rw[eS,pD,pD,R9 ps p as.tail];congr 1;funext b;cases as <;> rfl
theorem Z0{ts:List Tm}{ls:List Nat}{ps:List T}{as:List Nat}{b:Bd}{i:Nat}{p:T}{a:Nat}(hp:ps[i]? = some p)(ha:as[i]? = some a):FK ts ls ps as b (i+1)=(FK ts ls ps as b i).flatMap fun v=>ox ts ls (pZ ts ls) p (ls.getD a 0) v:=by
 have hl:=(aj.mp hp).1;unfold FK;rw[cW,hp];show pD ts ls (pZ ts ls) (ps.take i ++ [p]) as [b]=_;rw[R9,cf,gS (by omega),aU (l:=as),ha];rfl
end Sw
namespace L2
open PySem PySem.Spec PyProof.Rows
variable{kvs:List (Key × V)}{vs:List (Key × Value)}{P:Program}{w:World}{K:ai}{o:Obj}{g:TG}{tb:TS}{σ:St}{H:Hp}{it t c z i1 i2 t1 t2 b:Addr}{i:Nat}{items xs ys:Array Value}{x y:Value}{Q:Value->Shared->Prop}{h h':Heap}{GL:List Expr}{tp:Pos}
section
variable {prog:Program}{w:World}{A:Around}{E:Value->Shared->Prop}{s:Shared}
end
section
variable {M:Model}{A:Around}{E:Value->Shared->Prop}{qn nm:Str}{N C:Addr}{bm bs:List Value}{hdct ab:Bool}{sn:List Str}{sub:List Value}{col:Option Bool}{dd:Option Addr}{k0 k1 k2 k3 k5:Option Value}{TF:String}
end
section
variable {prog:Program}{w:World}{A:Around}{E:Value->Shared->Prop}{s:Shared}{env:Env}{qn nm:Str}{N C:Addr}{bm bs:List Value}{hdct ab:Bool}{sn:List Str}{sub:List Value}{col:Option Bool}{dd:Option Addr}{k0 k1 k2 k3 k5:Option Value}{TF:String}
end
section
variable {prog:Program}{w:World}{A:Around}{E:Value->Shared->Prop}{s:Shared}{env:Env}{qn nm:Str}{N C:Addr}{bm bs bmB:List Value}{hdct ab:Bool}{sn:List Str}{sub:List Value}{col:Option Bool}{dd:Option Addr}{k0 k1 k2 k3 k5:Option Value}{B TF apk:String}
end
section
variable {M:Model}{A:Around}{E:Value->Shared->Prop}{s:Shared}
end
section
variable {P:Program}{w:World}{K:ai}{mg:Str->Option Value}{base:Heap}{N:List Str}{cD:Str}{scope:Scope}{f:Addr}{bU:Value}{A:Around}{outer:List Env}{s0:Shared}{H0:Hp}{E:XK}{ea C:Addr}
end
section
variable {X:Cx}{ag:List (Addr × Obj)}{σ : St} {H0 H':Hp} {s0 s':Shared}{ea C:Addr}{a0:Value}{B h5:Heap}{m:Option Addr}
end
section
variable {X:Cx} {k k':Nat}{m:Str}{C:Addr}{ps:List Str}{dC:List V}{sp:Sp}{pos eP:Pos}{e o:Expr}{es:List Expr}{ta:TE}{t:TA}{pl:Sem Bool}
end
section
variable {prog:Program}{w:World}{K:Type} [DecidableEq K] {knd:HeapKind prog w K}{A:Around}{E:Value->Shared->Prop}{s:Shared}{d a:Addr}{k:K}{xs:List (K × Addr × Value)}
end
section
variable {prog:Program}{w:World}{K:Type} [DecidableEq K] (knd:HeapKind prog w K) (d a:Addr)
end
section
variable {X:Cx}{ag:List (Addr × Obj)}{σ : St}{H:Hp}{s:Shared}{a b:Addr}{kvs:List (NK × V)}{k:NK}{v:V}{A:Around}{E:Value->Shared->Prop}
end
section
variable {X:Cx}{o e:Expr}{eP fN:Pos}{td ty:TE}
end
def Jt(a:Addr)(o:Obj)(kvs:List (Key × V)):It :=
 ⟨fun i H=>i < kvs.length∧H a=some (Ext a o),fun i H x H'=>H'=H∧∃ kv,kvs[i]? = some kv∧x=kv.2,fun i H=>kvs.length<=i∧H a=some (Ext a o)⟩
theorem KV.adJ(r:KV kvs vs):∀ {i:Nat}{k:Key}{u:Value},vs[i]? = some (k,u)->∃ kv,kvs[i]? = some kv∧RelV kv.2 u:=by
 unfold KV at r
 induction r with
 | nil=>intro i k u h;simp at h
 | @cons p q ps qs h t ih =>
  intro i k u e;cases i with
  | zero=>simp at e;subst e;exact⟨p,O,h.2⟩
  | succ i=>simpa using ih (by simpa using e)
theorem UY{tg:Expr}(a it:Addr){ep:Nat}(fD:KV kvs vs)(hx:∀ h:Heap,h.get? a=some o->h.DictAt (dI P w) a vs ep) :
  Turn P w K tg (Jt a o kvs) [it] it (fun i h=>h.IsValIter it a i vs.length ep) where
 mem:=by simp
 obj:=fun i h st b hb=>by
  have e:b=it:=by simpa using hb
  subst e;obtain⟨o,e,c,d⟩:=st;exact⟨o,e,fun v z=>by rw[d]at z;cases z⟩
 keep:=fun i h h' st k=>st.at fun o e=>k it (by simp) o e
 item:=by
  intro X hP hw hK hc i ag s σ H E I hf st hg;subst hP hw hK;obtain⟨hi,ha⟩:=hg;have hl:=fD.length;obtain⟨⟨k,u⟩,hv⟩:∃ p,vs[i]? = some p:=⟨vs[i]'(by omega),ah (by omega)⟩;obtain⟨kv,LA,ru⟩:=fD.adJ hv;obtain⟨f0,f1,f2,f3,f4,f5⟩:=hf it (by simp);refine wpAny_pyNext_values_item st (hx _ (MJ I.bO ha)) hv fun h' aG sb =>?_;have I1:Inv X ag σ H { s with heap:=h' }:=I.turned (t':=s.toks) (fun b o hb e=>(sb.2 b hb).trans e) f0 f1 f3 f4 f5;obtain⟨o,e,c,d⟩:=id aG;exact⟨u,O,IJ (s := { s with heap:=h' }) e c d (by decide) ⟨kv.2,H,I1,ru,⟨O,kv,LA,O⟩,aG,fun b hb=>(hf b hb).1⟩⟩
 done:=by
   intro X hP hw hK hc i ag s σ H E I hf st hg;subst hP hw hK;obtain⟨hi,ha⟩:=hg;have hl:=fD.length;obtain⟨f0,f1,f2,f3,f4,f5⟩:=hf it (by simp);exact wpAny_pyNext_values_end (I.ok.hd hc) st (hx _ (MJ I.bO ha)) (cJ (by omega)) fun h' eb=>⟨O,I.turned (t':=s.toks) (fun b o hb e=>eb b o hb e) f0 f1 f3 f4 f5⟩
 self:=fun _ _ _ _ _ st h=>wpAny_pyIter_valiter st h
inductive Sv(P:Program)(w:World)(R:It->Hp->Prop)(x:V)(H1:Hp):Prop
 | mk (a:Addr) (kvs:List (Key × V)) (e:x = .ref a) (ea:H1 a=some (.dK kvs)) (q:∀ o,DXo P w a o kvs->R (Jt a o kvs) (aC H1 a (Ext a o))):Sv P w R x H1
def aip(P:Program)(w:World)(tl:TE):TI:=fun σ H R=>tl σ H fun x H1=>Sv P w R x H1
theorem acI{X:Cx}{tg o:Expr}{tl:TE}{eP fN:Pos}(ho:PE X o tl)(Ue:attributeBase o "values" X.env (eval o X.env)=eval o X.env:=by rfl)(T9:(eP.endLine == fN.line)=true:=by rfl) :
  PI X tg (.Call (.Attribute o "values" eP) [] [] fN) (aip X.prog X.w tl):=by
 intro ag s σ H R I h;refine wpAny_Call_method0_late Ue T9 (cm (ho ag s σ H _ I h) fun v s1 ⟨x,H0,I0,r1,q1⟩ =>?_);obtain⟨a,kvs,e,ea0,q⟩:=q1;subst e;obtain rfl:v=bL a:=r1;obtain⟨ob,dx,I1⟩:=I0.freeze ea0;have q:=q ob dx;have ea:(aC H0 a (Ext a ob)) a=some (Ext a ob):=ak;generalize aC H0 a (Ext a ob)=H1 at I1 q ea;obtain⟨z,hd,vs,ep,fD,hx⟩:=dx;have hat:=hx _ (MJ I1.bO ea);have hdo:s1.heap.DictOf (dI X.prog X.w) a vs:=by
  obtain⟨o',es,h1,h2,h3,h4,h5,h6⟩:=hat;exact⟨o',es,ep,h1,h2,h3,h4,h5,h6⟩
 have hob:∀ b,bL a = .ref b->∃ o',s1.heap.get? b=some o'∧o'.dict=none:=fun b e=>by
  cases e;obtain⟨o',es,h1,h2,_⟩:=hat;exact⟨o',h1,h2.2.1⟩
 refine⟨"dict", "dict.values",jh,xo,PySem.F.type_dict_values,hdo.typeIs,hob,ie rfl (PySem.evalArgs_none ?_)⟩;refine call_meetsIn xo hdo.typeIs PySem.F.entry_dict_values (PySem.F.args_dict_values_1 _) (meets_dict_values (dI X.prog X.w) a hd) ⟨⟨vs,hdo⟩,?_⟩;have kp:∀ b o',s1.heap.get? b=some o'->(s1.heap.push { cls := .type "dict_values",data := .fields #[.ref a] }).get? b=some o':=fun b o' e=>aH _ e;have I2:Inv X ag σ H1 { s1 with heap:=s1.heap.push { cls := .type "dict_values",data := .fields #[.ref a] } }:=I1.kept (t':=s1.toks) kp;refine wpAny_pyIter_values (knd:=dI X.prog X.w) (d:=a) (kvs:=vs) (ep:=ep) ⟨_,bz _ rfl,O,O⟩ (hx _ (MJ I2.bO ea)) ?_;refine⟨_, [_],_,_,H1,O,I2.kept (t':=s1.toks) fun b o e=>aH _ e,UY a _ fD hx,⟨_,bz _ rfl,O,O⟩,fun b hb =>?_,q⟩;have e:b=(s1.heap.push { cls := .type "dict_values",data := .fields #[.ref a] }).objs.size:=by simpa using hb
 subst e;exact I2.DR (aw _) (I2.bO.fresh (aw _))
theorem ZD{a:Addr}{D:Ends}(Pv:Nat->St->Hp->Prop)(h0:Pv 0 σ H)(hl:∀ i σ H,i<=kvs.length->Pv i σ H->H a=some (Ext a o))(hs:∀ i (kv:Key × V) σ H,kvs[i]? = some kv->Pv i σ H->g kv.2 σ H fun kW H2=>tb { D with nx:=Pv (i+1),ct:=Pv (i+1),bk:=D.nx } kW H2)(hd:∀ σ H,Pv kvs.length σ H->D.nx σ H) :
  ∃ W:Nat->Nat->St->Hp->Prop,(∃ m,W 0 m σ H)∧∀ i m σ H,W i m σ H ->
   ((Jt a o kvs).stop i H∧D.nx σ H)∨((Jt a o kvs).go i H∧∃ N:St->Hp->Prop,(∀ bJ H',N bJ H'->∃ m',m' < m∧W (i+1) m' bJ H')∧∀ x H',(Jt a o kvs).BW i H x H'->g x σ H' fun kW H2=>tb { D with nx:=N,ct:=N,bk:=D.nx } kW H2):=by
 refine⟨fun i m σ H=>m=kvs.length - i∧i<=kvs.length∧Pv i σ H,⟨kvs.length,by simp,aQ _,h0⟩,?_⟩;rintro i m σ H ⟨rfl,hi,hp⟩;by_cases ef:i < kvs.length
 ·refine .inr ⟨⟨ef,hl i σ H hi hp⟩,Pv (i+1),fun bJ H' h'=>⟨kvs.length - (i+1),by omega,O,ef,h'⟩,?_⟩;rintro x H' ⟨rfl,kv,LA,rfl⟩;exact hs i kv σ _ LA hp
 ·have e:i=kvs.length:=by omega
  subst e;exact .inl ⟨⟨aw _,hl _ σ H hi hp⟩,hd σ H hp⟩
section
variable {prog:Program}{w:World}{A:Around}{E:Value->Shared->Prop}{s:Shared}
theorem acq{α : Type}{Q : α -> Shared->Prop}(hh:A.handled=none)(hE:∀ h' e,(∀ c o,s.heap.get? c=some o->h'.get? c=some o)->(∃ o,h'.get? e=some o∧o.cls = .type "StopIteration")->E (.ref e) { s with heap:=h' }) :
  wpAny (model prog w) A (Hk:Sem α) Q E s:=by
 show wpAny _ _ (newExc (.type "StopIteration") [] >>= _) _ _ _;simp only[newExc,newTuple];refine wpAny_bind ?_
 wp_walk
 simp only[raiseNew];refine wpAny_bind (wpAny_handled ?_);rw[hh];refine wpAny_bind (wpAny_pure (wpAny_throw ?_));exact hE _ _ (fun c o e=>aH _ (aH _ e)) ⟨_,bz _ rfl,O⟩
theorem Ia(qO:s.heap.IsTupleIter it t i)(ht:s.heap.IsTuple t items)(hx:items[i]? = some x)(hQ:∀ h',h'.IsTupleIter it t (i+1)->eT it s.heap h'->Q x { s with heap:=h' }):wpAny (model prog w) A (fq (.ref it)) Q E s:=by
 obtain⟨o,ho,hc,hd⟩:=id qO;obtain⟨ol,mV,_,nl,hdl⟩:=ht;unfold fq;refine wpAny_bind (wpAny_callSpecial?_slot (name:=xi "__next__") qO.typeIs jM (wpAny_call_entry jM qO.typeIs uT ?_ (uf _)))
 wp_walk using wpAny_field ho hd (x := .ref t) rfl,wpAny_field ho hd (x := .int i 0) rfl,wpAny_seqItems mV hdl
 rw[bP,hx];refine wpAny_bind (wpAny_setField ho hd (by simp) (wpAny_pure ⟨x,O,wpAny_pure (hQ _ ?_ (kI ..))⟩));exact⟨_,jI _ ho (qY (iE hd _)),(Ff ..).trans hc,by rw[iE hd];simp[rawInt]⟩
theorem V9(hh:A.handled=none)(qO:s.heap.IsTupleIter it t i)(ht:s.heap.IsTuple t items)(hx:items[i]? = none)(hE:∀ h' e,FU it s.heap h'->(∃ o,h'.get? e=some o∧o.cls = .type "StopIteration")->E (.ref e) { s with heap:=h' }):wpAny (model prog w) A (fq (.ref it)) Q E s:=by
 obtain⟨o,ho,hc,hd⟩:=id qO;obtain⟨ol,mV,_,nl,hdl⟩:=ht;unfold fq;refine wpAny_bind (wpAny_callSpecial?_slot (name:=xi "__next__") qO.typeIs jM (wpAny_call_entry jM qO.typeIs uT ?_ (uf _)))
 wp_walk using wpAny_field ho hd (x := .ref t) rfl,wpAny_field ho hd (x := .int i 0) rfl,wpAny_seqItems mV hdl
 rw[bP,hx];refine wpAny_bind (wpAny_rule (wpAny_bind (wpAny_setField ho hd (by simp) ?_)));exact acq hh fun h' e hk he=>hE h' e (fun c o n q=>hk c o ((kI ..).extBut c o n q)) he
structure ZT(z TI TO i1 i2 t1 t2:Addr)(f0:Value)(k:Nat)(h:Heap):Prop where
 hz:IsZip h z TI TO f0
 zK:IsPair h TI (.ref i1) (.ref i2)
 DJ:∃ a b,IsPair h TO a b
 h1:h.IsTupleIter i1 t1 k
 h2:h.IsTupleIter i2 t2 k
structure ML(z TO i1 i2:Addr)(h h':Heap):Prop where
 but:∀ c o,c≠z->c≠TO->c≠i1->c≠i2->h.get? c=some o->h'.get? c=some o
theorem nZ{k:Nat}(x:h.IsTupleIter it t k)(e:FU c h h')(n:it≠c):h'.IsTupleIter it t k:=let ⟨o,a,b,d⟩:=x; ⟨o,e it o n a,b,d⟩
theorem B0(x:h.IsTuple t xs)(e:FU c h h')(n:t≠c):h'.IsTuple t xs:=let ⟨o,a,b,m,d⟩:=x; ⟨o,e t o n a,b,m,d⟩
theorem UH{TI TO:Addr}{k:Nat}(D:ZipApart z TI TO i1 i2 t1 t2)(Z:ZT z TI TO i1 i2 t1 t2 .none k s.heap)(l1:s.heap.IsTuple t1 xs)(l2:s.heap.IsTuple t2 ys)(hx:xs[k]? = some x)(hy:ys[k]? = some y)(hQ:∀ h',ZT z TI TO i1 i2 t1 t2 (rawInt s.heap.objs.size) (k+1) h'->IsPair h' s.heap.objs.size x y->ML z TO i1 i2 s.heap h'->Q (.ref s.heap.objs.size) { s with heap:=h' }) :
  wpAny (model prog w) A (Builtin.«zip.__next__» ⟨[.ref z], []⟩) (fun j9 s'=>∃ v,j9 = .done (.ret v)∧Q v s') E s:=by
 obtain⟨hz,zK,⟨a,b,DJ⟩,h1,h2⟩:=Z;refine(show wpAny _ _ (field (.ref z) 2 >>= _) _ _ _ from wpAny_bind (wpAny_field hz rfl (x := .bool false) rfl (show wpAny _ _ (field (.ref z) 3 >>= _) _ _ _ from wpAny_bind (wpAny_field hz rfl (x := .ref TI) rfl (wpAny_bind (wpAny_seqItems zK rfl ?_))))));refine(show wpAny _ _ (gK (.ref z) >>= _) _ _ _ from wpAny_bind ?_);unfold gK;refine wpAny_bind (wpAny_field hz rfl (x := .none) rfl (wpAny_pure ?_));simp only[if_true];refine wpAny_bind (wpAny_rule (wpAny_bind (wpAny_field hz rfl (x := .ref TO) rfl (wpAny_bind (wpAny_setField_rec hz (by simp) fun g1 z1 s1 =>?_)))));have z1:IsZip g1 z TI TO .ellipsis:=z1;refine wpAny_bind ?_;simp only[Jl,xt,KR,yq];refine wpAny_bind (wpAny_bind (wpAny_onRaise ?_));refine(show wpAny _ _ (fq (.ref i1) >>= _) _ _ _ from wpAny_bind (Ia (nZ h1 s1.extBut D.i1z) (B0 l1 s1.extBut D.l1z) hx fun g2 n1 s2=>wpAny_pure ?_));have o2:IsPair g2 TO a b:=s2.extBut _ _ D.TOi1 (s1.extBut _ _ D.TOz DJ);refine wpAny_bind (wpAny_seqItems o2 rfl (wpAny_bind (wpAny_updateSeq_pair o2 fun g3 o3 s3=>wpAny_bind (wpAny_letGo (wpAny_pure (wpAny_bind (wpAny_bind (wpAny_onRaise ?_))))))));have o3:IsPair g3 TO x b:=o3;refine(show wpAny _ _ (fq (.ref i2) >>= _) _ _ _ from wpAny_bind (Ia (nZ (nZ (nZ h2 s1.extBut D.i2z) s2.extBut D.i12.symm) s3.extBut D.TOi2.symm)
  (B0 (B0 (B0 l2 s1.extBut D.l2z) s2.extBut D.l2i1) s3.extBut D.l2TO) hy fun g4 n2 s4=>wpAny_pure ?_))
 have o4:IsPair g4 TO x b:=s4.extBut _ _ D.TOi2 o3;refine wpAny_bind (wpAny_seqItems o4 rfl (wpAny_bind (wpAny_updateSeq_pair o4 fun g5 o5 s5=>wpAny_bind (wpAny_letGo (wpAny_pure (wpAny_pure (wpAny_bind (wpAny_seqItems (show IsPair g5 TO x y from o5) rfl (wpAny_bind (wpAny_newTuple ?_)))))))))) ;have o5:IsPair g5 TO x y:=o5;have sz:g5.objs.size=s.heap.objs.size:=by rw[s5.1,s4.1,s3.1,s2.1,s1.1]
 have z5:IsZip g5 z TI TO .ellipsis:=s5.extBut _ _ D.TOz.symm (s4.extBut _ _ D.i2z.symm (s3.extBut _ _ D.TOz.symm (s2.extBut _ _ D.i1z.symm z1)));have k5:∀ c o,c≠z->c≠TO->c≠i1->c≠i2->s.heap.get? c=some o->g5.get? c=some o:=fun c o c1 c2 c3 c4 e=>s5.extBut _ _ c2 (s4.extBut _ _ c4 (s3.extBut _ _ c2 (s2.extBut _ _ c3 (s1.extBut _ _ c1 e))));have n15:g5.IsTupleIter i1 t1 (k+1):=nZ (nZ (nZ n1 s3.extBut D.TOi1.symm) s4.extBut D.i12) s5.extBut D.TOi1.symm;have n25:g5.IsTupleIter i2 t2 (k+1):=nZ n2 s5.extBut D.TOi2.symm;have zlt:z < g5.objs.size:=a9 z5;refine(show wpAny _ _ (oK (.ref z) (.ref g5.objs.size) >>= _) _ _ _ from wpAny_bind ?_);unfold oK;refine wpAny_bind (wpAny_setField_rec (show IsZip (g5.push { cls := .type "tuple",data := .seq #[x,y] }) z TI TO .ellipsis from aH _ z5) (by simp) fun g7 z7 s7 =>?_);refine wpAny_setField_rec (show IsZip g7 z TI TO (rawInt g5.objs.size) from z7) (by simp) fun g8 z8 s8 =>?_;have z8:IsZip g8 z TI TO (rawInt g5.objs.size):=z8;have up:∀ c o,c≠z->g5.get? c=some o->g8.get? c=some o:=fun c o c1 e=>s8.extBut _ _ c1 (s7.extBut _ _ c1 (aH _ e));have t8:IsPair g8 g5.objs.size x y:=s8.extBut _ _ (mn zlt) (s7.extBut _ _ (mn zlt) (bz _ rfl));have i8:IsPair g8 TI (.ref i1) (.ref i2):=up _ _ D.TIz (k5 _ _ D.TIz D.TITO D.TIi1 D.TIi2 zK);refine wpAny_pure ⟨_,O,?_⟩;rw[sz]at z8 t8;show Q (.ref g5.objs.size) _;rw[sz];refine hQ g8 ⟨z8,i8,⟨_,_,up _ _ D.TOz o5⟩,?_,?_⟩ t8 ⟨fun c o c1 c2 c3 c4 e=>up c o c1 (k5 c o c1 c2 c3 c4 e)⟩
 ·exact let ⟨o,q,r⟩:=n15; ⟨o,up _ o D.i1z q,r⟩
 ·exact let ⟨o,q,r⟩:=n25; ⟨o,up _ o D.i2z q,r⟩
theorem X5{TI TO:Addr}{k:Nat}{Q:Fin->Shared->Prop}(hh:A.handled=none)(D:ZipApart z TI TO i1 i2 t1 t2)(Z:ZT z TI TO i1 i2 t1 t2 .none k s.heap)(l1:s.heap.IsTuple t1 xs)(hx:xs[k]? = none)(hE:∀ h' e,ML z TO i1 i2 s.heap h'->(∃ o,h'.get? e=some o∧o.cls = .type "StopIteration")->E (.ref e) { s with heap:=h' }) :
  wpAny (model prog w) A (Builtin.«zip.__next__» ⟨[.ref z], []⟩) Q E s:=by
 obtain⟨hz,zK,⟨a,b,DJ⟩,h1,h2⟩:=Z;refine(show wpAny _ _ (field (.ref z) 2 >>= _) _ _ _ from wpAny_bind (wpAny_field hz rfl (x := .bool false) rfl (show wpAny _ _ (field (.ref z) 3 >>= _) _ _ _ from wpAny_bind (wpAny_field hz rfl (x := .ref TI) rfl (wpAny_bind (wpAny_seqItems zK rfl ?_))))));refine(show wpAny _ _ (gK (.ref z) >>= _) _ _ _ from wpAny_bind ?_);unfold gK;refine wpAny_bind (wpAny_field hz rfl (x := .none) rfl (wpAny_pure ?_));simp only[if_true];refine wpAny_bind (wpAny_rule (wpAny_bind (wpAny_field hz rfl (x := .ref TO) rfl (wpAny_bind (wpAny_setField_rec hz (by simp) fun g1 z1 s1 =>?_)))));have z1:IsZip g1 z TI TO .ellipsis:=z1;refine wpAny_bind ?_;simp only[Jl,xt,KR,yq];refine wpAny_bind (wpAny_bind (wpAny_onRaise ?_));refine(show wpAny _ _ (fq (.ref i1) >>= _) _ _ _ from wpAny_bind (V9 hh (nZ h1 s1.extBut D.i1z) (B0 l1 s1.extBut D.l1z) hx fun g2 e s2 he =>?_));obtain⟨oe,hoe,hce⟩:=he;have z2:IsZip g2 z TI TO .ellipsis:=s2 _ _ D.i1z.symm z1;have ne:e≠z:=fun q=>by subst q;rw[z2]at hoe;cases hoe;exact absurd (pe hce) (by decide)
 exact wpAny_setField_rec z2 (by simp) fun g3 _ s3=>hE g3 e ⟨fun c o c1 _ c3 _ q=>s3.extBut _ _ c1 (s2 _ _ c3 (s1.extBut _ _ c1 q))⟩ ⟨oe,s3.extBut _ _ ne hoe,hce⟩
theorem UG{TI TO:Addr}{k:Nat}{Q:Option Value->Shared->Prop}(D:ZipApart z TI TO i1 i2 t1 t2)(Z:ZT z TI TO i1 i2 t1 t2 .none k s.heap)(l1:s.heap.IsTuple t1 xs)(l2:s.heap.IsTuple t2 ys)(hx:xs[k]? = some x)(hy:ys[k]? = some y)(hQ:∀ h',ZT z TI TO i1 i2 t1 t2 (rawInt s.heap.objs.size) (k+1) h'->IsPair h' s.heap.objs.size x y->ML z TO i1 i2 s.heap h'->Q (some (.ref s.heap.objs.size)) { s with heap:=h' }) :
  wpAny (model prog w) A (pyNext (.ref z)) Q E s:=by
 have ty:s.TypeIs (.ref z) "zip" := ⟨_,Z.hz,O⟩;unfold pyNext;exact wpAny_bind (wpAny_attempt (wpAny_callSpecial?_slot (name:=xi "__next__") ty sk (wpAny_call_entry sk ty F.entry_zip_next (UH D Z l1 l2 hx hy fun h' a b c=>wpAny_pure (hQ h' a b c)) (Fl _))))
theorem UI{TI TO:Addr}{k:Nat}{Q:Option Value->Shared->Prop}(hh:A.handled=none)(D:ZipApart z TI TO i1 i2 t1 t2)(Z:ZT z TI TO i1 i2 t1 t2 .none k s.heap)(l1:s.heap.IsTuple t1 xs)(hx:xs[k]? = none)(hQ:∀ h',ML z TO i1 i2 s.heap h'->Q none { s with heap:=h' }):wpAny (model prog w) A (pyNext (.ref z)) Q E s:=by
 have ty:s.TypeIs (.ref z) "zip" := ⟨_,Z.hz,O⟩;unfold pyNext;refine wpAny_bind (wpAny_attempt (wpAny_callSpecial?_slot (name:=xi "__next__") ty sk (wpAny_call_entry sk ty F.entry_zip_next (X5 hh D Z l1 hx fun h' e hk he =>?_) (Fl _))));exact let ⟨o,ho,hc⟩:=he;wpAny_bind (wpAny_isInstance (T := "StopIteration") (b:=true) ⟨o,ho,hc⟩ isSubtype_stop (wpAny_pure (hQ _ hk)))
end
abbrev QQ(h:Heap)(a:Addr):Heap:=h.push { cls := .type "tuple_iterator",data := .fields #[.ref a,.int 0 0] }
abbrev zT2(h:Heap)(a b:Addr):Heap:=QQ (QQ h a) b
abbrev zT3(h:Heap)(a b:Addr):Heap:=(zT2 h a b).push { cls := .type "tuple",data := .seq #[.ref h.objs.size,.ref (QQ h a).objs.size] }
abbrev zT4(h:Heap)(a b:Addr):Heap:=(zT3 h a b).push { cls := .type "tuple",data := .seq #[.none,.none] }
abbrev QP(h:Heap)(a b:Addr):Heap:=(zT4 h a b).push { cls := .type "zip",data := .fields #[.none,.bool false,.bool false,.ref (zT2 h a b).objs.size,.ref (zT3 h a b).objs.size] }
theorem SO(a b:Addr)(xs ys:Array Value):Meets (Builtin.«zip.__new__» ⟨[.type "zip",.ref a,.ref b], []⟩) (fun _ R s=>s.heap.IsTuple a xs∧s.heap.IsTuple b ys ∧
   R (.ok (.ret (.ref (zT4 s.heap a b).objs.size))) { s with heap:=QP s.heap a b }) :=
 .of_wp fun prog w A R s h=>by
  obtain⟨hp,g,d,tk,os⟩:=s;obtain⟨ha,hb,h⟩:=h;have sub:=sub_zip;have A1:Heap.IsTuple (Shared.heap ⟨hp,g,d,tk,os⟩) a xs:=ha;have B1:Heap.IsTuple (Shared.heap ⟨QQ hp a,g,d,tk,os⟩) b ys:=let ⟨o,e,r⟩:=hb; ⟨o,aH _ e,r⟩
  wp_walk using wpAny_pyIter_tuple A1,wpAny_pyIter_tuple B1
  exact⟨_,O,h⟩
section
variable {prog:Program}{w:World}{A:Around}{E:Value->Shared->Prop}{s:Shared}
theorem UJ{a:Addr}(ha:s.heap.IsTuple a xs)(hb:s.heap.IsTuple b ys)(h:∀ h',ZT (s.heap.objs.size+4) (s.heap.objs.size+2) (s.heap.objs.size+3) s.heap.objs.size (s.heap.objs.size+1) a b .none 0 h'->(∀ c o,s.heap.get? c=some o->h'.get? c=some o)->Q (.ref (s.heap.objs.size+4)) { s with heap:=h' }) :
  wpAny (model prog w) A (call (.type "zip") [.ref a,.ref b]) Q E s:=by
 refine callType_new F.called_zip (by decide) (F.typeCall_zip_2 _ _) (F.newCall_zip_2 _ _) (fun obj=>F.args_object_init_3 obj _ _) F.entry_zip_new (SO a b xs ys) ⟨ha,hb,?_⟩;have e1:(QQ s.heap a).objs.size=s.heap.objs.size+1:=jr ..;have e2:(zT2 s.heap a b).objs.size=s.heap.objs.size+2:=by rw[jr,e1]
 have e3:(zT3 s.heap a b).objs.size=s.heap.objs.size+3:=by rw[jr,e2]
 have e4:(zT4 s.heap a b).objs.size=s.heap.objs.size+4:=by rw[jr,e3]
 have up {h:Heap}{c:Addr}{o p:Obj} (x:h.get? c=some o):(h.push p).get? c=some o:=aH _ x;have q5:(QP s.heap a b).get? (zT4 s.heap a b).objs.size=some _:=bz _ rfl;have q4:(QP s.heap a b).get? (zT3 s.heap a b).objs.size=some _:=up (bz _ rfl);have q3:(QP s.heap a b).get? (zT2 s.heap a b).objs.size=some _:=up (up (bz _ rfl));have q2:(QP s.heap a b).get? (QQ s.heap a).objs.size=some _:=up (up (up (bz _ rfl)));have q1:(QP s.heap a b).get? s.heap.objs.size=some _:=up (up (up (up (bz _ rfl))));show _∧_;rw[e2,e3,e4]at q5;rw[e1,e2]at q3;rw[e3]at q4;rw[e1]at q2;rw[e4];exact⟨⟨_,q5,O⟩,h _ ⟨q5,q3,⟨_,_,q4⟩,⟨_,q1,O,O⟩,⟨_,q2,O,O⟩⟩ fun c o x=>up (up (up (up (up x))))⟩
end
section
variable {X:Cx}{ag:List (Addr × Obj)}{σ : St}{H:Hp}{s:Shared} {h':Heap}
theorem Inv.aci{ch:List Addr}{t':Nat}(I:Inv X ag σ H s)(k:∀ b o,b ∉ ch->s.heap.get? b=some o->h'.get? b=some o)(hf:∀ b∈ch,pP X ag H b):Inv X ag σ H { s with heap:=h',toks:=t' }:=by
 have V8:∀ b u,H b=some u->b ∉ ch:=fun b u e z=>by rw[(hf b z).1]at e;cases e
 refine I.step (g':=s.gens) (d':=s.drawn) (ch:=ch) (fun b hb =>?_) (fun b o _ _ hc e _=>k b o hc e) (fun b o _ _ hc e _=>⟨o.slots,k b o hc e⟩) (fun _ _ _ _ n=>n)
  (fun b o hc e=>⟨o,k b o hc e⟩) (fun _ _ e=>e) (fun _ _ _ e=>e) (fun b ps e=>⟨#[],by rw[e];simp⟩) (fun m hm =>?_) (fun b u e =>?_) I.bare
 ·obtain⟨_,f1,_,f3,f4,f5⟩:=hf b hb;exact⟨f3,f1,f4,f5⟩
 ·obtain⟨o,es,ep,ho,r⟩:=hm;exact⟨o,es,ep,k _ o (fun z=>(hf _ z).2.1 rfl) ho,r⟩
 ·refine(I.bO b u e).B7 (fun c v hc q=>k c v ?_ q) (fun _ q=>q) fun _ _ q=>q;rcases hc with z | z
  ·rw[z];exact V8 b u e
  ·exact V8 c _ z
end
def XX(K:ai)(a b:Addr):It :=
 ⟨fun i H=>∃ xs ys x y,aW K H a xs∧aW K H b ys∧xs[i]? = some x∧ys[i]? = some y,
  fun i H r H'=>∃ p u v,H p=none∧r = .ref p∧(∀ xs,aW K H a xs->xs[i]? = some u)∧(∀ ys,aW K H b ys->ys[i]? = some v)∧H'=aC H p (.tup [u,v]),
  fun i H=>∃ xs,aW K H a xs∧xs.length=i⟩
theorem UX{k:Nat}(a b z TI TO i1 i2:Addr)(D:ZipApart z TI TO i1 i2 a b) :
  Turn P w K (.Tuple GL k tp) (XX K a b) [z,TI,TO,i1,i2] z (ZT z TI TO i1 i2 a b .none) where
 mem:=by simp
 obj:=fun i h st c hc=>by
  obtain⟨hz,zK,⟨x,y,DJ⟩,⟨o1,q1,_,d1⟩,⟨o2,q2,_,d2⟩⟩:=st;simp only[bC,xw,or_false]at hc;rcases hc with rfl | rfl | rfl | rfl | rfl
  ·exact⟨_,hz,fun v e=>nomatch (show FX _=yx v from e)⟩
  ·exact⟨_,zK,fun v e=>nomatch (show Data.seq _ _=yx v from e)⟩
  ·exact⟨_,DJ,fun v e=>nomatch (show Data.seq _ _=yx v from e)⟩
  ·exact⟨o1,q1,fun v e=>by rw[d1]at e;cases e⟩
  ·exact⟨o2,q2,fun v e=>by rw[d2]at e;cases e⟩
 keep:=fun i h h' st k=>by
  obtain⟨hz,zK,⟨x,y,DJ⟩,⟨o1,q1,r1⟩,⟨o2,q2,r2⟩⟩:=st;exact⟨k z (by simp) _ hz,k TI (by simp) _ zK,⟨x,y,k TO (by simp) _ DJ⟩,⟨o1,k i1 (by simp) _ q1,r1⟩,⟨o2,k i2 (by simp) _ q2,r2⟩⟩
 item:=by
  intro X hP hw hK hc i ag s σ H E I hf st hg;subst hP hw hK;obtain⟨xs,ys,x,y,hq,hr,hx,hy⟩:=hg;obtain⟨its,rv,p,_⟩:=I.tuple hq;obtain⟨jts,rv',p',_⟩:=I.tuple hr;obtain⟨u,hu,ru⟩:=rv.get hx;obtain⟨v,hv,lI⟩:=rv'.get hy;refine UG D st (show s.heap.IsTuple a its.toArray from p) (show s.heap.IsTuple b jts.toArray from p') (x:=u) (y:=v) (by simpa using hu) (by simpa using hv) fun h1 Z1 T1 L1 =>?_;have ef:∀ c o,s.heap.get? c=some o->c≠s.heap.objs.size:=fun c o e=>cQ (a9 e);have zl:=ef z _ st.hz;refine⟨_,O,wpAny_letOwnedTupleGo_zip Z1.hz fun h2 hz2 jP =>?_⟩;have ext:=jP.extBut;have kk:∀ c o,c ∉ [z,TI,TO,i1,i2]->s.heap.get? c=some o->h2.get? c=some o:=fun c o hc q=>by
   have c1:c≠z:=fun e=>hc (by simp[e]);exact ext _ _ c1 (L1.but c o c1 (fun e=>hc (by simp[e])) (fun e=>hc (by simp[e])) (fun e=>hc (by simp[e])) q)
  have iz:ZT z TI TO i1 i2 a b .none (i+1) h2:=by
   obtain⟨_,zK,⟨x',y',DJ⟩,n1,n2⟩:=Z1;exact⟨hz2,ext _ _ D.TIz zK,⟨x',y',ext _ _ D.TOz DJ⟩,nZ n1 ext D.i1z,nZ n2 ext D.i2z⟩
  refine⟨.ref s.heap.objs.size,aC H s.heap.objs.size (.tup [x,y]),?_,O,⟨_,x,y,I.bO.fresh (aw _),O,fun zs hz=>by rw[I.BY hz hq];exact hx,fun zs hz=>by rw[I.BY hz hr];exact hy,O⟩,iz,fun c hc =>?_⟩
  ·refine I.Hq (ch := [z,TI,TO,i1,i2]) (t':=s.toks) kk hf (aw _) ⟨by show 2<=sizeLine;decide, [u,v],.cons ru (.cons lI .nil),?_⟩;exact⟨_,ext _ _ zl.symm T1,O,_,O,O⟩
  ·have:c≠s.heap.objs.size:=by
    obtain⟨_,zK,⟨_,_,DJ⟩,⟨_,q1,_⟩,⟨_,q2,_⟩⟩:=st;simp only[bC,xw,or_false]at hc;rcases hc with rfl | rfl | rfl | rfl | rfl
    ·exact zl
    ·exact ef _ _ zK
    ·exact ef _ _ DJ
    ·exact ef _ _ q1
    ·exact ef _ _ q2
   rw[av this];exact(hf c hc).1
 done:=by
   intro X hP hw hK hc i ag s σ H E I hf st hg;subst hP hw hK;obtain⟨xs,hq,hx⟩:=hg;obtain⟨its,rv,p,_⟩:=I.tuple hq;have hl:=rv.length;refine UI (I.ok.hd hc) D st (show s.heap.IsTuple a its.toArray from p) (by simp;omega) fun h1 L1=>⟨O,?_⟩;refine I.aci (ch := [z,TI,TO,i1,i2]) (t':=s.toks) (fun c o hc q=>L1.but c o (fun e=>hc (by simp[e])) (fun e=>hc (by simp[e])) (fun e=>hc (by simp[e])) (fun e=>hc (by simp[e])) q) hf
 self:=fun _ _ _ _ _ st h=>wpAny_pyIter_zip st.hz h
inductive Su(K:ai)(R:It->Hp->Prop)(vs:List V)(H1:Hp):Prop
 | mk:∀ a b xs ys,(vs = [.ref a,.ref b])->(aW K H1 a xs)->(aW K H1 b ys)->(R (XX K a b) H1)->Su K R vs H1
def aio(K:ai)(ta:TA):TI:=fun σ H R=>ta σ H fun vs H1=>Su K R vs H1
theorem boot_zip:bootBuiltins "zip" = some (.type "zip"):=by decide +kernel
section
variable {X:Cx}
theorem acH{l m:Expr}{ta:TA}{k:Nat}{p pos:Pos}(hg:Gl X "zip")(hm:X.mg "zip" = none)(ha:PA X [l,m] ta)(he:starEach (l :: [m]) X.env=(false,eval l X.env) :: starEach [m] X.env:=by rfl)(j7:(backTo pos (starEach [m] X.env)).any (·.1)=false:=by rfl) :
  PI X (.Tuple GL k tp) (.Call (.Name "zip" p) [l,m] [] pos) (aio X.K ta):=by
 intro ag s σ H R I h;refine Call_ (wO I hg hm boot_zip (gR (cm (ha pos ag s σ H _ I h) fun us s1 ⟨vs,H1,I1,r1,q1⟩ =>?_) he j7));obtain⟨a,b,xs,ys,e,hq,hr,q⟩:=q1;subst e;obtain⟨u,v,rfl,ru,rv⟩:=vals2 r1;cases ru;cases rv;obtain⟨its,_,pa,_⟩:=I1.tuple hq;obtain⟨jts,_,pb,_⟩:=I1.tuple hr;have la:a < s1.heap.objs.size:=let ⟨_,e,_⟩:=pa; a9 e;have lb:b < s1.heap.objs.size:=let ⟨_,e,_⟩:=pb; a9 e;refine UJ (show s1.heap.IsTuple a its.toArray from pa) (show s1.heap.IsTuple b jts.toArray from pb) fun h1 Z1 hk =>?_;have I2:Inv X ag σ H1 { s1 with heap:=h1 }:=I1.kept (t':=s1.toks) hk;have fp:∀ c,s1.heap.objs.size<=c->pP X ag H1 c:=fun c hc=>I1.DR hc (I1.bO.fresh hc);refine wpAny_pyIter_zip (s := { s1 with heap:=h1 }) Z1.hz ⟨_, [s1.heap.objs.size+4,s1.heap.objs.size+2,s1.heap.objs.size+3,s1.heap.objs.size,s1.heap.objs.size+1],_,_,H1,O,I2,UX a b _ _ _ _ _ (zipApart_new la lb),Z1,fun c hc =>?_,q⟩;simp only[bC,xw,or_false]at hc;rcases hc with rfl | rfl | rfl | rfl | rfl
 ·exact fp _ (ir ..)
 ·exact fp _ (ir ..)
 ·exact fp _ (ir ..)
 ·exact fp _ (aw _)
 ·exact fp _ (ir ..)
end
theorem ZC{a:Addr}{xs ys:List V}{D:Ends}(eO:xs.length=ys.length)(Pv:Nat->St->Hp->Prop)(h0:Pv 0 σ H)(hl:∀ i σ H,i<=xs.length->Pv i σ H->aW K H a xs∧aW K H b ys)(hs:∀ i x y p σ H,xs[i]? = some x->ys[i]? = some y->Pv i σ H->H p=none->g (.ref p) σ (aC H p (.tup [x,y])) fun kW H2=>tb { D with nx:=Pv (i+1),ct:=Pv (i+1),bk:=D.nx } kW H2)(hd:∀ σ H,Pv xs.length σ H->D.nx σ H) :
  ∃ W:Nat->Nat->St->Hp->Prop,(∃ m,W 0 m σ H)∧∀ i m σ H,W i m σ H ->
   ((XX K a b).stop i H∧D.nx σ H)∨((XX K a b).go i H∧∃ N:St->Hp->Prop,(∀ bJ H',N bJ H'->∃ m',m' < m∧W (i+1) m' bJ H')∧∀ x H',(XX K a b).BW i H x H'->g x σ H' fun kW H2=>tb { D with nx:=N,ct:=N,bk:=D.nx } kW H2):=by
 refine⟨fun i m σ H=>m=xs.length - i∧i<=xs.length∧Pv i σ H,⟨xs.length,by simp,aQ _,h0⟩,?_⟩;rintro i m σ H ⟨rfl,hi,p⟩;obtain⟨q,q'⟩:=hl i σ H hi p;by_cases ef:i < xs.length
 ·have amB:i < ys.length:=by omega
  refine .inr ⟨⟨xs,ys,xs[i],ys[i],q,q',by simp[ef],by simp[amB]⟩,Pv (i+1),fun bJ H' p'=>⟨xs.length - (i+1),by omega,O,ef,p'⟩,fun x H' y =>?_⟩;obtain⟨pa,u,v,RA,rfl,hu,hv,rfl⟩:=y;exact hs i u v pa σ H (hu xs q) (hv ys q') p RA
 ·have e:i=xs.length:=by omega
  subst e;exact .inl ⟨⟨xs,q,O⟩,hd σ H p⟩
section
variable {prog:Program}{w:World}{A:Around}{E:Value->Shared->Prop}{s:Shared}
end
section
variable {P:Program}{w:World}{a:Addr}{o:Obj}{kvs:List (NK × V)}{g:TG}{tb:TS}{D:Ends}{σ : St}{H:Hp}
end
section
variable {X:Cx}{ag:List (Addr × Obj)}{σ : St}{H:Hp}{s:Shared}{a b:Addr}{kvs:List (NK × V)}{k:NK}{v:V}{A:Around}{E:Value->Shared->Prop}
end
end L2
namespace Sw
open PySem L2
variable{i j:Nat}{h:Str}{bf:Str->Nat}
def iL(x:Str)(b:Int)(n i:Nat):Tm:=if i < 2 * n then (if i % 2=0 then .num (b+((i / 2:Nat):Int)) else .of x [i - 1]) else .of x [2 * (i - 2 * n),2 * (i - 2 * n)]
def eC(x:Str)(b:Int)(n l:Nat):List Tm:=(aI l).map (iL x b n)
def ldG(n i:Nat):Nat:=if i < 2 * n then i else 2 * (i - 2 * n)+1
def mw(n l:Nat):List Nat:=(aI l).map (ldG n)
def BH(n m:Nat):List (Nat × Nat):=(aI m).map fun k=>(2 * k+1,2 * n+k)
section
variable {x:Str}{b:Int}{n l m:Nat}
theorem fK:(eC x b n l).length=l:=by unfold eC;rw[ay,bA]
theorem tO:(mw n l).length=l:=by unfold mw;rw[ay,bA]
theorem wj(h:i < l):(eC x b n l)[i]? = some (iL x b n i):=by unfold eC;rw[aJ,dO h];rfl
theorem pU{t:Tm}(h:(eC x b n l)[i]? = some t):i < l∧t=iL x b n i:=by
 have hl:=(aj.mp h).1;rw[fK]at hl;rw[wj hl]at h;exact⟨hl,(aP h).symm⟩
theorem wM(h:i < l):(mw n l)[i]? = some (ldG n i):=by unfold mw;rw[aJ,dO h];rfl
theorem tP(h:i < l):(mw n l).getD i 0=ldG n i:=by rw[aU,wM h];rfl
theorem vY(h:iL x b n i=iL x b n j):i=j:=by
 unfold iL at h;by_cases h1:i < 2 * n
 ·rw[if_pos h1]at h;by_cases h2:i % 2=0
  ·rw[if_pos h2]at h;by_cases h3:j < 2 * n
   ·rw[if_pos h3]at h;by_cases h4:j % 2=0
    ·rw[if_pos h4]at h;injection h;omega
    ·rw[if_neg h4]at h;cases h
   ·rw[if_neg h3]at h;cases h
  ·rw[if_neg h2]at h;by_cases h3:j < 2 * n
   ·rw[if_pos h3]at h;by_cases h4:j % 2=0
    ·rw[if_pos h4]at h;cases h
    ·rw[if_neg h4]at h;injection h with _ e;injection e;omega
   ·rw[if_neg h3]at h;injection h with _ e;injection e with _ e;cases e
 ·rw[if_neg h1]at h;by_cases h3:j < 2 * n
  ·rw[if_pos h3]at h;by_cases h4:j % 2=0
   ·rw[if_pos h4]at h;cases h
   ·rw[if_neg h4]at h;injection h with _ e;injection e with _ e;cases e
  ·rw[if_neg h3]at h;injection h with _ e;injection e;omega
theorem Wg(h:i < l)(hl:l<=3 * n)(h2:2 * n<=l∨l<=2 * n∧l % 2=0):mk (mw n l) (iL x b n i)=iL x b n i:=by
 have ev:∀ k,k < 2 * n->k < l->(mw n l).getD k 0=k:=fun k h1 h2=>by rw[tP h2,ldG,if_pos h1]
 unfold iL;by_cases h1:i < 2 * n
 ·rw[if_pos h1];by_cases h3:i % 2=0
  ·rw[if_pos h3];rfl
  ·rw[if_neg h3,mk,aS,fS,ev (i - 1) (by omega) (by omega)]
 ·rw[if_neg h1,mk,aS,aS,fS,ev (2 * (i - 2 * n)) (by omega) (by omega)]
theorem MK(hl:l<=3 * n):EF (eC x b n l):=fun i y as h a ha=>by
 obtain⟨hi,e⟩:=pU h;unfold iL at e;by_cases h1:i < 2 * n
 ·rw[if_pos h1]at e;by_cases h3:i % 2=0
  ·rw[if_pos h3]at e;cases e
  ·rw[if_neg h3]at e;cases e;rw[a8.mp ha];omega
 ·rw[if_neg h1]at e;cases e;rcases bC.mp ha with z | z
  ·omega
  ·rw[a8.mp z];omega
theorem ofG{y:Str}{as:List Nat}(h:(eC x b n l)[i]? = some (.of y as)):y=x∧1<=as.length∧as.length<=2:=by
 obtain⟨hi,e⟩:=pU h;unfold iL at e;by_cases h1:i < 2 * n
 ·rw[if_pos h1]at e;by_cases h3:i % 2=0
  ·rw[if_pos h3]at e;cases e
  ·rw[if_neg h3]at e;cases e;exact⟨O,(show 1<=_ by simp),(show _<=2 by simp)⟩
 ·rw[if_neg h1]at e;cases e;exact⟨O,(show 1<=_ by simp),(show _<=2 by simp)⟩
theorem ak7(hl:l<=3 * n):PB (eC x b n l):=⟨MK hl,fun i y as h=>by have:=ofG h;omega,by
 unfold eC;exact Fh.mpr (List.nodup_range.imp fun {i j} ne e=>ne (vY e))⟩
theorem Ko{p q:Nat}(h:(p,q)∈BH n m):∃ k,k < m∧p=2 * k+1∧q=2 * n+k:=by
 obtain⟨k,hk,e⟩:=eD.mp h;injection e with e1 e2;exact⟨k,dH.mp hk,e1.symm,e2.symm⟩
theorem Kt(hm:m<=n):Ab (eC x b n (2 * n+m)) (BH n m) (mw n (2 * n+m)):=by
 refine⟨by rw[tO,fK],fun k v h =>?_,fun k v h =>?_,fun i j hi hj h =>?_⟩
 ·have hk:=(aj.mp h).1;rw[tO]at hk;rw[wM hk]at h;cases h;unfold ldG;by_cases h1:k < 2 * n
  ·rw[if_pos h1];exact⟨aw _,by rw[wM hk,ldG,if_pos h1]⟩
  ·rw[if_neg h1];have:2 * (k - 2 * n)+1 < 2 * n:=by omega
   exact⟨by omega,by rw[wM (by omega),ldG,if_pos this]⟩
 ·have hk:=(aj.mp h).1;rw[tO]at hk;rw[wM hk]at h;cases h;unfold ldG;by_cases h1:k < 2 * n
  ·rw[if_pos h1];exact .refl _
  ·rw[if_neg h1];refine .symm (.ZH (eD.mpr ⟨k - 2 * n,dH.mpr (by omega),?_⟩));rw[show 2 * n+(k - 2 * n)=k by omega]
 ·refine Pl (MK (by omega)) (fun p q h =>?_) (by rw[tO,fK]) (fun p q h =>?_) (fun i j t u ht hu e =>?_) h
  ·obtain⟨k,hk,rfl,rfl⟩:=Ko h;rw[fK];omega
  ·obtain⟨k,hk,rfl,rfl⟩:=Ko h;rw[wM (by omega),wM (by omega),ldG,ldG,if_pos (by omega),if_neg (by omega)];congr 1;omega
  ·obtain⟨h1,rfl⟩:=pU ht;obtain⟨h2,rfl⟩:=pU hu;rw[Wg h1 (by omega) (by omega),Wg h2 (by omega) (by omega)]at e;rw[vY e]
theorem msG(hm:m<=n):(eC x b n (2 * n+m)).map (mk (mw n (2 * n+m)))=eC x b n (2 * n+m):=by
 refine eY fun i =>?_;rw[aJ];by_cases h:i < 2 * n+m
 ·rw[wj h];show some _=_;rw[Wg h (by omega) (by omega)]
 ·rw[cJ (by rw[fK];omega)];rfl
theorem adk(hm:m<=n):dQ ((eC x b n (2 * n+m)).map (mk (mw n (2 * n+m)))) (eC x b n (2 * n+m)).length=aI (2 * n+m):=by
 rw[msG hm,fK];unfold dQ;refine List.filter_eq_self.mpr fun k hk =>?_;have hk:=dH.mp hk;cases e:lS (eC x b n (2 * n+m)) k with
 | true=>rfl
 | false =>
  obtain⟨i,hi,h⟩:=(oa (wj hk)).mp e;have:=vY (pU h).2;omega
theorem NW{α : Type}{c:Nat}{v : α}{g:Nat->Option α}(hg:∀ i,g i=if i=c then some v else none):∀ l,(aI l).filterMap g=if c < l then [v] else []
 | 0=>rfl
 | l+1=>by
  rw[eM,jH,NW hg l,cF,Ei,hg l];by_cases h:l=c
  ·rw[if_pos h,if_neg (by omega),if_pos (by omega)];rfl
  ·rw[if_neg h];by_cases h2:c < l
   ·rw[if_pos h2,if_pos (by omega)];rfl
   ·rw[if_neg h2,if_neg (by omega)];rfl
theorem V6{α : Type}{g:Nat->Option α}{l:Nat}(hg:∀ i,i < l->g i=none):(aI l).filterMap g = []:=vV.mpr fun i hi=>hg i (dH.mp hi)
theorem Kn{α β : Type}(p : α -> Bool)(f : α -> Option β):∀ l:List α,(l.filter p).filterMap f=l.filterMap fun i=>if p i=true then f i else none
 | []=>rfl
 | a :: l=>by
  rw[xx,cF];by_cases h:p a=true
  ·rw[if_pos h,if_pos h,cF,Kn p f l]
  ·rw[if_neg h,if_neg h,Kn p f l]
theorem O9{α β : Type}{f g : α -> Option β}:∀ {l:List α},(∀ i∈l,f i=g i)->l.filterMap f=l.filterMap g
 | [],_=>rfl
 | a :: l,h=>by rw[cF,cF,h a bM,O9 fun i hi=>h i (aX _ hi)]
theorem GC(hm:m<=n){k:Nat}(hk:k < 2 * n+m):(AE (eC x b n (2 * n+m)) (mw n (2 * n+m)) k).length<=1∧∀ j,j < n->k=2 * j->AE (eC x b n (2 * n+m)) (mw n (2 * n+m)) k = [b+(j:Int)]:=by
 unfold AE gy;rw[tO,Kn];have key:∀ i,i < 2 * n+m->(if decide ((mw n (2 * n+m)).getD i 0=(mw n (2 * n+m)).getD k 0)=true then l9 (eC x b n (2 * n+m)) i else none)=if i < 2 * n∧i % 2=0∧i=ldG n k then some (b+((i / 2:Nat):Int)) else none:=fun i hi=>by
  rw[tP hi,tP hk];unfold l9;rw[wj hi];show (if decide (ldG n i=ldG n k)=true then AF (iL x b n i) else none)=_;unfold iL;by_cases h1:i < 2 * n
  ·rw[if_pos h1];by_cases h2:i % 2=0
   ·rw[if_pos h2];have:ldG n i=i:=by unfold ldG;rw[if_pos h1]
    rw[this];by_cases h3:i=ldG n k
    ·rw[if_pos (by rw[decide_eq_true h3]),if_pos ⟨h1,h2,h3⟩];rfl
    ·rw[if_neg (by rw[decide_eq_false h3];decide),if_neg (fun z=>h3 z.2.2)]
   ·rw[if_neg h2,if_neg (c:=i < 2 * n∧_) (fun z=>h2 z.2.1)];show (if _ then none else none)=none;split <;> rfl
  ·rw[if_neg h1,if_neg (c:=i < 2 * n∧_) (fun z=>h1 z.1)];show (if _ then none else none)=none;split <;> rfl
 have e:(aI (2 * n+m)).filterMap (fun i=>if decide ((mw n (2 * n+m)).getD i 0=(mw n (2 * n+m)).getD k 0)=true then l9 (eC x b n (2 * n+m)) i else none)=(aI (2 * n+m)).filterMap fun i=>if i < 2 * n∧i % 2=0∧i=ldG n k then some (b+((i / 2:Nat):Int)) else none:=O9 fun i hi=>key i (dH.mp hi);rw[e];by_cases h:ldG n k < 2 * n∧ldG n k % 2=0
 ·rw[NW (c:=ldG n k) (v:=b+((ldG n k / 2:Nat):Int)) fun i=>by
   by_cases h3:i=ldG n k
   ·rw[if_pos h3,if_pos ⟨by omega,by omega,h3⟩,h3]
   ·rw[if_neg h3,if_neg (fun z=>h3 z.2.2)],if_pos (by omega)]
  refine⟨aw _,fun j hj e =>?_⟩;have:ldG n k=2 * j:=by unfold ldG;rw[if_pos (by omega)];exact e
  rw[this];congr 2;omega
 ·rw[V6 fun i _=>if_neg fun z=>h ⟨by omega,by omega⟩];refine⟨aQ _,fun j hj e=>absurd ?_ h⟩;unfold ldG;rw[if_pos (by omega)];omega
theorem alc{kvs:List (NK × V)}(hm:m<=n)(tb:yl (eC x b n (2 * n+m)) (mw n (2 * n+m)) (eC x b n (2 * n+m)).length kvs)(hj:j < n):cP kvs (dJ (.of x [2 * j,2 * j]))=if j < m then some (nV (2 * j+1)) else none:=by
 have et:iL x b n (2 * n+j) = .of x [2 * j,2 * j]:=by unfold iL;rw[if_neg (by omega),show 2 * n+j - 2 * n=j by omega]
 rw[fK]at tb;by_cases h:j < m
 ·rw[if_pos h];have:=tb.1 (2 * n+j) _ (by omega) (wj (by omega));rw[Wg (by omega) (by omega) (by omega),et,tP (by omega)]at this;rw[this,ldG,if_neg (by omega)];congr 2;omega
 ·rw[if_neg h];cases e:cP kvs (dJ (.of x [2 * j,2 * j])) with
  | none=>rfl
  | some v =>
   obtain⟨i,t,hi,ht,ek⟩:=tb.2.1 _ _ e;obtain⟨_,rfl⟩:=pU ht;rw[Wg hi (by omega) (by omega)]at ek;have:=vY (et.trans (qj ek));omega
theorem VP(h:l<=i):fB (eC x b n l) (iL x b n i)=none:=by
 cases e:fB (eC x b n l) (iL x b n i) with
 | none=>rfl
 | some k =>
  obtain⟨h1,h2⟩:=pU (wz e);have:=vY h2;omega
theorem MT:eC x b n (l+1)=eC x b n l ++ [iL x b n l]:=by unfold eC;rw[eM,cR];rfl
theorem GY:mJ (eC x b n l) (iL x b n l)=(eC x b n (l+1),l):=by rw[E2 (VP (aw _)),MT,fK]
theorem Z3(h:i < l):mJ (eC x b n l) (iL x b n i)=(eC x b n l,i):=by
 cases e:fB (eC x b n l) (iL x b n i) with
 | none=>exact absurd (aN (wj h)) (wy.mp e)
 | some k =>
  obtain⟨h1,h2⟩:=pU (wz e);rw[E1 e,vY h2]
theorem VJ{k:Nat}(hk:k < n)(bf:Str->Nat):gZ bf (eC x b n (2 * k)) (.of x [.num (b+(k:Int))])=(eC x b n (2 * (k+1)),2 * k+1):=by
 have e1:(TM.num (b+(k:Int)):Tm)=iL x b n (2 * k):=by unfold iL;rw[if_pos (by omega),if_pos (by omega),show 2 * k / 2=k by omega]
 have e2:(TM.of x [2 * k]:Tm)=iL x b n (2 * k+1):=by unfold iL;rw[if_pos (by omega),if_neg (by omega)];rfl
 rw[gZ,dF,dF,gZ,e1,GY];show mJ (eC x b n (2 * k+1)) (.of x [2 * k])=_;rw[e2,GY];rfl
theorem YD(hj:j < n)(hl:2 * n<=l)(hb:bf h=2 * j):gZ bf (eC x b n l) (.of x [.any h])=(eC x b n l,2 * j+1):=by
 have e2:(TM.of x [2 * j]:Tm)=iL x b n (2 * j+1):=by unfold iL;rw[if_pos (by omega),if_neg (by omega)];rfl
 rw[gZ,dF,dF,gZ,hb];show mJ (eC x b n l) (.of x [2 * j])=_;rw[e2,Z3 (by omega)]
theorem VI(hb:bf h=2 * j):gZ bf (eC x b n (2 * n+j)) (.of x [.any h,.any h])=(eC x b n (2 * n+(j+1)),2 * n+j):=by
 have e2:(TM.of x [2 * j,2 * j]:Tm)=iL x b n (2 * n+j):=by unfold iL;rw[if_neg (by omega),show 2 * n+j - 2 * n=j by omega]
 have ea:∀ ts,gZ bf ts (.any h)=(ts,2 * j):=fun ts=>by rw[gZ,hb]
 rw[gZ,dF,dF,dF,ea,ea];show mJ (eC x b n (2 * n+j)) (.of x [2 * j,2 * j])=_;rw[e2,GY];rfl
end
end Sw
namespace L2
open PySem PySem.Spec PyProof.Rows
theorem QT:∀ {xs:List V}{us:List Value},xs.length=us.length->(∀ (j:Nat) x u,xs[j]? = some x->us[j]? = some u->RelV x u)->Vals xs us
 | [], [],_,_ => .nil
 | [],_ :: _,h,_=>by cases h
 | _ :: _, [],h,_=>by cases h
 | x :: xs,u :: us,h,f => .cons (f 0 x u rfl rfl) (QT (by simpa using h) fun j a b ha hb=>f (j+1) a b (by simpa using ha) (by simpa using hb))
section
variable {X:Cx}
inductive xy(xs:List V)(H:Hp)(Q:VK):Prop
 | mk:∀ p kvs,(xs = [.ref p])->(Rd H p (.dK kvs))->(∀ l,H l=none->Q (.ref l) (aC H l (.lst (kvs.map fun kv=>kV kv.1))))->xy xs H Q
theorem Ku(hc:X.calm=true):mQ X (.type "list") (fun xs H Q=>xy xs H Q):=by
 intro ag s σ H xs us Q I r h;obtain⟨p,kvs,rfl,hd,q⟩:=h;obtain⟨u,rfl,ru⟩:=vals1 r;cases ru;obtain⟨z,lo,vs,fD,dd⟩:=A7 I.bO hd;obtain⟨ep,hat⟩:=dd.dictAt;have hl:=fD.length;have hk:=fD.keys;refine PySem.W.kdl_call (PySem.W.kdl_dict (knd:=dI X.prog X.w) (kvs:=vs) (ep:=ep) lo) (I.ok.hd hc) hat (by rw[<- hl];exact z) fun h' tk Z4 c' kp hS Ki =>?_;refine⟨.ref s.heap.objs.size,_,I.laid kp (aw _) (show eV X.prog X.w _ h' _ (.lst (kvs.map fun kv=>kV kv.1)) from ⟨by rw[ay];exact z,Z4.toList,c',?_,by simpa using hS⟩),O,q _ (I.bO.fresh (aw _))⟩;refine QT (by rw[ay,hl,bF];exact Ki.1.symm) fun j x v hx hv =>?_;obtain⟨k,y,LA,his⟩:=Ki.2 j v (by rw[<- rb];exact hv);have e1:(kvs.map (·.1))[j]? = some k:=by rw[hk,aJ,LA];rfl
 rw[aJ]at e1 hx;cases e:kvs[j]? with
 | none=>rw[e]at e1;cases e1
 | some kv =>
  rw[e]at e1 hx;have ek:kv.1=k:=aP e1;have ex:kV kv.1=x:=aP hx;rw[<- ex,ek];rcases fT (show AK k v=true from his) with⟨i,t,rfl,rfl⟩ | ⟨y,t,rfl,rfl⟩
  ·exact⟨t,O⟩
  ·exact⟨t,O⟩
end
end L2
namespace aA
open PySem L2 Sw
variable{n i tp l j m c:Nat}{H H' H1 H2:Hp}{t:Tm}{v vl vr:V}{ts:List Tm}{ls as ks:List Nat}{dx L M bn dn EL R CN o C s dr A:Addr}{us vs cL:List V}{lV:List (NK × V)}{b room wt:Int}{es:List (Nat × Nat)}{x y z h:Str}{u:HO}{rs:List (Nat × Bd)}
def top(i:Nat):Stmt:=lq.main.body.getD i (.Pass ⟨0,0,0,0⟩)
abbrev wx:Stmt:=fk (top 6) 0
theorem acx:bu wb1 wb1 (aF wx):=⟨O,O,O,by decide +kernel,O,by decide +kernel,by decide +kernel⟩
abbrev EN:Stmt:=fk (top 6) 1
theorem Vy:bu ["self", "pattern", "binds", "many"] uS (aF EN):=⟨O,O,O,by decide +kernel,O,by decide +kernel,by decide +kernel⟩
abbrev Ap:Stmt:=fk (top 6) 2
theorem yE:bu ["self", "pattern", "binds", "numbers", "arm"] uS (aF Ap):=⟨O,O,O,by decide +kernel,O,by decide +kernel,by decide +kernel⟩
abbrev Ao:Stmt:=fk (top 6) 3
theorem Qt:bu wc8 wc8 (aF Ao):=⟨O,O,O,by decide +kernel,O,by decide +kernel,by decide +kernel⟩
abbrev HN:Stmt:=top 8
theorem acw:bu wb6 wb6 (aF HN):=⟨O,O,O,by decide +kernel,O,by decide +kernel,by decide +kernel⟩
abbrev sZ:Stmt:=top 10
theorem nH:bu ["leads", "a", "b", "low", "high", "k"] wc6 (aF sZ):=⟨O,O,O,by decide +kernel,O,by decide +kernel,by decide +kernel⟩
abbrev yF:Stmt:=top 11
theorem ki:bu ["terms", "leads", "joined", "first", "k", "term", "other"] eU (aF yF):=⟨O,O,O,by decide +kernel,O,by decide +kernel,by decide +kernel⟩
abbrev F9:Stmt:=top 9
theorem Ci:bu ["terms", "edges", "leads", "edge"] wd1 (aF F9):=⟨O,O,O,by decide +kernel,O,by decide +kernel,by decide +kernel⟩
abbrev tf:Stmt:=fk (top 17) 0
theorem Yu:bu wb1 wb1 (aF tf):=⟨O,O,O,by decide +kernel,O,by decide +kernel,by decide +kernel⟩
abbrev ND:Stmt:=fk (top 17) 1
theorem acz:bu wc9 wc9 (aF ND):=⟨O,O,O,by decide +kernel,O,by decide +kernel,by decide +kernel⟩
abbrev Aq:Stmt:=top 18
theorem Qu:bu ["bench"] ["bench"] (aF Aq):=⟨O,O,O,by decide +kernel,O,by decide +kernel,by decide +kernel⟩
abbrev F8:Stmt:=top 25
theorem Vz:bu wa7 wa7 (aF F8):=⟨O,O,O,by decide +kernel,O,by decide +kernel,by decide +kernel⟩
abbrev wu:Stmt:=top 26
theorem Mo:bu wa7 wa7 (aF wu):=⟨O,O,O,by decide +kernel,O,by decide +kernel,by decide +kernel⟩
abbrev u5:Stmt:=top 27
theorem JK:bu wa7 wa7 (aF u5):=⟨O,O,O,by decide +kernel,O,by decide +kernel,by decide +kernel⟩
abbrev yG:Stmt:=top 28
theorem Nq:bu wa7 wa7 (aF yG):=⟨O,O,O,by decide +kernel,O,by decide +kernel,by decide +kernel⟩
abbrev qk:Stmt:=top 31
theorem E8:bu wd6 wd6 (aF qk):=⟨O,O,O,by decide +kernel,O,by decide +kernel,by decide +kernel⟩
abbrev yJ:Stmt:=top 33
theorem Nu:bu wb0 wb0 (aF yJ):=⟨O,O,O,by decide +kernel,O,by decide +kernel,by decide +kernel⟩
abbrev qm:Stmt:=top 34
theorem E9:bu wb0 wb0 (aF qm):=⟨O,O,O,by decide +kernel,O,by decide +kernel,by decide +kernel⟩
abbrev sT:Stmt:=top 32
theorem kY:bu ["combine", "fact", "other_fact", "found", "one", "other"] wb5 (aF sT):=⟨O,O,O,by decide +kernel,O,by decide +kernel,by decide +kernel⟩
abbrev m9:Stmt:=fk (top 29) 0
theorem Np:bu bh bh (aF m9):=⟨O,O,O,by decide +kernel,O,by decide +kernel,by decide +kernel⟩
abbrev aeh:Stmt:=fk (top 29) 1
abbrev Yv:Stmt:=fk (top 29) 2
abbrev Nx:Stmt:=fk (top 30) 0
theorem acu:bu wd0 wd0 (aF Nx):=⟨O,O,O,by decide +kernel,O,by decide +kernel,by decide +kernel⟩
abbrev F6:Stmt:=fk (top 30) 1
theorem Vw:bu wa0 wa0 (aF F6):=⟨O,O,O,by decide +kernel,O,by decide +kernel,by decide +kernel⟩
abbrev qJ:Stmt:=fk (top 35) 0
theorem wo:bu ["self", "terms", "leads", "place", "word", "k", "term"] bh (aF qJ):=⟨O,O,O,by decide +kernel,O,by decide +kernel,by decide +kernel⟩
abbrev Nz:Stmt:=fk (top 35) 1
theorem acv:bu wd0 wd0 (aF Nz):=⟨O,O,O,by decide +kernel,O,by decide +kernel,by decide +kernel⟩
abbrev F7:Stmt:=fk (top 35) 2
theorem uC:bu ["self", "term", "known", "bound", "found", "number"] wa0 (aF F7):=⟨O,O,O,by decide +kernel,O,by decide +kernel,by decide +kernel⟩
abbrev xQ:Stmt:=top 15
theorem Th:bu wc7 wc7 (aF xQ):=⟨O,O,O,by decide +kernel,O,by decide +kernel,by decide +kernel⟩
abbrev Ck:Stmt:=top 37
theorem jT:bu ["kind", "known", "steps", "done", "k", "term", "fact", "member"] ["kind"] (aF Ck):=⟨O,O,O,by decide +kernel,O,by decide +kernel,by decide +kernel⟩
abbrev xP:Stmt:=top 38
theorem Tg:bu wb3 wb3 (aF xP):=⟨O,O,O,by decide +kernel,O,by decide +kernel,by decide +kernel⟩
abbrev Ny:Stmt:=top 39
theorem EM:bu ["terms", "leads", "pairs", "k", "found"] eU (aF Ny):=⟨O,O,O,by decide +kernel,O,by decide +kernel,by decide +kernel⟩
abbrev JO:Stmt:=top 12
theorem Al:bu ["terms", "leads", "table", "k", "term"] eU (aF JO):=⟨O,O,O,by decide +kernel,O,by decide +kernel,by decide +kernel⟩
abbrev JN:Stmt:=top 13
theorem sR:bu ["terms", "leads", "found", "seen", "k", "term", "own"] eU (aF JN):=⟨O,O,O,by decide +kernel,O,by decide +kernel,by decide +kernel⟩
abbrev sV:Stmt:=top 42
theorem rj:bu ["terms", "leads", "found", "row"] eU (aF sV):=⟨O,O,O,by decide +kernel,O,by decide +kernel,by decide +kernel⟩
abbrev ql:Stmt:=fk (top 57) 0
theorem Vx:bu bh bh (aF ql):=⟨O,O,O,by decide +kernel,O,by decide +kernel,by decide +kernel⟩
abbrev JM:Stmt:=top 47
theorem Ak:bu ["tree", "total", "arm"] ["tree"] (aF JM):=⟨O,O,O,by decide +kernel,O,by decide +kernel,by decide +kernel⟩
abbrev JP:Stmt:=top 48
theorem Am:bu ["pattern", "total", "arm"] wb9 (aF JP):=⟨O,O,O,by decide +kernel,O,by decide +kernel,by decide +kernel⟩
abbrev wq:Stmt:=top 50
theorem Bt:bu ["pattern", "found", "arm"] wc2 (aF wq):=⟨O,O,O,by decide +kernel,O,by decide +kernel,by decide +kernel⟩
abbrev JQ:Stmt:=top 49
theorem Nr:bu wc2 wb9 (aF JQ):=⟨O,O,O,by decide +kernel,O,by decide +kernel,by decide +kernel⟩
abbrev Cm:Stmt:=top 63
theorem HM:bu ["text", "sign"] ["text"] (aF Cm):=⟨O,O,O,by decide +kernel,O,by decide +kernel,by decide +kernel⟩
abbrev pI:Stmt:=top 71
theorem n9:bu ["left", "right", "bound", "hole"] wd4 (aF pI):=⟨O,O,O,by decide +kernel,O,by decide +kernel,by decide +kernel⟩
abbrev u4:Stmt:=top 72
theorem zq:bu ["asks", "bound", "ask"] wd5 (aF u4):=⟨O,O,O,by decide +kernel,O,by decide +kernel,by decide +kernel⟩
abbrev sU:Stmt:=fk (top 70) 0
theorem Ys:bu ue ue (aF sU):=⟨O,O,O,by decide +kernel,O,by decide +kernel,by decide +kernel⟩
abbrev yH:Stmt:=top 44
theorem Cg:bu ["lead", "hole", "binds", "more"] wb7 (aF yH):=⟨O,O,O,by decide +kernel,O,by decide +kernel,by decide +kernel⟩
abbrev sW:Stmt:=fk (top 43) 0
theorem Yt:bu bh bh (aF sW):=⟨O,O,O,by decide +kernel,O,by decide +kernel,by decide +kernel⟩
abbrev uo:Stmt:=fk (top 43) 1
theorem jw:bu ["self", "k", "pattern", "binds", "term", "ways", "number", "arm", "longer", "way"] wa8 (aF uo):=⟨O,O,O,by decide +kernel,O,by decide +kernel,by decide +kernel⟩
abbrev rl:Stmt:=fk (top 43) 2
theorem uZ:bu ["self", "lead", "pattern", "binds", "ways", "k"] wa2 (aF rl):=⟨O,O,O,by decide +kernel,O,by decide +kernel,by decide +kernel⟩
abbrev Cj:Stmt:=top 41
theorem rk:bu ["terms", "leads", "left", "matcher", "found", "k", "binds"] wc0 (aF Cj):=⟨O,O,O,by decide +kernel,O,by decide +kernel,by decide +kernel⟩
abbrev Ld:Stmt:=fk (top 30) 2
abbrev Q8:Stmt:=fk (top 35) 3
abbrev Co:Stmt:=top 45
theorem An:bu ["rule", "binds", "signs", "known_signs", "names", "known_names", "ask", "k"] qg (aF Co):=⟨O,O,O,by decide +kernel,O,by decide +kernel,by decide +kernel⟩
abbrev kZ:Stmt:=top 14
theorem j4:bu ["table", "leads", "pattern", "binds", "arms", "arm", "lead"] gr (aF kZ):=⟨O,O,O,by decide +kernel,O,by decide +kernel,by decide +kernel⟩
abbrev sY:Stmt:=top 54
theorem HL:bu ["terms", "leads", "term", "values", "number", "standing"] wc1 (aF sY):=⟨O,O,O,by decide +kernel,O,by decide +kernel,by decide +kernel⟩
abbrev Nw:Stmt:=top 53
theorem zp:bu ["terms", "leads", "table", "found", "k", "values", "result", "left"] eU (aF Nw):=⟨O,O,O,by decide +kernel,O,by decide +kernel,by decide +kernel⟩
abbrev uq:Stmt:=fk (top 57) 1
theorem lZ:bu ["self", "rule", "found", "words", "k", "binds", "pairs"] wd7 (aF uq):=⟨O,O,O,by decide +kernel,O,by decide +kernel,by decide +kernel⟩
abbrev yI:Stmt:=fk (top 57) 2
theorem Nt:bu wb8 wb8 (aF yI):=⟨O,O,O,by decide +kernel,O,by decide +kernel,by decide +kernel⟩
abbrev Cn:Stmt:=fk (top 57) 3
theorem Ti:bu wb2 wb2 (aF Cn):=⟨O,O,O,by decide +kernel,O,by decide +kernel,by decide +kernel⟩
abbrev NA:Stmt:=top 52
theorem vZ:bu ["bench", "rules", "terms", "leads", "found", "scene", "rule"] wd2 (aF NA):=⟨O,O,O,by decide +kernel,O,by decide +kernel,by decide +kernel⟩
abbrev As:Stmt:=top 58
theorem iJ:bu ["bench", "steps", "many", "edges", "why", "weight", "left", "right", "binds", "a", "b"] wd3 (aF As):=⟨O,O,O,by decide +kernel,O,by decide +kernel,by decide +kernel⟩
abbrev zr:Stmt:=top 59
theorem JL:bu ["bench", "rules", "rounds", "size", "turns", "steps"] wb4 (aF zr):=⟨O,O,O,by decide +kernel,O,by decide +kernel,by decide +kernel⟩
abbrev NB:Stmt:=top 74
theorem acy:bu vc vc (aF NB):=⟨O,O,O,by decide +kernel,O,by decide +kernel,by decide +kernel⟩
abbrev Nv:Stmt:=top 75
theorem JJ:bu ["_law_k", "_law_cell", "_law_some", "_law_place"] wc5 (aF Nv):=⟨O,O,O,by decide +kernel,O,by decide +kernel,by decide +kernel⟩
abbrev vN:Stmt:=top 76
theorem jj:bu ["_law_script", "_law_cell", "_law_more", "_law_count", "_law_word_here", "_law_base", "_law_bench", "_law_number", "_law_hole", "_law_asks", "_law_x", "_law_title", "_law_weight", "_law_some", "_law_due", "_law_held", "_law_k"] ["_law_script"] (aF vN):=⟨O,O,O,by decide +kernel,O,by decide +kernel,by decide +kernel⟩
section
variable {P:Program}{w:World}{K:ai}{mg:Str->Option Value}{base:Heap}{CB CF CH CS CN CE CM CR tB:Addr}
inductive Xy(K:ai)(vs:List V)(H:Hp)(Q:VK):Prop
 | mk (v:V) (t:Tm) (L:Addr) (ls:List Nat) (z0:vs = [v,.ref L]) (z1:ix H t v) (z2:bw K H L (ls.map nV)) (z3:(∀ x as,t = .of x as->as.length<=1000∧∀ a∈as,a < ls.length)) (z4:∀ v' H',a6 H H'->ix H' (mk ls t) v'->Q v' H'):Xy K vs H Q
def Hx(K:ai):Sp:=fun vs H Q _=>Xy K vs H Q
theorem acU(B:iY mg)(D:Def K mg "mark" HN wb6):c7 P w K mg base 1 "mark" wb6 (Hx K):=by
 refine D.has acw (fun vs H Q E h =>?_) (fun f bU A outer s H vs Q E hr h =>?_)
 ·obtain⟨v,t,L,ls,rfl,_⟩:=h;rfl
 obtain⟨v,t,L,ls,rfl,hT,hL,hb,q⟩:=h;refine⟨_,(au (cA (br oP (aV aY (pv 0) az (fun _ _=>O)) bN (bo _)) (ax (aZ (pv 0))) bD)
  (ax (aZ (dX (ae bN (ae (aV aY (pv 0) az (fun _ _=>O)) (ae (fF m6 O B.BZ p8 (ae (Ri (te:=(vv (JR K) _ _)) (own := wd6) (caps := [("leads",1)]) (rT (aF HN) wb6 O O O (by decide +kernel)) (pV (aV aY (pv 0) az (fun _ _=>O))) O (fun _ _ _=>bZ (i:=0) (show (["number", "leads"]:List Str).Nodup by decide +kernel) O (aM O)) (fun _ _ _=>(aV dy (pv 1) (pv 0) (fun _ _=>O)))) aq)) aq))))))),?_⟩
 try dsimp only[cG]
 cases t with
 | num n =>
  obtain⟨a,rfl,h⟩:=id hT;refine⟨_,O,a,_,0,_,O,O,aW.of h,aB (j:=0) rfl,O,_,O,ig (fun _=>⟨_,O,q _ _ (a6.refl _) hT⟩) (fun z=>absurd (V.str.inj z) (by decide))⟩
 | name n =>
  obtain⟨a,rfl,h⟩:=id hT;refine⟨_,O,a,_,0,_,O,O,aW.of h,aB (j:=0) rfl,O,_,O,ig (fun _=>⟨_,O,q _ _ (a6.refl _) hT⟩) (fun z=>absurd (V.str.inj z) (by decide))⟩
 | of x as =>
  obtain⟨a,b,rfl,h,h2⟩:=id hT;obtain⟨hl,ef⟩:=hb x as rfl;refine⟨_,O,a,_,0,_,O,O,aW.of h,aB (j:=0) rfl,O,_,O,ig (fun z=>absurd rfl z) (fun _ =>?_)⟩;refine⟨_,O,a,_,1,_,O,O,aW.of h,aB (j:=1) rfl,?_⟩;refine⟨_,O,a,_,2,_,O,O,aW.of h,aB (j:=2) rfl,b,O,⟨_,aW.of h2⟩,?_⟩;refine Xe (ys:=(as.map fun a=>ls.getD a 0).map nV) (aW.of h2) (by rw[ay];exact hl) (by simp) (fun i y z hy hz H' sm Q' q' =>?_) (fun D1 H' WX sm hD =>?_)
  ·rw[aJ]at hy;rw[aJ,aJ]at hz;cases e:as[i]? with
   | none=>rw[e]at hy;cases hy
   | some k =>
    rw[e]at hy hz;have e1:nV k=y:=aP hy;have e2:nV (ls.getD k 0)=z:=aP hz;subst e1 e2;have hk:=ef k (aN e);have e3:ls[k]? = some (ls.getD k 0):=by rw[aU,ah hk];rfl
    exact⟨_,O,_,O,L,_,_,_,O,O,sm.seq hL,gG e3,q' _ (a6.refl _)⟩
  ·refine⟨D1,_,O,.inl ⟨bw.of hD,fun l Fw =>?_⟩⟩;refine⟨(show 3<=sizeLine by decide),fun t ht =>?_⟩;refine q _ _ (sm.trans ((aD Fw _).trans (aD ht _))) ⟨t,l,O,ak,?_⟩;rw[av (fe ak ht),ak]
inductive Xz(vs:List V)(H:Hp)(Q:VK):Prop
 | mk (L:Addr) (ls:List Nat) (a b la lb:Nat) (z0:vs = [.ref L,nV a,nV b]) (z1:H L=some (.lst (ls.map nV))) (z2:pk ls) (z3:ls.length<=1000000) (z4:ls[a]? = some la) (z5:ls[b]? = some lb) (z6:(la=lb->Q (.bl false) H)) (z7:(la≠lb->Q (.bl true) (aC H L (.lst ((jn ls (max la lb) (min la lb)).map nV))))):Xz  vs H Q
def Ng:Sp:=fun vs H Q _=>Xz  vs H Q
theorem HY(B:iY mg)(D:Def K mg "join_classes" sZ wc6):c7 P w K mg base 1 "join_classes" wc6 Ng:=by
 refine D.has nH (fun vs H Q E h =>?_) (fun f bU A outer s H vs Q E hr h =>?_)
 ·obtain⟨L,ls,a,b,la,lb,rfl,_⟩:=h;rfl
 obtain⟨L,ls,a,b,la,lb,rfl,hL,hg,hz,ha,hb,q1,q2⟩:=h;refine⟨_,(au (bG (i:=3) nH.nd O (aM O) (dz (LS O) O B.Y1 D6 (ae (aV dy (pv 0) (pv 1) (fun _ _=>O)) (ae (aV dy (pv 0) (pv 2) (fun _ _=>O)) aq))))
  (au (bG (i:=4) nH.nd O (aM O) (dz (Xk O) O B.ama Xn (ae (aV dy (pv 0) (pv 1) (fun _ _=>O)) (ae (aV dy (pv 0) (pv 2) (fun _ _=>O)) aq))))
  (au (cA (br d5 (pv 3) (pv 4) (bo _)) (ax (aZ lQ)) bD)
  (au (dM bX O (VQ O B.uD (ae (pv 4) (ae (dz cX O B.jK cn (ae (pv 0) aq)) aq))) (bZ (i:=5) nH.nd O (aM O))
  (ax (cA (br d5 (aV dy (pv 0) (pv 5) (fun _ _=>O)) (pv 4) (bo _)) (ax (VN (pv 3) (VR (pv 0) (pv 5) Nn))) bD)))
  (ax (aZ lQ)))))),?_⟩
 try dsimp only[cG]
 refine⟨_,O,_,O,L,_,_,_,O,O,bw.of hL,gG ha,_,O,_,O,L,_,_,_,O,O,bw.of hL,gG hb,_,_,O,?_⟩;refine⟨_,O,_,O,L,_,_,_,O,O,bw.of hL,gG ha,_,O,_,O,L,_,_,_,O,O,bw.of hL,gG hb,_,_,O,?_⟩;have e1:(if (lb:Int) < (la:Int) then (lb:Int) else (la:Int))=((min la lb:Nat):Int):=by split <;> omega
 have e2:(if (lb:Int) > (la:Int) then (lb:Int) else (la:Int))=((max la lb:Nat):Int):=by split <;> omega
 dsimp only[b7];rw[e1,e2];by_cases Fx:la=lb
 ·refine⟨_,O,_,O,O,_,O,cC (fun _=>q1 Fx) (fun z=>absurd ?_ z)⟩;show V.int _=V.int _;congr 1;omega
 ·refine⟨_,O,_,O,O,_,O,cC (fun z =>?_) (fun _ =>?_)⟩
  ·have:=V.int.inj z;omega
  have hhi:∃ c:Nat,ls[c]? = some (max la lb):=by
   rcases mq la lb with h | h
   ·exact⟨b,by rw[mL h];exact hb⟩
   ·exact⟨a,by rw[nP h];exact ha⟩
  obtain⟨c,hc⟩:=hhi;have amF:=(hg c _ hc).2;have ef:max la lb < ls.length:=(aj.mp amF).1;have q2':=q2 Fx;have ard:min la lb < max la lb:=by omega
  generalize max la lb=hi at *;generalize min la lb=lo at *;refine⟨_,O,_,O,L,_,O,.inl (bw.of hL),hi,_,O,?_,?_⟩
  ·rw[ay];omega
  have en:(((ls.map nV).length:Nat):Int) - (hi:Int)=((ls.length - hi:Nat):Int):=by rw[ay];omega
  rw[en,bP];refine qU (lo:=(hi:Int)) (fun i σ H'=>∃ o, σ = [aa L,ba a,ba b,ba lo,ba hi,o]∧H'=aC H L (.lst ((By ls hi lo (hi+i)).map nV))) ⟨none,O,?_⟩ ?_ ?_
  ·rw[oF,Wh hg];funext c';by_cases h:c'=L
   ·subst h;rw[ak];exact hL
   ·rw[av h]
  ·rintro i σ H' BD ⟨o,rfl,rfl⟩;have hk:hi+i < ls.length:=by omega
   have ev:=ah hk;generalize ls[hi+i]=v at ev;have em:(By ls hi lo (hi+i))[hi+i]? = some v:=by
    rw[wJ,ev];show some _=some _;dsimp only;rw[if_neg (by omega)]
   have ek:(hi:Int)+(i:Int)=((hi+i:Nat):Int):=by omega
   show JC _ _ _ _ _ _;refine⟨_,O,_,O,L,_,_,nV v,O,O,bw.of ak,(by rw[ek];exact gG em),_,O,O,_,O,cC (fun z =>?_) (fun z =>?_)⟩
   ·have hv:v=hi:=by have:=V.int.inj z;omega
    refine⟨_,O,_,O,_,O,L,_,_,hi+i,O,O,ak,?_,⟨_,O,?_⟩⟩
    ·rw[ek,ay,Rt];unfold Ii;rw[if_pos (by omega),if_pos (by omega),bP]
    ·rw[sI];have:=ac4 (hi:=hi) (lo:=lo) ev;unfold mT at this;rw[if_pos hv]at this;rw[Wb,this];rfl
   ·have hv:v≠hi:=fun e=>z (by rw[e]);refine⟨_,O,?_⟩;have:=Y0 (hi:=hi) (lo:=lo) ev hv;rw[show hi+(i+1)=hi+i+1 from rfl,this]
  ·rintro σ H' ⟨o,rfl,rfl⟩;rw[ac5 (by omega)];exact q2'
inductive Je(P:Program)(w:World)(vs:List V)(H:Hp)(Q:VK):Prop
 | mk (T L:Addr) (us:List V) (ts:List Tm) (ls:List Nat) (es:List (Nat × Nat)) (z0:vs = [.ref T,.ref L]) (z1:H T=some (.lst us)) (z2:kO H us ts) (z3:H L=some (.lst (ls.map nV))) (z4:T≠L) (z5:pk ls) (z6:Sound ts es ls) (z7:EF ts) (z8:ls.length=ts.length) (z9:ts.length<=1000) (UL:(∀ (i:Nat) x as,ts[i]? = some (.of x as)->as.length<=1000)) (UK:∀ fP b H',eZ L H H'->H' L=some (.lst (fP.map nV))->pk fP->Sound ts es fP->Keeps ls fP->fP.length=ls.length->(b=true->fP.sum < ls.sum)->(b=false->fP=ls∧∀ (i j:Nat) (t u:Tm),ts[i]? = some t->ts[j]? = some u->mk ls t=mk ls u->ls[i]? = ls[j]?)->Q (.bl b) H'):Je P w vs H Q
def Hy(P:Program)(w:World):Sp:=fun vs H Q _=>Je P w vs H Q
inductive BO(P:Program)(w:World)(H:Hp)(T:Addr)(L:Addr)(p:Addr)(ts:List Tm)(es:List (Nat × Nat))(ls:List Nat)(i:Nat)(σ : St)(H':Hp):Prop
 | mk:∀ (fP:List Nat) (jd:Bool) (kvs:List (NK × V)) (x4 x5 x6:Option V),(σ = [aa T,aa L,some (.bl jd),some (.ref p),x4,x5,x6])->(eZ L H H')->(H' L=some (.lst (fP.map nV)))->(DN P w H' p kvs)->(pk fP)->(Sound ts es fP)->(Keeps ls fP)->(fP.length=ls.length)->((jd=true->fP.sum < ls.sum))->((jd=false->fP=ls))->(fP.sum<=ls.sum)->(kvs.length<=i)->((∀ key v,cP kvs key=some v->∃ j t m,v=nV j∧ts[j]? = some t∧key=dJ m∧Jb ts es t m))->((jd=false->∀ (j:Nat) t,j < i->ts[j]? = some t->∃ j',cP kvs (dJ (mk ls t))=some (nV j')∧ls[j']? = ls[j]?))->BO P w H T L p ts es ls i σ H'
theorem N1(B:iY mg)(rN:c7 P w K mg base 1 "mark" wb6 (Hx K))(kg:c7 P w K mg base 1 "join_classes" wc6 Ng)(D:Def K mg "join_like" yF eU) :
  c7 P w K mg base 2 "join_like" eU (Hy P w):=by
 refine D.has ki (fun vs H Q E h =>?_) (fun f bU A outer s H vs Q E hr h =>?_)
 ·obtain⟨T,L,us,ts,ls,es,rfl,_⟩:=h;rfl
 obtain⟨T,L,us,ts,ls,es,rfl,hT,dP,hL,hTL,hg,hs,har,eO,hz,hza,q⟩:=h;refine⟨_,(au (bG (i:=2) ki.nd O (aM O) lQ)
  (au (bG (i:=3) ki.nd O (aM O) Az)
  (au (dM bX O (v7 O B.oZ (ae (pv 0) aq)) (rB O (fi (bZ (i:=4) ki.nd O (aM O)) (fi (bZ (i:=5) ki.nd O (aM O)) oN)))
  (au (bG (i:=6) ki.nd O (aM O) (acK (sL hr) (pv 3) (bb rN hr (by omega) O (ae (pv 5) (ae (pv 1) aq))) (pv 4) ⟨O,O,O,O⟩))
  (ax (cA (km (bb kg hr (by omega) O (ae (pv 1) (ae (pv 6) (ae (pv 4) aq))))) (ax (bG (i:=2) ki.nd O (aM O) lQ)) bD))))
  (ax (aZ (pv 2)))))),?_⟩
 try dsimp only[cG]
 have qM:=bx dP;intro p φ hp Ph;dsimp only[b7];have hpL:p≠L:=fun e=>by rw[e,hL]at hp;cases hp
 have hpT:p≠T:=fun e=>by rw[e,hT]at hp;cases hp
 refine⟨_,O,T,O,⟨us,bw.of (by rw[av (bR hpT)];exact hT)⟩,?_⟩;refine tY (xs:=us) (BO P w H T L p ts es ls)
  ⟨ls,false, [],none,none,none,O,(eZ.refl L H).new hp,by rw[av (bR hpL)];exact hL,Ph,hg,hs,TY ls,O,nofun,fun _=>rfl,aw _,aQ _,(fun key v e=>by rw[F1]at e;cases e),fun _ j t hj=>absurd hj (gf _)⟩ ?_ ?_ ?_
 ·rintro i σ H' _ ⟨fP,jd,kvs,x4,x5,x6,rfl,bt,_⟩;exact bw.of (bt T _ hTL hT)
 ·rintro i x a0 σ H' hx ⟨fP,jd,kvs,x4,x5,x6,rfl,bt,FE,dn,mW,pB,IB,uv,hjt,RC,Zh,BC,iA,iB⟩ zH;obtain⟨t,ht,Im⟩:=rg dP hx;have hi:i < ts.length:=(aj.mp ht).1;have Cd:=aD zH (.tup [.int (i:Int),x]);have D4:=bt.same Cd;have itx:ix (aC H' a0 (.tup [.int (i:Int),x])) t x:=Im.keep (D4.tup hL);have w4:=Cd _ _ FE;have BK:=dn.same Cd;refine⟨a0,_,O,aW.of ak,O,_,_,O,_,_,O,O,?_⟩;generalize aC H' a0 (.tup [.int (i:Int),x])=H1 at D4 itx w4 BK ⊢;have hb:∀ x as,t = .of x as->as.length<=1000∧∀ a∈as,a < fP.length:=fun x as e=>by
   subst e;refine⟨hza i x as ht,fun a ha =>?_⟩;have:=har i x as ht a ha;omega
  refine⟨_,O,p,O,⟨kvs,BK⟩,_,O,_,O,x,t,L,fP,O,itx,bw.of w4,hb,fun v' H2 Vr hm =>?_⟩;obtain⟨b,rfl,nk⟩:=hm.key;have BJ:=BK.same Vr;have qS:=Vr _ _ w4;have vE:=D4.same Vr;obtain⟨li,vz⟩:∃ li,fP[i]? = some li:=⟨_,ah (by omega)⟩;refine⟨_,O,kvs,dJ (mk fP t),b,BJ,O,nk,dD (by omega),fun v hv =>?_,fun hn φ2 RX =>?_⟩
  ·-- there is one anN
   obtain⟨j,u,m,rfl,hu,wU,nN⟩:=iA _ _ hv;have em:m=mk fP t:=qj wU.symm;subst em;have hj:j < ts.length:=(aj.mp hu).1;obtain⟨lj,Wz⟩:∃ lj,fP[j]? = some lj:=⟨_,ah (by omega)⟩;have eq:Eqv ts es j i:=Hw hu ht nN (xM pB (fun x as e=>(hb x as e).2));refine⟨_,O,_,O,_,O,L,fP,j,i,lj,li,O,qS,mW,by omega,Wz,vz,fun e =>?_,fun e =>?_⟩
   ·refine⟨_,O,fC ⟨fP,jd,kvs,_,_,_,O,vE,qS,BJ,mW,pB,IB,uv,hjt,RC,Zh,by omega,iA,fun IC j' t' hj' Io =>?_⟩⟩;by_cases OL:j' < i
    ·exact iB IC j' t' OL Io
    ·have e':j'=i:=by omega
     subst e';rw[ht]at Io;cases Io;have el:=RC IC;rw[el]at hv Wz vz;exact⟨j,hv,by rw[Wz,vz,e]⟩
   ·have e1:Eqv ts es lj li := .trans (.symm (pB j lj Wz)) (.trans eq (pB i li vz));have g1:=(mW j lj Wz).2;have g2:=(mW i li vz).2;have eqv:Eqv ts es (max lj li) (min lj li):=by
     rcases mq lj li with h | h
     ·rw[mL h,gS h];exact e1.symm
     ·rw[nP h,jq h];exact e1
    have Iy:fP[min lj li]? = some (min lj li):=by
     rcases mq lj li with h | h
     ·rw[gS h];exact g1
     ·rw[jq h];exact g2
    have hhi:max lj li∈fP:=by
     rcases mq lj li with h | h
     ·rw[mL h];exact aN g2
     ·rw[nP h];exact aN g1
    have ef:min lj li < max lj li:=by omega
    have hsm:=U8 ef hhi;refine⟨_,O,gH ?_⟩;refine⟨jn fP (max lj li) (min lj li),true,kvs,_,_,_,O,vE.put,ak,BJ.keep (fun φ e=>by rw[av hpL];exact e) (fun c ys e=>by rw[av (b9 e qS nofun)];exact e),
     RP mW Iy ef,Nk pB eqv,IB.trans (Za _ _ _),by rw[Ws];exact uv,fun _=>by omega,nofun,by omega,by omega,iA,nofun⟩
  ·-- it is xK first one
   have DM:(aC H2 p (.ext φ2)) L=some (.lst (fP.map nV)):=by rw[av (bR hpL)];exact qS
   refine⟨_,O,_,O,_,O,L,fP,i,i,li,li,O,DM,mW,by omega,vz,vz,fun _ =>?_,fun z=>absurd rfl z⟩;refine⟨_,O,fC ⟨fP,jd,_,_,_,_,O,vE.new hp,DM,RX,mW,pB,IB,uv,hjt,RC,Zh,by rw[aO];show kvs.length+1<=i+1;omega,fun key v e =>?_,fun IC j' t' hj' Io =>?_⟩⟩
   ·rw[xJ _ _ _ _ hn]at e;by_cases hk:key=dJ (mk fP t)
    ·rw[if_pos hk]at e;cases e;exact⟨i,t,mk fP t,O,ht,hk,xM pB (fun x as e=>(hb x as e).2)⟩
    ·rw[if_neg hk]at e;exact iA key v e
   ·have el:=RC IC;rw[xJ _ _ _ _ hn];by_cases OL:j' < i
    ·obtain⟨j2,e1,e2⟩:=iB IC j' t' OL Io;by_cases hk:dJ (mk ls t')=dJ (mk fP t)
     ·rw[hk,hn]at e1;cases e1
     ·rw[if_neg hk];exact⟨j2,e1,e2⟩
    ·have e':j'=i:=by omega
     subst e';rw[ht]at Io;cases Io;rw[el,if_pos rfl];exact⟨j',O,O⟩
 ·rintro σ H' ⟨fP,jd,kvs,x4,x5,x6,rfl,bt,FE,dn,mW,pB,IB,uv,hjt,RC,Zh,BC,iA,iB⟩;refine⟨_,O,q fP jd H' bt FE mW pB IB uv hjt fun IC=>⟨RC IC,fun i j t u hi hj hm =>?_⟩⟩;obtain⟨i',a1,a2⟩:=iB IC i t (by rw[qM];exact(aj.mp hi).1) hi;obtain⟨j',b1,b2⟩:=iB IC j u (by rw[qM];exact(aj.mp hj).1) hj;rw[hm,b1]at a1;have e:i'=j':=by have:=V.int.inj (aP a1);omega
  rw[<- a2, <- b2,e]
inductive PU(K:ai)(vs:List V)(H:Hp)(Q:VK):Prop
 | mk (T E:Addr) (us my:List V) (ts:List Tm) (es:List (Nat × Nat)) (z0:vs = [.ref T,.ref E]) (z1:H T=some (.lst us)) (z2:kO H us ts) (z3:bw K H E my) (z4:Bl H my es) (z5:EF ts) (z6:ts.length<=1000) (z7:(∀ (i:Nat) x as,ts[i]? = some (.of x as)->as.length<=1000)) (z8:(∀ a b:Nat,(a,b)∈es->a < ts.length∧b < ts.length)) (z9:∀ L ls H',a6 H H'->H L=none->H' L=some (.lst (ls.map nV))->Ab ts es ls->Q (.ref L) H'):PU K vs H Q
def Nj(K:ai):Sp:=fun vs H Q _=>PU K vs H Q
inductive Js(H:Hp)(T:Addr)(E:Addr)(L:Addr)(ts:List Tm)(es:List (Nat × Nat))(bJ:St)(H':Hp):Prop
 | mk:∀ (ls:List Nat) (x3:Option V),(bJ = [aa T,aa E,aa L,x3])->(a6 H H')->(H' L=some (.lst (ls.map nV)))->(pk ls)->(Sound ts es ls)->(ls.length=ts.length)->(∀ a b:Nat,(a,b)∈es->ls[a]? = ls[b]?)->Js H T E L ts es bJ H'
inductive Jr(H:Hp)(T:Addr)(E:Addr)(L:Addr)(ts:List Tm)(es:List (Nat × Nat))(i:Nat)(bJ:St)(H':Hp):Prop
 | mk:∀ (ls:List Nat) (x3:Option V),(bJ = [aa T,aa E,aa L,x3])->(a6 H H')->(H' L=some (.lst (ls.map nV)))->(pk ls)->(Sound ts es ls)->(ls.length=ts.length)->(∀ (j a b:Nat),j < i->es[j]? = some (a,b)->ls[a]? = ls[b]?)->Jr H T E L ts es i bJ H'
theorem V3(B:iY mg)(kg:c7 P w K mg base 1 "join_classes" wc6 Ng)(yT:c7 P w K mg base 2 "join_like" eU (Hy P w))(D:Def K mg "closed" F9 wd1) :
  c7 P w K mg base 3 "closed" wd1 (Nj K):=by
 refine D.has Ci (fun vs H Q E h =>?_) (fun f bU A outer s H vs Q E hr h =>?_)
 ·obtain⟨T,E,us,my,ts,es,rfl,_⟩:=h;rfl
 obtain⟨T,E,us,my,ts,es,rfl,hT,dP,hE,hes,har,hz,hza,hee,q⟩:=h;refine⟨_,(au (bG (i:=2) Ci.nd O (aM O) (fF (Mt O) O B.vO jY (ae (fF Pq O B.uD PyProof.Rows.boot_range (ae (dz cX O B.jK cn (ae (pv 0) aq)) aq)) aq)))
  (au (dM bX O (ja (pv 1)) (bZ (i:=3) Ci.nd O (aM O))
  (ax (eJ (bb kg hr (by omega) O (ae (pv 2) (ae (aV aY (pv 3) az (fun _ _=>O)) (ae (aV aY (pv 3) az (fun _ _=>O)) aq)))))))
  (au (NR bX (km (bb yT hr (by omega) O (ae (pv 0) (ae (pv 2) aq))))
  (ax acG))
  (ax (aZ (pv 2)))))),?_⟩
 try dsimp only[cG]
 have qM:=bx dP;have hue:=bx hes;refine⟨_,O,T,us,O,.inl (bw.of hT),_,O,fun r hr0=>⟨r,us.length,O,ak,by omega,fun L BG =>?_⟩⟩;dsimp only[b7];have hLH:H L=none:=by
  by_cases e:L=r
  ·rw[e];exact hr0
  ·rw[av e]at BG;exact BG
 have Cd:a6 H (aC (aC H r (.Fq 0 ((us.length:Nat):Int))) L (.lst ((aI us.length).map fun i:Nat=>V.int (i:Int)))):=(aD hr0 _).trans (aD BG _);have w4:(aC (aC H r (.Fq 0 ((us.length:Nat):Int))) L (.lst ((aI us.length).map fun i:Nat=>V.int (i:Int)))) L=some (.lst ((aI ts.length).map nV)):=by rw[ak,qM]
 generalize (aC (aC H r (.Fq 0 ((us.length:Nat):Int))) L (.lst ((aI us.length).map fun i:Nat=>V.int (i:Int))))=H1 at Cd w4 ⊢;have hTL:T≠L:=fun e=>by rw[e,hLH]at hT;cases hT
 refine kj (Js H T E L ts es) ?_ (fun key =>?_)
 ·rintro bJ H2 ⟨ls,x3,rfl,Vr,qS,hg2,jP,aix,amM⟩;refine⟨fun m bJ H'=>∃ (ls:List Nat),m=ls.sum ∧ bJ = [aa T,aa E,aa L,x3]∧a6 H H'∧H' L=some (.lst (ls.map nV))∧pk ls∧Sound ts es ls∧ls.length=ts.length∧∀ a b:Nat,(a,b)∈es->ls[a]? = ls[b]?,
   ⟨_,ls,O,O,Vr,qS,hg2,jP,aix,amM⟩,?_⟩
  rintro m bJ H3 ⟨ls,rfl,rfl,HH,DM,hg3,oi,abe,afR⟩;refine⟨_,O,_,O,T,L,us,ts,ls,es,O,HH _ _ hT,eN HH dP,DM,hTL,hg3,oi,har,abe,hz,hza,fun fP b H4 bt O2 Dz Wx hk4 arf hbt hbf =>?_⟩;have sm4:a6 H H4:=fun c o h=>bt c o (fun e=>by rw[e,hLH]at h;cases h) (HH c o h);have Zl:∀ a b:Nat,(a,b)∈es->fP[a]? = fP[b]? := fun a b h=>by
   obtain⟨h1,h2⟩:=hee a b h;obtain⟨v,hv⟩:∃ v,ls[a]? = some v:=⟨_,ah (by omega)⟩;obtain⟨u,e1,e2⟩:=hk4 a b v hv (by rw[<- afR a b h];exact hv);rw[e1,e2]
  refine⟨_,O,?_⟩;cases b with
  | true =>
   refine gH ⟨fun bJ H'=>∃ m',m' < ls.sum∧∃ (ls:List Nat),m'=ls.sum ∧ bJ = [aa T,aa E,aa L,x3]∧a6 H H'∧H' L=some (.lst (ls.map nV))∧pk ls∧Sound ts es ls∧ls.length=ts.length∧∀ a b:Nat,(a,b)∈es->ls[a]? = ls[b]?,fun bJ H' h=>h,?_⟩;exact⟨_,hbt rfl,fP,O,O,sm4,O2,Dz,Wx,by omega,Zl⟩
  | false =>
   obtain⟨el,hm⟩:=hbf rfl;refine fC ⟨_,O,q L fP H4 sm4 hLH O2 ⟨by omega,Dz,Wx,fun i j hi hj e =>?_⟩⟩;rw[el];exact Pl har hee abe afR hm e
 ·refine⟨_,O,E,O,⟨my,Cd.seq hE⟩,?_⟩;refine jm (xs:=my) (Jr H T E L ts es)
   ⟨_,none,O,Cd,w4,adg _,Yl _ _ _,bA,fun j a b hj=>absurd hj (gf _)⟩ ?_ ?_ ?_
  ·rintro i bJ H' _ ⟨ls,x3,rfl,sm,_⟩;exact sm.seq hE
  ·rintro i x bJ H' hx ⟨ls,x3,rfl,sm,FE,mW,pB,uv,Ua⟩;obtain⟨⟨a,b⟩,he,ea,rest,rfl,hea⟩:=Pf hes hx;have afS:=sm _ _ hea;obtain⟨ha,hb⟩:=hee a b (aN he);obtain⟨la,Iz⟩:∃ la,ls[a]? = some la:=⟨_,ah (by omega)⟩;obtain⟨lb,WA⟩:∃ lb,ls[b]? = some lb:=⟨_,ah (by omega)⟩;refine⟨_,O,_,O,ea,_,0,_,O,O,aW.of afS,aB (j:=0) rfl,_,O,ea,_,1,_,O,O,aW.of afS,aB (j:=1) rfl,L,ls,a,b,la,lb,O,FE,mW,by omega,Iz,WA,fun e =>?_,fun e =>?_⟩
   ·refine⟨ls,_,O,sm,FE,mW,pB,uv,fun j c d hj om =>?_⟩;by_cases OL:j < i
    ·exact Ua j c d OL om
    ·have e':j=i:=by omega
     subst e';rw[he]at om;cases om;rw[Iz,WA,e]
   ·have e1:Eqv ts es la lb := .trans (.symm (pB a la Iz)) (.trans (.ZH (aN he)) (pB b lb WA));have g1:=(mW a la Iz).2;have g2:=(mW b lb WA).2;have eqv:Eqv ts es (max la lb) (min la lb):=by
     rcases mq la lb with h | h
     ·rw[mL h,gS h];exact e1.symm
     ·rw[nP h,jq h];exact e1
    have Iy:ls[min la lb]? = some (min la lb):=by
     rcases mq la lb with h | h
     ·rw[gS h];exact g1
     ·rw[jq h];exact g2
    have ef:min la lb < max la lb:=by omega
    refine⟨jn ls (max la lb) (min la lb),_,O,sm.put hLH,ak,RP mW Iy ef,Nk pB eqv,by rw[Ws];exact uv,fun j c d hj om =>?_⟩;by_cases OL:j < i
    ·have:=Ua j c d OL om;rw[rH,rH,this]
    ·have e':j=i:=by omega
     subst e';rw[he]at om;cases om;rw[rH,rH,Iz,WA];show some _=some _;unfold mT;by_cases h:la<=lb
     ·rw[mL h,gS h,if_neg e,if_pos rfl]
     ·rw[nP (by omega),jq (by omega),if_pos rfl,if_neg (fun z=>e z.symm)]
  ·rintro bJ H' ⟨ls,x3,rfl,sm,FE,mW,pB,uv,Ua⟩;refine key _ _ ⟨ls,x3,O,sm,FE,mW,pB,uv,fun a b h =>?_⟩;obtain⟨j,hj⟩:=q8.mp h;exact Ua j a b (by rw[hue];exact(aj.mp hj).1) hj
def rJ(x:Str)(n:Nat):Tm->Bool
 | .of y as=>decide (y=x) && decide (as.length=n)
 | _=>false
structure Bf(K:ai)(mg:Str->Option Value)(CS tB:Addr):Prop where
 cS:lB K CS
 gM:dY K CS "terms"
 ma:dY K CS "leads"
 iN:∃ t,mg "NEGATIVE" = some (.int 1 t)
 iM:∃ t,mg "NOUGHT" = some (.int 2 t)
 k6:∃ t,mg "POSITIVE" = some (.int 4 t)
 iO:∃ t,mg "ANY_SIGN" = some (.int 7 t)
 nj:mg "SIGN_BITS" = some (.ref tB)
 bits:∀ H,aW K H tB [.int 1,.int 2,.int 4]
inductive XA(x:Str)(n:Nat)(vs:List V)(H:Hp)(Q:VK):Prop
 | mk (v:V) (t:Tm) (z0:vs = [v]) (z1:ix H t v) (z2:Q (.bl (rJ x n t)) H):XA x n vs H Q
def n6(x:Str)(n:Nat):Sp:=fun vs H Q _=>XA x n vs H Q
theorem t5{a:Nat}:decide (V.int ((a:Nat):Int)=V.int ((n:Nat):Int))=decide (a=n):=by
 refine decide_eq_decide.mpr ⟨fun z =>?_,fun z=>by rw[z]⟩;have:=V.int.inj z;omega
theorem V2(B:iY mg)(D:Def K mg "is_sum" F8 wa7):c7 P w K mg base 1 "is_sum" wa7 (n6 "plus" 2):=by
 refine D.has Vz (fun vs H Q E h =>?_) (fun f bU A outer s H vs Q E hr h =>?_)
 ·obtain⟨v,t,rfl,_⟩:=h;rfl
 obtain⟨v,t,rfl,hT,q⟩:=h;refine⟨_,(ax (aZ (rD (jb d5 (aV aY (pv 0) az (fun _ _=>O)) bN (bo _)) (rD (jb d5 (aV aY (pv 0) az (fun _ _=>O)) bN (bo _)) (C9 (jb d5 (dz cX O B.jK cn (ae (aV aY (pv 0) az (fun _ _=>O)) aq)) az (bo _))))))),?_⟩
 try dsimp only[cG]
 cases t with
 | num n =>
  obtain⟨a,rfl,h⟩:=id hT;exact⟨_,O,a,_,0,_,O,O,aW.of h,aB (j:=0) rfl,O,_,O,cC (fun z=>absurd (V.str.inj z) (by decide)) (fun _=>q)⟩
 | name n =>
  obtain⟨a,rfl,h⟩:=id hT;exact⟨_,O,a,_,0,_,O,O,aW.of h,aB (j:=0) rfl,O,_,O,cC (fun z=>absurd (V.str.inj z) (by decide)) (fun _=>q)⟩
 | of x as =>
  obtain⟨a,b,rfl,h,h2⟩:=id hT;refine⟨_,O,a,_,0,_,O,O,aW.of h,aB (j:=0) rfl,O,_,O,cC (fun _ =>?_) (fun z=>absurd rfl z)⟩;have Pd:rJ "plus" 2 (.of x as)=(decide (x = "plus") && decide (as.length=2)):=rfl;rw[Pd]at q;refine⟨_,O,a,_,1,_,O,O,aW.of h,aB (j:=1) rfl,O,_,O,cC (fun hx =>?_) (fun hx =>?_)⟩
  ·refine⟨_,O,a,_,2,_,O,O,aW.of h,aB (j:=2) rfl,b,_,O,.inr (aW.of h2),O,?_⟩;have e:decide (V.int (((as.map nV).length:Nat):Int)=V.int 2)=decide (as.length=2):=by rw[ay];exact t5 (n:=2)
   rw[e];rw[decide_eq_true (V.str.inj hx),vq]at q;exact q
  ·rw[decide_eq_false (fun z=>hx (by rw[z])),pz]at q;exact q
theorem Mp(B:iY mg)(D:Def K mg "is_product" wu wa7):c7 P w K mg base 1 "is_product" wa7 (n6 "times" 2):=by
 refine D.has Mo (fun vs H Q E h =>?_) (fun f bU A outer s H vs Q E hr h =>?_)
 ·obtain⟨v,t,rfl,_⟩:=h;rfl
 obtain⟨v,t,rfl,hT,q⟩:=h;refine⟨_,(ax (aZ (rD (jb d5 (aV aY (pv 0) az (fun _ _=>O)) bN (bo _)) (rD (jb d5 (aV aY (pv 0) az (fun _ _=>O)) bN (bo _)) (C9 (jb d5 (dz cX O B.jK cn (ae (aV aY (pv 0) az (fun _ _=>O)) aq)) az (bo _))))))),?_⟩
 try dsimp only[cG]
 cases t with
 | num n =>
  obtain⟨a,rfl,h⟩:=id hT;exact⟨_,O,a,_,0,_,O,O,aW.of h,aB (j:=0) rfl,O,_,O,cC (fun z=>absurd (V.str.inj z) (by decide)) (fun _=>q)⟩
 | name n =>
  obtain⟨a,rfl,h⟩:=id hT;exact⟨_,O,a,_,0,_,O,O,aW.of h,aB (j:=0) rfl,O,_,O,cC (fun z=>absurd (V.str.inj z) (by decide)) (fun _=>q)⟩
 | of x as =>
  obtain⟨a,b,rfl,h,h2⟩:=id hT;refine⟨_,O,a,_,0,_,O,O,aW.of h,aB (j:=0) rfl,O,_,O,cC (fun _ =>?_) (fun z=>absurd rfl z)⟩;have Pd:rJ "times" 2 (.of x as)=(decide (x = "times") && decide (as.length=2)):=rfl;rw[Pd]at q;refine⟨_,O,a,_,1,_,O,O,aW.of h,aB (j:=1) rfl,O,_,O,cC (fun hx =>?_) (fun hx =>?_)⟩
  ·refine⟨_,O,a,_,2,_,O,O,aW.of h,aB (j:=2) rfl,b,_,O,.inr (aW.of h2),O,?_⟩;have e:decide (V.int (((as.map nV).length:Nat):Int)=V.int 2)=decide (as.length=2):=by rw[ay];exact t5 (n:=2)
   rw[e];rw[decide_eq_true (V.str.inj hx),vq]at q;exact q
  ·rw[decide_eq_false (fun z=>hx (by rw[z])),pz]at q;exact q
theorem JW(B:iY mg)(D:Def K mg "is_opposite" u5 wa7):c7 P w K mg base 1 "is_opposite" wa7 (n6 "neg" 1):=by
 refine D.has JK (fun vs H Q E h =>?_) (fun f bU A outer s H vs Q E hr h =>?_)
 ·obtain⟨v,t,rfl,_⟩:=h;rfl
 obtain⟨v,t,rfl,hT,q⟩:=h;refine⟨_,(ax (aZ (rD (jb d5 (aV aY (pv 0) az (fun _ _=>O)) bN (bo _)) (rD (jb d5 (aV aY (pv 0) az (fun _ _=>O)) bN (bo _)) (C9 (jb d5 (dz cX O B.jK cn (ae (aV aY (pv 0) az (fun _ _=>O)) aq)) az (bo _))))))),?_⟩
 try dsimp only[cG]
 cases t with
 | num n =>
  obtain⟨a,rfl,h⟩:=id hT;exact⟨_,O,a,_,0,_,O,O,aW.of h,aB (j:=0) rfl,O,_,O,cC (fun z=>absurd (V.str.inj z) (by decide)) (fun _=>q)⟩
 | name n =>
  obtain⟨a,rfl,h⟩:=id hT;exact⟨_,O,a,_,0,_,O,O,aW.of h,aB (j:=0) rfl,O,_,O,cC (fun z=>absurd (V.str.inj z) (by decide)) (fun _=>q)⟩
 | of x as =>
  obtain⟨a,b,rfl,h,h2⟩:=id hT;refine⟨_,O,a,_,0,_,O,O,aW.of h,aB (j:=0) rfl,O,_,O,cC (fun _ =>?_) (fun z=>absurd rfl z)⟩;have Pd:rJ "neg" 1 (.of x as)=(decide (x = "neg") && decide (as.length=1)):=rfl;rw[Pd]at q;refine⟨_,O,a,_,1,_,O,O,aW.of h,aB (j:=1) rfl,O,_,O,cC (fun hx =>?_) (fun hx =>?_)⟩
  ·refine⟨_,O,a,_,2,_,O,O,aW.of h,aB (j:=2) rfl,b,_,O,.inr (aW.of h2),O,?_⟩;have e:decide (V.int (((as.map nV).length:Nat):Int)=V.int 1)=decide (as.length=1):=by rw[ay];exact t5 (n:=1)
   rw[e];rw[decide_eq_true (V.str.inj hx),vq]at q;exact q
  ·rw[decide_eq_false (fun z=>hx (by rw[z])),pz]at q;exact q
def Nm(n:Int):Int:=if n < 0 then 1 else if n=0 then 2 else 4
inductive ab0(vs:List V)(H:Hp)(Q:VK):Prop
 | mk (n:Int) (z0:vs = [.int n]) (z1:Q (.int (Nm n)) H):ab0  vs H Q
def aaA:Sp:=fun vs H Q _=>ab0  vs H Q
theorem Fb(Z:Bf K mg CS tB)(D:Def K mg "sign_of_number" qk wd6):c7 P w K mg base 1 "sign_of_number" wd6 aaA:=by
 have iN:=Z.iN;have iM:=Z.iM;have k6:=Z.k6;refine D.has E8 (fun vs H Q E h =>?_) (fun f bU A outer s H vs Q E hr h =>?_)
 ·obtain⟨n,rfl,_⟩:=h;rfl
 obtain⟨n,rfl,q⟩:=h;refine⟨_,(au (cA (br Mz (pv 0) az (bo _)) (ax (aZ (d7 iN O))) bD)
  (au (cA (br d5 (pv 0) az (bo _)) (ax (aZ (d7 iM O))) bD)
  (ax (aZ (d7 k6 O))))),?_⟩
 try dsimp only[cG]
 unfold Nm at q;refine⟨_,O,_,_,O,O,_,O,cC (fun h =>?_) (fun h =>?_)⟩
 ·rw[if_pos h]at q;exact q
 ·rw[if_neg h]at q;refine⟨_,O,O,_,O,cC (fun h' =>?_) (fun h' =>?_)⟩
  ·rw[if_pos (V.int.inj h')]at q;exact q
  ·rw[if_neg (fun z=>h' (by rw[z]))]at q;exact q
def D7(a b:Int):Int:=if a=2∨a=b then b else if b=2 then a else 7
def wI(a b:Int):Int:=if a=2∨b=2 then 2 else if a=b then 4 else 1
inductive ab2(f:Int->Int->Int)(vs:List V)(H:Hp)(Q:VK):Prop
 | mk (a b:Int) (z0:vs = [.int a,.int b]) (z1:Q (.int (f a b)) H):ab2 f vs H Q
def Hz(f:Int->Int->Int):Sp:=fun vs H Q _=>ab2 f vs H Q
theorem N8(Z:Bf K mg CS tB)(D:Def K mg "add_signs" yJ wb0):c7 P w K mg base 1 "add_signs" wb0 (Hz D7):=by
 have iM:=Z.iM;have iO:=Z.iO;refine D.has Nu (fun vs H Q E h =>?_) (fun f bU A outer s H vs Q E hr h =>?_)
 ·obtain⟨a,b,rfl,_⟩:=h;rfl
 obtain⟨a,b,rfl,q⟩:=h;refine⟨_,(au (cA (PW.pt (pw_or (br d5 (pv 0) (d7 iM O) (bo _)) (pw_or1 (br d5 (pv 0) (pv 1) (bo _))))) (ax (aZ (pv 1))) bD)
  (au (cA (br d5 (pv 1) (d7 iM O) (bo _)) (ax (aZ (pv 0))) bD)
  (ax (aZ (d7 iO O))))),?_⟩
 try dsimp only[cG]
 unfold D7 at q;refine⟨_,O,O,_,O,cC (fun h=>gH ?_) (fun h=>⟨_,O,_,O,O,_,O,cC (fun h' =>?_) (fun h' =>?_)⟩)⟩
 ·rw[if_pos (.inl (V.int.inj h))]at q;exact⟨_,O,q⟩
 ·rw[if_pos (.inr (V.int.inj h'))]at q;exact⟨_,O,q⟩
 ·rw[if_neg (by rintro(z | z);exact h (by rw[z]);exact h' (by rw[z]))]at q;refine⟨_,O,O,_,O,cC (fun h2 =>?_) (fun h2 =>?_)⟩
  ·rw[if_pos (V.int.inj h2)]at q;exact⟨_,O,q⟩
  ·rw[if_neg (fun z=>h2 (by rw[z]))]at q;exact q
theorem Fc(Z:Bf K mg CS tB)(D:Def K mg "multiply_signs" qm wb0):c7 P w K mg base 1 "multiply_signs" wb0 (Hz wI):=by
 have iN:=Z.iN;have iM:=Z.iM;have k6:=Z.k6;refine D.has E9 (fun vs H Q E h =>?_) (fun f bU A outer s H vs Q E hr h =>?_)
 ·obtain⟨a,b,rfl,_⟩:=h;rfl
 obtain⟨a,b,rfl,q⟩:=h;refine⟨_,(au (cA (PW.pt (pw_or (br d5 (pv 0) (d7 iM O) (bo _)) (pw_or1 (br d5 (pv 1) (d7 iM O) (bo _))))) (ax (aZ (d7 iM O))) bD)
  (au (cA (br d5 (pv 0) (pv 1) (bo _)) (ax (aZ (d7 k6 O))) bD)
  (ax (aZ (d7 iN O))))),?_⟩
 try dsimp only[cG]
 unfold wI at q;refine⟨_,O,O,_,O,cC (fun h=>gH ?_) (fun h=>⟨_,O,O,_,O,cC (fun h' =>?_) (fun h' =>?_)⟩)⟩
 ·rw[if_pos (.inl (V.int.inj h))]at q;exact q
 ·rw[if_pos (.inr (V.int.inj h'))]at q;exact q
 ·rw[if_neg (by rintro(z | z);exact h (by rw[z]);exact h' (by rw[z]))]at q;refine⟨_,O,_,O,O,_,O,cC (fun h2 =>?_) (fun h2 =>?_)⟩
  ·rw[if_pos (V.int.inj h2)]at q;exact q
  ·rw[if_neg (fun z=>h2 (by rw[z]))]at q;exact q
def Hv(pC:Int->Int->Int)(f g acc a b:Int):Int:=if (fW f a != 0)=true then (if (fW g b != 0)=true then qh acc (pC a b) else acc) else acc
def Kg(pC:Int->Int->Int)(f g acc a:Int)(bs:List Int):Int:=bs.foldl (fun acc b=>Hv pC f g acc a b) acc
def Df(pC:Int->Int->Int)(f g:Int)(as:List Int):Int:=as.foldl (fun acc a=>Kg pC f g acc a [1,2,4]) 0
def lR(pC:Int->Int->Int)(f g:Int):Int:=Df pC f g [1,2,4]
def qe:List Int := [1,2,4]
theorem Hr{α β : Type}(F : β -> α -> β)(z : β){l:List α}{x : α}(h:l[i]? = some x):(l.take (i+1)).foldl F z=F ((l.take i).foldl F z) x:=by
 rw[cW,h,pN];rfl
inductive Xx(P:Program)(w:World)(K:ai)(mg:Str->Option Value)(base:Heap)(vs:List V)(H:Hp)(Q:VK):Prop
 | mk (f:Addr) (pC:Int->Int->Int) (a b:Int) (z0:vs = [.ref f,.int a,.int b]) (z1:aae P w K mg base 1 f wb0 (Hz pC)) (z2:Q (.int (lR pC a b)) H):Xx P w K mg base vs H Q
def Vj(P:Program)(w:World)(K:ai)(mg:Str->Option Value)(base:Heap):Sp:=fun vs H Q _=>Xx P w K mg base vs H Q
theorem HV(Z:Bf K mg CS tB)(D:Def K mg "sign_of_pair" sT wb5):c7 P w K mg base 2 "sign_of_pair" wb5 (Vj P w K mg base):=by
 have nj:=Z.nj
 let lC:=tB
 refine D.has kY (fun vs H Q E h =>?_) (fun f bU A outer s H vs Q E hr h =>?_)
 ·obtain⟨f,pC,a,b,rfl,_⟩:=h;rfl
 obtain⟨f,pC,a,b,rfl,hf,q⟩:=h;refine⟨_,(au (bG (i:=3) kY.nd O (aM O) az)
  (au (dM bX O (pV (tD (v := .ref lC) O nj O)) (bZ (i:=4) kY.nd O (aM O))
  (ax (dM bX O (pV (tD (v := .ref lC) O nj O)) (bZ (i:=5) kY.nd O (aM O))
  (ax (cA (PW.pt (pw_and (Av (eF HR (pv 1) (pv 4)) (fun _=>O)) (pw_and1 (Av (eF HR (pv 2) (pv 5)) (fun _=>O))))) (ax (bG (i:=3) kY.nd O (aM O) (eF Ts (pv 3) (YG (pv 0) hr (ae (pv 4) (ae (pv 5) aq)))))) bD)))))
  (ax (aZ (pv 3))))),?_⟩
 try dsimp only[cG]
 have hb:=Z.bits H;refine⟨tB,O,⟨_,hb⟩,?_⟩;refine qT (xs:=qe.map V.int) (fun i σ H'=>∃ x4 x5:Option V, σ = [some (.ref f),some (.int a),some (.int b),some (.int (Df pC a b (qe.take i))),x4,x5]∧H'=H) ⟨none,none,O,O⟩ ?_ ?_ ?_
 ·rintro i σ H' _ ⟨x4,x5,rfl,rfl⟩;exact hb
 ·rintro i y σ H hy ⟨x4,x5,rfl,rfl⟩;rw[aJ]at hy;cases e:qe[i]? with
  | none=>rw[e]at hy;cases hy
  | some o =>
   rw[e]at hy;have e1:V.int o=y:=aP hy;subst e1;have es:Df pC a b (qe.take (i+1))=Kg pC a b (Df pC a b (qe.take i)) o [1,2,4]:=Hr _ _ e;rw[es];generalize Df pC a b (qe.take i)=acc;show ad0 _ _ _ _ _ _;refine⟨tB,O,⟨_,hb⟩,?_⟩;refine qT (xs:=qe.map V.int) (fun j σ H'=>∃ x5:Option V, σ = [some (.ref f),some (.int a),some (.int b),some (.int (Kg pC a b acc o (qe.take j))),some (.int o),x5]∧H'=H) ⟨x5,O,O⟩ ?_ ?_ ?_
   ·rintro j σ H' _ ⟨x5,rfl,rfl⟩;exact hb
   ·rintro j y σ H' hy ⟨x5,rfl,rfl⟩;rw[aJ]at hy;cases e':qe[j]? with
    | none=>rw[e']at hy;cases hy
    | some u =>
     rw[e']at hy;have e1:V.int u=y:=aP hy;subst e1;have es:Kg pC a b acc o (qe.take (j+1))=Hv pC a b (Kg pC a b acc o (qe.take j)) o u:=Hr _ _ e';rw[es];generalize Kg pC a b acc o (qe.take j)=arK;show JC _ _ _ _ _ _;refine⟨_,O,_,O,_,_,O,O,_,O,?_⟩;cases h1:(fW a o != 0) with
     | false =>
      refine fC (fC ⟨some (.int u),?_,O⟩);unfold Hv;rw[if_neg (by rw[h1];decide)];rfl
     | true =>
      refine gH ⟨_,O,_,O,_,_,O,O,_,O,?_⟩;cases h2:(fW b u != 0) with
      | false =>
       refine fC ⟨some (.int u),?_,O⟩;unfold Hv;rw[if_pos h1,if_neg (by rw[h2];decide)];rfl
      | true =>
       refine gH ⟨_,O,_,O,f,_,_,O,hf,_,O,_,O,o,u,O,_,_,O,O,⟨some (.int u),?_,O⟩⟩;unfold Hv;rw[if_pos h1,if_pos h2];rfl
   ·rintro σ H' ⟨x5,rfl,rfl⟩;exact⟨_,_,O,O⟩
 ·rintro σ H' ⟨x4,x5,rfl,rfl⟩;exact⟨_,O,q⟩
theorem ZE(f:Nat->Bool)(n:Nat):(aI n).filterMap (fun i:Nat=>if f i=true then some (nV i) else none)=((aI n).filter f).map nV:=by
 induction n with
 | zero=>rfl
 | succ n ih =>
  rw[eM,jH,uR,cR,ih];congr 1;cases h:f n <;> simp[h]
inductive L5(K:ai)(vs:List V)(H:Hp)(Q:VK):Prop
 | mk (L:Addr) (ls:List Nat) (k:Nat) (z0:vs = [.ref L,nV k]) (z1:bw K H L (ls.map nV)) (z2:ls.length<=900) (z3:k < ls.length) (z4:∀ D,H D=none->Q (.ref D) (aC H D (.lst ((gy ls k).map nV)))):L5 K vs H Q
def Cb(K:ai):Sp:=fun vs H Q _=>L5 K vs H Q
theorem Tv(B:iY mg)(D:Def K mg "members" xQ wc7):c7 P w K mg base 1 "members" wc7 (Cb K):=by
 refine D.has Th (fun vs H Q E h =>?_) (fun f bU A outer s H vs Q E hr h =>?_)
 ·obtain⟨L,ls,k,rfl,_⟩:=h;rfl
 obtain⟨L,ls,k,rfl,hL,hz,hk,q⟩:=h;refine⟨_,(ax (aZ (GB (te:=_) (ct:=(Mx (vv _ (vv (JR K) _ _) (vv (JR K) _ _)))) (own := wd6) (caps := [("leads",0),("k",1)]) (rT (aF xQ) wc7 O O O (by decide +kernel)) (qK O B.uD (ae (dz cX O B.jK cn (ae (pv 0) aq)) aq)) O (fun _ _ _=>bZ (i:=0) (show (["number", "leads", "k"]:List Str).Nodup by decide +kernel) O (aM O)) (fun _ _ _=>(br d5 (aV dy (pv 1) (pv 0) (fun _ _=>O)) (aV dy (pv 1) (pv 2) (fun _ _=>O)) (bo _))) (fun _ _ _=>(pv 0))))),?_⟩
 try dsimp only[cG]
 have hl:(ls.map nV).length=ls.length:=ay ..;refine⟨_,O,L,_,O,.inl hL,_,O,by omega,by omega,?_⟩;rw[bP,hl];refine QJ (lo:=0) (fun i=>if decide (ls.getD i.toNat 0=ls.getD k 0)=true then some (nV i.toNat) else none) (by omega) (fun i hi H' sm R q' =>?_) (fun i v hi e H' sm Q' q' =>?_) (fun D1 WX =>?_)
 ·have e1:ls[i]? = some (ls.getD i 0):=getD_at hi;have e2:ls[k]? = some (ls.getD k 0):=getD_at hk;have ei:(0+(i:Int))=((i:Nat):Int):=by omega
  rw[ei]at q' ⊢;refine⟨_,O,_,O,L,_,_,_,O,O,sm.seq hL,gG e1,_,O,_,O,L,_,_,_,O,O,sm.seq hL,gG e2,O,_,O,?_⟩;rw[bP]at q';have e3:decide (nV (ls.getD i 0)=nV (ls.getD k 0))=decide (ls.getD i 0=ls.getD k 0):=decide_eq_decide.mpr ⟨fun z=>by have:=V.int.inj z;omega,fun z=>by rw[z]⟩;rw[e3];cases hd:decide (ls.getD i 0=ls.getD k 0) with
  | true=>rw[hd]at q';exact q'
  | false=>rw[hd]at q';exact q'
 ·have ei:(0+(i:Int))=((i:Nat):Int):=by omega
  rw[ei]at e ⊢;rw[bP]at e;split at e
  ·have:=aP e;subst this;exact⟨_,O,q'⟩
  ·cases e
 ·have e:((aI ls.length).filterMap fun i:Nat=>(fun i:Int=>if decide (ls.getD i.toNat 0=ls.getD k 0)=true then some (nV i.toNat) else none) (0+(i:Int)))=(gy ls k).map nV:=by
   rw[gy, <- ZE];congr 1;funext i;have ei:(0+(i:Int)).toNat=i:=by omega
   show (if decide (ls.getD (0+(i:Int)).toNat 0=ls.getD k 0)=true then some (nV (0+(i:Int)).toNat) else none)=_;rw[ei]
  rw[e];exact q D1 WX
theorem U3(h:ix H t v):∃ a xs,v = .ref a∧H a=some (.tup xs)∧∃ z:Str,vF xs 0=some (.str z)∧(z = "num" ↔ (AF t).isSome=true)∧∀ n,AF t=some n->vF xs 1=some (.int n):=by
 cases t with
 | num n =>
  obtain⟨a,rfl,h⟩:=h;exact⟨a,_,O,h, "num",aB (j:=0) rfl,⟨fun _=>rfl,fun _=>rfl⟩,fun m e=>by rw[<- aP e];exact aB (j:=1) rfl⟩
 | name x =>
  obtain⟨a,rfl,h⟩:=h;exact⟨a,_,O,h, "name",aB (j:=0) rfl,⟨fun z=>absurd z (by decide),fun z=>(by cases z)⟩,fun m e=>(by cases e)⟩
 | of x as =>
  obtain⟨a,b,rfl,h,_⟩:=h;exact⟨a,_,O,h, "of",aB (j:=0) rfl,⟨fun z=>absurd z (by decide),fun z=>(by cases z)⟩,fun m e=>(by cases e)⟩
inductive L4(vs:List V)(H:Hp)(Q:VK):Prop
 | mk (T L:Addr) (us:List V) (ts:List Tm) (ls:List Nat) (k:Nat) (z0:vs = [.ref T,.ref L,nV k]) (z1:H T=some (.lst us)) (z2:kO H us ts) (z3:H L=some (.lst (ls.map nV))) (z4:ls.length=ts.length) (z5:ts.length<=900) (z6:k < ts.length) (z7:∀ N H',a6 H H'->H N=none->H' N=some (.lst ((AE ts ls k).map V.int))->Q (.ref N) H'):L4  vs H Q
def Ca:Sp:=fun vs H Q _=>L4  vs H Q
theorem W4(ts:List Tm)(l:List Nat):((l.map nV).filterMap fun x=>(l9 ts (vI x).toNat).map V.int)=(l.filterMap (l9 ts)).map V.int:=by
 induction l with
 | nil=>rfl
 | cons j l ih =>
  rw[aS,cF,cF];have ev:(vI (nV j)).toNat=j:=by show ((j:Nat):Int).toNat=j;omega
  rw[ev];cases l9 ts j with
  | none=>exact ih
  | some n =>
   show V.int n :: _=_;rw[ih];rfl
theorem Tu(oq:c7 P w K mg base 1 "members" wc7 (Cb K))(D:Def K mg "numbers" xP wb3):c7 P w K mg base 2 "numbers" wb3 Ca:=by
 refine D.has Tg (fun vs H Q E h =>?_) (fun f bU A outer s H vs Q E hr h =>?_)
 ·obtain⟨T,L,us,ts,ls,k,rfl,_⟩:=h;rfl
 obtain⟨T,L,us,ts,ls,k,rfl,hT,dP,hL,uL,hz,hk,q⟩:=h;refine⟨_,(ax (aZ (GB (te:=(vv (NN K) (vv (JR K) _ _) _)) (ct:=(Mx (vv _ (vv (NN K) (vv (JR K) _ _) _) _))) (own := ["member"]) (caps := [("terms",0)]) (rT (aF xP) wb3 O O O (by decide +kernel)) (ja (bb oq hr (by omega) O (ae (pv 1) (ae (pv 2) aq)))) O (fun _ _ _=>bZ (i:=0) (show (["member", "terms"]:List Str).Nodup by decide +kernel) O (aM O)) (fun _ _ _=>(br d5 (aV aY (aV dy (pv 1) (pv 0) (fun _ _=>O)) az (fun _ _=>O)) bN (bo _))) (fun _ _ _=>(aV aY (aV dy (pv 1) (pv 0) (fun _ _=>O)) az (fun _ _=>O)))))),?_⟩
 try dsimp only[cG]
 have qM:=bx dP;refine⟨_,O,_,O,L,ls,k,O,bw.of hL,by omega,by omega,fun M hM =>?_⟩;have s1:=aD hM (.lst ((gy ls k).map nV));have FD:=ak (H:=H) (a:=M) (o := .lst ((gy ls k).map nV));generalize aC H M (.lst ((gy ls k).map nV))=H1 at s1 FD ⊢;refine⟨M,O,⟨_,bw.of FD⟩,?_⟩;have look:∀ x∈(gy ls k).map nV,∃ j v t,x=nV j∧us[j]? = some v∧ts[j]? = some t∧ix H1 t v:=fun x hx=>by
  obtain⟨j,hj,rfl⟩:=eD.mp hx;have Dy:=dH.mp (jF.mp hj).1;have hv:us[j]? = some us[j]:=ah (by omega);obtain⟨t,e,r⟩:=rg dP hv;exact⟨j,_,t,O,hv,e,r.same s1⟩
 refine FI (xs:=(gy ls k).map nV) (fun x=>(l9 ts (vI x).toNat).map V.int) (bw.of FD) ?_ (fun x hx H' sm R r =>?_) (fun x y hx e H' sm Q' q' =>?_) (fun D1 H' WX sm hD =>?_)
 ·rw[ay];refine bp (ra _ _) ?_;rw[bA];omega
 ·obtain⟨j,v,t,rfl,hv,ht,hvt⟩:=look x hx;obtain⟨a,xs,rfl,ha,z,h0,hz0,h1⟩:=U3 (hvt.same sm);refine⟨_,O,_,O,T,_,_,_,O,O,bw.of ((s1.trans sm) _ _ hT),aB hv,a,_,0,_,O,O,aW.of ha,h0,O,_,O,?_⟩;have r1:=r H' (a6.refl _);have ev:(vI (nV j)).toNat=j:=by show ((j:Nat):Int).toNat=j;omega
  have en:l9 ts j=AF t:=by unfold l9;rw[ht];rfl
  rw[ev,en,jQ]at r1;have eb:decide (V.str z=V.str "num")=(AF t).isSome:=by
   cases e:(AF t).isSome with
   | true=>exact decide_eq_true (by rw[hz0.mpr e])
   | false=>exact decide_eq_false (fun w=>by have:=hz0.mp (V.str.inj w);rw[e]at this;cases this)
  rw[eb];exact r1
 ·obtain⟨j,v,t,rfl,hv,ht,hvt⟩:=look x hx;obtain⟨a,xs,rfl,ha,z,h0,hz0,h1⟩:=U3 (hvt.same sm);have ev:(vI (nV j)).toNat=j:=by show ((j:Nat):Int).toNat=j;omega
  have en:l9 ts j=AF t:=by unfold l9;rw[ht];rfl
  have e:(l9 ts (vI (nV j)).toNat).map V.int=some y:=e;rw[ev,en]at e;cases e2:AF t with
  | none=>rw[e2]at e;cases e
  | some n =>
   rw[e2]at e;have ey:=aP e;subst ey;exact⟨_,O,_,O,T,_,_,_,O,O,bw.of ((s1.trans sm) _ _ hT),aB hv,a,_,1,_,O,O,aW.of ha,h1 n e2,q' _ (a6.refl _)⟩
 ·refine q D1 H' (s1.trans sm) (s1.free WX) ?_;rw[hD,W4];rfl
inductive Jd(vs:List V)(H:Hp)(Q:VK):Prop
 | mk (T L:Addr) (us:List V) (ts:List Tm) (ls:List Nat) (z0:vs = [.ref T,.ref L]) (hT:H T=some (.lst us)) (dP:kO H us ts) (hL:H L=some (.lst (ls.map nV))) (uL:ls.length=ts.length) (hz:ts.length<=900) (h1:∀ k,k < ts.length->(AE ts ls k).length<=1) (q:∀ H',a6 H H'->Q .cj H'):Jd vs H Q
def Nc:Sp:=fun vs H Q _=>Jd vs H Q
theorem acS(B:iY mg)(t6:mg "sorted" = none)(qP:c7 P w K mg base 2 "numbers" wb3 Ca)(D:Def K mg "odds" Ny eU):c7 P w K mg base 3 "odds" eU Nc:=by
 refine D.has EM (fun vs H Q E h =>?_) (fun f bU A outer s H vs Q E hr h =>?_)
 ·obtain⟨T,L,us,ts,ls,rfl,_⟩:=h;rfl
 obtain⟨T,L,us,ts,ls,rfl,hT,dP,hL,uL,hz,h1,q⟩:=h;refine⟨_,(au (bG (i:=2) EM.nd O (aM O) (fu aq))
  (au (dM bX O (qK O B.uD (ae (dz cX O B.jK cn (ae (pv 1) aq)) aq)) (bZ (i:=3) EM.nd O (aM O))
  (ax (cA (br d5 (aV dy (pv 1) (pv 3) (fun _ _=>O)) (pv 3) (bo _)) (au (bG (i:=4) EM.nd O (aM O) (dz DZ O t6 D5 (ae (bb qP hr (by omega) O (ae (pv 0) (ae (pv 1) (ae (pv 3) aq)))) aq)))
  (ax (cA (br rE (dz cX O B.jK cn (ae (pv 4) aq)) az (bo _)) (ax (eJ (jV bK cy cx fX (pv 2) (ae (dX (ae (aV dy (pv 4) az (fun _ _=>O)) (ae (aV dy (pv 4) az (fun _ _=>O)) aq))) aq)))) bD))) bD)))
  (ax (aZ (acM (sL hr) O O B.Y1 (pv 2)))))),?_⟩
 try dsimp only[cG]
 have hlm:(ls.map nV).length=ls.length:=ay ..;refine⟨aQ _,fun Pr hPr =>?_⟩;dsimp only[b7];have s0:=aD hPr (.lst []);have hP0:=ak (H:=H) (a:=Pr) (o := .lst []);generalize aC H Pr (.lst [])=H0 at s0 hP0 ⊢;refine⟨_,O,L,_,O,.inl (bw.of (s0 _ _ hL)),_,O,by omega,by omega,?_⟩;rw[bP,hlm];refine qU (lo:=0) (fun i σ H'=>∃ (x3 x4:Option V), σ = [aa T,aa L,aa Pr,x3,x4]∧a6 H H'∧H' Pr=some (.lst [])) ⟨none,none,O,s0,hP0⟩ ?_ ?_
 ·rintro i σ H' hi ⟨x3,x4,rfl,sm,hP⟩;have ei:(0:Int)+(i:Int)=((i:Nat):Int):=by omega
  rw[ei];show JC _ _ _ _ _ _;refine⟨_,O,_,O,L,_,_,_,O,O,bw.of (sm _ _ hL),gG (getD_at (ls:=ls) hi),_,O,O,_,O,cC (fun z =>?_) (fun z=>⟨_,_,O,sm,hP⟩)⟩;refine⟨_,O,_,O,_,O,T,L,us,ts,ls,i,O,sm _ _ hT,eN sm dP,sm _ _ hL,uL,by omega,by omega,fun N H1 s1 hN0 hN =>?_⟩;have n1:=h1 i (by omega);refine⟨N,_,O,bw.of hN,by omega,fun s l aiv hs hl0 =>?_⟩;dsimp only[b7];have s2:=aD hl0 (.lst (s.map V.int));have qN:=ak (H:=H1) (a:=l) (o := .lst (s.map V.int));generalize aC H1 l (.lst (s.map V.int))=H2 at s2 qN ⊢;have j7:=aiv.length_eq;refine⟨_,O,l,_,O,.inl (bw.of qN),_,_,O,O,_,O,cC (fun z2 =>?_) (fun z2=>⟨_,_,O,sm.trans (s1.trans s2),(s1.trans s2) _ _ hP⟩)⟩;rw[ay]at z2;exact absurd z2 (by omega)
 ·rintro σ H' ⟨x3,x4,rfl,sm,hP⟩;exact⟨_,O,Pr,O,hP,q H' sm⟩
structure UB(t:Tm):Prop where
 n1:rJ "plus" 2 t=false
 n2:rJ "times" 2 t=false
 n3:rJ "neg" 1 t=false
inductive KP(vs:List V)(H:Hp)(Q:VK):Prop
 | mk (a l v:V) (t:Tm) (ev:vs = [a,l,v]) (hv:ix H t v) (no:UB t) (q:Q .cj H):KP vs H Q
def Q5:Sp:=fun vs H Q _=>KP vs H Q
theorem HX(B:iY mg)(tT:c7 P w K mg base 1 "is_sum" wa7 (n6 "plus" 2))(mh:c7 P w K mg base 1 "is_product" wa7 (n6 "times" 2))(kS:c7 P w K mg base 1 "is_opposite" wa7 (n6 "neg" 1))(D:Def K mg "known_values" sY wc1):c7 P w K mg base 3 "known_values" wc1 Q5:=by
 refine D.has HL (fun vs H Q E h =>?_) (fun f bU A outer s H vs Q E hr h =>?_)
 ·obtain⟨a,l,v,t,rfl,_⟩:=h;rfl
 obtain⟨a,l,v,t,rfl,hv,⟨n1,n2,n3⟩,q⟩:=h;refine⟨_,(au (cA (PW.pt (pw_and (rA (km (bb tT hr (by omega) O (ae (pv 2) aq)))) (pw_and (rA (km (bb mh hr (by omega) O (ae (pv 2) aq)))) (pw_and1 (rA (km (bb kS hr (by omega) O (ae (pv 2) aq)))))))) (ax (aZ rC)) bD)
  (au Aw
  (au Aw
  (ax Aw)))),?_⟩
 try dsimp only[cG]
 refine⟨_,O,v,t,O,hv,_,O,?_⟩;rw[n1];refine gH ⟨_,O,v,t,O,hv,_,O,?_⟩;rw[n2];refine gH ⟨_,O,v,t,O,hv,_,O,?_⟩;rw[n3];exact gH q
structure vj(ts:List Tm)(ls:List Nat):Prop where
 arms:EF ts
 len:ls.length=ts.length
 iI:ts.length<=900
 small:∀ (i:Nat) x as,ts[i]? = some (.of x as)->as.length<=1000
 vg:Jp ts ls
theorem vj.at(h:vj ts ls)(ht:ts[i]? = some t):∀ x as,t = .of x as->as.length<=1000∧∀ a∈as,a < ls.length:=fun x as e=>by
 subst e;have hl:=(aj.mp ht).1;exact⟨h.small i x as ht,fun a ha=>by have:=h.arms i x as ht a ha;have:=h.len;omega⟩
inductive Sh(P:Program)(w:World)(vs:List V)(H:Hp)(Q:VK):Prop
 | mk (T L:Addr) (us:List V) (ts:List Tm) (ls:List Nat) (z0:vs = [.ref T,.ref L]) (z1:H T=some (.lst us)) (z2:kO H us ts) (z3:H L=some (.lst (ls.map nV))) (z4:vj ts ls) (z5:∀ p kvs H',a6 H H'->H p=none->DN P w H' p kvs->yl ts ls ts.length kvs->Q (.ref p) H'):Sh P w vs H Q
def EH(P:Program)(w:World):Sp:=fun vs H Q _=>Sh P w vs H Q
theorem YO(B:iY mg)(rN:c7 P w K mg base 1 "mark" wb6 (Hx K))(D:Def K mg "marks" JO eU):c7 P w K mg base 2 "marks" eU (EH P w):=by
 refine D.has Al (fun vs H Q E h =>?_) (fun f bU A outer s H vs Q E hr h =>?_)
 ·obtain⟨T,L,us,ts,ls,rfl,_⟩:=h;rfl
 obtain⟨T,L,us,ts,ls,rfl,hT,dP,hL,ok,q⟩:=h;refine⟨_,(au (bG (i:=2) Al.nd O (aM O) Az)
  (au (dM bX O (v7 O B.oZ (ae (pv 0) aq)) (rB O (fi (bZ (i:=3) Al.nd O (aM O)) (fi (bZ (i:=4) Al.nd O (aM O)) oN)))
  (ax (JS (sL hr) (pv 2) (bb rN hr (by omega) O (ae (pv 4) (ae (pv 1) aq))) (aV dy (pv 1) (pv 3) (fun _ _=>O)) O)))
  (ax (aZ (pv 2))))),?_⟩
 try dsimp only[cG]
 have qM:=bx dP;intro p φ hp Ph;dsimp only[b7];have Cd:=aD hp (.ext φ);generalize aC H p (.ext φ)=H0 at Cd Ph ⊢;refine⟨_,O,T,O,⟨us,bw.of (Cd _ _ hT)⟩,?_⟩;refine tY (xs:=us) (fun i σ H'=>∃ (kvs:List (NK × V)) (x3 x4:Option V), σ = [aa T,aa L,aa p,x3,x4]∧a6 H H'∧DN P w H' p kvs∧yl ts ls i kvs)
  ⟨[],none,none,O,Cd,Ph,(fun i t hi=>absurd hi (gf _)),(fun k v e=>by rw[F1]at e;cases e),O⟩ ?_ ?_ ?_
 ·rintro i σ H' _ ⟨kvs,x3,x4,rfl,sm,_⟩;exact bw.of (sm _ _ hT)
 ·rintro i x a0 σ H' hx ⟨kvs,x3,x4,rfl,sm,dn,tb⟩ zH;obtain⟨t,ht,Im⟩:=rg dP hx;have hi:i < ts.length:=(aj.mp ht).1;have s1:=aD zH (.tup [.int (i:Int),x]);have g1:=sm.trans s1;have BK:=dn.same s1;refine⟨a0,_,O,aW.of ak,O,_,_,O,_,_,O,O,?_⟩;generalize aC H' a0 (.tup [.int (i:Int),x])=H1 at s1 g1 BK ⊢;have hl:=ok.len;have vz:ls[i]? = some (ls.getD i 0):=getD_at (by omega);refine⟨_,O,_,O,L,_,_,_,O,O,bw.of (g1 _ _ hL),gG vz,?_⟩;refine⟨_,O,_,O,_,O,x,t,L,ls,O,Im.same g1,bw.of (g1 _ _ hL),ok.at ht,fun v' H2 s2 hm =>?_⟩;obtain⟨b,rfl,nk⟩:=hm.key;have BC:kvs.length<=i:=by rw[tb.2.2];exact rQ _ _
  have arz:H p=none:=hp;refine⟨p,b,kvs,dJ (mk ls t),O,O,BK.same s2,nk,dD (by have:=ok.iI;omega),fun φ2 RX=>⟨_,_,_,O,?_,RX,Yi ok.vg ok.len tb ht⟩⟩;exact fun c o e=>by rw[av (fun z=>by rw[z,hp]at e;cases e)];exact(g1.trans s2) c o e
 ·rintro σ H' ⟨kvs,x3,x4,rfl,sm,dn,tb⟩;rw[qM]at tb;exact⟨_,O,q p kvs H' sm hp dn tb⟩
inductive Se(vs:List V)(H:Hp)(Q:VK):Prop
 | mk (T L:Addr) (us:List V) (ts:List Tm) (ls:List Nat) (z0:vs = [.ref T,.ref L]) (z1:H T=some (.lst us)) (z2:kO H us ts) (z3:H L=some (.lst (ls.map nV))) (z4:vj ts ls) (z5:∀ F kvs H',a6 H H'->H F=none->H' F=some (.dK kvs)->lM H' kvs (jU ls (dQ (ts.map (mk ls)) ts.length))->Own H kvs->Q (.ref F) H'):Se  vs H Q
def JH:Sp:=fun vs H Q _=>Se  vs H Q
theorem YL(B:iY mg)(rN:c7 P w K mg base 1 "mark" wb6 (Hx K))(D:Def K mg "nodes" JN eU):c7 P w K mg base 2 "nodes" eU JH:=by
 refine D.has sR (fun vs H Q E h =>?_) (fun f bU A outer s H vs Q E hr h =>?_)
 ·obtain⟨T,L,us,ts,ls,rfl,_⟩:=h;rfl
 obtain⟨T,L,us,ts,ls,rfl,hT,dP,hL,ok,q⟩:=h;refine⟨_,(au (bG (i:=2) sR.nd O (aM O) wB)
  (au (bG (i:=3) sR.nd O (aM O) Az)
  (au (dM bX O (v7 O B.oZ (ae (pv 0) aq)) (rB O (fi (bZ (i:=4) sR.nd O (aM O)) (fi (bZ (i:=5) sR.nd O (aM O)) oN)))
  (au (bG (i:=6) sR.nd O (aM O) (bb rN hr (by omega) O (ae (pv 5) (ae (pv 1) aq))))
  (ax (cA (NQ (Lh (sL hr) (pv 6) (pv 3)) (by with_unfolding_all rfl)) (au (JS (sL hr) (pv 3) (pv 6) lQ O)
  (ax (eJ (jV bK cy cx fX (acJ (pv 2) (aV dy (pv 1) (pv 4) (fun _ _=>O)) (fu aq) ⟨O,O,O,O⟩) (ae (pv 4) aq))))) bD))))
  (ax (aZ (pv 2)))))),?_⟩
 try dsimp only[cG]
 have qM:=bx dP;have iI:=ok.iI;intro F hF;dsimp only[b7];have sF:=aD hF (.dK []);have xZ:=ak (H:=H) (a:=F) (o := .dK []);generalize aC H F (.dK [])=H0 at sF xZ ⊢;intro S φ hS Ph;dsimp only[b7];have hSH:H S=none:=sF.free hS;have sS:=sF.trans (aD hS (.ext φ));have zO:=aD hS (.ext φ) _ _ xZ;generalize aC H0 S (.ext φ)=H1 at sS zO Ph ⊢;refine⟨_,O,T,O,⟨us,bw.of (sS _ _ hT)⟩,?_⟩;refine tY (xs:=us) (fun i σ H'=>∃ (kvs:List (Key × V)) (Fo:List (NK × V)) (x4 x5 x6:Option V), σ = [aa T,aa L,aa F,aa S,x4,x5,x6]∧a6 H H'∧H' F=some (.dK kvs)∧lM H' kvs (jU ls (dQ (ts.map (mk ls)) i))∧Own H kvs∧DN P w H' S Fo∧xm ts ls i Fo)
  ⟨[], [],none,none,none,O,sS,zO,.nil,⟨uc,fun kv hm=>by cases hm⟩,Ph,Yp ts ls⟩ ?_ ?_ ?_
 ·rintro i σ H' _ ⟨kvs,Fo,x4,x5,x6,rfl,sm,_⟩;exact bw.of (sm _ _ hT)
 ·rintro i x a0 σ H' hx ⟨kvs,Fo,x4,x5,x6,rfl,sm,w6,lI,own,dn,sn⟩ zH;obtain⟨t,ht,Im⟩:=rg dP hx;have hi:i < ts.length:=(aj.mp ht).1;have s1:=aD zH (.tup [.int (i:Int),x]);have g1:=sm.trans s1;have BK:=dn.same s1;have zO:=s1 _ _ w6;have VB:=lI.same s1;refine⟨a0,_,O,aW.of ak,O,_,_,O,_,_,O,O,?_⟩;generalize aC H' a0 (.tup [.int (i:Int),x])=H1 at s1 g1 BK zO VB ⊢;have hl:=ok.len;have vz:ls[i]? = some (ls.getD i 0):=getD_at (by omega);refine⟨_,O,_,O,x,t,L,ls,O,Im.same g1,bw.of (g1 _ _ hL),ok.at ht,fun v' H2 s2 hm =>?_⟩;dsimp only[b7];obtain⟨b,rfl,nk⟩:=hm.key;have g2:=g1.trans s2;have BJ:=BK.same s2;have IG:=s2 _ _ zO;have rw2:=VB.same s2;have alx:=Yx ls (dQ (ts.map (mk ls)) i);have arC:=rQ (ts.map (mk ls)) i;have Y9:=bx rw2;refine⟨_,O,_,O,S,b,Fo,dJ (mk ls t),O,O,BJ,nk,_,O,?_⟩;rcases Yq sn ht with⟨hv,GI⟩ | ⟨hv,GI⟩
  ·rw[hv];refine gH ?_;refine⟨_,O,_,O,S,b,Fo,dJ (mk ls t),O,O,BJ,nk,dD (by have:=sn.2.2;omega),fun φ3 RX =>?_⟩;obtain⟨φ0,e0⟩:=BJ.ext;have g3:a6 H (aC H2 S (.ext φ3)):=fun c o e=>by rw[av (fun z=>by rw[z,hSH]at e;cases e)];exact g2 c o e
   have WV:(aC H2 S (.ext φ3)) F=some (.dK kvs):=by rw[av (b9 IG e0 nofun)];exact IG
   have rw3:lM (aC H2 S (.ext φ3)) kvs _:=rw2.qi e0 (fun xs z=>nomatch z);generalize aC H2 S (.ext φ3)=H3 at g3 WV rw3 RX ⊢;refine⟨_,O,F,O,.inl ⟨kvs,.inl WV⟩,_,O,_,O,L,_,_,_,O,O,bw.of (g3 _ _ hL),gG vz,aQ _,fun N hN =>?_⟩;have s4:=aD hN (.lst []);have FC:=ak (H:=H3) (a:=N) (o := .lst []);have hNH:H N=none:=g3.free hN;have g4:=g3.trans s4;have DP:=s4 _ _ WV;have NG:=rw3.same s4;have IQ:=RX.same s4;have alO:=own.snoc (k := .inl ((ls.getD i 0:Nat):Int)) rw3 hN hNH;generalize aC H3 N (.lst [])=H4 at s4 FC g4 DP NG IQ ⊢;have efs:jU ls (dQ (ts.map (mk ls)) (i+1))=qA (jU ls (dQ (ts.map (mk ls)) i)) (ls.getD i 0) i:=by
    rw[p6,GI];exact Cr ls _ i
   have nk':=Ct ls (dQ (ts.map (mk ls)) i);have small:=Tj ls (dQ (ts.map (mk ls)) i);generalize jU ls (dQ (ts.map (mk ls)) i)=ps at NG efs nk' small alx Y9;have sn':=Yo (V.bl true) sn ht;refine⟨kvs,.inl ((ls.getD i 0:Nat):Int),DP,O,dD (by omega),fun v AM =>?_,fun aa7 =>?_⟩
   ·rcases NG.look (ls.getD i 0) with⟨e,_⟩ | ⟨a,zs,e,el,ha⟩
    ·rw[AM]at e;cases e
    ·have ev:v = .ref a:=aP (AM.symm.trans e);subst ev;have haH:=own.fresh (ach AM);have hsz:zs.length<=900:=by have:=small _ (Ln el);show zs.length<=900;simp only at this;omega
     refine⟨.inl ⟨O,_,bw.of ha⟩,_,O,a,_,_,O,O,ha,dD (by rw[ay];omega),?_⟩;have egr:=NG.grow (zs:=zs ++ [i]) own.1 nk' AM;have eL:(zs ++ [i]).map nV=zs.map nV ++ [nV i]:=by rw[cR];rfl
     rw[eL]at egr;refine⟨kvs,gm Fo (dJ (mk ls t)) (.bl true),_,_,_,O,?_,?_,?_,own,Sw.DN.qi (P:=P) (w:=w) IQ ha (fun φ z=>nomatch z) (fun ys z=>nomatch z),sn'⟩
     ·exact fun c o e=>by rw[av (fun z=>by rw[z,haH]at e;cases e)];exact g4 c o e
     ·rw[av (b9 DP ha nofun)];exact DP
     ·rw[efs];unfold qA;rw[el];exact egr
   ·rcases NG.look (ls.getD i 0) with⟨e,el⟩ | ⟨a,zs,e,el,ha⟩
    ·have RL:(aC H4 F (.dK (kvs ++ [(.inl ((ls.getD i 0:Nat):Int),.ref N)]))) N=some (.lst []):=by rw[av (b9 FC DP nofun)];exact FC
     refine⟨.inl ⟨O,_,bw.of RL⟩,_,O,N,_,_,O,O,RL,dD (aQ _),?_⟩;refine⟨kvs ++ [(.inl ((ls.getD i 0:Nat):Int),.ref N)],gm Fo (dJ (mk ls t)) (.bl true),_,_,_,O,?_,?_,?_,alO,?_,sn'⟩
     ·exact fun c o e=>by rw[av (fun z=>by rw[z,hNH]at e;cases e),av (fun z=>by rw[z,hF]at e;cases e)];exact g4 c o e
     ·rw[av (b9 ak RL nofun),ak]
     ·rw[efs];unfold qA rq;have Ug:(ps.any fun p=>decide (p.1=ls.getD i 0))=false:=by rw[<- NG.any,mD,aa7];rfl
      rw[Ug,el];have r5:lM (aC (aC H4 F (.dK (kvs ++ [(.inl ((ls.getD i 0:Nat):Int),.ref N)]))) N (.lst ([] ++ [V.int (i:Int)]))) kvs ps:=(NG.qi DP (fun xs z=>nomatch z)).keep fun l xs ⟨kv,hm,e2⟩ e3=>by
       obtain⟨l',e4,hl4⟩:=own.2 kv hm;rw[e2]at e4;cases e4;rw[av (fun z =>?_)]
       ·exact e3
       ·subst z;have:∀ {kvs:List (Key × V)}{ps:List Row},lM H3 kvs ps->(∃ kv∈kvs,kv.2 = .ref l)->False:=by
         intro kvs ps r
         induction r with
         | nil=>rintro⟨kv,hm,_⟩;cases hm
         | @cons kv p kvs ps q t ih =>
          rintro⟨zC,hm,e⟩;rcases bC.mp hm with rfl | hm
          ·obtain⟨_,l',e2,hl⟩:=q;rw[e]at e2;cases e2;rw[hN]at hl;cases hl
          ·exact ih ⟨zC,hm,e⟩
        exact this rw3 ⟨kv,hm,e2⟩
      exact qb r5 ⟨O,N,O,ak⟩
     ·exact Sw.DN.qi (P:=P) (w:=w) (Sw.DN.qi (P:=P) (w:=w) IQ DP (fun φ z=>nomatch z) (fun ys z=>nomatch z)) RL (fun φ z=>nomatch z) (fun ys z=>nomatch z)
    ·rw[aa7]at e;cases e
  ·obtain⟨v,hv'⟩:=gC.mp hv;rw[hv'];refine fC ⟨kvs,Fo,_,_,_,O,g2,IG,?_,own,BJ,Vt sn ht hv⟩;rw[p6,GI];show lM H2 kvs (jU ls (dQ (ts.map (mk ls)) i ++ []));rw[cY];exact rw2
 ·rintro σ H' ⟨kvs,Fo,x4,x5,x6,rfl,sm,w6,lI,own,dn,sn⟩;rw[qM]at lI;exact⟨_,O,q F kvs H' sm hF w6 lI own⟩
theorem YX:∀ {ns:List Int}{fs:List Nat},ns.Perm (fs.map fun n:Nat=>(n:Int))->(ns.map El).Perm fs∧ns.map V.int=(ns.map El).map nV:=fun {ns fs} h=>by
 refine⟨?_,?_⟩
 ·have:=h.map El;rw[hU]at this;refine this.trans (Jo ((gW fun n _ =>?_).trans (FP _)));exact bP n
 ·rw[hU];refine gW fun n hn =>?_;obtain⟨m,_,rfl⟩:=eD.mp (h.mem_iff.mp hn);rfl
theorem TH{ns:List Int}{fs:List Nat}(h:ns.Perm (fs.map fun n:Nat=>(n:Int)))(s:ns.Pairwise (· <= ·)):(ns.map El).Pairwise (· <= ·) :=
 Fh.mpr (s.imp fun {a b} Fx=>by omega)
inductive PM(vs:List V)(H:Hp)(Q:VK):Prop
 | mk (T L:Addr) (us:List V) (ts:List Tm) (ls:List Nat) (z0:vs = [.ref T,.ref L]) (z1:H T=some (.lst us)) (z2:kO H us ts) (z3:H L=some (.lst (ls.map nV))) (z4:vj ts ls) (z5:ts.length<=900)
  (z6:∀ (R:Addr) (ns:List Nat) (H':Hp),a6 H H'->H R=none->H' R=some (.lst (ns.map nV))->ns.Perm (dQ (ts.map (mk ls)) ts.length)->ns.Pairwise (· <= ·)->Q (.ref R) H'):PM vs H Q
def Nd:Sp:=fun vs H Q _=>PM vs H Q
inductive NnI(T L Fd F:Addr)(o:Obj)(H H0:Hp)(kvs:List (Key × V))(ps:List Row)(i:Nat)(σ : St)(H':Hp):Prop
 | mk (x3:Option V):(σ = [aa T,aa L,aa Fd,x3])->a6 H H'->H' F=some (Ext F o)->H' Fd=some (.lst (((ps.take i).flatMap (·.2)).map nV))->lM H' kvs ps->NnI T L Fd F o H H0 kvs ps i σ H'
theorem HW(t6:mg "sorted" = none)(wb:c7 P w K mg base 2 "nodes" eU JH)(D:Def K mg "node_numbers" sV eU):c7 P w K mg base 3 "node_numbers" eU Nd:=by
 refine D.has rj (fun vs H Q E h =>?_) (fun f bU A outer s H vs Q E hr h =>?_)
 ·obtain⟨T,L,us,ts,ls,rfl,_⟩:=h;rfl
 obtain⟨T,L,us,ts,ls,rfl,hT,dP,hL,ok,iI,q⟩:=h;refine⟨_,(au (bG (i:=2) rj.nd O (aM O) (fu aq))
  (au (dM bX O (acI (bb wb hr (by omega) O (ae (pv 0) (ae (pv 1) aq)))) (bZ (i:=3) rj.nd O (aM O))
  (ax (eJ (jV bK iR iQ uI (pv 2) (ae (pv 3) aq)))))
  (ax (aZ (dz Pp O t6 D5 (ae (pv 2) aq)))))),?_⟩
 try dsimp only[cG]
 refine⟨aQ _,fun Fd RN =>?_⟩;dsimp only[b7];have s0:=aD RN (.lst []);have xZ:=ak (H:=H) (a:=Fd) (o := .lst []);generalize aC H Fd (.lst [])=H0 at s0 xZ ⊢;refine⟨_,O,_,O,T,L,us,ts,ls,O,s0 _ _ hT,eN s0 dP,s0 _ _ hL,ok,fun F kvs H1 s1 hF zO VB own =>?_⟩;refine⟨F,kvs,O,zO,fun o _ =>?_⟩;have sF:a6 H0 (aC H1 F (Ext F o)):=s1.put hF;have agk:(aC H1 F (Ext F o)) Fd=some (.lst []):=sF _ _ xZ;have rwF:lM (aC H1 F (Ext F o)) kvs _:=VB.qi zO (fun xs z=>nomatch z);have g1:=s0.trans sF;have hFo:=ak (H:=H1) (a:=F) (o:=Ext F o);generalize aC H1 F (Ext F o)=H2 at sF agk rwF g1 hFo ⊢;have perm:=Cs ls (ts.map (mk ls)) ts.length;have fl:=rQ (ts.map (mk ls)) ts.length;generalize jU ls (dQ (ts.map (mk ls)) ts.length)=ps at VB rwF perm;have Y9:=bx rwF;have tot:=perm.length_eq;have split:∀ i,((ps.take i).flatMap (·.2)).length+((ps.drop i).flatMap (·.2)).length=(ps.flatMap (·.2)).length:=fun i=>by
  rw[<- aO, <- gX,cV]
 refine ZD (NnI T L Fd F o H H0 kvs ps) ⟨none,O,g1,hFo,agk,rwF⟩ ?_ ?_ ?_
 ·rintro i σ H' _ ⟨x3,rfl,sm,O3,_⟩;exact O3
 ·rintro i kv σ H' LA ⟨x3,rfl,sm,O3,Kl,lI⟩;obtain⟨p,hp,ek,l,el,hl⟩:=Paired.at lI LA;have hm:=aN LA;obtain⟨l',el',hl0⟩:=own.2 kv hm;have e2:(ps.take (i+1)).flatMap (·.2)=(ps.take i).flatMap (·.2) ++ p.2:=by rw[cW,hp,gX];show _ ++ (p.2 ++ [])=_;rw[cY]
  have hb:=split (i+1);rw[e2,aO]at hb;have hlF:∀ zC∈kvs,zC.2 ≠ .ref Fd:=fun zC hk z=>by
   obtain⟨l2,e3,h3⟩:=own.2 zC hk;rw[z]at e3;cases e3;rw[xZ]at h3;cases h3
  refine⟨_,O,.inl ⟨O,_,bw.of Kl⟩,_,O,Fd,l,_,_,O,by rw[el],Kl,hl,?_,⟨_,O,sm.put RN,?_,?_,lI.keep fun l2 xs ⟨zC,hk,e3⟩ h3 =>?_⟩⟩
  ·rw[ay,ay];exact ky (dD (n:=_+_) (by omega))
  ·rw[av (b9 O3 Kl nofun)];exact O3
  ·rw[ak,e2,cR]
  ·rw[av (fun z=>hlF zC hk (by rw[e3,z]))];exact h3
 ·rintro σ H' ⟨x3,rfl,sm,O3,Kl,lI⟩;rw[Y9,du]at Kl;have e:(ps.flatMap (·.2)).map nV=((ps.flatMap (·.2)).map fun n:Nat=>(n:Int)).map V.int:=by rw[hU];rfl
  refine⟨_,O,Fd,(ps.flatMap (·.2)).map fun n:Nat=>(n:Int),O,by rw[<- e];exact bw.of Kl,fun lJ l pm Na hl =>?_⟩;obtain⟨p1,p2⟩:=YX pm;rw[p2];exact q l _ _ (sm.trans (aD hl _)) (sm.free hl) ak (p1.trans perm) (TH pm Na)
structure E3(K:ai)(mg:Str->Option Value)(CM:Addr):Prop where
 cM:lB K CM
 gM:dY K CM "terms"
 ma:dY K CM "leads"
 zw:dY K CM "table"
 We:dY K CM "heads"
structure E5(P:Program)(w:World)(CM:Addr)(H:Hp)(a dx T L S F:Addr)(us:List V)(ts:List Tm)(ls:List Nat)(lV:List (NK × V))(kvs:List (Key × V)):Prop where
 ins:H a=some (.ins CM dx [("terms",.ref T),("leads",.ref L),("table",.ref S),("heads",.ref F)])
 hT:H T=some (.lst us)
 tms:kO H us ts
 hL:H L=some (.lst (ls.map nV))
 dn:DN P w H S lV
 tab:yl ts ls ts.length lV
 hF:H F=some (.dK kvs)
 rows:lM H kvs (jU ls (dQ (ts.map (mk ls)) ts.length))
theorem E5.same{a T S F:Addr}{kvs:List (Key × V)}(h:E5 P w CM H a dx T L S F us ts ls lV kvs)(sm:a6 H H'):E5 P w CM H' a dx T L S F us ts ls lV kvs :=
 ⟨sm _ _ h.ins,sm _ _ h.hT,eN sm h.tms,sm _ _ h.hL,h.dn.same sm,h.tab,sm _ _ h.hF,h.rows.same sm⟩
theorem QW(h:yl ts ls ts.length lV)(m:Tm):cP lV (dJ m)=(JB ts ls m).map nV:=by
 unfold JB;cases q:fB (ts.map (mk ls)) m with
 | none =>
  cases e:cP lV (dJ m) with
  | none=>rfl
  | some v =>
   obtain⟨i,t,hi,ht,ek⟩:=h.2.1 _ _ e;have:=qj ek;exact absurd (by rw[this];exact eD.mpr ⟨t,aN ht,O⟩) (wy.mp q)
 | some i =>
  have h1:=wz q;rw[aJ]at h1;obtain⟨t,ht,em⟩:=b8.mp h1;rw[<- em,h.1 i t (aj.mp ht).1 ht];rfl
inductive Sg(P:Program)(w:World)(CM:Addr)(vs:List V)(H:Hp)(Q:VK):Prop
 | mk (a dx T L:Addr) (us:List V) (ts:List Tm) (ls:List Nat) (z0:vs = [.ref a,.ref T,.ref L]) (z:H a=some (.ins CM dx [])) (z1:H T=some (.lst us)) (z2:kO H us ts) (z3:H L=some (.lst (ls.map nV))) (z4:vj ts ls)
  (z6:∀ H' S F lV kvs,eZ a H H'->E5 P w CM H' a dx T L S F us ts ls lV kvs->Q .cj H'):Sg P w CM vs H Q
def Q4(P:Program)(w:World)(CM:Addr):Sp:=fun vs H Q _=>Sg P w CM vs H Q
theorem YN(Z:E3 K mg CM)(oW:c7 P w K mg base 2 "marks" eU (EH P w))(wb:c7 P w K mg base 2 "nodes" eU JH)(D:oI K mg "Matcher" CM "Matcher.__init__" sW bh) :
  pO P w K mg base 3 "Matcher" CM bh (Q4 P w CM):=by
 refine D.has Yt (fun vs H Q E h =>?_) (fun f bU A outer s H vs Q E hr h =>?_)
 ·obtain⟨a,dx,T,L,us,ts,ls,rfl,_⟩:=h;rfl
 obtain⟨a,dx,T,L,us,ts,ls,rfl,ha,hT,dP,hL,ok,q⟩:=h;refine⟨_,(au (ft (pv 0) (pv 1) O)
  (au (ft (pv 0) (pv 2) O)
  (au (ft (pv 0) (bb oW hr (by omega) O (ae (pv 1) (ae (pv 2) aq))) O)
  (ax (ft (pv 0) (bb wb hr (by omega) O (ae (pv 1) (ae (pv 2) aq))) O))))),?_⟩
 try dsimp only[cG]
 have bs:∀ {H0:Hp}{o:HO},eZ a H H0->eZ a H (aC H0 a o):=fun b=>b.put;have aT:T≠a:=b9 hT ha nofun
 have aL:L≠a:=b9 hL ha nofun
 have tt:∀ {H0:Hp},eZ a H H0->kO H0 us ts:=fun b=>iK (fun c ys e=>b c _ (b9 e ha nofun) e) dP;refine⟨_,O,_,O,a,CM,dx,_,O,ha,Z.cM,Z.gM,by decide,?_⟩;have b1:eZ a H (aC H a (.ins CM dx (bQ "terms" (.ref T) []))):=(eZ.refl a H).put;have i1:=ak (H:=H) (a:=a) (o := .ins CM dx (bQ "terms" (.ref T) []));refine⟨_,O,_,O,a,CM,dx, [("terms",.ref T)],O,i1,Z.cM,Z.ma,(show 1 < 1000 by decide),?_⟩;have b2:eZ a H (aC (aC H a (.ins CM dx (bQ "terms" (.ref T) []))) a (.ins CM dx (bQ "leads" (.ref L) [("terms",.ref T)]))):=bs b1;have i2:(aC (aC H a (.ins CM dx (bQ "terms" (.ref T) []))) a (.ins CM dx (bQ "leads" (.ref L) [("terms",.ref T)]))) a=some (.ins CM dx [("terms",.ref T),("leads",.ref L)]):=ak;generalize aC (aC H a (.ins CM dx (bQ "terms" (.ref T) []))) a (.ins CM dx (bQ "leads" (.ref L) [("terms",.ref T)]))=H2 at b2 i2 ⊢;refine⟨_,O,_,O,T,L,us,ts,ls,O,b2 _ _ aT hT,tt b2,b2 _ _ aL hL,ok,fun S lV H3 s3 hS dn tb =>?_⟩;have i3:=s3 _ _ i2;have b3:eZ a H H3:=fun c o n e=>s3 _ _ (b2 _ _ n e);refine⟨_,O,a,CM,dx, [("terms",.ref T),("leads",.ref L)],O,i3,Z.cM,Z.zw,(show 2 < 1000 by decide),?_⟩;have b4:eZ a H (aC H3 a (.ins CM dx (bQ "table" (.ref S) [("terms",.ref T),("leads",.ref L)]))):=bs b3;have i4:(aC H3 a (.ins CM dx (bQ "table" (.ref S) [("terms",.ref T),("leads",.ref L)]))) a=some (.ins CM dx [("terms",.ref T),("leads",.ref L),("table",.ref S)]):=ak;have IQ:DN P w (aC H3 a (.ins CM dx (bQ "table" (.ref S) [("terms",.ref T),("leads",.ref L)]))) S lV:=Sw.DN.qi (P:=P) (w:=w) dn i3 (fun φ z=>nomatch z) (fun ys z=>nomatch z);generalize aC H3 a (.ins CM dx (bQ "table" (.ref S) [("terms",.ref T),("leads",.ref L)]))=H4 at b4 i4 IQ ⊢;refine⟨_,O,_,O,T,L,us,ts,ls,O,b4 _ _ aT hT,tt b4,b4 _ _ aL hL,ok,fun F kvs H5 s5 hF LH rw5 own =>?_⟩;have i5:=s5 _ _ i4;have b5:eZ a H H5:=fun c o n e=>s5 _ _ (b4 _ _ n e);have dn5:=IQ.same s5;refine⟨_,O,a,CM,dx, [("terms",.ref T),("leads",.ref L),("table",.ref S)],O,i5,Z.cM,Z.We,(show 3 < 1000 by decide),?_⟩;have b6:eZ a H (aC H5 a (.ins CM dx (bQ "heads" (.ref F) [("terms",.ref T),("leads",.ref L),("table",.ref S)]))):=bs b5;refine q _ S F lV kvs b6 ⟨ak,b6 _ _ aT hT,tt b6,b6 _ _ aL hL,Sw.DN.qi (P:=P) (w:=w) dn5 i5 (fun φ z=>nomatch z) (fun ys z=>nomatch z),tb,?_,rw5.qi i5 (fun xs z=>nomatch z)⟩;rw[av (b9 LH i5 nofun)];exact LH
structure rX(K:ai)(CB:Addr):Prop where
 cB:lB K CB
 aaR:dY K CB "room"
 gM:dY K CB "terms"
 zx:dY K CB "places"
inductive XB(P:Program)(w:World)(CB:Addr)(vs:List V)(H:Hp)(Q:VK):Prop
 | mk (b dx:Addr) (room:Int) (z0:vs = [.ref b,.int room]) (z1:H b=some (.ins CB dx [])) (z2:∀ H' L M,eZ b H H'->H L=none->H M=none->gk P w CB H' b dx L M room []->Q .cj H'):XB P w CB vs H Q
def Vl(P:Program)(w:World)(CB:Addr):Sp:=fun vs H Q _=>XB P w CB vs H Q
theorem acV(Z:rX K CB)(D:oI K mg "Bank" CB "Bank.__init__" wx wb1):pO P w K mg base 1 "Bank" CB wb1 (Vl P w CB):=by
 refine D.has acx (fun vs H Q E h =>?_) (fun f bU A outer s H vs Q E hr h =>?_)
 ·obtain⟨b,dx,room,rfl,_⟩:=h;rfl
 obtain⟨b,dx,room,rfl,hb,q⟩:=h;refine⟨_,(au (ft (pv 0) (pv 1) rfl)
  (au (ft (pv 0) (fu aq) rfl)
  (ax (ft (pv 0) Az rfl)))),?_⟩
 try dsimp only[cG]
 refine⟨_,O,_,O,b,CB,dx,_,O,hb,Z.cB,Z.aaR,by decide,?_⟩;have b1:eZ b H (aC H b (.ins CB dx [("room",.int room)])):=(eZ.refl b H).put;refine⟨aQ _,fun L hL =>?_⟩;have WU:L≠b:=fun e=>by rw[e,ak]at hL;cases hL
 have BG:H L=none:=by rw[av WU]at hL;exact hL
 refine⟨_,O,b,CB,dx, [("room",.int room)],O,(by rw[av (bR WU),ak];rfl),Z.cB,Z.gM,(show 1 < 1000 by decide),?_⟩;intro M φ hM hd;have WT:M≠b:=fun e=>by rw[e,ak]at hM;cases hM
 have hML:M≠L:=fun e=>by rw[e,av WU,ak]at hM;cases hM
 have vA:H M=none:=by rw[av WT,av hML,av WT]at hM;exact hM
 refine⟨_,O,b,CB,dx, [("room",.int room),("terms",.ref L)],O,(by rw[av (bR WT),ak];rfl),Z.cB,Z.zx,(show 2 < 1000 by decide),?_⟩;refine q _ L M (fun c o n h =>?_) BG vA ⟨ak,⟨[],?_,.nil⟩, [],hd.keep (fun φ' z =>?_) (fun c ys z =>?_),O,fun t =>?_⟩
 ·have h1:c≠L:=fun e=>by rw[e,BG]at h;cases h
  have h2:c≠M:=fun e=>by rw[e,vA]at h;cases h
  rw[av n,av h2,av n,av h1,av n];exact h
 ·rw[av WU,av (bR hML),av WU,ak]
 ·rw[av WT];exact z
 ·have h1:c≠b:=fun e=>by rw[e,av (bR WT),ak]at z;cases z
  rw[av h1];exact z
 ·rw[fB];rfl
inductive L0(P:Program)(w:World)(CB:Addr)(vs:List V)(H:Hp)(Q:VK):Prop
 | mk (b dx L M:Addr) (room:Int) (ts:List Tm) (v:V) (t:Tm) (z0:vs = [.ref b,v]) (z1:gk P w CB H b dx L M room ts) (z2:ix H t v) (z3:ts.length<=900) (z4:(fB ts t=none->(ts.length:Int) < room)) (z5:(∀ H',kE L M H H'->gk P w CB H' b dx L M room (mJ ts t).1->Q (nV (mJ ts t).2) H')):L0 P w CB vs H Q
def B8(P:Program)(w:World)(CB:Addr):Sp:=fun vs H Q _=>L0 P w CB vs H Q
theorem Qx(B:iY mg)(Z:rX K CB)(D:gD K CB "put_term" "Bank.put_term" Ao wc8):ic P w K mg base 1 CB "put_term" wc8 (B8 P w CB):=by
 refine D.has Qt (fun vs H Q E h =>?_) (fun f bU A outer s H vs Q E hr h =>?_)
 ·obtain⟨b,dx,L,M,room,ts,v,t,rfl,_⟩:=h;rfl
 obtain⟨b,dx,L,M,room,ts,v,t,rfl,hB,hT,hz,hr0,q1⟩:=h;refine⟨_,(au (cA (NQ (Lh (sL hr) (pv 1) (bW (pv 0) O)) (by with_unfolding_all rfl)) (au (cA (br aij (dz cX O B.jK cn (ae (bW (pv 0) O) aq)) (bW (pv 0) O) (bo _)) (ax Aw) bD)
  (au (JS (sL hr) (bW (pv 0) O) (pv 1) (dz cX O B.jK cn (ae (bW (pv 0) O) aq)) O)
  (ax (eJ (jV bK cy cx fX (bW (pv 0) O) (ae (pv 1) aq)))))) bD)
  (ax (aZ (acL (sL hr) (bW (pv 0) O) (pv 1) (fun _ _=>O))))),?_⟩
 try dsimp only[cG]
 obtain⟨kb,rfl,nk⟩:=hT.key;have hB0:=hB;obtain⟨hb,⟨us,hL,dP⟩,kvs,dn,BC,AM⟩:=hB;have eO:=bx dP;obtain⟨nLM,nbL,nbM⟩:=hB0.ne;refine⟨_,O,_,O,b,CB,dx,_,_,O,hb,Z.cB,Z.zx,O,M,kb,kvs,dJ t,O,O,dn,nk,_,O,?_⟩;rw[AM t];cases e:fB ts t with
 | some i =>
  refine fC ?_;refine⟨_,O,b,CB,dx,_,_,O,hb,Z.cB,Z.zx,O,_,O,M,kb,kvs,dJ t,nV i,O,O,dn,nk,(by rw[AM t,e];rfl),?_⟩;have h1:=q1 H (kE.refl _ _ _);rw[E1 e]at h1;exact h1 hB0
 | none =>
  refine gH ?_;refine⟨_,O,b,CB,dx,_,_,O,hb,Z.cB,Z.gM,O,L,us,O,.inl (bw.of hL),_,O,b,CB,dx,_,_,O,hb,Z.cB,Z.aaR,O,_,_,O,O,_,O,cC (fun Lx =>?_) (fun Lx =>?_)⟩
  ·exact absurd (hr0 e) (by omega)
  ·refine⟨_,O,b,CB,dx,_,_,O,hb,Z.cB,Z.gM,O,L,us,O,.inl (bw.of hL),_,O,b,CB,dx,_,_,O,hb,Z.cB,Z.zx,O,_,O,M,kb,kvs,dJ t,O,O,dn,nk,dD (by omega),fun φ BK =>?_⟩;rw[eO]at BK;have w4:(aC H M (.ext φ)) L=some (.lst us):=by rw[av nLM];exact hL
   have hb1:(aC H M (.ext φ)) b=some _:=(av nbM).trans hb;have D4:kE L M H (aC H M (.ext φ)):=fun c o n m h=>by rw[av m];exact h
   have kt1:=hB0.tup D4;refine⟨_,O,b,CB,dx,_,_,O,hb1,Z.cB,Z.gM,O,.inl ⟨O,_,bw.of w4⟩,_,O,L,us,_,O,O,w4,dD (by omega),?_⟩;have vE:kE L M H (aC (aC H M (.ext φ)) L (.lst (us ++ [.ref kb]))):=fun c o n m h=>by rw[av n,av m];exact h
   have Lp:=hB0.tup vE;have qS:(aC (aC H M (.ext φ)) L (.lst (us ++ [.ref kb]))) L=some (.lst (us ++ [.ref kb])):=ak;have BE:(aC (aC H M (.ext φ)) L (.lst (us ++ [.ref kb]))) b=some _:=(av nbL).trans hb1;have BJ:DN P w (aC (aC H M (.ext φ)) L (.lst (us ++ [.ref kb]))) M (gm kvs (dJ t) (.int (ts.length:Int))):=BK.keep (fun φ' z=>by rw[av (bR nLM)];exact z) (fun c ys z=>by rw[av (b9 z w4 nofun)];exact z);generalize aC (aC H M (.ext φ)) L (.lst (us ++ [.ref kb]))=H2 at vE Lp qS BE BJ ⊢;have hv:cP (gm kvs (dJ t) (.int (ts.length:Int))) (dJ t)=some (nV ts.length):=by rw[mC,if_pos rfl]
   refine⟨_,O,b,CB,dx,_,_,O,BE,Z.cB,Z.zx,O,_,O,M,kb,_,dJ t,nV ts.length,O,O,BJ,nk.keep Lp,hv,?_⟩;have h1:=q1 H2 vE;rw[E2 e]at h1;refine h1 ⟨BE,⟨_,qS,qb (iK Lp dP) (hT.keep Lp)⟩,_,BJ,?_,fun u =>?_⟩
   ·rw[Au _ (by rw[AM t,e];rfl),aO,aO,BC];rfl
   ·rw[mC,Rc,AM u];by_cases z:dJ u=dJ t
    ·rw[if_pos z,qj z,e];simp
    ·rw[if_neg z];cases fB ts u with
     | some j=>rfl
     | none=>rw[if_neg (fun y=>z (by rw[EG y]))]
inductive L3(P:Program)(w:World)(CB:Addr)(n:Nat)(vs:List V)(H:Hp)(Q:VK):Prop
 | mk (b dx L M:Addr) (room:Int) (ts:List Tm) (v bv:V) (p:T) (bf:Str->Nat) (z0:vs = [.ref b,v,bv]) (z1:gk P w CB H b dx L M room ts) (z2:dj H p v) (z3:p.depth<=n) (z4:p.vk) (z5:X4 H bv bf p.mV) (z6:(gZ bf ts p).1.length<=900) (z7:(((gZ bf ts p).1.length:Int)<=room)) (z8:(∀ H',kE L M H H'->gk P w CB H' b dx L M room (gZ bf ts p).1->Q (nV (gZ bf ts p).2) H')):L3 P w CB n vs H Q
def B9(P:Program)(w:World)(CB:Addr)(n:Nat):Sp:=fun vs H Q _=>L3 P w CB n vs H Q
theorem Sa(ts:List Tm)(t:Tm):(fB ts t=none->(mJ ts t).1.length=ts.length+1)∧(fB ts t≠none->(mJ ts t).1=ts):=by
 cases e:fB ts t with
 | some i=>exact⟨fun z=>(by cases z),fun _=>(by rw[E1 e])⟩
 | none=>exact⟨fun _=>(by rw[E2 e];simp),fun z=>absurd rfl z⟩
theorem Fs(B:iY mg)(Z:rX K CB)(rL:ic P w K mg base 1 CB "put_term" wc8 (B8 P w CB))(D:gD K CB "put_part" "Bank.put_part" Ap uS) :
  ∀ n,ic P w K mg base (n+1) CB "put_part" uS (B9 P w CB n)
 | 0=>by
  obtain⟨fa,fd,F,hm,hb⟩:=D.ex;have no:∀ vs H Q E, ¬ B9 P w CB 0 vs H Q E:=fun vs H Q E h=>by
   obtain⟨b,dx,L,M,room,ts,v,bv,p,bf,_,_,_,z,_⟩:=h;have:=uO p;omega
  exact⟨fa,fd,⟨fun vs H Q E h=>absurd h (no vs H Q E),fun A outer s H args us vs Q E _ _ _ _ h=>absurd h (no vs H Q E)⟩,hm,hb⟩
 | n+1=>by
  have rM:=Fs B Z rL D n;have cB:=Z.cB;refine D.has yE (fun vs H Q E h =>?_) (fun f bU A outer s H vs Q E hr h =>?_)
  ·obtain⟨b,dx,L,M,room,ts,v,bv,p,bf,rfl,_⟩:=h;rfl
  obtain⟨b,dx,L,M,room,ts,v,bv,p,bf,rfl,hB,hT,hd,Dv,hbo,hz,Ip,q1⟩:=h;refine⟨_,(au (cA (br d5 (aV aY (pv 1) az (fun _ _=>O)) bN (bo _)) (ax (aZ (qL (lU hr) (pv 2) (aV aY (pv 1) az (fun _ _=>O)) (fun _ _=>O)))) bD)
  (au (cA (br oP (aV aY (pv 1) az (fun _ _=>O)) bN (bo _)) (ax (aZ (lP rL cB hr (by omega) gw (pv 0) (ae (pv 1) aq)))) bD)
  (au (bG (i:=3) yE.nd O (aM O) (fu aq))
  (au (dM dZ O (pV (aV aY (pv 1) az (fun _ _=>O))) (bZ (i:=4) yE.nd O (aM O))
  (ax (eJ (jV bK cy cx fX (pv 3) (ae (lP rM cB hr (by omega) gw (pv 0) (ae (pv 4) (ae (pv 2) aq))) aq)))))
  (ax (aZ (lP rL cB hr (by omega) gw (pv 0) (ae (dX (ae bN (ae (aV aY (pv 1) az (fun _ _=>O)) (ae (fF m6 O B.BZ p8 (ae (pv 3) aq)) aq)))) aq)))))))),?_⟩
  try dsimp only[cG]
  have hb:=hB.1;have aeO:∀ (t:Tm),gZ bf ts p=mJ ts t->ix H t v->B8 P w CB [.ref b,v] H Q E:=fun t e ht=>by
   obtain⟨a1,a2⟩:=Sa ts t;rw[e]at q1 hz Ip;exact⟨b,dx,L,M,room,ts,v,t,O,hB,ht,by have:=(wc ts t).length_le;omega,fun hn=>by rw[a1 hn]at Ip;omega,fun H' bt LI=>q1 H' bt LI⟩
  cases p with
  | num k =>
   rw[dj]at hT;obtain⟨a,rfl,h⟩:=hT;refine⟨_,O,a,_,0,_,O,O,aW.of h,aB (j:=0) rfl,O,_,O,cC (fun z=>absurd (V.str.inj z) (by decide)) (fun _ =>?_)⟩;refine⟨_,O,a,_,0,_,O,O,aW.of h,aB (j:=0) rfl,O,_,O,ig (fun _ =>?_) (fun z=>absurd (V.str.inj z) (by decide))⟩;exact⟨_,O,b,dx,_,O,hb,O,_,O,aeO (.num k) (by rw[gZ]) ⟨a,O,h⟩⟩
  | name k =>
   rw[dj]at hT;obtain⟨a,rfl,h⟩:=hT;refine⟨_,O,a,_,0,_,O,O,aW.of h,aB (j:=0) rfl,O,_,O,cC (fun z=>absurd (V.str.inj z) (by decide)) (fun _ =>?_)⟩;refine⟨_,O,a,_,0,_,O,O,aW.of h,aB (j:=0) rfl,O,_,O,ig (fun _ =>?_) (fun z=>absurd (V.str.inj z) (by decide))⟩;exact⟨_,O,b,dx,_,O,hb,O,_,O,aeO (.name k) (by rw[gZ]) ⟨a,O,h⟩⟩
  | any k =>
   rw[dj]at hT;obtain⟨a,rfl,h⟩:=hT;refine⟨_,O,a,_,0,_,O,O,aW.of h,aB (j:=0) rfl,O,_,O,cC (fun _ =>?_) (fun z=>absurd rfl z)⟩;obtain⟨Dk,kvs,rfl,hD,hv⟩:=hbo k (by rw[T.mV];exact xG _);rw[gZ]at q1 Ip;refine⟨_,O,_,O,a,_,1,_,O,O,aW.of h,aB (j:=1) rfl,Dk,nV (bf k),O,?_,q1 H (kE.refl _ _ _) hB⟩;have:=mP.k (k:=(.inr k:Key)) hD;rw[hv]at this;exact this
  | of x as =>
   rw[dj]at hT;obtain⟨a,c,kN,rfl,h,hc,dP⟩:=hT;have Iz:=sO dP;rw[T.depth]at hd;rw[T.vk]at Dv;refine⟨_,O,a,_,0,_,O,O,aW.of h,aB (j:=0) rfl,O,_,O,cC (fun z=>absurd (V.str.inj z) (by decide)) (fun _ =>?_)⟩;refine⟨_,O,a,_,0,_,O,O,aW.of h,aB (j:=0) rfl,O,_,O,ig (fun z=>absurd rfl z) (fun _ =>?_)⟩;refine⟨aQ _,fun S hS =>?_⟩;dsimp only[b7];have hSL:S≠L:=fun e=>by obtain⟨us,hL,_⟩:=hB.2.1;rw[e,hL]at hS;cases hS
   have hSM:S≠M:=fun e=>by obtain⟨kvs,dn,_⟩:=hB.2.2;obtain⟨φ,e4⟩:=dn.ext;rw[e,e4]at hS;cases hS
   have s0:=aD hS (.lst []);have hS0:=ak (H:=H) (a:=S) (o := .lst []);generalize aC H S (.lst [])=H0 at s0 hS0 ⊢;have Ly:(gZ bf ts (.of x as))=mJ (dF bf ts as).1 (.of x (dF bf ts as).2):=by rw[gZ]
   have Ww:(dF bf ts as).1.length<=900:=by have:=(wc (dF bf ts as).1 (.of x (dF bf ts as).2)).length_le;rw[Ly]at hz;omega
   refine⟨_,O,a,_,2,_,O,O,aW.of (s0 _ _ h),aB (j:=2) rfl,c,O,⟨_,aW.of (s0 _ _ hc)⟩,?_⟩;refine qT (xs:=kN) (fun i σ H'=>∃ o, σ = [aa b,aa a,some bv,some (.ref S),o]∧kE L M H H'∧H' S=some (.lst ((dF bf ts (as.take i)).2.map nV))∧gk P w CB H' b dx L M room (dF bf ts (as.take i)).1)
    ⟨none,O,a6.ZS s0,by rw[kh,dF];exact hS0,by rw[kh,dF];exact hB.same s0⟩ ?_ ?_ ?_
   ·rintro i σ H' _ ⟨o,rfl,bt,_⟩;exact aW.of (hB.tup bt _ _ hc)
   ·rintro i y σ H' hy ⟨o,rfl,bt,zL,LI⟩;obtain⟨t,ht,hyt⟩:=wk dP hy;have AN:=aN ht;have et:as.take (i+1)=as.take i ++ [t]:=by rw[cW,ht];rfl
    have e1:(dF bf ts (as.take (i+1))).1=(gZ bf (dF bf ts (as.take i)).1 t).1:=by rw[et,C6]
    have e2:(dF bf ts (as.take (i+1))).2=(dF bf ts (as.take i)).2 ++ [(gZ bf (dF bf ts (as.take i)).1 t).2]:=by rw[et,C6]
    have p1:(gZ bf (dF bf ts (as.take i)).1 t).1 <+: (dF bf ts as).1:=by rw[<- e1];exact VF _ _ _ _
    have p2:(dF bf ts as).1 <+: (gZ bf ts (.of x as)).1:=by rw[Ly];exact wc _ _
    have l2:=NO bf (as.take i) ts;rw[cf]at l2;refine⟨_,O,.inl ⟨O,_,bw.of zL⟩,_,O,b,dx,_,O,LI.1,O,_,O,_,O,b,dx,L,M,room,_,y,bv,t,bf,O,LI,iZ (hB.tup bt) hyt,?_,Lb.mp Dv.2 t AN,hB.bok bt fun w hw=>hbo w (by rw[T.mV];exact OF AN hw),by have:=p1.length_le;omega,by have:=(p1.trans p2).length_le;omega,fun H2 vE hB2 =>?_⟩
    ·have:=o9 AN;omega
    ·have WQ:=vE _ _ hSL hSM zL;have bS:eZ S H2 (aC H2 S (.lst ((dF bf ts (as.take i)).2.map nV ++ [nV (gZ bf (dF bf ts (as.take i)).1 t).2]))):=(eZ.refl S H2).put;refine⟨S,_,_,O,O,WQ,dD ?_,⟨some y,O,fun c' o' n m h' =>?_,?_,?_⟩⟩
     ·rw[ay];have:=Dv.1;omega
     ·have:c'≠S:=fun e=>by rw[e,hS]at h';cases h'
      rw[av this];exact vE _ _ n m (bt _ _ n m h')
     ·rw[ak,e2,cR];rfl
     ·rw[e1];exact hB2.keep WQ hSL bS
   ·rintro σ H' ⟨o,rfl,bt,zL,LI⟩;rw[Iz.symm,du]at zL LI;have h':=hB.tup bt _ _ h;refine⟨_,O,b,dx,_,O,LI.1,O,_,O,a,_,1,_,O,O,aW.of h',aB (j:=1) rfl,_,O,S,_,O,.inl ⟨bw.of zL,fun tl htl =>?_⟩⟩;have s1:=aD htl (.tup ((dF bf ts as).2.map nV));have g1:=ak (H:=H') (a:=tl) (o := .tup ((dF bf ts as).2.map nV));generalize aC H' tl (.tup ((dF bf ts as).2.map nV))=H1 at s1 g1 ⊢;refine⟨(show 3<=sizeLine by decide),fun tp uK =>?_⟩;have s2:=aD uK (.tup [.str "of",.str x,.ref tl]);have g2:=ak (H:=H1) (a:=tp) (o := .tup [.str "of",.str x,.ref tl]);generalize aC H1 tp (.tup [.str "of",.str x,.ref tl])=H2 at s2 g2 ⊢;obtain⟨a1,a2⟩:=Sa (dF bf ts as).1 (.of x (dF bf ts as).2);rw[Ly]at q1 Ip;exact⟨b,dx,L,M,room,_,_,.of x (dF bf ts as).2,O,(LI.same s1).same s2,ah0 g2 (s2 _ _ g1),Ww,fun hn=>by rw[a1 hn]at Ip;omega,fun H3 IV hB3=>q1 H3 (((bt.same s1).same s2).trans IV) hB3⟩
inductive Jc(P:Program)(w:World)(CB:Addr)(n:Nat)(vs:List V)(H:Hp)(Q:VK):Prop
 | mk (b dx L M:Addr) (room:Int) (ts:List Tm) (v bv:V) (p:T) (bf:Str->Nat) (z0:vs = [.ref b,v,bv]) (z1:gk P w CB H b dx L M room ts) (z3:dj H p v) (z4:p.depth<=n) (z5:p.vk) (z6:X4 H bv bf p.mV) (z7:(gZ bf ts p).1.length<=900) (z8:((gZ bf ts p).1.length:Int)<=room)
  (z9:∀ H',kE L M H H'->gk P w CB H' b dx L M room (gZ bf ts p).1->Q (nV (gZ bf ts p).2) H'):Jc P w CB n vs H Q
def Tb(P:Program)(w:World)(CB:Addr)(n:Nat):Sp:=fun vs H Q _=>Jc P w CB n vs H Q
theorem aew(B:iY mg)(Z:rX K CB)(rM:ic P w K mg base (n+1) CB "put_part" uS (B9 P w CB n))(D:MM K CB "put" "Bank.put" EN uS [.cj]):yu P w K mg base (n+2) CB "put" uS [.cj] (Tb P w CB n):=by
 have cB:=Z.cB;refine D.has Vy (fun vs H Q E h =>?_) (fun f bU A outer s H vs Q E hr h =>?_)
 ·obtain⟨b,dx,L,M,room,ts,v,bv,p,bf,rfl,_⟩:=h;rfl
 obtain⟨b,dx,L,M,room,ts,v,bv,p,bf,rfl,hB,hT,hd,Dv,hbo,hz,Ip,q1⟩:=h;refine⟨_,(au (bG (i:=3) Vy.nd O (aM O) (dz cX O B.jK cn (ae (bW (pv 0) O) aq)))
  (ax (Gz (ax (aZ (lP rM cB hr (by omega) gw (pv 0) (ae (pv 1) (ae (pv 2) aq)))))))),?_⟩
 try dsimp only[cG]
 obtain⟨us,hL,dP⟩:=id hB.2.1;refine⟨_,O,b,CB,dx,_,_,O,hB.1,Z.cB,Z.gM,O,L,us,O,.inl (bw.of hL),?_⟩;dsimp only[b7];exact⟨_,O,b,dx,_,O,hB.1,O,_,O,_,O,b,dx,L,M,room,ts,v,bv,p,bf,O,hB,hT,hd,Dv,hbo,hz,Ip,q1⟩
def b0(_:Str):Nat:=0
structure yk(K:ai)(CH:Addr):Prop where
 cH:lB K CH
 ur:dY K CH "bank"
 Dm:dY K CH "edges"
structure gq(P:Program)(w:World)(CB CH:Addr)(H:Hp)(bn dn b dx L M EL:Addr)(room:Int)(ts:List Tm)(es:List (Nat × Nat)):Prop where
 hn:H bn=some (.ins CH dn [("bank",.ref b),("edges",.ref EL)])
 hB:gk P w CB H b dx L M room ts
 hE:∃ my,H EL=some (.lst my)∧Bl H my es
 ne:EL≠L
theorem mI{b:Addr}(h:gk P w CB H b dx L M room ts):∃ us,H L=some (.lst us):=let ⟨_,⟨us,h,_⟩,_⟩:=h; ⟨us,h⟩
theorem oz{b:Addr}(h:gk P w CB H b dx L M room ts):∃ φ,H M=some (.ext φ):=by
 obtain⟨_,_,kvs,dn,_⟩:=h;exact dn.ext
inductive KQ(P:Program)(w:World)(CB CH:Addr)(vs:List V)(H:Hp)(Q:VK):Prop
 | mk (bn dn:Addr) (room:Int) (ev:vs = [.ref bn,.int room]) (hn:H bn=some (.ins CH dn [])) (q:∀ H' b dx L M EL,eZ bn H H'->H L=none->H M=none->H EL=none->gq P w CB CH H' bn dn b dx L M EL room [] []->Q .cj H'):KQ P w CB CH vs H Q
def Q6(P:Program)(w:World)(CB CH:Addr):Sp:=fun vs H Q _=>KQ P w CB CH vs H Q
theorem YS(Y:yk K CH)(QG:pO P w K mg base 1 "Bank" CB wb1 (Vl P w CB))(D:oI K mg "Bench" CH "Bench.__init__" tf wb1):pO P w K mg base 3 "Bench" CH wb1 (Q6 P w CB CH):=by
 refine D.has Yu (fun vs H Q E h =>?_) (fun f bU A outer s H vs Q E hr h =>?_)
 ·obtain⟨bn,dn,room,rfl,_⟩:=h;rfl
 obtain⟨bn,dn,room,rfl,hn,q⟩:=h;refine⟨_,(au (ft (pv 0) (qp QG hr (by omega) gw rfl (ae (pv 1) aq)) rfl)
  (ax (ft (pv 0) (fu aq) rfl))),?_⟩
 try dsimp only[cG]
 refine⟨_,O,fun b dx hb hdx kM =>?_⟩;have nb:bn≠b:=fun e=>by rw[<- e,hn]at hb;cases hb
 have nd:bn≠dx:=fun e=>by rw[<- e,hn]at hdx;cases hdx
 refine⟨b,dx,room,O,ak,fun H1 L M bt hL hM hB=>⟨O,?_⟩⟩;have k1:∀ c o,c≠b->c≠dx->H c=some o->H1 c=some o:=fun c o n1 n2 h=>bt c o n1 (by rw[av n1,av n2];exact h);have s1:a6 H H1:=fun c o h=>k1 c o (fun e=>by rw[e,hb]at h;cases h) (fun e=>by rw[e,hdx]at h;cases h) h;have rF:∀ c,(aC (aC H dx (.own b)) b (.ins CB dx [])) c=none->H c=none:=fun c h=>by
  by_cases e1:c=b
  ·rw[e1];exact hb
  ·rw[av e1]at h;by_cases e2:c=dx
   ·rw[e2];exact hdx
   ·rw[av e2]at h;exact h
 have BG:=rF L hL;have vA:=rF M hM;have RB:=s1 _ _ hn;obtain⟨us1,w4,_⟩:=id hB.2.1;obtain⟨φ,FD⟩:=oz hB;refine⟨_,O,bn,CH,dn, [],O,RB,Y.cH,Y.ur,by decide,?_⟩;refine⟨aQ _,fun EL hEL =>?_⟩;have nE:EL≠bn:=fun e=>by rw[e,ak]at hEL;cases hEL
 have Uj:H1 EL=none:=by rw[av nE]at hEL;exact hEL
 have amU:=s1.free Uj;refine⟨_,O,bn,CH,dn, [("bank",.ref b)],O,(by rw[av (bR nE),ak];rfl),Y.cH,Y.Dm,(show 1 < 1000 by decide),?_⟩;have kb:∀ c o,c≠bn->H1 c=some o->(aC (aC (aC H1 bn (.ins CH dn [("bank",V.ref b)])) EL (.lst [])) bn (.ins CH dn [("bank",V.ref b),("edges",V.ref EL)])) c=some o:=fun c o n h=>by
  have h2:c≠EL:=fun e=>by rw[e,Uj]at h;cases h
  rw[av n,av h2,av n];exact h
 have nbb:b≠bn:=bR nb;show Q .cj (aC (aC (aC H1 bn (.ins CH dn [("bank",V.ref b)])) EL (.lst [])) bn (.ins CH dn [("bank",V.ref b),("edges",V.ref EL)]));refine q _ b dx L M EL (fun c o n h=>kb c o n (s1 _ _ h)) BG vA amU ⟨ak,?_,⟨[],?_,.nil⟩,fun e=>by rw[e,w4]at Uj;cases Uj⟩
 ·obtain⟨h1,⟨us,h2,h3⟩,kvs,d,h5,h6⟩:=hB;have nL:L≠bn:=fun e=>by rw[e,RB]at h2;cases h2
  have nM:M≠bn:=fun e=>by rw[e,RB]at FD;cases FD
  have kt:∀ c ys,H1 c=some (.tup ys)->_:=fun c ys z=>kb c _ (fun e=>by rw[e,RB]at z;cases z) z;exact⟨kb _ _ nbb h1,⟨us,kb _ _ nL h2,iK kt h3⟩,kvs,d.keep (fun φ' z=>kb _ _ nM z) kt,h5,h6⟩
 ·rw[av nE,ak]
inductive PV(P:Program)(w:World)(CB CH:Addr)(n:Nat)(vs:List V)(H:Hp)(Q:VK):Prop
 | mk (bn dn b dx L M EL:Addr) (room:Int) (ts:List Tm) (es:List (Nat × Nat)) (v:V) (p:T) (ev:vs = [.ref bn,v]) (hb:gq P w CB CH H bn dn b dx L M EL room ts es) (hT:dj H p v) (hd:p.depth<=n) (hs:p.vk) (hh:p.mV = []) (len:(gZ b0 ts p).1.length<=900) (hr:((gZ b0 ts p).1.length:Int)<=room)
  (q1:∀ H',kE L M H H'->gq P w CB CH H' bn dn b dx L M EL room (gZ b0 ts p).1 es->Q (nV (gZ b0 ts p).2) H'):PV P w CB CH n vs H Q
def Vo(P:Program)(w:World)(CB CH:Addr)(n:Nat):Sp:=fun vs H Q _=>PV P w CB CH n vs H Q
theorem gq.put{b:Addr}{ts':List Tm}(h:gq P w CB CH H bn dn b dx L M EL room ts es)(bt:kE L M H H')(hB:gk P w CB H' b dx L M room ts'):gq P w CB CH H' bn dn b dx L M EL room ts' es:=by
 obtain⟨us,hL⟩:=mI h.hB;obtain⟨φ,hM⟩:=oz h.hB;obtain⟨my,hE,OP⟩:=h.hE;exact⟨bt _ _ (b9 h.hn hL nofun) (b9 h.hn hM nofun) h.hn,hB,⟨my,bt _ _ h.ne (b9 hE hM nofun) hE,rR (h.hB.tup bt) OP⟩,h.ne⟩
theorem gq.same{b:Addr}(h:gq P w CB CH H bn dn b dx L M EL room ts es)(sm:a6 H H'):gq P w CB CH H' bn dn b dx L M EL room ts es:=h.put (a6.ZS sm) (h.hB.same sm)
theorem acY(Zb:rX K CB)(Y:yk K CH)(AQ:yu P w K mg base (n+2) CB "put" uS [.cj] (Tb P w CB n))(D:gD K CH "put" "Bench.put" ND wc9):ic P w K mg base (n+3) CH "put" wc9 (Vo P w CB CH n):=by
 have cB:=Zb.cB;refine D.has acz (fun vs H Q E h =>?_) (fun f bU A outer s H vs Q E hr h =>?_)
 ·obtain⟨bn,dn,b,dx,L,M,EL,room,ts,es,v,p,rfl,_⟩:=h;rfl
 obtain⟨bn,dn,b,dx,L,M,EL,room,ts,es,v,p,rfl,hb,hT,hd,hs,hh,len,Ip,q1⟩:=h;refine⟨_,(ax (aZ (aeq AQ.d cB hr (by omega) gw (bW (pv 0) rfl) (ae (pv 1) aq)))),?_⟩
 try dsimp only[cG]
 exact⟨_,O,bn,CH,dn,_,_,O,hb.hn,Y.cH,Y.ur,O,b,dx,_,O,hb.hB.1,O,_,O,Jc.mk b dx L M room ts v .cj p b0 rfl hb.hB hT hd hs (fun x hx=>by rw[hh]at hx;cases hx) len Ip fun H' bt hB=>q1 H' bt (hb.put bt hB)⟩
def pS(L M R:Addr)(H H':Hp):Prop := ∀ c o,c≠L->c≠M->c≠R->H c=some o->H' c=some o
theorem pS.refl(L M R:Addr)(H:Hp):pS L M R H H:=fun _ _ _ _ _ h=>h
theorem pS.trans(a:pS L M R H H1)(b:pS L M R H1 H2):pS L M R H H2:=fun c o n m k h=>b c o n m k (a c o n m k h)
theorem pS.same(a:pS L M R H H1)(b:a6 H1 H2):pS L M R H H2:=fun c o n m k h=>b c o (a c o n m k h)
theorem gq.tup{b:Addr}(h:gq P w CB CH H bn dn b dx L M EL room ts es)(bt:pS L M EL H H'):∀ c ys,H c=some (.tup ys)->H' c=some (.tup ys):=by
 obtain⟨us,hL⟩:=mI h.hB;obtain⟨φ,hM⟩:=oz h.hB;obtain⟨my,hE,OP⟩:=h.hE;exact fun c ys z=>bt c _ (b9 z hL nofun) (b9 z hM nofun) (b9 z hE nofun) z
theorem gq.more{b:Addr}{fs:List (Nat × Nat)}{my vB:List V}(h:gq P w CB CH H bn dn b dx L M EL room ts es)(hE:H EL=some (.lst my))(hf:Bl H vB fs):gq P w CB CH (aC H EL (.lst (my ++ vB))) bn dn b dx L M EL room ts (es ++ fs):=by
 obtain⟨agL,hE',OP⟩:=h.hE;rw[hE]at hE';cases hE';have kp:=lF (o' := .lst (my ++ vB)) hE trivial;exact⟨by rw[av (b9 h.hn hE nofun)];exact h.hn,h.hB.keep hE h.ne (fun c o n z=>by rw[av n];exact z),⟨_,ak,ju (rR kp OP) (rR kp hf)⟩,h.ne⟩
inductive E4(P:Program)(w:World)(CB CH:Addr)(vs:List V)(H:Hp)(Q:VK):Prop
 | mk (bn dn b dx L M EL:Addr) (room:Int) (ts:List Tm) (es:List (Nat × Nat)) (ev:vs = [.ref bn]) (hb:gq P w CB CH H bn dn b dx L M EL room ts es) (ha:EF ts) (len:ts.length<=1000) (ar:∀ (i:Nat) x as,ts[i]? = some (.of x as)->as.length<=1000) (he:∀ a b:Nat,(a,b)∈es->a < ts.length∧b < ts.length)
  (q:∀ R ls H',a6 H H'->H R=none->H' R=some (.lst (ls.map nV))->Ab ts es ls->Q (.ref R) H'):E4 P w CB CH vs H Q
def JI(P:Program)(w:World)(CB CH:Addr):Sp:=fun vs H Q _=>E4 P w CB CH vs H Q
theorem Qy(Zb:rX K CB)(Y:yk K CH)(GK:c7 P w K mg base 3 "closed" wd1 (Nj K))(D:Def K mg "leads_of" Aq ["bench"]):c7 P w K mg base 4 "leads_of" ["bench"] (JI P w CB CH):=by
 refine D.has Qu (fun vs H Q E h =>?_) (fun f bU A outer s H vs Q E hr h =>?_)
 ·obtain⟨bn,dn,b,dx,L,M,EL,room,ts,es,rfl,_⟩:=h;rfl
 obtain⟨bn,dn,b,dx,L,M,EL,room,ts,es,rfl,hb,ha,len,ar,he,q⟩:=h;refine⟨_,(ax (aZ (bb GK hr (by omega) rfl (ae (bW (bW (pv 0) rfl) rfl) (ae (bW (pv 0) rfl) aq))))),?_⟩
 try dsimp only[cG]
 obtain⟨us,hL,dP⟩:=id hb.hB.2.1;obtain⟨my,hE,amI⟩:=hb.hE;exact⟨_,O,bn,CH,dn,_,_,O,hb.hn,Y.cH,Y.ur,O,b,CB,dx,_,_,O,hb.hB.1,Zb.cB,Zb.gM,O,_,O,bn,CH,dn,_,_,O,hb.hn,Y.cH,Y.Dm,O,L,EL,us,my,ts,es,O,hL,dP,bw.of hE,amI,ha,len,ar,he,fun R ls H' sm fr hR hc=>q R ls H' sm fr hR hc⟩
def BA(ks:List Int)(as:List Nat)(i:Nat):Int:=ks.getD (as.getD i 0) 0
def BX(ks:List Int):Tm->Int
 | .num n=>Nm n
 | .name _=>7
 | .of x as=>if x = "plus" ∧ as.length=2 then lR D7 (BA ks as 0) (BA ks as 1) else if x = "times" ∧ as.length=2 then lR wI (BA ks as 0) (BA ks as 1) else if x = "neg" ∧ as.length=1 then lR wI 1 (BA ks as 0) else 7
theorem K6(ks:List Int)(x:Str)(as:List Nat):BX ks (.of x as)=if x = "plus" ∧ as.length=2 then lR D7 (BA ks as 0) (BA ks as 1) else if x = "times" ∧ as.length=2 then lR wI (BA ks as 0) (BA ks as 1) else if x = "neg" ∧ as.length=1 then lR wI 1 (BA ks as 0) else 7:=rfl
theorem tQ:rJ x n (.of y as)=true↔y=x∧as.length=n:=by
 unfold rJ;rw[dU,decide_eq_true_iff,decide_eq_true_iff]
inductive Si(CS:Addr)(vs:List V)(H:Hp)(Q:VK):Prop
 | mk (o dx T L:Addr) (us ls:List V) (z0:vs = [.ref o,.ref T,.ref L]) (z1:H o=some (.ins CS dx [])) (z2:H T=some (.lst us)) (z3:H L=some (.lst ls)) (z4:∀ H' A1 A2,eZ o H H'->H A1=none->H A2=none->H' A1=some (.lst us)->H' A2=some (.lst ls)->H' o=some (.ins CS dx [("terms",.ref A1),("leads",.ref A2)])->Q .cj H'):Si CS vs H Q
def EI(CS:Addr):Sp:=fun vs H Q _=>Si CS vs H Q
theorem YQ(B:iY mg)(Z:Bf K mg CS tB)(D:oI K mg "Signs" CS "Kind.__init__" m9 bh):pO P w K mg base 1 "Signs" CS bh (EI CS):=by
 refine D.has Np (fun vs H Q E h =>?_) (fun f bU A outer s H vs Q E hr h =>?_)
 ·obtain⟨o,dx,T,L,us,ls,rfl,_⟩:=h;rfl
 obtain⟨o,dx,T,L,us,ls,rfl,ho,hT,hL,q⟩:=h;refine⟨_,(au (ft (pv 0) (fF kr rfl B.vO jY (ae (pv 1) aq)) rfl)
  (ax (ft (pv 0) (fF kr rfl B.vO jY (ae (pv 2) aq)) rfl))),?_⟩
 try dsimp only[cG]
 refine⟨_,O,T,us,O,.inl (bw.of hT),fun A1 mZ =>?_⟩;have AV:A1≠o:=fun e=>by rw[e,ho]at mZ;cases mZ
 have WO:T≠o:=fun e=>by rw[e,ho]at hT;cases hT
 have RM:L≠o:=fun e=>by rw[e,ho]at hL;cases hL
 have Zx:L≠A1:=fun e=>by rw[e,mZ]at hL;cases hL
 refine⟨_,O,o,CS,dx,_,O,(by rw[av (bR AV)];exact ho),Z.cS,Z.gM,by decide,?_⟩;have qS:(aC (aC H A1 (.lst us)) o (.ins CS dx [("terms",.ref A1)])) L=some (.lst ls):=by rw[av RM,av Zx];exact hL
 refine⟨_,O,L,ls,O,.inl (bw.of qS),fun A2 mY =>?_⟩;have w8:A2≠o:=fun e=>by rw[e,ak]at mY;cases mY
 have II:A2≠A1:=fun e=>by rw[e,av AV,ak]at mY;cases mY
 have pL:H A2=none:=by rw[av w8,av II]at mY;exact mY
 refine⟨_,O,o,CS,dx, [("terms",.ref A1)],O,(by rw[av (bR w8),ak];rfl),Z.cS,Z.ma,(show 1 < 1000 by decide),?_⟩;refine q _ A1 A2 (fun c u n h =>?_) mZ pL ?_ ?_ ak
 ·have h1:c≠A1:=fun e=>by rw[e,mZ]at h;cases h
  have h2:c≠A2:=fun e=>by rw[e,pL]at h;cases h
  rw[av n,av h2,av n,av h1];exact h
 ·rw[av AV,av (bR II),av AV,ak]
 ·rw[av w8,ak]
inductive Xv(CS:Addr)(vs:List V)(H:Hp)(Q:VK):Prop
 | mk (o dx:Addr) (fs:List (Str × V)) (z0:vs = [.ref o]) (z1:H o=some (.ins CS dx fs)) (z2:Q (.int 7) H):Xv CS vs H Q
def Ve(CS:Addr):Sp:=fun vs H Q _=>Xv CS vs H Q
theorem aev(Z:Bf K mg CS tB)(D:gD K CS "top" "Signs.top" Nx wd0):ic P w K mg base 1 CS "top" wd0 (Ve CS):=by
 have iO:=Z.iO;refine D.has acu (fun vs H Q E h =>?_) (fun f bU A outer s H vs Q E hr h =>?_)
 ·obtain⟨o,dx,fs,rfl,_⟩:=h;rfl
 obtain⟨o,dx,fs,rfl,ho,q⟩:=h;refine⟨_,(ax (aZ (d7 iO rfl))),?_⟩
 try dsimp only[cG]
 exact q
def ahx(n:Nat)(t:Tm):Prop := ∀ a∈abQ t,a < n
theorem wQ{ks:List Int}(hi:i < as.length)(h:∀ a∈as,a < ks.length):as[i]? = some (as.getD i 0)∧vF (ks.map V.int) (((as.getD i 0:Nat)):Int)=some (.int (BA ks as i)):=by
 have e:=getD_at hi;have hl:=h _ (aN e);refine⟨e,aB ?_⟩;rw[aJ,ah hl];unfold BA;rw[aU (l:=ks),ah hl];rfl
inductive Sd(K:ai)(CS:Addr)(vs:List V)(H:Hp)(Q:VK):Prop
 | mk (o dx L:Addr) (fs:List (Str × V)) (v:V) (t:Tm) (ks:List Int) (z0:vs = [.ref o,v,.ref L]) (z1:H o=some (.ins CS dx fs)) (z2:ix H t v) (z3:bw K H L (ks.map V.int)) (z4:ahx ks.length t) (z5:Q (.int (BX ks t)) H):Sd K CS vs H Q
def Q0(K:ai)(CS:Addr):Sp:=fun vs H Q _=>Sd K CS vs H Q
theorem YJ(Z:Bf K mg CS tB)(tT:c7 P w K mg base 1 "is_sum" wa7 (n6 "plus" 2))(mh:c7 P w K mg base 1 "is_product" wa7 (n6 "times" 2))(kS:c7 P w K mg base 1 "is_opposite" wa7 (n6 "neg" 1))(qw:c7 P w K mg base 1 "sign_of_number" wd6 aaA)(mf:c7 P w K mg base 2 "sign_of_pair" wb5 (Vj P w K mg base))(yX:c7 P w K mg base 1 "add_signs" wb0 (Hz D7))(qx:c7 P w K mg base 1 "multiply_signs" wb0 (Hz wI))(D:gD K CS "worth" "Signs.worth" F6 wa0):ic P w K mg base 3 CS "worth" wa0 (Q0 K CS):=by
 have iO:=Z.iO;have iN:=Z.iN;obtain⟨FG,QE,v_add⟩:=yX.val;obtain⟨mH,wK,v_mul⟩:=qx.val;refine D.has Vw (fun vs H Q E h =>?_) (fun f bU A outer s H vs Q E hr h =>?_)
 ·obtain⟨o,dx,L,fs,v,t,ks,rfl,_⟩:=h;rfl
 obtain⟨o,dx,L,fs,v,t,ks,rfl,ho,hT,hL,wV,q⟩:=h;refine⟨_,(au (cA (br d5 (aV aY (pv 1) az (fun _ _=>O)) bN (bo _)) (ax (aZ (bb qw hr (by omega) O (ae (aV aY (pv 1) az (fun _ _=>O)) aq)))) bD)
  (au (cA (km (bb tT hr (by omega) O (ae (pv 1) aq))) (ax (aZ (bb mf hr (by omega) O (ae (tD (v := .ref FG) O QE O) (ae (aV dy (pv 2) (aV aY (aV aY (pv 1) az (fun _ _=>O)) az (fun _ _=>O)) (fun _ _=>O)) (ae (aV dy (pv 2) (aV aY (aV aY (pv 1) az (fun _ _=>O)) az (fun _ _=>O)) (fun _ _=>O)) aq)))))) bD)
  (au (cA (km (bb mh hr (by omega) O (ae (pv 1) aq))) (ax (aZ (bb mf hr (by omega) O (ae (tD (v := .ref mH) O wK O) (ae (aV dy (pv 2) (aV aY (aV aY (pv 1) az (fun _ _=>O)) az (fun _ _=>O)) (fun _ _=>O)) (ae (aV dy (pv 2) (aV aY (aV aY (pv 1) az (fun _ _=>O)) az (fun _ _=>O)) (fun _ _=>O)) aq)))))) bD)
  (au (cA (km (bb kS hr (by omega) O (ae (pv 1) aq))) (ax (aZ (bb mf hr (by omega) O (ae (tD (v := .ref mH) O wK O) (ae (d7 iN O) (ae (aV dy (pv 2) (aV aY (aV aY (pv 1) az (fun _ _=>O)) az (fun _ _=>O)) (fun _ _=>O)) aq)))))) bD)
  (ax (aZ (d7 iO O))))))),?_⟩
 try dsimp only[cG]
 cases t with
 | num n =>
  obtain⟨a,rfl,h⟩:=id hT;exact⟨_,O,a,_,0,_,O,O,aW.of h,aB (j:=0) rfl,O,_,O,cC (fun _=>⟨_,O,a,_,1,_,O,O,aW.of h,aB (j:=1) rfl,n,O,q⟩) (fun z=>absurd rfl z)⟩
 | name n =>
  obtain⟨a,rfl,h⟩:=id hT;refine⟨_,O,a,_,0,_,O,O,aW.of h,aB (j:=0) rfl,O,_,O,cC (fun z=>absurd (V.str.inj z) (by decide)) (fun _ =>?_)⟩;exact⟨_,O,.ref a,.name n,O,hT,_,O,fC ⟨_,O,.ref a,.name n,O,hT,_,O,fC ⟨_,O,.ref a,.name n,O,hT,_,O,fC q⟩⟩⟩
 | of x as =>
  obtain⟨a,b,rfl,h,h2⟩:=id hT;have OM:∀ y∈as,y < ks.length:=wV;refine⟨_,O,a,_,0,_,O,O,aW.of h,aB (j:=0) rfl,O,_,O,cC (fun z=>absurd (V.str.inj z) (by decide)) (fun _ =>?_)⟩;rw[K6]at q;refine⟨_,O,.ref a,.of x as,O,hT,_,O,?_⟩;by_cases c1:x = "plus" ∧ as.length=2
  ·rw[tQ.mpr c1];rw[if_pos c1]at q;obtain⟨e0,k0⟩:=wQ (i:=0) (by omega) OM;obtain⟨e1,k1⟩:=wQ (i:=1) (by omega) OM;exact gH ⟨_,O,_,O,a,_,2,_,O,O,aW.of h,aB (j:=2) rfl,b,_,0,_,O,O,aW.of h2,gG (k:=0) e0,L,_,_,_,O,O,hL,k0,_,O,_,O,a,_,2,_,O,O,aW.of h,aB (j:=2) rfl,b,_,1,_,O,O,aW.of h2,gG (k:=1) e1,L,_,_,_,O,O,hL,k1,FG,D7,_,_,O,v_add,q⟩
  rw[if_neg c1]at q;rw[vL.mpr (fun z=>c1 (tQ.mp z))];refine fC ⟨_,O,.ref a,.of x as,O,hT,_,O,?_⟩;by_cases c2:x = "times" ∧ as.length=2
  ·rw[tQ.mpr c2];rw[if_pos c2]at q;obtain⟨e0,k0⟩:=wQ (i:=0) (by omega) OM;obtain⟨e1,k1⟩:=wQ (i:=1) (by omega) OM;exact gH ⟨_,O,_,O,a,_,2,_,O,O,aW.of h,aB (j:=2) rfl,b,_,0,_,O,O,aW.of h2,gG (k:=0) e0,L,_,_,_,O,O,hL,k0,_,O,_,O,a,_,2,_,O,O,aW.of h,aB (j:=2) rfl,b,_,1,_,O,O,aW.of h2,gG (k:=1) e1,L,_,_,_,O,O,hL,k1,mH,wI,_,_,O,v_mul,q⟩
  rw[if_neg c2]at q;rw[vL.mpr (fun z=>c2 (tQ.mp z))];refine fC ⟨_,O,.ref a,.of x as,O,hT,_,O,?_⟩;by_cases c3:x = "neg" ∧ as.length=1
  ·rw[tQ.mpr c3];rw[if_pos c3]at q;obtain⟨e0,k0⟩:=wQ (i:=0) (by omega) OM;exact gH ⟨_,O,_,O,a,_,2,_,O,O,aW.of h,aB (j:=2) rfl,b,_,0,_,O,O,aW.of h2,gG (k:=0) e0,L,_,_,_,O,O,hL,k0,mH,wI,_,_,O,v_mul,q⟩
  rw[if_neg c3]at q;rw[vL.mpr (fun z=>c3 (tQ.mp z))];exact fC q
structure PD(K:ai)(CN:Addr):Prop where
 cN:lB K CN
 gM:dY K CN "terms"
 ma:dY K CN "leads"
 TK:dY K CN "held"
 ME:dY K CN "bits"
 xV:dY K CN "standing"
theorem N2(B:iY mg)(D:Def K mg "is_binder" yG wa7):c7 P w K mg base 1 "is_binder" wa7 (n6 "bind" 2):=by
 refine D.has Nq (fun vs H Q E h =>?_) (fun f bU A outer s H vs Q E hr h =>?_)
 ·obtain⟨v,t,rfl,_⟩:=h;rfl
 obtain⟨v,t,rfl,hT,q⟩:=h;refine⟨_,(ax (aZ (rD (jb d5 (aV aY (pv 0) az (fun _ _=>O)) bN (bo _)) (rD (jb d5 (aV aY (pv 0) az (fun _ _=>O)) bN (bo _)) (C9 (jb d5 (dz cX O B.jK cn (ae (aV aY (pv 0) az (fun _ _=>O)) aq)) az (bo _))))))),?_⟩
 try dsimp only[cG]
 cases t with
 | num n =>
  obtain⟨a,rfl,h⟩:=id hT;exact⟨_,O,a,_,0,_,O,O,aW.of h,aB (j:=0) rfl,O,_,O,cC (fun z=>absurd (V.str.inj z) (by decide)) (fun _=>q)⟩
 | name n =>
  obtain⟨a,rfl,h⟩:=id hT;exact⟨_,O,a,_,0,_,O,O,aW.of h,aB (j:=0) rfl,O,_,O,cC (fun z=>absurd (V.str.inj z) (by decide)) (fun _=>q)⟩
 | of x as =>
  obtain⟨a,b,rfl,h,h2⟩:=id hT;refine⟨_,O,a,_,0,_,O,O,aW.of h,aB (j:=0) rfl,O,_,O,cC (fun _ =>?_) (fun z=>absurd rfl z)⟩;have Pd:rJ "bind" 2 (.of x as)=(decide (x = "bind") && decide (as.length=2)):=rfl;rw[Pd]at q;refine⟨_,O,a,_,1,_,O,O,aW.of h,aB (j:=1) rfl,O,_,O,cC (fun hx =>?_) (fun hx =>?_)⟩
  ·refine⟨_,O,a,_,2,_,O,O,aW.of h,aB (j:=2) rfl,b,_,O,.inr (aW.of h2),O,?_⟩;have e:decide (V.int (((as.map nV).length:Nat):Int)=V.int 2)=decide (as.length=2):=by rw[ay];exact t5 (n:=2)
   rw[e];rw[decide_eq_true (V.str.inj hx),vq]at q;exact q
  ·rw[decide_eq_false (fun z=>hx (by rw[z])),pz]at q;exact q
theorem V1(B:iY mg)(Z:PD K CN)(D:UE K mg "Kind" "__init__" "Kind.__init__" m9 bh):UC P w K mg base 1 "Kind" "__init__" bh (EI CN):=by
 refine D.has Np (fun vs H Q E h =>?_) (fun f bU A outer s H vs Q E hr h =>?_)
 ·obtain⟨o,dx,T,L,us,ls,rfl,_⟩:=h;rfl
 obtain⟨o,dx,T,L,us,ls,rfl,ho,hT,hL,q⟩:=h;refine⟨_,(au (ft (pv 0) (fF kr rfl B.vO jY (ae (pv 1) aq)) rfl)
  (ax (ft (pv 0) (fF kr rfl B.vO jY (ae (pv 2) aq)) rfl))),?_⟩
 try dsimp only[cG]
 refine⟨_,O,T,us,O,.inl (bw.of hT),fun A1 mZ =>?_⟩;have AV:A1≠o:=fun e=>by rw[e,ho]at mZ;cases mZ
 have WO:T≠o:=fun e=>by rw[e,ho]at hT;cases hT
 have RM:L≠o:=fun e=>by rw[e,ho]at hL;cases hL
 have Zx:L≠A1:=fun e=>by rw[e,mZ]at hL;cases hL
 refine⟨_,O,o,CN,dx,_,O,(by rw[av (bR AV)];exact ho),Z.cN,Z.gM,by decide,?_⟩;have qS:(aC (aC H A1 (.lst us)) o (.ins CN dx [("terms",.ref A1)])) L=some (.lst ls):=by rw[av RM,av Zx];exact hL
 refine⟨_,O,L,ls,O,.inl (bw.of qS),fun A2 mY =>?_⟩;have w8:A2≠o:=fun e=>by rw[e,ak]at mY;cases mY
 have II:A2≠A1:=fun e=>by rw[e,av AV,ak]at mY;cases mY
 have pL:H A2=none:=by rw[av w8,av II]at mY;exact mY
 refine⟨_,O,o,CN,dx, [("terms",.ref A1)],O,(by rw[av (bR w8),ak];rfl),Z.cN,Z.ma,(show 1 < 1000 by decide),?_⟩;refine q _ A1 A2 (fun c u n h =>?_) mZ pL ?_ ?_ ak
 ·have h1:c≠A1:=fun e=>by rw[e,mZ]at h;cases h
  have h2:c≠A2:=fun e=>by rw[e,pL]at h;cases h
  rw[av n,av h2,av n,av h1];exact h
 ·rw[av AV,av (bR II),av AV,ak]
 ·rw[av w8,ak]
def Rp(H:Hp)(v:V):Option V:=match v with
 | .ref a=>(match H a with
  | some (.tup (.str x :: .str z :: _))=>if x = "name" then some (.str z) else none
  | _=>none)
 | _=>none
theorem TC(hT:ix H t v):Rp H v=(nI t).map V.str:=by
 cases t with
 | num n =>
  obtain⟨a,rfl,h⟩:=id hT;unfold Rp;dsimp only;rw[h];rfl
 | name n =>
  obtain⟨a,rfl,h⟩:=id hT;unfold Rp;dsimp only;rw[h];dsimp only;rw[if_pos rfl];rfl
 | of x as =>
  obtain⟨a,b,rfl,h,h2⟩:=id hT;unfold Rp;dsimp only;rw[h];dsimp only;rw[if_neg (by decide)];rfl
theorem Od{H:Hp}:∀ {us:List V}{ts:List Tm},kO H us ts->us.filterMap (Rp H)=(df ts).map V.str
 | _,_,.nil=>rfl
 | v :: us,t :: ts,.cons h r=>by
  unfold df;rw[cF,cF,TC h];cases nI t with
  | none=>exact Od r
  | some z=>exact congrArg (V.str z :: ·) (Od r)
theorem MY{H:Hp}:∀ {us:List V}{ts:List Tm}{v:V},kO H us ts->v∈us->∃ t,ix H t v
 | _,_,_,.nil,h=>nomatch h
 | _,_,_,.cons h r,hv=>by
  rcases bC.mp hv with rfl | hv
  ·exact⟨_,h⟩
  ·exact MY r hv
inductive abZ(H:Hp)(t:Tm)(v:V):Prop
 | mk:∀ (a:Addr) (xs:List V) (x:Str) (y:V),v = .ref a->H a=some (.tup xs)->vF xs 0=some (.str x)->vF xs 1=some y->(x = "name" ↔ (nI t).isSome=true)->(∀ z,nI t=some z->y = .str z)->abZ H t v
theorem MX(hT:ix H t v):abZ H t v:=by
 cases t with
 | num n =>
  obtain⟨a,rfl,h⟩:=id hT;exact⟨a,_,_,_,O,h,O,O,⟨fun z=>absurd z (by decide),fun z=>nomatch z⟩,fun z e=>nomatch e⟩
 | name n =>
  obtain⟨a,rfl,h⟩:=id hT;exact⟨a,_,_,_,O,h,O,O,⟨fun _=>rfl,fun _=>rfl⟩,fun z e=>by cases e;rfl⟩
 | of x as =>
  obtain⟨a,b,rfl,h,h2⟩:=id hT;exact⟨a,_,_,_,O,h,O,O,⟨fun z=>absurd z (by decide),fun z=>nomatch z⟩,fun z e=>nomatch e⟩
theorem GS(a:eZ L H H1)(b:a6 H1 H2):eZ L H H2:=fun c u n h=>b c u (a c u n h)
theorem EZ{x:Addr}(a:eZ L H H1)(hx:H x=none):eZ L H (aC H1 x u):=fun c v n h=>by
 rw[av (fun e=>by rw[e,hx]at h;cases h)];exact a c v n h
theorem Kv(a:eZ L H H1):eZ L H (aC H1 L u):=fun c v n h=>by
 rw[av n];exact a c v n h
theorem Kw{x:Addr}(a:eZ L H H1)(hx:H1 x=none)(hn:x≠L):H x=none:=by
 cases e:H x with
 | none=>rfl
 | some u=>have:=a x u hn e;rw[hx]at this;cases this
theorem mU{x y:Addr}(hx:H x=none)(hy:H y=some u):x≠y:=fun e=>by rw[e,hy]at hx;cases hx
structure mv(CN:Addr)(H:Hp)(o:Addr)(ts:List Tm)(ls:List Nat):Prop where
 ex:∃ dx A1 A2 A3 A4 A5 kb ks,H o=some (.ins CN dx [("terms",.ref A1),("leads",.ref A2),("held",.ref A3),("bits",.ref A4),("standing",.ref A5)])∧H A2=some (.lst (ls.map nV)) ∧
  H A3=some (.lst ((df ts).map V.str))∧H A4=some (.dK kb)∧uW (df ts) (df ts).length kb∧H A5=some (.dK ks)∧qW (df ts) ts ls ts.length ks∧∃ us,H A1=some (.lst us)∧kO H us ts
theorem mv.same(h:mv CN H o ts ls)(s:a6 H H'):mv CN H' o ts ls:=by
 obtain⟨dx,A1,A2,A3,A4,A5,kb,ks,h1,h2,h3,h4,h5,h6,h7,us,h8,h9⟩:=h.ex;exact⟨dx,A1,A2,A3,A4,A5,kb,ks,s _ _ h1,s _ _ h2,s _ _ h3,s _ _ h4,h5,s _ _ h6,h7,us,s _ _ h8,eN s h9⟩
structure G8(CN:Addr)(H0 H:Hp)(o:Addr)(ts:List Tm)(ls:List Nat):Prop where
 ex:∃ dx A1 A2 A3 A4 A5 kb ks,H o=some (.ins CN dx [("terms",.ref A1),("leads",.ref A2),("held",.ref A3),("bits",.ref A4),("standing",.ref A5)])∧H A2=some (.lst (ls.map nV)) ∧
  H A3=some (.lst ((df ts).map V.str))∧H A4=some (.dK kb)∧uW (df ts) (df ts).length kb∧H A5=some (.dK ks)∧qW (df ts) ts ls ts.length ks∧(∃ us,H A1=some (.lst us)∧kO H us ts)∧H0 A1=none∧H0 A2=none∧H0 A3=none
inductive Sf(CN:Addr)(vs:List V)(H:Hp)(Q:VK):Prop
 | mk (o dx T L:Addr) (us:List V) (ts:List Tm) (ls:List Nat) (z0:vs = [.ref o,.ref T,.ref L]) (z1:H o=some (.ins CN dx [])) (z2:H T=some (.lst us)) (z3:kO H us ts) (z4:H L=some (.lst (ls.map nV))) (z5:ts.Nodup) (z6:ls.length=ts.length) (z7:SH ts) (z8:∀ H',eZ o H H'->G8 CN H H' o ts ls->Q .cj H'):Sf CN vs H Q
def Q3(CN:Addr):Sp:=fun vs H Q _=>Sf CN vs H Q
inductive Me(CN:Addr)(o:Addr)(dx:Addr)(T:Addr)(L:Addr)(A1:Addr)(A2:Addr)(H:Hp)(us:List V)(ts:List Tm)(ls:List Nat)(bJ:St)(H':Hp):Prop
 | mk:∀ (A3:Addr),(bJ = [aa o,aa T,aa L,none,none,none,none])->(A3≠o)->(H A3=none)->(eZ o H H')->(H' o=some (.ins CN dx [("terms",.ref A1),("leads",.ref A2),("held",.ref A3)]))->(H' A3=some (.lst ((df ts).map V.str)))->(H' A2=some (.lst (ls.map nV)))->(H' A1=some (.lst us))->Me CN o dx T L A1 A2 H us ts ls bJ H'
inductive Md(CN:Addr)(o:Addr)(dx:Addr)(T:Addr)(L:Addr)(A1:Addr)(A2:Addr)(A3:Addr)(H:Hp)(us:List V)(ts:List Tm)(ls:List Nat)(bJ:St)(H':Hp):Prop
 | mk:∀ (A4:Addr),(bJ = [aa o,aa T,aa L,none,none,none,none])->(A4≠o)->(A4≠A3)->(A4≠A2)->(A4≠A1)->(H A4=none)->(eZ o H H')->(H' o=some (.ins CN dx [("terms",.ref A1),("leads",.ref A2),("held",.ref A3),("bits",.ref A4)]))->(H' A3=some (.lst ((df ts).map V.str)))->(H' A2=some (.lst (ls.map nV)))->(H' A4=some (.dK []))->(H' A1=some (.lst us))->Md CN o dx T L A1 A2 A3 H us ts ls bJ H'
inductive Mc(CN:Addr)(o:Addr)(dx:Addr)(T:Addr)(L:Addr)(A1:Addr)(A2:Addr)(A3:Addr)(A4:Addr)(H:Hp)(us:List V)(ts:List Tm)(ls:List Nat)(bJ:St)(H':Hp):Prop
 | mk:∀ (x3 x4:Option V) (kb:DK),(bJ = [aa o,aa T,aa L,x3,x4,none,none])->(eZ o H H')->(H' o=some (.ins CN dx [("terms",.ref A1),("leads",.ref A2),("held",.ref A3),("bits",.ref A4)]))->(H' A3=some (.lst ((df ts).map V.str)))->(H' A2=some (.lst (ls.map nV)))->(H' A4=some (.dK kb))->(uW (df ts) (df ts).length kb)->(H' A1=some (.lst us))->Mc CN o dx T L A1 A2 A3 A4 H us ts ls bJ H'
inductive Mb(CN:Addr)(o:Addr)(dx:Addr)(T:Addr)(L:Addr)(A1:Addr)(A2:Addr)(A3:Addr)(A4:Addr)(H:Hp)(us:List V)(ts:List Tm)(ls:List Nat)(i:Nat)(bJ:St)(H':Hp):Prop
 | mk:∀ (x3 x4:Option V) (kb:DK),(bJ = [aa o,aa T,aa L,x3,x4,none,none])->(eZ o H H')->(H' o=some (.ins CN dx [("terms",.ref A1),("leads",.ref A2),("held",.ref A3),("bits",.ref A4)]))->(H' A3=some (.lst ((df ts).map V.str)))->(H' A2=some (.lst (ls.map nV)))->(H' A4=some (.dK kb))->(uW (df ts) i kb)->(H' A1=some (.lst us))->Mb CN o dx T L A1 A2 A3 A4 H us ts ls i bJ H'
inductive Ma(CN:Addr)(o:Addr)(dx:Addr)(T:Addr)(L:Addr)(A1:Addr)(A2:Addr)(A3:Addr)(A4:Addr)(H:Hp)(us:List V)(ts:List Tm)(ls:List Nat)(x3:Option V)(x4:Option V)(kb:DK)(bJ:St)(H':Hp):Prop
 | mk:∀ (A5:Addr),(bJ = [aa o,aa T,aa L,x3,x4,none,none])->(A5≠o)->(A5≠A3)->(A5≠A2)->(A5≠A4)->(A5≠A1)->(H A5=none)->(eZ o H H')->(H' o=some (.ins CN dx [("terms",.ref A1),("leads",.ref A2),("held",.ref A3),("bits",.ref A4),("standing",.ref A5)]))->(H' A3=some (.lst ((df ts).map V.str)))->(H' A2=some (.lst (ls.map nV)))->(H' A4=some (.dK kb))->(H' A5=some (.dK []))->(H' A1=some (.lst us))->Ma CN o dx T L A1 A2 A3 A4 H us ts ls x3 x4 kb bJ H'
inductive L9(CN:Addr)(o:Addr)(dx:Addr)(T:Addr)(L:Addr)(A1:Addr)(A2:Addr)(A3:Addr)(A4:Addr)(A5:Addr)(H:Hp)(us:List V)(ts:List Tm)(ls:List Nat)(x3:Option V)(x4:Option V)(kb:DK)(i:Nat)(bJ:St)(H':Hp):Prop
 | mk:∀ (x5 x6:Option V) (ks:DK),(bJ = [aa o,aa T,aa L,x3,x4,x5,x6])->(eZ o H H')->(H' o=some (.ins CN dx [("terms",.ref A1),("leads",.ref A2),("held",.ref A3),("bits",.ref A4),("standing",.ref A5)]))->(H' A3=some (.lst ((df ts).map V.str)))->(H' A2=some (.lst (ls.map nV)))->(H' A4=some (.dK kb))->(H' A5=some (.dK ks))->(qW (df ts) ts ls i ks)->(H' A1=some (.lst us))->L9 CN o dx T L A1 A2 A3 A4 A5 H us ts ls x3 x4 kb i bJ H'
theorem YM(B:iY mg)(Z:PD K CN)(Kk:UC P w K mg base 1 "Kind" "__init__" bh (EI CN))(D:oI K mg "Names" CN "Names.__init__" qJ bh):pO P w K mg base 2 "Names" CN bh (Q3 CN):=by
 refine D.has wo (fun vs H Q E h =>?_) (fun f bU A outer s H vs Q E hr h =>?_)
 ·obtain⟨o,dx,T,L,us,ts,ls,rfl,_⟩:=h;rfl
 obtain⟨o,dx,T,L,us,ts,ls,rfl,ho,hT,dP,hL,hnd,uL,iI,q⟩:=h;have agG:=iI.1;have am7:=iI.2;refine⟨_,(au (eJ (YH Kk hr (by omega) (AA fun _ _ _ z=>z) O (ae (pv 0) (ae (pv 1) (ae (pv 2) aq)))))
  (au (ft (pv 0) (GB (te:=(vv (NN K) _ _)) (ct:=(Mx (vv _ (vv (NN K) _ _) _))) (own := wa7) (caps := []) (rT (aF qJ) ["self", "terms", "leads", "place", "word", "k", "term"] O O O (by decide +kernel)) (ja (pv 1)) O (fun _ _ _=>bZ (i:=0) (show (wa7:List Str).Nodup by decide +kernel) O (aM O)) (fun _ _ _=>(br d5 (aV aY (pv 0) az (fun _ _=>O)) bN (bo _))) (fun _ _ _=>(aV aY (pv 0) az (fun _ _=>O)))) O)
  (au (ft (pv 0) wB O)
  (au (dM dZ O (v7 O B.oZ (ae (bW (pv 0) O) aq)) (rB O (fi (bZ (i:=3) wo.nd O (aM O)) (fi (bZ (i:=4) wo.nd O (aM O)) oN)))
  (ax (EO (lU hr) (bW (pv 0) O) (pv 4) (eF VT az (pv 3)) O)))
  (au (ft (pv 0) wB O)
  (ax (dM dZ O (v7 O B.oZ (ae (pv 1) aq)) (rB O (fi (bZ (i:=5) wo.nd O (aM O)) (fi (bZ (i:=6) wo.nd O (aM O)) oN)))
  (ax (cA (br d5 (aV aY (pv 6) az (fun _ _=>O)) bN (bo _)) (ax (EO (lU hr) (bW (pv 0) O) (aV dy (pv 2) (pv 5) (fun _ _=>O)) (eF Ts (GA (lU hr) (bW (pv 0) O) (aV dy (pv 2) (pv 5) (fun _ _=>O)) az ⟨O,O,O,O⟩) (qL (lU hr) (bW (pv 0) O) (aV aY (pv 6) az (fun _ _=>O)) (fun _ _=>O))) O)) bD))))))))),?_⟩
 try dsimp only[cG]
 have WO:T≠o:=fun e=>by rw[e,ho]at hT;cases hT
 have RM:L≠o:=fun e=>by rw[e,ho]at hL;cases hL
 have qM:=bx dP;have hsn:=vP hnd;have Dv:=GJ ts;refine⟨_,O,_,O,_,O,o,dx,T,L,us,ls.map nV,O,ho,hT,hL,fun H1 A1 A2 D4 agB pL mZ mY ho1 =>?_⟩;have kp1:∀ b ys,H b=some (.tup ys)->H1 b=some (.tup ys):=fun b ys e=>D4 _ _ (fun z=>by rw[z,ho]at e;cases e) e;have Zg:=iK kp1 dP;have hT1:=D4 _ _ WO hT;have w4:=D4 _ _ RM hL;have oA2:=mU pL ho;have oA1:=mU agB ho;dsimp only;refine kj (Me CN o dx T L A1 A2 H us ts ls) ?_ (fun key =>?_);rotate_left
 ·refine⟨_,O,T,O,⟨us,bw.of hT1⟩,?_⟩;show yA _ _ _ _ _ H1 _;refine FI (xs:=us) (Rp H1) (bw.of hT1) (by omega) (fun x hx H' sm R r =>?_) (fun x v hx e H' sm Q' q' =>?_) (fun A3 H2 hA3 s2 agy =>?_)
  ·obtain⟨t,ht⟩:=MY Zg hx;rw[TC ht,jQ]at r;obtain⟨a,xs,x0,y,rfl,h,h0,h1,hn,hz⟩:=MX (ht.same sm);refine⟨_,O,a,_,_,_,O,O,aW.of h,h0,O,_,O,?_⟩;have r1:=r H' (a6.refl _);have e:(decide (V.str x0=V.str "name"))=(nI t).isSome:=by
    rw[jJ,decide_eq_true_iff, <- hn];exact⟨fun z=>V.str.inj z,fun z=>by rw[z]⟩
   rw[<- e]at r1;exact r1
  ·obtain⟨t,ht⟩:=MY Zg hx;rw[TC ht]at e;obtain⟨z,e1,rfl⟩:=b8.mp e;obtain⟨a,xs,x0,y,rfl,h,h0,h1,hn,hz⟩:=MX (ht.same sm);rw[hz z e1]at h1;exact⟨_,O,a,_,_,_,O,O,aW.of h,h1,q' _ (a6.refl _)⟩
  rw[Od Zg]at agy;have ho2:=s2 _ _ ho1;have Rl:=mU hA3 ho1;refine⟨_,O,o,CN,dx,_,O,ho2,Z.cN,Z.TK,(show 2 < 1000 by decide),key _ _ ⟨A3,O,Rl,Kw D4 hA3 Rl,Kv (GS D4 s2),ak,(av Rl).trans agy,(av oA2).trans (s2 _ _ mY),(av oA1).trans (s2 _ _ mZ)⟩⟩
 rintro bJ H3 ⟨A3,rfl,Rl,amZ,IV,ho3,agx,agA,h13⟩;refine kj (Md CN o dx T L A1 A2 A3 H us ts ls) ?_ (fun key =>?_);rotate_left
 ·intro A4 WY;have Oa:=mU WY ho3;have Um:H A4=none:=Kw IV WY Oa;have a43:=mU WY agx;have a42:=mU WY agA;have a41:=mU WY h13;refine⟨_,O,o,CN,dx,_,O,(av (bR Oa)).trans ho3,Z.cN,Z.ME,(show 3 < 1000 by decide),key _ _ ⟨A4,O,Oa,a43,a42,a41,Um,Kv (EZ IV Um),ak,(av Rl).trans ((av (bR a43)).trans agx),(av oA2).trans ((av (bR a42)).trans agA),(av Oa).trans ak,(av oA1).trans ((av (bR a41)).trans h13)⟩⟩
 rintro bJ H4 ⟨A4,rfl,Oa,a43,a42,a41,Um,LU,ho4,agw,am1,amX,h14⟩;refine kj (Mc CN o dx T L A1 A2 A3 A4 H us ts ls) ?_ (fun key =>?_);rotate_left
 ·refine⟨_,O,o,CN,dx,_,_,O,ho4,Z.cN,Z.TK,O,A3,O,⟨_,bw.of agw⟩,?_⟩;refine tY (xs:=(df ts).map V.str) (Mb CN o dx T L A1 A2 A3 A4 H us ts ls) ⟨none,none, [],O,LU,ho4,agw,am1,amX,ZU _,h14⟩ ?_ ?_ ?_
  ·rintro i σ H' _ ⟨x3,x4,kb,rfl,_,_,h,_⟩;exact bw.of h
  ·rintro i x a0 σ H' hx ⟨x3,x4,kb,rfl,bt,zF,LC,LD,ID,hb,LF⟩ zH;rw[aJ]at hx;obtain⟨z,hz,rfl⟩:=b8.mp hx;have hi:i < (df ts).length:=(aj.mp hz).1;have s5:=aD zH (.tup [.int (i:Int),.str z]);have IU:=GS bt s5;have hbl:=hb.len;refine⟨a0,_,O,aW.of ak,O,_,_,O,_,_,O,O,?_⟩;generalize aC H' a0 (.tup [.int (i:Int),.str z])=H5 at s5 IU ⊢;refine⟨_,O,_,_,O,O,⟨by omega,by omega,by decide⟩,_,O,o,CN,dx,_,_,O,s5 _ _ zF,Z.cN,Z.ME,O,_,O,A4,_,O,EA.k (k:=fo z) (s5 _ _ ID) (dD (by omega)),?_⟩;have ev:V.int (1 * 2 ^ ((i:Int)).toNat)=nV (2 ^ i):=by
    rw[bP,Int.one_mul];exact congrArg V.int (by norm_cast)
   have BE:=Xq hsn hb hz;rw[<- ev]at BE;refine⟨some (.int (i:Int)),some (.str z),_,O,EZ IU Um,(av (bR Oa)).trans (s5 _ _ zF),(av (bR a43)).trans (s5 _ _ LC),(av (bR a42)).trans (s5 _ _ LD),ak,BE,(av (bR a41)).trans (s5 _ _ LF)⟩
  ·rintro σ H' ⟨x3,x4,kb,e,bt,zF,LC,LD,ID,hb,LF⟩;rw[ay]at hb;exact key _ _ ⟨x3,x4,kb,e,bt,zF,LC,LD,ID,hb,LF⟩
 rintro bJ H5 ⟨x3,x4,kb,rfl,IU,ho5,agv,agz,agu,hkb,h15⟩;refine kj (Ma CN o dx T L A1 A2 A3 A4 H us ts ls x3 x4 kb) ?_ (fun key =>?_);rotate_left
 ·intro A5 RO;have Rk:=mU RO ho5;have Ul:H A5=none:=Kw IU RO Rk;have a53:=mU RO agv;have a52:=mU RO agz;have a54:=mU RO agu;have LZ:=mU RO h15;refine⟨_,O,o,CN,dx,_,O,(av (bR Rk)).trans ho5,Z.cN,Z.xV,(show 4 < 1000 by decide),key _ _ ⟨A5,O,Rk,a53,a52,a54,LZ,Ul,Kv (EZ IU Ul),ak,(av Rl).trans ((av (bR a53)).trans agv),(av oA2).trans ((av (bR a52)).trans agz),(av Oa).trans ((av (bR a54)).trans agu),(av Rk).trans ak,(av oA1).trans ((av (bR LZ)).trans h15)⟩⟩
 rintro bJ H6 ⟨A5,rfl,Rk,a53,a52,a54,LZ,Ul,bt6,ho6,amY,am0,amW,amV,h16⟩;have hT6:=bt6 _ _ WO hT;refine⟨_,O,T,O,⟨us,bw.of hT6⟩,?_⟩;refine tY (xs:=us) (L9 CN o dx T L A1 A2 A3 A4 A5 H us ts ls x3 x4 kb) ⟨none,none, [],O,bt6,ho6,amY,am0,amW,amV,Vc _ _ _,h16⟩ ?_ ?_ ?_
 ·rintro i σ H' _ ⟨x5,x6,ks,rfl,bt,_⟩;exact bw.of (bt _ _ WO hT)
 ·rintro i x a0 σ H' hx ⟨x5,x6,ks,rfl,bt,zF,LC,LD,ID,RD,nN,LF⟩ zH;obtain⟨t,ht,hxt⟩:=rg dP hx;have hi:i < ts.length:=(aj.mp ht).1;have vz:=getD_at (ls:=ls) (k:=i) (by rw[uL];exact hi);have s5:=aD zH (.tup [.int (i:Int),x]);have Xm:=GS bt s5;have ary:=nN.len;refine⟨a0,_,O,aW.of ak,O,_,_,O,_,_,O,O,?_⟩;generalize aC H' a0 (.tup [.int (i:Int),x])=H7 at s5 Xm ⊢;have kp7:∀ b ys,H b=some (.tup ys)->H7 b=some (.tup ys):=fun b ys e=>Xm _ _ (fun z=>by rw[z,ho]at e;cases e) e;have ams:=hxt.keep kp7;have O1:=Xm _ _ RM hL;obtain⟨a,xs,x0,y,rfl,h,h0,h1,hn,hz⟩:=MX ams;refine⟨_,O,a,_,_,_,O,O,aW.of h,h0,O,_,O,cC (fun w1 =>?_) (fun w1 =>?_)⟩
  ·obtain⟨z,ez⟩:=gC.mp (hn.mp (V.str.inj w1));have ey:=hz z ez;subst ey;rw[AH ez]at ht;obtain⟨nz,hnz⟩:=RF ht;have eb:=R6 hnd hkb hnz;have hd:mP H7 A4 (.str z) (some (nV (y4 (df ts) z))):=by rw[<- eb];exact mP.k (k:=fo z) (s5 _ _ ID)
   have e5:=nN.at_ (ls.getD i 0);refine⟨_,O,o,CN,dx,_,_,O,s5 _ _ zF,Z.cN,Z.xV,O,A5,O,.inl ⟨_,.inl (s5 _ _ RD)⟩,_,O,_,O,L,_,_,_,O,O,bw.of O1,gG vz,_,mP.k (k:=lk (ls.getD i 0)) (s5 _ _ RD),?_⟩;refine⟨_,O,o,CN,dx,_,_,O,s5 _ _ zF,Z.cN,Z.ME,O,_,O,a,_,_,_,O,O,aW.of h,h1,A4,_,O,hd,_,_,e5,O,?_⟩;refine⟨_,O,o,CN,dx,_,_,O,s5 _ _ zF,Z.cN,Z.xV,O,_,O,_,O,L,_,_,_,O,O,bw.of O1,gG vz,A5,_,O,EA.k (k:=lk (ls.getD i 0)) (s5 _ _ RD) (dD (by omega)),?_⟩;have afs:=Vb nN ht;rw[show nV (lO (df ts) ts ls (ls.getD i 0) i ||| y4 (df ts) z)=V.int (qh ((lO (df ts) ts ls (ls.getD i 0) i:Nat):Int) ((y4 (df ts) z:Nat):Int)) by rw[R5]]at afs;exact⟨_,_,_,O,EZ Xm Ul,(av (bR Rk)).trans (s5 _ _ zF),(av (bR a53)).trans (s5 _ _ LC),(av (bR a52)).trans (s5 _ _ LD),(av (bR a54)).trans (s5 _ _ ID),ak,afs,(av (bR LZ)).trans (s5 _ _ LF)⟩
  ·have kM:nI t=none:=by
    cases e:nI t with
    | none=>rfl
    | some z=>exact absurd (by rw[hn.mpr (by rw[e];rfl)]) w1
   exact⟨_,_,_,O,Xm,s5 _ _ zF,s5 _ _ LC,s5 _ _ LD,s5 _ _ ID,s5 _ _ RD,SY nN ht kM,s5 _ _ LF⟩
 ·rintro σ H' ⟨x5,x6,ks,rfl,bt,zF,LC,LD,ID,RD,nN,LF⟩;rw[qM]at nN;exact q H' bt ⟨dx,A1,A2,A3,A4,A5,kb,ks,zF,LD,LC,ID,hkb,RD,nN,⟨us,LF,iK (fun b ys e=>bt _ _ (fun z=>by rw[z,ho]at e;cases e) e) dP⟩,agB,pL,amZ⟩
inductive Xw(CN:Addr)(vs:List V)(H:Hp)(Q:VK):Prop
 | mk (o:Addr) (ts:List Tm) (ls:List Nat) (z0:vs = [.ref o]) (z1:mv CN H o ts ls) (z2:SH ts) (z3:Q (nV (2 ^ (df ts).length - 1)) H):Xw CN vs H Q
def Vf(CN:Addr):Sp:=fun vs H Q _=>Xw CN vs H Q
theorem acQ(B:iY mg)(Z:PD K CN)(D:gD K CN "top" "Names.top" Nz wd0):ic P w K mg base 1 CN "top" wd0 (Vf CN):=by
 refine D.has acv (fun vs H Q E h =>?_) (fun f bU A outer s H vs Q E hr h =>?_)
 ·obtain⟨o,ts,ls,rfl,_⟩:=h;rfl
 obtain⟨o,ts,ls,rfl,hN,iI,q⟩:=h;have agG:=iI.1;have am7:=iI.2;obtain⟨dx,A1,A2,A3,A4,A5,kb,ks,h1,h2,h3,h4,h5,h6,h7,h8⟩:=hN.ex;refine⟨_,(ax (aZ (eF aet (eF VT az (dz cX rfl B.jK cn (ae (bW (pv 0) rfl) aq))) az))),?_⟩
 try dsimp only[cG]
 have hl:=GJ ts;refine⟨_,O,o,CN,dx,_,_,O,h1,Z.cN,Z.TK,O,A3,_,O,.inl (bw.of h3),_,_,O,O,⟨by omega,by rw[ay];omega,by decide⟩,_,_,O,O,?_⟩;rw[ay];have e:(1:Int) * 2 ^ (((df ts).length:Nat):Int).toNat - 1=((2 ^ (df ts).length - 1:Nat):Int):=by
  rw[bP,Int.one_mul];have:=Jj (df ts).length
  push_cast [Int.ofNat_sub this]
  omega
 show Q (V.int (1 * 2 ^ (((df ts).length:Nat):Int).toNat - 1)) H;rw[e];exact q
inductive PF(K:ai)(CN:Addr)(vs:List V)(H:Hp)(Q:VK):Prop
 | mk (o L:Addr) (ts:List Tm) (ls ks:List Nat) (v:V) (t:Tm) (k:Nat) (z0:vs = [.ref o,v,.ref L]) (z1:mv CN H o ts ls) (z2:ts.Nodup) (z3:ix H t v) (z4:bw K H L (ks.map nV)) (z5:ts[k]? = some t) (z6:ahx ks.length t) (z7:ks.length=ls.length) (z8:(∀ x as,t = .of x as->as.length<=4)) (z9:Q (nV (Ho ts ls ks t)) H):PF K CN vs H Q
def Nb(K:ai)(CN:Addr):Sp:=fun vs H Q _=>PF K CN vs H Q
theorem Rx:rJ "bind" 2 (.of x as)=true↔x = "bind" ∧ as.length=2:=by
 unfold rJ;rw[dU,decide_eq_true_iff,decide_eq_true_iff]
theorem VY(B:iY mg)(Z:PD K CN)(yU:c7 P w K mg base 1 "is_binder" wa7 (n6 "bind" 2))(D:gD K CN "worth" "Names.worth" F7 wa0):ic P w K mg base 2 CN "worth" wa0 (Nb K CN):=by
 refine D.has uC (fun vs H Q E h =>?_) (fun f bU A outer s H vs Q E hr h =>?_)
 ·obtain⟨o,L,ts,ls,ks,v,t,k,rfl,_⟩:=h;rfl
 obtain⟨o,L,ts,ls,ks,v,t,k,rfl,hN,hnd,hT,hL,htk,wV,BC,am2,q⟩:=h;obtain⟨dx,A1,A2,A3,A4,A5,kb,kst,h1,h2,h3,h4,h5,h6,h7,h8⟩:=hN.ex;refine⟨_,(au (cA (br d5 (aV aY (pv 1) az (fun _ _=>O)) bN (bo _)) (ax (aZ az)) bD)
  (au (cA (br d5 (aV aY (pv 1) az (fun _ _=>O)) bN (bo _)) (ax (aZ (GA (lU hr) (bW (pv 0) O) (aV aY (pv 1) az (fun _ _=>O)) az ⟨O,O,O,O⟩))) bD)
  (au (cA (km (bb yU hr (by omega) O (ae (pv 1) aq))) (au (bG (i:=3) uC.nd O (aM O) (GA (lU hr) (bW (pv 0) O) (aV dy (bW (pv 0) O) (aV aY (aV aY (pv 1) az (fun _ _=>O)) az (fun _ _=>O)) (fun _ _=>O)) az ⟨O,O,O,O⟩))
  (ax (aZ (eF HR (aV dy (pv 2) (aV aY (aV aY (pv 1) az (fun _ _=>O)) az (fun _ _=>O)) (fun _ _=>O)) (Tp adL (pv 3)))))) bD)
  (au (bG (i:=4) uC.nd O (aM O) az)
  (au (dM dZ O (pV (aV aY (pv 1) az (fun _ _=>O))) (bZ (i:=5) uC.nd O (aM O))
  (ax (bG (i:=4) uC.nd O (aM O) (eF Ts (pv 4) (aV dy (pv 2) (pv 5) (fun _ _=>O))))))
  (ax (aZ (pv 4)))))))),?_⟩
 try dsimp only[cG]
 cases t with
 | num n =>
  obtain⟨a,rfl,h⟩:=id hT;exact⟨_,O,a,_,0,_,O,O,aW.of h,aB (j:=0) rfl,O,_,O,cC (fun _=>q) (fun z=>absurd rfl z)⟩
 | name z =>
  obtain⟨a,rfl,h⟩:=id hT;refine⟨_,O,a,_,0,_,O,O,aW.of h,aB (j:=0) rfl,O,_,O,cC (fun z=>absurd (V.str.inj z) (by decide)) (fun _ =>?_)⟩;dsimp only[gQ];obtain⟨nz,hnz⟩:=RF htk;have eb:=R6 hnd h5 hnz;refine⟨_,O,a,_,0,_,O,O,aW.of h,aB (j:=0) rfl,O,_,O,cC (fun _ =>?_) (fun z=>absurd rfl z)⟩;refine⟨_,O,o,CN,dx,_,_,O,h1,Z.cN,Z.ME,O,A4,O,.inl ⟨_,.inl h4⟩,_,O,a,_,1,_,O,O,aW.of h,aB (j:=1) rfl,_,mP.k (k:=fo z) h4,?_⟩;rw[eb];exact q
 | of x as =>
  obtain⟨a,b,rfl,h,hb⟩:=id hT;refine⟨_,O,a,_,0,_,O,O,aW.of h,aB (j:=0) rfl,O,_,O,cC (fun z=>absurd (V.str.inj z) (by decide)) (fun _ =>?_)⟩;dsimp only[gQ];refine⟨_,O,a,_,0,_,O,O,aW.of h,aB (j:=0) rfl,O,_,O,cC (fun z=>absurd (V.str.inj z) (by decide)) (fun _ =>?_)⟩;dsimp only[gQ];refine⟨_,O,_,_,O,hT,_,O,?_⟩;dsimp only;rw[X6]at q;cases e:rJ "bind" 2 (.of x as) with
  | true =>
   obtain⟨ex,ea⟩:=Rx.mp e;rw[if_pos ⟨ex,ea⟩]at q;have g0:=getD_at (ls:=as) (k:=0) (by omega);have g1:=getD_at (ls:=as) (k:=1) (by omega);have i0:as.getD 0 0 < ls.length:=by have:=wV _ (aN g0);omega
   have i1:as.getD 1 0 < ks.length:=wV _ (aN g1);have e5:=h7.at_ (ls.getD (as.getD 0 0) 0);refine gH ⟨_,O,o,CN,dx,_,_,O,h1,Z.cN,Z.xV,O,A5,O,.inl ⟨_,.inl h6⟩,_,O,o,CN,dx,_,_,O,h1,Z.cN,Z.ma,O,_,O,a,_,2,_,O,O,aW.of h,aB (j:=2) rfl,b,_,0,_,O,O,aW.of hb,gG g0,A2,_,_,_,O,O,bw.of h2,gG (getD_at i0),_,mP.k (k:=lk (ls.getD (as.getD 0 0) 0)) h6,?_⟩;dsimp only[b7];refine⟨_,O,_,O,a,_,2,_,O,O,aW.of h,aB (j:=2) rfl,b,_,1,_,O,O,aW.of hb,gG g1,L,_,_,_,O,O,hL,gG (getD_at i1),_,O,_,e5,_,_,O,O,?_⟩;show Q (V.int (fW _ (d9 _))) H;rw[ZX];exact q
  | false =>
   rw[if_neg (fun z=>by rw[Rx.mpr z]at e;cases e)]at q;refine fC ?_;dsimp only[gQ];have h4:=am2 x as rfl;refine kj (fun bJ H' => bJ = [aa o,aa a,aa L,none,some (nV (HQ ks (as.take 0))),none]∧H'=H) ?_ (fun key=>key _ _ ⟨O,O⟩);rintro σ0 H ⟨rfl,rfl⟩;refine kj (fun bJ H'=>∃ o5, bJ = [aa o,aa a,aa L,none,some (nV (HQ ks as)),o5]∧H'=H) ?_ (fun key =>?_)
   ·rintro MO H1 ⟨o5,rfl,rfl⟩;exact⟨_,O,q⟩
   ·refine⟨_,O,a,_,2,_,O,O,aW.of h,aB (j:=2) rfl,b,O,⟨_,aW.of hb⟩,?_⟩;refine qT (xs:=as.map nV) (fun i bJ H'=>∃ o5, bJ = [aa o,aa a,aa L,none,some (nV (HQ ks (as.take i))),o5]∧H'=H) ⟨none,O,O⟩ ?_ ?_ ?_
    ·rintro i bJ H' _ ⟨o5,rfl,rfl⟩;exact aW.of hb
    ·rintro i x bJ H' hx ⟨o5,rfl,rfl⟩;rw[aJ]at hx;obtain⟨y,hy,rfl⟩:=b8.mp hx;have iy:y < ks.length:=wV _ (aN hy);refine⟨_,O,_,O,_,O,L,_,_,_,O,O,hL,gG (getD_at iy),_,_,O,O,?_⟩;refine⟨some (nV y),?_,O⟩;rw[acO hy];show _ = [aa o,aa a,aa L,none,some (V.int (((HQ ks (as.take i) ||| ks.getD y 0:Nat)):Int)),_];rw[<- R5];rfl
    ·rintro bJ H' ⟨o5,rfl,rfl⟩;rw[ay,du];exact key _ _ ⟨o5,O,O⟩
abbrev Lo(a:Int):Prop:=0<=a∧a < 8
theorem Wl{a:Int}(h:Lo a):∃ n:Nat,n∈aI 8∧a=((n:Nat):Int):=⟨a.toNat,dH.mpr (by have:=h.1;have:=h.2;omega),by have:=h.1;omega⟩
theorem all1{p:Int->Bool}(h:((aI 8).all fun a=>p ((a:Nat):Int))=true){a:Int}(ha:Lo a):p a=true:=by
 obtain⟨n,hn,rfl⟩:=Wl ha;exact iw.mp h n hn
theorem all2{p:Int->Int->Bool}(h:((aI 8).all fun a=>(aI 8).all fun b=>p ((a:Nat):Int) ((b:Nat):Int))=true){a:Int}(ha:Lo a)(hb:Lo b):p a b=true :=
 all1 (p:=p a) (by
  obtain⟨n,hn,rfl⟩:=Wl ha;exact iw.mp h n hn) hb
theorem JT{f:Int->Int->Int}(h:((aI 8).all fun a=>(aI 8).all fun b=>decide (0<=lR f ((a:Nat):Int) ((b:Nat):Int)) && decide (lR f ((a:Nat):Int) ((b:Nat):Int) < 8))=true){a:Int}(ha:Lo a)(hb:Lo b):Lo (lR f a b):=by
 have:=all2 (p:=fun a b=>decide (0<=lR f a b) && decide (lR f a b < 8)) h ha hb;rw[dU,decide_eq_true_iff,decide_eq_true_iff]at this;exact this
theorem ahr:((aI 8).all fun a=>(aI 8).all fun b=>decide (0<=lR D7 ((a:Nat):Int) ((b:Nat):Int)) && decide (lR D7 ((a:Nat):Int) ((b:Nat):Int) < 8))=true:=by decide +kernel
theorem Wf:((aI 8).all fun a=>(aI 8).all fun b=>decide (0<=lR wI ((a:Nat):Int) ((b:Nat):Int)) && decide (lR wI ((a:Nat):Int) ((b:Nat):Int) < 8))=true:=by decide +kernel
abbrev gI(ks:List Int)(i:Nat):Int:=ks.getD i 0
def LoL(ks:List Int):Prop := ∀ i,Lo (gI ks i)
theorem aed(n:Int):Lo (Nm n):=by
 unfold Nm;split
 ·exact⟨by decide,by decide⟩
 ·split <;> exact⟨by decide,by decide⟩
theorem lo7:Lo (7:Int):=⟨by decide,by decide⟩
theorem X7{ks:List Int}(h:LoL ks)(t:Tm):Lo (BX ks t):=by
 cases t with
 | num n=>exact aed n
 | name n=>exact lo7
 | of x as =>
  rw[K6];split
  ·exact JT ahr (h _) (h _)
  ·split
   ·exact JT Wf (h _) (h _)
   ·split
    ·exact JT Wf ⟨by decide,by decide⟩ (h _)
    ·exact lo7
structure Jq(n tp:Nat)(ls ks:List Nat):Prop where
 len:ks.length=n
 low:∀ i,r9 (ks.getD i 0) tp
 agM:UD ls ks
theorem TX{W:Nat}{k:Nat}(hl:ls.length=n)(uK:tp < 2 ^ 24)(h:Jq n tp ls ks)(hk:k < n)(kM:(ks.getD k 0 &&& W)≠ks.getD k 0) :
  Jq n tp ls (nC (gy ls k) (ks.getD k 0 &&& W) ks)∧mu (nC (gy ls k) (ks.getD k 0 &&& W) ks)+1<=mu ks:=by
 have hkk:k < ks.length:=by rw[h.len];exact hk
 rw[Te (by rw[hl,h.len])];have lt:=aeK (f:=ks.getD k 0 &&& W) h.agM hkk (VS (lx (Rm (h.low k)) uK) kM);refine⟨⟨by rw[Aj];exact h.len,fun j =>?_,ZG h.agM⟩,by omega⟩;by_cases hj:j < ks.length
 ·rw[zo hj];split
  ·exact(V5 _ _).trans (h.low k)
  ·exact h.low j
 ·rw[aU,cJ (by rw[Aj];omega)];exact Li _
theorem QF:Jq n tp ls (bq n tp):=by
 refine⟨iF ..,fun j =>?_,fun i j hi hj _ =>?_⟩
 ·rw[NJ];split
  ·exact r9.refl _
  ·exact Li _
 ·rw[iF]at hi hj;rw[NJ,NJ,if_pos hi,if_pos hj]
structure aad(C:Addr)(X:Addr->List Tm->List Nat->Hp->Prop)(spT spW:Sp)(nX:List Tm->Nat)(WF:List Tm->List Nat->List Nat->Nat->Nat):Prop where
 at_:∀ {o:Addr}{ts:List Tm}{ls:List Nat}{H:Hp},X o ts ls H->∃ (dx A1 A2:Addr) (us:List V) (fs:List (Str × V)),H o=some (.ins C dx fs)∧fs.lookup ("terms" : Str)=some (.ref A1)∧fs.lookup ("leads" : Str)=some (.ref A2)∧fs.lookup ("top" : Str)=none∧fs.lookup ("worth" : Str)=none∧H A1=some (.lst us)∧kO H us ts∧H A2=some (.lst (ls.map nV))
 same:∀ {o:Addr}{ts:List Tm}{ls:List Nat} {H H':Hp},X o ts ls H->a6 H H'->X o ts ls H'
 top:∀ {o:Addr}{ts:List Tm}{ls:List Nat}{H:Hp}{Q:VK}{E:XK},X o ts ls H->SH ts->Q (nV (nX ts)) H->spT [.ref o] H Q E
 worth:∀ {o L:Addr}{ts:List Tm}{ls ks:List Nat}{H:Hp}{Q:VK}{E:XK}{v:V}{t:Tm}{k:Nat},X o ts ls H->PB ts->ls.length=ts.length->ix H t v->ts[k]? = some t->H L=some (.lst (ks.map nV))->ks.length=ts.length->(∀ i,r9 (ks.getD i 0) (nX ts))->Q (nV (WF ts ls ks k)) H->spW [.ref o,v,.ref L] H Q E
 tp:∀ ts:List Tm,SH ts->nX ts < 2 ^ 24
inductive vS(X:Addr->List Tm->List Nat->Hp->Prop)(nX:List Tm->Nat)(WF:List Tm->List Nat->List Nat->Nat->Nat)(vs:List V)(H:Hp)(Q:VK):Prop
 | mk (o:Addr) (ts:List Tm) (ls:List Nat) (z0:vs = [.ref o]) (z1:X o ts ls H) (z2:PB ts) (z3:ls.length=ts.length) (z4:SH ts)
  (z5:∀ (p N S:Addr) (ks:List Nat) (H':Hp),a6 H H'->H' p=some (.tup [.ref N,.ref S])->H' N=some (.lst (ks.map nV))->Q (.ref p) H'):vS X nX WF vs H Q
def Ah(X:Addr->List Tm->List Nat->Hp->Prop)(nX:List Tm->Nat)(WF:List Tm->List Nat->List Nat->Nat->Nat):Sp:=fun vs H Q _=>vS X nX WF vs H Q
inductive LwI(H:Hp)(o N S:Addr)(n tp:Nat)(W:List Nat->Nat->Nat)(ls:List Nat)(m:Nat)(σ : St)(H':Hp):Prop
 | mk:∀ (ks:List Nat) (ss:List V) (dn:Int) (x4 x5 x6 x7:Option V), σ = [aa o,aa N,aa S,some (.int dn),x4,x5,x6,x7]->a6 H H'->H' N=some (.lst (ks.map nV))->H' S=some (.lst ss)->Jq n tp ls ks->((ss.length:Nat):Int)+mu ks<=9600->dn<=((ss.length:Nat):Int) ->
   (dn=((ss.length:Nat):Int)->∀ k,k < n->(ks.getD k 0 &&& W ks k)=ks.getD k 0)->m=2 * (mu ks).toNat+(if dn < ((ss.length:Nat):Int) then 1 else 0)->LwI H o N S n tp W ls m σ H'
inductive LfI(H:Hp)(o N S:Addr)(n tp:Nat)(W:List Nat->Nat->Nat)(ls:List Nat)(ss:List V)(ks:List Nat)(i:Nat)(σ : St)(H':Hp):Prop
 | mk:∀ (kL:List Nat) (pA:List V) (x4 x5 x6 x7:Option V), σ = [aa o,aa N,aa S,some (.int ((ss.length:Nat):Int)),x4,x5,x6,x7]->a6 H H'->H' N=some (.lst (kL.map nV))->H' S=some (.lst pA)->Jq n tp ls kL->((pA.length:Nat):Int)+mu kL<=9600->ss.length<=pA.length ->
   (pA.length=ss.length->kL=ks∧∀ k,k < i->(ks.getD k 0 &&& W ks k)=ks.getD k 0)->(ss.length < pA.length->mu kL+1<=mu ks)->LfI H o N S n tp W ls ss ks i σ H'
theorem Yy(n:Nat)(v:V):(bq n [v]).flatten=bq n v:=by
 induction n with
 | zero=>rfl
 | succ n ih=>rw[jk,jf,ih];rfl
theorem gat{k:Nat}(h:k < ks.length):vF (ks.map nV) ((k:Nat):Int)=some (nV (ks.getD k 0)):=gG (by rw[aU,ah h];rfl)
theorem Ft(B:iY mg){X:Addr->List Tm->List Nat->Hp->Prop}{spT spW:Sp}{nX:List Tm->Nat}{WF:List Tm->List Nat->List Nat->Nat->Nat}(R:aad C X spT spW nX WF){rw:Nat}(hrw:rw<=3)(cK:lB K C)(nT:dY K C "terms")(nL:dY K C "leads")(aga:ic P w K mg base 1 C "top" wd0 spT)(Zt:ic P w K mg base rw C "worth" wa0 spW)(oq:c7 P w K mg base 1 "members" wc7 (Cb K))(D:Def K mg "learned" Ck ["kind"]):c7 P w K mg base 4 "learned" ["kind"] (Ah X nX WF):=by
 refine D.has jT (fun vs H Q E h =>?_) (fun f bU A outer s H vs Q E hr h =>?_)
 ·obtain⟨o,ts,ls,rfl,_⟩:=h;rfl
 obtain⟨o,ts,ls,rfl,hX,bO,uL,iI,q⟩:=h;have agG:=iI.1;obtain⟨dx,A1,A2,us,fs,ho,l1,l2,l3,l4,mZ,dP,mY⟩:=R.at_ hX;refine⟨_,(au (bG (i:=1) jT.nd O (aM O) (eF aeu (fu (ae (aer aga cK hr (by omega) gw (pv 0)) aq)) (dz cX O B.jK cn (ae (bW (pv 0) O) aq))))
  (au (bG (i:=2) jT.nd O (aM O) (fu aq))
  (au (bG (i:=3) jT.nd O (aM O) (Tp UU az))
  (au (NR bX (br Mz (pv 3) (dz cX O B.jK cn (ae (pv 2) aq)) (bo _))
  (au (bG (i:=3) jT.nd O (aM O) (dz cX O B.jK cn (ae (pv 2) aq)))
  (ax (dM bX O (v7 O B.oZ (ae (bW (pv 0) O) aq)) (rB O (fi (bZ (i:=4) jT.nd O (aM O)) (fi (bZ (i:=5) jT.nd O (aM O)) oN)))
  (au (bG (i:=6) jT.nd O (aM O) (eF HR (aV dy (pv 1) (pv 4) (fun _ _=>O)) (lP Zt cK hr (by omega) gw (pv 0) (ae (pv 5) (ae (pv 1) aq)))))
  (ax (cA (br oP (pv 6) (aV dy (pv 1) (pv 4) (fun _ _=>O)) (bo _)) (au (eJ (jV bK cy cx fX (pv 2) (ae (dX (ae (pv 4) (ae (pv 6) aq))) aq)))
  (ax (dM bX O (ja (bb oq hr (by omega) O (ae (bW (pv 0) O) (ae (pv 4) aq)))) (bZ (i:=7) jT.nd O (aM O))
  (ax (VN (pv 6) (VR (pv 1) (pv 7) Nn)))))) bD)))))))
  (ax (aZ (dX (ae (pv 1) (ae (pv 2) aq))))))))),?_⟩
 try dsimp only[cG]
 have qM:=bx dP;have uK:=R.tp ts iI
 -- arc = [top] * len
 refine⟨_,O,o,dx,_,O,ho,l3,R.top hX iI ⟨(show 1<=sizeLine by decide),fun N0 hN0 =>?_⟩⟩;have s1:=aD hN0 (.lst [nV (nX ts)]);have agf:=ak (H:=H) (a:=N0) (o := .lst [nV (nX ts)]);generalize aC H N0 (.lst [nV (nX ts)])=H1 at s1 agf ⊢;refine⟨_,O,o,C,dx,_,_,O,s1 _ _ ho,cK,nT,l1,A1,us,O,.inl (bw.of (s1 _ _ mZ)),N0,_,_,O,O,agf,(by omega),(by omega),?_,fun N hN =>?_⟩
 ·rw[bP];exact bp (show 1 * us.length<=1000 by omega) (by decide)
 rw[bP,Yy];dsimp only[b7];have e7:bq us.length (nV (nX ts))=(bq ts.length (nX ts)).map nV:=by rw[List.map_replicate,qM]
 rw[e7];have amT:H N=none:=s1.free hN;have s2:=s1.trans (aD hN (.lst ((bq ts.length (nX ts)).map nV)));have O0:=ak (H:=H1) (a:=N) (o := .lst ((bq ts.length (nX ts)).map nV));generalize aC H1 N (.lst ((bq ts.length (nX ts)).map nV))=H2 at s2 O0 ⊢
 -- aq9 = []
 refine⟨aQ _,fun S hS =>?_⟩;dsimp only[b7];have hS0:H S=none:=s2.free hS;have hNS:N≠S:=fe O0 hS;have s3:=s2.trans (aD hS (.lst []));have LG:=(aD hS (.lst [])) _ _ O0;have hS3:=ak (H:=H2) (a:=S) (o := .lst []);generalize aC H2 S (.lst [])=H3 at s3 LG hS3 ⊢
 -- done = -1
 refine⟨1,O,?_⟩;dsimp only[b7];have mz0:=ail (bq ts.length (nX ts));rw[iF]at mz0;refine⟨LwI H o N S ts.length (nX ts) (WF ts ls) ls,⟨_,bq ts.length (nX ts), [], -1,none,none,none,none,O,s3,LG,hS3,QF,(by show (0:Int)+_<=_;omega),(by decide),(fun z=>absurd z (by decide)),O⟩,?_⟩;rintro m σ H4 ⟨ks,ss,dn,x4,x5,x6,x7,rfl,s4,FC,Fy,inv,hsm,hdn,nN,rfl⟩;have nn:=TL ks;refine⟨_,O,_,O,S,_,O,.inl (bw.of Fy),_,_,O,O,_,O,?_⟩;by_cases ef:dn < ((ss.length:Nat):Int);rotate_left
 ·rw[decide_eq_false ef];refine fC ⟨_,O,_,O,(show 2<=sizeLine by decide),fun p hp =>?_⟩;have sp:=aD hp (.tup [.ref N,.ref S]);exact q p N S ks _ (s4.trans sp) ak (sp _ _ FC)
 rw[decide_eq_true ef];refine gH ⟨LfI H o N S ts.length (nX ts) (WF ts ls) ls ss ks ts.length,?_,?_⟩
 ·rintro bJ H' ⟨kL,pA,x4,x5,x6,x7,rfl,sm,h1,h2,h3,h4,h5,h6,h7⟩;have nn':=TL kL;refine⟨_,?_,kL,pA,_,x4,x5,x6,x7,O,sm,h1,h2,h3,h4,by omega,fun z =>?_,O⟩
  ·rw[if_pos ef];by_cases hz:ss.length < pA.length
   ·have:=h7 hz;split <;> omega
   ·have e:pA.length=ss.length:=by omega
    rw[(h6 e).1,if_neg (by omega)];omega
  ·have:=h6 (by omega);rw[this.1];exact this.2
 -- xK body
 refine⟨_,O,S,_,O,.inl (bw.of Fy),?_⟩;dsimp only[b7];refine⟨_,O,o,C,dx,_,_,O,s4 _ _ ho,cK,nT,l1,A1,O,⟨us,bw.of (s4 _ _ mZ)⟩,?_⟩;refine tY (xs:=us) (LfI H o N S ts.length (nX ts) (WF ts ls) ls ss ks)
  ⟨ks,ss,x4,x5,x6,x7,O,s4,FC,Fy,inv,hsm,aw _,(fun _=>⟨O,fun k hk=>absurd hk (gf _)⟩),(fun z=>absurd z (e9 _))⟩ ?_ ?_ ?_
 ·rintro i σ H' _ ⟨kL,pA,x4,x5,x6,x7,rfl,sm,_⟩;exact bw.of (sm _ _ mZ)
 ·rintro i x a0 σ H' hx ⟨kL,pA,x4,x5,x6,x7,rfl,sm,RL,hS5,Ke,amv,pY,heq,hls⟩ zH;obtain⟨t,ht,hxt⟩:=rg dP hx;have hi:i < ts.length:=(aj.mp ht).1;have hik:i < kL.length:=by rw[Ke.len];exact hi
  have nn':=TL kL;have sn:=aD zH (.tup [.int (i:Int),x]);have s5:=sm.trans sn;have FA:=sn _ _ RL;have hS6:=sn _ _ hS5;refine⟨a0,_,O,aW.of ak,O,_,_,O,_,_,O,O,?_⟩;generalize aC H' a0 (.tup [.int (i:Int),x])=H6 at s5 FA hS6 sn ⊢;refine⟨_,O,_,O,N,_,_,_,O,O,bw.of FA,gat hik,_,O,o,dx,_,O,s5 _ _ ho,l4,_,O,_,O,R.worth (R.same hX s5) bO uL (hxt.same s5) ht FA Ke.len Ke.low ⟨((kL.getD i 0:Nat):Int),((WF ts ls kL i:Nat):Int),O,O,?_⟩⟩;dsimp only[b7];rw[ZY];show JC _ _ _ _ _ _;refine⟨_,O,_,O,_,O,N,_,_,_,O,O,bw.of FA,gat hik,O,_,O,ig (fun z =>?_) (fun z =>?_)⟩
  ·have kM:(kL.getD i 0 &&& WF ts ls kL i)≠kL.getD i 0:=fun e=>z (congrArg nV e);obtain⟨afd,hmz⟩:=TX uL uK Ke hi kM;refine⟨_,O,.inl ⟨O,_,bw.of hS6⟩,_,O,_,O,(show 2<=sizeLine by decide),fun MV afp =>?_⟩;generalize hff:(kL.getD i 0 &&& WF ts ls kL i)=RR at afd hmz afp ⊢;have st:=aD afp (.tup [.int (i:Int),nV RR]);have hS7:=st _ _ hS6;have hN7:=st _ _ FA;have s7:=s5.trans st;refine⟨S,_,_,O,O,hS7,aea (by omega),?_⟩;generalize aC H6 MV (.tup [.int (i:Int),nV RR])=H7 at hS7 hN7 s7 ⊢;have s8:=s7.put (o := .lst (pA ++ [.ref MV])) hS0;have hN8:(aC H7 S (.lst (pA ++ [.ref MV]))) N=some (.lst (kL.map nV)):=by rw[av hNS];exact hN7
   have hS8:=ak (H:=H7) (a:=S) (o := .lst (pA ++ [.ref MV]));generalize aC H7 S (.lst (pA ++ [.ref MV]))=H8 at s8 hN8 hS8 ⊢;refine⟨_,O,o,C,dx,_,_,O,s8 _ _ ho,cK,nL,l2,_,O,A2,ls,i,O,bw.of (s8 _ _ mY),by omega,by omega,fun M hM=>⟨M,O,⟨_,bw.of ak⟩,?_⟩⟩;have sM:=aD hM (.lst ((gy ls i).map nV));have s9:=s8.trans sM;have hN9:=sM _ _ hN8;have hS9:=sM _ _ hS8;have hM9:=ak (H:=H8) (a:=M) (o := .lst ((gy ls i).map nV));have hNM:N≠M:=fe hN8 hM;generalize aC H8 M (.lst ((gy ls i).map nV))=H9 at s9 hN9 hS9 hM9 sM ⊢;refine jm (xs:=(gy ls i).map nV) (fun j σ H'=>∃ x7:Option V, σ = [aa o,aa N,aa S,some (.int ((ss.length:Nat):Int)),some (.int (i:Int)),some x,some (nV RR),x7]∧a6 H H'∧H' M=some (.lst ((gy ls i).map nV))∧H' S=some (.lst (pA ++ [.ref MV])) ∧
     H' N=some (.lst ((nC ((gy ls i).take j) RR kL).map nV))) ⟨_,O,s9,hM9,hS9,by rw[kh,Yn];exact hN9⟩ ?_ ?_ ?_
   ·rintro j σ H' _ ⟨x7,rfl,sm,qR,_⟩;exact bw.of qR
   ·rintro j y σ H' hy ⟨x7,rfl,sm,qR,zL,DL⟩;rw[aJ]at hy;cases em:(gy ls i)[j]? with
    | none=>rw[em]at hy;cases hy
    | some mm =>
     rw[em]at hy;have e1:nV mm=y:=aP hy;subst e1;have hmm:=AJ.mp (aN em);have hmk:mm < kL.length:=by rw[Ke.len, <- uL];exact hmm.1
     dsimp only[b7];refine⟨_,O,_,O,_,O,N,_,_,mm,O,O,DL,?_,⟨_,O,sm.put amT,?_,?_,?_⟩⟩
     ·rw[ay,Ai];unfold Ii;rw[if_pos (by omega),if_pos (by omega),bP]
     ·rw[av hNM.symm];exact qR
     ·rw[av hNS.symm];exact zL
     ·rw[ak];show some (HO.lst (((nC ((gy ls i).take j) RR kL).map nV).set mm (nV RR)))=_;rw[Wb,Ym hmk,cW,em];rfl
   ·rintro σ H' ⟨x7,rfl,sm,qR,zL,DL⟩;rw[ay,du]at DL;refine⟨_,_,_,_,_,_,O,sm,DL,zL,afd,?_,?_,fun z =>?_,fun _ =>?_⟩
    ·rw[aO];show ((pA.length+1:Nat):Int)+_<=_;omega
    ·rw[aO];omega
    ·rw[aO]at z;have e1 : [V.ref MV].length=1:=rfl;omega
    ·by_cases hz:ss.length < pA.length
     ·have:=hls hz;omega
     ·have e:pA.length=ss.length:=by omega
      rw[(heq e).1]at hmz ⊢;omega
  ·have afP:(kL.getD i 0 &&& WF ts ls kL i)=kL.getD i 0:=by have:=V.int.inj z;omega
   refine⟨kL,pA,_,_,_,_,O,s5,FA,hS6,Ke,amv,pY,fun e=>⟨(heq e).1,fun k hk =>?_⟩,hls⟩;by_cases ek:k=i
   ·subst ek;rw[(heq e).1]at afP;exact afP
   ·exact(heq e).2 k (by omega)
 ·rintro σ H' ⟨kL,pA,x4,x5,x6,x7,rfl,sm,h1,h2,h3,h4,h5,h6,h7⟩;rw[qM]at h6;exact⟨kL,pA,x4,x5,x6,x7,O,sm,h1,h2,h3,h4,h5,h6,h7⟩
structure xj(CS:Addr)(H:Hp)(o:Addr)(ts:List Tm)(ls:List Nat):Prop where
 ex:∃ (dx A1 A2:Addr) (us:List V),H o=some (.ins CS dx [("terms",.ref A1),("leads",.ref A2)])∧H A1=some (.lst us)∧kO H us ts∧H A2=some (.lst (ls.map nV))
theorem xj.same{CS:Addr}(h:xj CS H o ts ls)(sm:a6 H H'):xj CS H' o ts ls:=by
 obtain⟨dx,A1,A2,us,a,b,c,d⟩:=h.ex;exact⟨dx,A1,A2,us,sm _ _ a,sm _ _ b,eN sm c,sm _ _ d⟩
def zz(ks:List Nat):List Int:=ks.map fun n:Nat=>(n:Int)
theorem adD(ks:List Nat):(zz ks).length=ks.length:=ay ..
theorem ahZ(ks:List Nat)(k:Nat):(zz ks).getD k 0=((ks.getD k 0:Nat):Int):=by
 unfold zz;rw[aU,aJ,aU];cases ks[k]? <;> rfl
theorem adC(ks:List Nat):(zz ks).map V.int=ks.map nV:=by unfold zz;rw[hU];rfl
def wSg(ts:List Tm)(ks:List Nat)(k:Nat):Nat:=match ts[k]? with | some t=>(BX (zz ks) t).toNat | none=>0
def wNm(ts:List Tm)(ls ks:List Nat)(k:Nat):Nat:=match ts[k]? with | some t=>Ho ts ls ks t | none=>0
theorem ahY(h:∀ i,r9 (ks.getD i 0) 7):LoL (zz ks):=fun i=>by
 show Lo ((zz ks).getD i 0);rw[ahZ];have:=Rm (h i);exact⟨by omega,by omega⟩
theorem R8(h:PB ts){k:Nat}(ht:ts[k]? = some t):∀ a∈abQ t,a < ts.length:=fun a ha=>by
 have hk:=(aj.mp ht).1;cases t with
 | num n=>cases ha
 | name n=>cases ha
 | of x as=>have:=h.1 k x as ht a ha;omega
theorem amb:aad CS (fun o ts ls H=>xj CS H o ts ls) (Ve CS) (Q0 K CS) (fun _=>7) (fun ts _ ks k=>wSg ts ks k):=by
 refine⟨fun h =>?_,fun h s=>h.same s,fun h _ q =>?_,fun h bO uL hv ht hL BC Iy q =>?_,fun _ _=>by decide⟩
 ·obtain⟨dx,A1,A2,us,a,b,c,d⟩:=h.ex;exact⟨dx,A1,A2,us,_,a,O,O,O,O,b,c,d⟩
 ·obtain⟨dx,A1,A2,us,a,b,c,d⟩:=h.ex;exact⟨_,dx,_,O,a,q⟩
 ·obtain⟨dx,A1,A2,us,a,b,c,d⟩:=h.ex
  rename_i o L ts ls ks H Q E v t k
  refine⟨o,dx,L,_,v,t,zz ks,O,a,hv,bw.of (by rw[adC];exact hL),(fun b hb=>by rw[adD,BC];exact R8 bO ht b hb),?_⟩;have e:nV (wSg ts ks k)=V.int (BX (zz ks) t):=by
   unfold wSg nV;rw[ht];exact congrArg V.int (Int.toNat_of_nonneg (X7 (ahY Iy) t).1)
  rw[<- e];exact q
theorem amc:aad CN (fun o ts ls H=>mv CN H o ts ls) (Vf CN) (Nb K CN) (fun ts=>2 ^ (df ts).length - 1) wNm:=by
 refine⟨fun h =>?_,fun h s=>h.same s,fun h iI q =>?_,fun h bO uL hv ht hL BC Iy q =>?_,fun ts iI =>?_⟩
 ·obtain⟨dx,A1,A2,A3,A4,A5,kb,ks,h1,h2,h3,h4,h5,h6,h7,us,h8,h9⟩:=h.ex;exact⟨dx,A1,A2,us,_,h1,O,O,O,O,h8,h9,h2⟩
 ·exact⟨_,_,_,O,h,iI,q⟩
 ·rename_i o L ts ls ks H Q E v t k
  refine⟨o,L,ts,ls,ks,v,t,k,O,h,bO.2.2,hv,bw.of hL,ht,(fun b hb=>by rw[BC];exact R8 bO ht b hb),(by omega),(fun x as e=>by rw[e]at ht;exact(bO.2.1 k x as ht).1),?_⟩;have e:wNm ts ls ks k=Ho ts ls ks t:=by unfold wNm;rw[ht]
  rw[<- e];exact q
 ·have h1:=GJ ts;have h2:2 ^ (df ts).length<=2 ^ 24:=iT (by decide) iI.2;have:=Jj (df ts).length;show 2 ^ (df ts).length - 1 < 2 ^ 24;omega
theorem G8.at_{H0:Hp}(h:G8 CN H0 H o ts ls):mv CN H o ts ls:=by
 obtain⟨dx,A1,A2,A3,A4,A5,kb,ks,h1,h2,h3,h4,h5,h6,h7,⟨us,h8,h9⟩,_⟩:=h.ex;exact⟨dx,A1,A2,A3,A4,A5,kb,ks,h1,h2,h3,h4,h5,h6,h7,us,h8,h9⟩
inductive PH(vs:List V)(H:Hp)(Q:VK):Prop
 | mk (T L:Addr) (us:List V) (ts:List Tm) (ls:List Nat) (ev:vs = [.ref T,.ref L]) (hT:H T=some (.lst us)) (dP:kO H us ts) (hL:H L=some (.lst (ls.map nV))) (ok:vj ts ls) (no:∀ t∈ts,UB t) (q:∀ R H',a6 H H'->H R=none->H' R=some (.lst [])->Q (.ref R) H'):PH vs H Q
def Vg:Sp:=fun vs H Q _=>PH vs H Q
theorem acR(oW:c7 P w K mg base 2 "marks" eU (EH P w))(kf:c7 P w K mg base 3 "node_numbers" eU Nd)(tR:c7 P w K mg base 3 "known_values" wc1 Q5)(D:Def K mg "sums" Nw eU):c7 P w K mg base 4 "sums" eU Vg:=by
 refine D.has zp (fun vs H Q E h =>?_) (fun f bU A outer s H vs Q E hr h =>?_)
 ·obtain⟨T,L,us,ts,ls,rfl,_⟩:=h;rfl
 obtain⟨T,L,us,ts,ls,rfl,hT,dP,hL,ok,no,q⟩:=h;refine⟨_,(au (bG (i:=2) zp.nd O (aM O) (bb oW hr (by omega) O (ae (pv 0) (ae (pv 1) aq))))
  (au (bG (i:=3) zp.nd O (aM O) (fu aq))
  (au (dM bX O (ja (bb kf hr (by omega) O (ae (pv 0) (ae (pv 1) aq)))) (bZ (i:=4) zp.nd O (aM O))
  (au (bG (i:=5) zp.nd O (aM O) (bb tR hr (by omega) O (ae (pv 0) (ae (pv 1) (ae (aV dy (pv 0) (pv 4) (fun _ _=>O)) aq)))))
  (ax (cA (br JU (pv 5) rC (bo _)) VL bD))))
  (ax (aZ (pv 3)))))),?_⟩
 try dsimp only[cG]
 refine⟨_,O,_,O,T,L,us,ts,ls,O,hT,dP,hL,ok,fun p kvs H1 s1 hp dn tb =>?_⟩;dsimp only[b7];refine⟨aQ _,fun R hR =>?_⟩;dsimp only[b7];have s2:=aD hR (.lst []);have zM:=ak (H:=H1) (a:=R) (o := .lst []);generalize aC H1 R (.lst [])=H2 at s2 zM ⊢;have g2:=s1.trans s2;refine⟨_,O,_,O,PM.mk T L us ts ls rfl (g2 _ _ hT) (eN g2 dP) (g2 _ _ hL) ok ok.iI fun N ns H3 s3 hN LG pm Na =>?_⟩;have hul:=bx dP;refine⟨N,O,⟨_,bw.of LG⟩,?_⟩;refine jm (xs:=ns.map nV) (fun i σ H'=>∃ x4 x5, σ = [aa T,aa L,aa p,aa R,x4,x5,none,none]∧H'=H3) ⟨none,none,O,O⟩ ?_ ?_ ?_
 ·rintro i σ H' _ ⟨x4,x5,rfl,rfl⟩;exact bw.of LG
 ·rintro i y σ H' hy ⟨x4,x5,rfl,rfl⟩;rw[aJ]at hy;obtain⟨k,hk,rfl⟩:=b8.mp hy;have BC:k < ts.length:=LK (pm.mem_iff.mp (aN hk));have hu:us[k]? = some (us[k]'(by omega)):=ah (by omega);generalize us[k]'(by omega)=u at hu;have g3:=g2.trans s3;obtain⟨tm,ht,qM⟩:=rg (eN g3 dP) hu;dsimp only[b7];refine⟨_,O,_,O,_,O,_,O,T,_,_,u,O,O,bw.of (g3 _ _ hT),aB (j:=k) hu,KP.mk _ _ u tm rfl qM (no tm (aN ht)) ?_⟩;dsimp only[b7];exact⟨_,O,O,_,O,ig (fun z=>absurd rfl z) (fun _=>⟨_,_,O,O⟩)⟩
 ·rintro σ H' ⟨x4,x5,rfl,rfl⟩;exact⟨_,O,q R _ (g2.trans s3) (s1.free hR) (s3 _ _ zM)⟩
def lL(b:Bd):List (Key × V):=b.map fun p=>((.inr p.1:Key),nV p.2)
theorem zP:∀ (b:Bd) (x:Str),cP (lL b) (.inr x)=(look b x).map nV
 | [],x=>rfl
 | p :: r,x=>by
  rw[look];show cP (((.inr p.1:Key),nV p.2) :: lL r) (.inr x)=_;by_cases e:p.1=x
  ·rw[if_pos e,ip (by rw[e])];rfl
  ·rw[if_neg e,iq (fun z=>e (y6 z)),zP r x]
theorem adm{b:Bd}(h:look b x=none):gm (lL b) (.inr x) (nV l)=lL (b ++ [(x,l)]):=by
 rw[Au _ (by rw[zP,h];rfl)];unfold lL;rw[cR];rfl
def m7(H:Hp)(vs:List V)(ws:List Bd):Prop:=Paired (fun v b=>∃ g,v=V.ref g∧H g=some (.dK (lL b))) vs ws
inductive XC(vs:List V)(H:Hp)(Q:VK):Prop
 | mk (lead:Nat) (x:Str) (G:Addr) (b:Bd) (z0:vs = [nV lead,.str x,.ref G]) (z1:H G=some (.dK (lL b))) (z2:b.length<=900) (z3:∀ R us H',a6 H H'->H R=none->H' R=some (.lst us)->m7 H' us (Iq lead x b)->Q (.ref R) H'):XC vs H Q
def Nh:Sp:=fun vs H Q _=>XC vs H Q
theorem N3(Pu:mg "dict" = none)(D:Def K mg "hole_ways" yH wb7):c7 P w K mg base 1 "hole_ways" wb7 Nh:=by
 refine D.has Cg (fun vs H Q E h =>?_) (fun f bU A outer s H vs Q E hr h =>?_)
 ·obtain⟨lead,x,G,b,rfl,_⟩:=h;rfl
 obtain⟨lead,x,G,b,rfl,hG,hb,q⟩:=h;refine⟨_,(au (cA (NQ (aes (lU hr) (pv 1) (pv 2)) (by with_unfolding_all rfl)) (ax (aZ (Ay (br d5 (qL (lU hr) (pv 2) (pv 1) (fun _ _=>O)) (pv 0) (bo _)) (fu (ae (pv 2) aq)) (fu aq)))) bD)
  (au (bG (i:=3) Cg.nd O (aM O) (fF Uv O Pu Uw (ae (pv 2) aq)))
  (au (EO (lU hr) (pv 3) (pv 1) (pv 0) O)
  (ax (aZ (fu (ae (pv 3) aq))))))),?_⟩
 try dsimp only[cG]
 have hg:=mP.k (k:=(.inr x:Key)) hG;rw[zP]at hg;unfold Iq at q;refine⟨_,O,_,O,G,_,O,hg,_,O,?_⟩;cases e:look b x with
 | some l =>
  rw[e]at hg q;refine gH ?_;dsimp only at q;refine⟨_,O,_,O,G,_,O,hg,_,O,O,_,O,cC (fun el =>?_) (fun el =>?_)⟩
  ·have el':l=lead:=by have:=V.int.inj el;omega
   rw[if_pos el']at q;refine⟨_,O,(show 1<=sizeLine by decide),fun R hR=>q R _ _ (aD hR _) hR ak (.cons ⟨G,O,aD hR _ _ _ hG⟩ .nil)⟩
  ·have el':l≠lead:=fun z=>el (by rw[z]);rw[if_neg el']at q;exact⟨aQ _,fun R hR=>q R _ _ (aD hR _) hR ak .nil⟩
 | none =>
  rw[e]at q;refine fC ?_;dsimp only at q;refine⟨_,O,G,_,O,hG,fun M hM =>?_⟩;dsimp only[b7];have DA:(lL b).length=b.length:=by unfold lL;rw[ay]
  refine⟨_,O,_,O,_,O,M,_,O,EA.k (k := .inr x) ak (dD (by omega)),?_⟩;have s1:a6 H (aC (aC H M (.dK (lL b))) M (.dK (gm (lL b) (.inr x) (nV lead)))):=fun c o h=>by rw[av (fe h hM),av (fe h hM)];exact h
  have FD:=ak (H:=aC H M (.dK (lL b))) (a:=M) (o := .dK (gm (lL b) (.inr x) (nV lead)));generalize aC (aC H M (.dK (lL b))) M (.dK (gm (lL b) (.inr x) (nV lead)))=H1 at s1 FD ⊢;rw[adm e]at FD;refine⟨_,O,(show 1<=sizeLine by decide),fun R hR=>q R _ _ (s1.trans (aD hR _)) ?_ ak (.cons ⟨M,O,aD hR _ _ _ FD⟩ .nil)⟩;cases e2:H R with
  | none=>rfl
  | some o=>have:=s1 _ _ e2;rw[hR]at this;cases this
theorem OG:∀ (xs ys:List T),T.jy (xs ++ ys)=T.jy xs ++ T.jy ys
 | [],ys=>rfl
 | x :: xs,ys=>by rw[eS,T.jy,T.jy,OG xs ys,a7]
theorem Ka:∀ (xs ys:List T),T.nJ (xs ++ ys)=T.nJ xs+T.nJ ys
 | [],ys=>by rw[gh,T.nJ,jB]
 | x :: xs,ys=>by rw[eS,T.nJ,T.nJ,Ka xs ys,jg]
theorem ZZ{ps:List T}{p:T}(h:ps[i]? = some p):(T.jy (ps.take i)).length+p.mV.length<=(T.jy ps).length∧T.nJ (ps.take i)+p.kn<=T.nJ ps:=by
 have hl:=(aj.mp h).1;have e:ps=ps.take i ++ (p :: ps.drop (i+1)):=by
  conv=>lhs;rw[<- cV i ps]
  rw[nR hl,(aj.mp h).2]
 have e1:=congrArg (fun z=>(T.jy z).length) e;have e2:=congrArg T.nJ e;simp only[OG,Ka,T.jy,T.nJ,aO]at e1 e2;exact⟨by omega,by omega⟩
theorem qH{ws:List Bd}(h:m7 H vs ws)(sm:a6 H H'):m7 H' vs ws:=Paired.g9 h fun v b ⟨g,e,hg⟩=>⟨g,e,sm _ _ hg⟩
theorem sG{ws:List Bd}(h:m7 H vs ws)(hR:H R=some (.lst us)):m7 (aC H R (.lst cL)) vs ws:=Paired.g9 h fun v b ⟨g,e,hg⟩=>⟨g,e,by rw[av (b9 hg hR nofun)];exact hg⟩
theorem AY{α β : Type}(f : α -> List β)(l:List α)(i:Nat):((l.take i).flatMap f).length<=(l.flatMap f).length:=by
 have e:((l.take i).flatMap f).length+((l.drop i).flatMap f).length=(l.flatMap f).length:=by rw[<- aO, <- gX,cV]
 omega
theorem qV{α β : Type}(f : α -> List β){l:List α}{x : α}(h:l[i]? = some x):(l.take (i+1)).flatMap f=(l.take i).flatMap f ++ f x:=by
 rw[cW,h,gX];show _ ++ (f x ++ [])=_;rw[cY]
theorem Rv(h:n<=1000000):n<=sizeLine:=bp h (by decide)
inductive ahz(P:Program)(w:World)(CM:Addr)(n:Nat)(vs:List V)(H:Hp)(Q:VK):Prop
 | mk (a dx Ta L S F:Addr) (us:List V) (ts:List Tm) (ls:List Nat) (lV:List (NK × V)) (kvs:List (Key × V)) (k:Nat) (v:V) (x:Str) (ps:List T) (G:Addr) (b:Bd)
  (z0:vs = [.ref a,nV k,v,.ref G]) (z1:E5 P w CM H a dx Ta L S F us ts ls lV kvs) (z2:vj ts ls) (z3:k < ts.length) (z4:dj H (.of x ps) v) (z5:T.fM ps<=n) (z6:H G=some (.dK (lL b))) (z7:b.length+(T.jy ps).length<=900)
  (z8:ts.length ^ T.nJ ps<=1000000) (z9:∀ R cL H',a6 H H'->H R=none->H' R=some (.lst cL)->m7 H' cL (wm ts ls k x ps b)->Q (.ref R) H'):ahz P w CM n vs H Q
def Yk(P:Program)(w:World)(CM:Addr)(n:Nat):Sp:=fun vs H Q _=>ahz P w CM n vs H Q
inductive ahA(P:Program)(w:World)(CM:Addr)(n:Nat)(vs:List V)(H:Hp)(Q:VK):Prop
 | mk (a dx Ta L S F:Addr) (us:List V) (ts:List Tm) (ls:List Nat) (lV:List (NK × V)) (kvs:List (Key × V)) (j:Nat) (v:V) (p:T) (G:Addr) (b:Bd)
  (z0:vs = [.ref a,nV (ls.getD j 0),v,.ref G]) (z1:E5 P w CM H a dx Ta L S F us ts ls lV kvs) (z2:vj ts ls) (z3:j < ts.length) (z4:dj H p v) (z5:p.depth<=n) (z6:H G=some (.dK (lL b))) (z7:b.length+p.mV.length<=900)
  (z8:ts.length ^ p.kn<=1000000) (z9:∀ R cL H',a6 H H'->H R=none->H' R=some (.lst cL)->m7 H' cL (ox ts ls (pZ ts ls) p (ls.getD j 0) b)->Q (.ref R) H'):ahA P w CM n vs H Q
def Tc(P:Program)(w:World)(CM:Addr)(n:Nat):Sp:=fun vs H Q _=>ahA P w CM n vs H Q
inductive CwI(H:Hp)(s0 s1 s2 s3:V)(W:Addr)(f:Nat->List Bd)(zs:List Nat)(i:Nat)(σ : St)(H':Hp):Prop
 | mk (x5:Option V) (us:List V):(σ = [some s0,some s1,some s2,some s3,some (.ref W),x5])->a6 H H'->H' W=some (.lst us)->m7 H' us ((zs.take i).flatMap f)->CwI H s0 s1 s2 s3 W f zs i σ H'
theorem Mq(B:iY mg)(Z:E3 K mg CM)(nh:c7 P w K mg base 1 "hole_ways" wb7 Nh)(p4:ic P w K mg base (2 * n+3) CM "term_ways" wa8 (Yk P w CM n))(D:gD K CM "class_ways" "Matcher.class_ways" rl wa2):ic P w K mg base (2 * n+4) CM "class_ways" wa2 (Tc P w CM (n+1)):=by
 have cM:=Z.cM;refine D.has uZ (fun vs H Q E h =>?_) (fun f bU A outer s H vs Q E hr h =>?_)
 ·obtain⟨a,dx,Ta,L,S,F,us,ts,ls,lV,kvs,j,v,p,G,b,rfl,_⟩:=h;rfl
 obtain⟨a,dx,Ta,L,S,F,us,ts,ls,lV,kvs,j,v,p,G,b,rfl,hM,ok,hj,hT,hd,hG,hb,hz,q⟩:=h;refine⟨_,(au (cA (br d5 (aV aY (pv 2) az (fun _ _=>O)) bN (bo _)) (ax (aZ (bb nh hr (by omega) O (ae (pv 1) (ae (aV aY (pv 2) az (fun _ _=>O)) (ae (pv 3) aq)))))) bD)
  (au (cA (br oP (aV aY (pv 2) az (fun _ _=>O)) bN (bo _)) (ax (aZ (Ay (br d5 (wA (sL hr) (bW (pv 0) O) (pv 2) ⟨O,O,O,O⟩) (pv 1) (bo _)) (fu (ae (pv 3) aq)) (fu aq)))) bD)
  (au (bG (i:=4) uZ.nd O (aM O) (fu aq))
  (au (dM dZ O (ja (qL (lU hr) (bW (pv 0) O) (pv 1) (fun _ _=>O))) (bZ (i:=5) uZ.nd O (aM O))
  (ax (eJ (jV bK iR iQ uI (pv 4) (ae (lP p4 cM hr (by omega) (AA fun _ _ _ z=>z) (pv 0) (ae (pv 5) (ae (pv 2) (ae (pv 3) aq)))) aq)))))
  (ax (aZ (pv 4))))))),?_⟩
 try dsimp only[cG]
 cases p with
 | any x =>
  rw[dj]at hT;obtain⟨t,rfl,h⟩:=hT;refine⟨_,O,t,_,0,_,O,O,aW.of h,aB (j:=0) rfl,O,_,O,cC (fun _ =>?_) (fun z=>absurd rfl z)⟩;rw[T.mV,gn]at hb;refine⟨_,O,_,O,t,_,1,_,O,O,aW.of h,aB (j:=1) rfl,_,O,_,x,G,b,O,hG,by omega,fun R cL H' sm hR BF wa=>q R cL H' sm hR BF (by rw[ox];exact wa)⟩
 | num m =>
  rw[dj]at hT;obtain⟨t,rfl,h⟩:=hT;refine⟨_,O,t,_,0,_,O,O,aW.of h,aB (j:=0) rfl,O,_,O,cC (fun z=>absurd (V.str.inj z) (by decide)) (fun _ =>?_)⟩;refine⟨_,O,t,_,0,_,O,O,aW.of h,aB (j:=0) rfl,O,_,O,ig (fun _ =>?_) (fun z=>absurd (V.str.inj z) (by decide))⟩;obtain⟨kb,ekb,nk⟩:=ix.key (t := .num m) (v := .ref t) (H:=H) ⟨t,O,h⟩;rw[ox]at q;refine⟨_,O,a,CM,dx,_,_,O,hM.ins,Z.cM,Z.zw,O,S,O,⟨_,hM.dn⟩,_,O,kb,_,_,ekb,hM.dn,nk,?_⟩;rw[QW hM.tab];cases e:JB ts ls (.num m) with
  | none =>
   rw[e,if_neg nofun]at q;exact⟨_,O,O,_,O,cC nofun (fun _=>⟨aQ _,fun R hR=>q R _ _ (aD hR _) hR ak .nil⟩)⟩
  | some l =>
   rw[e]at q;refine⟨_,O,O,_,O,cC (fun el =>?_) (fun el =>?_)⟩
   ·rw[if_pos (congrArg some (by have:=V.int.inj el;omega))]at q;exact⟨_,O,(show 1<=sizeLine by decide),fun R hR=>q R _ _ (aD hR _) hR ak (.cons ⟨G,O,aD hR _ _ _ hG⟩ .nil)⟩
   ·rw[if_neg (fun z=>el (by rw[aP z];rfl))]at q;exact⟨aQ _,fun R hR=>q R _ _ (aD hR _) hR ak .nil⟩
 | name m =>
  rw[dj]at hT;obtain⟨t,rfl,h⟩:=hT;refine⟨_,O,t,_,0,_,O,O,aW.of h,aB (j:=0) rfl,O,_,O,cC (fun z=>absurd (V.str.inj z) (by decide)) (fun _ =>?_)⟩;refine⟨_,O,t,_,0,_,O,O,aW.of h,aB (j:=0) rfl,O,_,O,ig (fun _ =>?_) (fun z=>absurd (V.str.inj z) (by decide))⟩;obtain⟨kb,ekb,nk⟩:=ix.key (t := .name m) (v := .ref t) (H:=H) ⟨t,O,h⟩;rw[ox]at q;refine⟨_,O,a,CM,dx,_,_,O,hM.ins,Z.cM,Z.zw,O,S,O,⟨_,hM.dn⟩,_,O,kb,_,_,ekb,hM.dn,nk,?_⟩;rw[QW hM.tab];cases e:JB ts ls (.name m) with
  | none =>
   rw[e,if_neg nofun]at q;exact⟨_,O,O,_,O,cC nofun (fun _=>⟨aQ _,fun R hR=>q R _ _ (aD hR _) hR ak .nil⟩)⟩
  | some l =>
   rw[e]at q;refine⟨_,O,O,_,O,cC (fun el =>?_) (fun el =>?_)⟩
   ·rw[if_pos (congrArg some (by have:=V.int.inj el;omega))]at q;exact⟨_,O,(show 1<=sizeLine by decide),fun R hR=>q R _ _ (aD hR _) hR ak (.cons ⟨G,O,aD hR _ _ _ hG⟩ .nil)⟩
   ·rw[if_neg (fun z=>el (by rw[aP z];rfl))]at q;exact⟨aQ _,fun R hR=>q R _ _ (aD hR _) hR ak .nil⟩
 | of x ps =>
  have hT0:=hT;rw[dj]at hT;obtain⟨t,c,kN,rfl,h,hc,dP⟩:=hT;rw[T.depth]at hd;have hz0:=hz;rw[T.kn]at hz;rw[T.mV]at hb;have hN:1<=ts.length:=by omega
  have Ww:ts.length ^ T.nJ ps<=1000000:=bp (iT hN (Jk _ _)) hz;refine⟨_,O,t,_,0,_,O,O,aW.of h,aB (j:=0) rfl,O,_,O,cC (fun z=>absurd (V.str.inj z) (by decide)) (fun _ =>?_)⟩;refine⟨_,O,t,_,0,_,O,O,aW.of h,aB (j:=0) rfl,O,_,O,ig (fun z=>absurd rfl z) (fun _ =>?_)⟩;refine⟨aQ _,fun W hW =>?_⟩;dsimp only[b7];have s0:=aD hW (.lst []);have WN:=ak (H:=H) (a:=W) (o := .lst []);generalize aC H W (.lst [])=H0 at s0 WN ⊢;have vA:=hM.same s0;obtain⟨zs,ezs⟩:=ade ok.len ok.vg (ah hj);have ehd:pZ ts ls (ls.getD j 0)=zs:=by unfold pZ;rw[ezs];rfl
  rcases hM.rows.look (ls.getD j 0) with⟨_,e2⟩ | ⟨l,zs',e1,e2,hl⟩
  ·rw[ezs]at e2;cases e2
  rw[ezs]at e2;cases e2;have hg:=mP.k (k:=(.inl ((ls.getD j 0:Nat):Int):Key)) vA.hF;rw[e1]at hg;have hcl:=Xi (ts:=ts) (ls:=ls) (hd:=pZ ts ls) hN (fun l=>OQ l) (.of x ps) (ls.getD j 0) b;rw[ag6,ehd]at hcl q;refine⟨_,O,a,CM,dx,_,_,O,vA.ins,Z.cM,Z.We,O,_,O,F,_,O,hg,l,O,⟨_,bw.of (s0 _ _ hl)⟩,?_⟩;refine jm (xs:=zs.map nV) (CwI H (.ref a) (nV (ls.getD j 0)) (.ref t) (.ref G) W (fun k=>wm ts ls k x ps b) zs) ⟨none, [],O,s0,WN,.nil⟩ ?_ ?_ ?_
  ·rintro i σ H' _ ⟨x5,cL,rfl,sm,DI,wa⟩;exact bw.of (sm _ _ hl)
  ·rintro i y σ H' hy ⟨x5,cL,rfl,sm,DI,wa⟩;rw[aJ]at hy;obtain⟨k,hk,rfl⟩:=b8.mp hy;obtain⟨u,hu,_⟩:=(WH ok.len ok.vg).at_ (ls.getD j 0) k (by rw[ehd];exact aN hk);have qR:=hM.same sm;refine⟨_,O,.inl ⟨O,_,bw.of DI⟩,_,O,a,dx,_,O,qR.ins,O,_,O,_,O,_,O,a,dx,Ta,L,S,F,us,ts,ls,lV,kvs,k,_,x,ps,G,b,O,qR,ok,(aj.mp hu).1,iZ (fun c ys e=>sm _ _ e) hT0,by omega,sm _ _ hG,hb,Ww,fun R Br H2 s2 hR zM UR =>?_⟩;have OY:=s2 _ _ DI;have l1:=bx wa;have l2:=bx UR;have l3:=AY (fun k=>wm ts ls k x ps b) zs (i+1);rw[qV _ hk,aO]at l3;refine⟨W,R,_,_,O,O,OY,zM,Rv (by omega),⟨_,_,O,(sm.trans s2).put hW,ak,?_⟩⟩;rw[qV _ hk];exact ju (sG (qH wa s2) OY) (sG UR OY)
  ·rintro σ H' ⟨x5,cL,rfl,sm,DI,wa⟩;rw[ay,du]at wa;exact⟨_,O,q W cL H' sm hW DI wa⟩
inductive TwI(H:Hp)(s0 s1 s2 s3 s4:V)(ts:List Tm)(ls:List Nat)(ps:List T)(as:List Nat)(b:Bd)(i:Nat)(σ : St)(H':Hp):Prop
 | mk (Wd:Addr) (us:List V) (x6 x7 x8 x9:Option V):(σ = [some s0,some s1,some s2,some s3,some s4,some (.ref Wd),x6,x7,x8,x9])->a6 H H'->H Wd=none->H' Wd=some (.lst us)->m7 H' us (FK ts ls ps as b i)->TwI H s0 s1 s2 s3 s4 ts ls ps as b i σ H'
inductive TwJ(H:Hp)(s0 s1 s2 s3 s4 s6 s7:V)(Wd Lg:Addr)(us:List V)(f:Bd->List Bd)(ws:List Bd)(i:Nat)(σ : St)(H':Hp):Prop
 | mk (cL:List V) (x9:Option V):(σ = [some s0,some s1,some s2,some s3,some s4,some (.ref Wd),some s6,some s7,some (.ref Lg),x9])->a6 H H'->H' Wd=some (.lst us)->m7 H' us ws->H' Lg=some (.lst cL)->m7 H' cL ((ws.take i).flatMap f)->TwJ H s0 s1 s2 s3 s4 s6 s7 Wd Lg us f ws i σ H'
theorem Dh(B:iY mg)(Bb:mg "zip" = none)(Z:E3 K mg CM)(wZ:ic P w K mg base (2 * n+2) CM "class_ways" wa2 (Tc P w CM n))(D:gD K CM "term_ways" "Matcher.term_ways" uo wa8):ic P w K mg base (2 * n+3) CM "term_ways" wa8 (Yk P w CM n):=by
 have cM:=Z.cM;refine D.has jw (fun vs H Q E h =>?_) (fun f bU A outer s H vs Q E hr h =>?_)
 ·obtain⟨a,dx,Ta,L,S,F,us,ts,ls,lV,kvs,k,v,x,ps,G,b,rfl,_⟩:=h;rfl
 obtain⟨a,dx,Ta,L,S,F,us,ts,ls,lV,kvs,k,v,x,ps,G,b,rfl,hM,ok,hk,hT,hd,hG,hb,hz,q⟩:=h;refine⟨_,(au (bG (i:=4) jw.nd O (aM O) (aV dy (bW (pv 0) O) (pv 1) (fun _ _=>O)))
  (au (cA (PW.pt (pw_or (br oP (aV aY (pv 4) az (fun _ _=>O)) bN (bo _)) (pw_or (br oP (aV aY (pv 4) az (fun _ _=>O)) (aV aY (pv 2) az (fun _ _=>O)) (bo _)) (pw_or1 (br oP (dz cX O B.jK cn (ae (aV aY (pv 4) az (fun _ _=>O)) aq)) (dz cX O B.jK cn (ae (aV aY (pv 2) az (fun _ _=>O)) aq)) (bo _)))))) (ax (aZ (fu aq))) bD)
  (au (bG (i:=5) jw.nd O (aM O) (fu (ae (pv 3) aq)))
  (au (dM dZ O (acH O Bb (ae (aV aY (pv 4) az (fun _ _=>O)) (ae (aV aY (pv 2) az (fun _ _=>O)) aq))) (rB O (fi (bZ (i:=6) jw.nd O (aM O)) (fi (bZ (i:=7) jw.nd O (aM O)) oN)))
  (au (bG (i:=8) jw.nd O (aM O) (fu aq))
  (au (dM dZ O (ja (pv 5)) (bZ (i:=9) jw.nd O (aM O))
  (ax (eJ (jV bK iR iQ uI (pv 8) (ae (lP wZ cM hr (by omega) (AA fun _ _ _ z=>z) (pv 0) (ae (aV dy (bW (pv 0) O) (pv 6) (fun _ _=>O)) (ae (pv 7) (ae (pv 9) aq)))) aq)))))
  (ax (bG (i:=5) jw.nd O (aM O) (pv 8))))))
  (ax (aZ (pv 5))))))),?_⟩
 try dsimp only[cG]
 rw[dj]at hT;obtain⟨t,c,kN,rfl,h,hc,dP⟩:=hT;have Iz:=sO dP;have hul:=bx hM.tms;have hu:us[k]? = some (us[k]'(by omega)):=ah (by omega);generalize us[k]'(by omega)=u at hu;obtain⟨tm,ht,qM⟩:=rg hM.tms hu;have hN:1<=ts.length:=by omega
 refine⟨_,O,a,CM,dx,_,_,O,hM.ins,Z.cM,Z.gM,O,_,O,Ta,_,_,u,O,O,bw.of hM.hT,aB (j:=k) hu,?_⟩;dsimp only[b7];have MC:wm ts ls k x ps b = []->∀ R cL H',a6 H H'->H R=none->H' R=some (.lst cL)->cL = []->Q (.ref R) H':=fun e R cL H' sm hR BF eu=>q R cL H' sm hR BF (by rw[e,eu];exact .nil);cases tm with
 | num m =>
  obtain⟨ta,rfl,Ds⟩:=qM;refine⟨_,O,ta,_,0,_,O,O,aW.of Ds,aB (j:=0) rfl,O,_,O,ig (fun _=>gH ?_) (fun z=>absurd (V.str.inj z) (by decide))⟩;exact⟨aQ _,fun R hR=>MC (by unfold wm;rw[ht]) R _ _ (aD hR _) hR ak rfl⟩
 | name m =>
  obtain⟨ta,rfl,Ds⟩:=qM;refine⟨_,O,ta,_,0,_,O,O,aW.of Ds,aB (j:=0) rfl,O,_,O,ig (fun _=>gH ?_) (fun z=>absurd (V.str.inj z) (by decide))⟩;exact⟨aQ _,fun R hR=>MC (by unfold wm;rw[ht]) R _ _ (aD hR _) hR ak rfl⟩
 | of y as =>
  obtain⟨ta,tb,rfl,Ds,htb⟩:=qM;have et:wm ts ls k x ps b=if y=x∧as.length=ps.length then pD ts ls (pZ ts ls) ps as [b] else []:=by unfold wm;rw[ht]
  refine⟨_,O,ta,_,0,_,O,O,aW.of Ds,aB (j:=0) rfl,O,_,O,ig (fun z=>absurd rfl z) (fun _ =>?_)⟩;refine⟨_,O,ta,_,1,_,O,O,aW.of Ds,aB (j:=1) rfl,_,O,t,_,1,_,O,O,aW.of h,aB (j:=1) rfl,O,_,O,ig (fun ex=>gH ?_) (fun ex =>?_)⟩
  ·exact⟨aQ _,fun R hR=>MC (by rw[et,if_neg (fun z=>ex (by rw[z.1]))]) R _ _ (aD hR _) hR ak rfl⟩
  have ex:=V.str.inj ex;refine⟨_,O,ta,_,2,_,O,O,aW.of Ds,aB (j:=2) rfl,tb,_,O,.inr (aW.of htb),_,O,t,_,2,_,O,O,aW.of h,aB (j:=2) rfl,c,_,O,.inr (aW.of hc),O,_,O,ig (fun el =>?_) (fun el =>?_)⟩
  ·refine⟨aQ _,fun R hR=>MC ?_ R _ _ (aD hR _) hR ak rfl⟩;rw[et,if_neg (fun z=>el ?_)];rw[ay,z.2,Iz]
  have el:as.length=ps.length:=by
   have:=V.int.inj el;rw[ay]at this;omega
  rw[et,if_pos ⟨ex,el⟩]at q;refine⟨_,O,(show 1<=sizeLine by decide),fun Wd DH =>?_⟩;dsimp only[b7];have s0:=aD DH (.lst [.ref G]);have WN:=ak (H:=H) (a:=Wd) (o := .lst [.ref G]);generalize aC H Wd (.lst [.ref G])=H0 at s0 WN ⊢;refine⟨_,O,ta,_,2,_,O,O,aW.of (s0 _ _ Ds),aB (j:=2) rfl,_,O,t,_,2,_,O,O,aW.of (s0 _ _ h),aB (j:=2) rfl,tb,c,_,_,O,aW.of (s0 _ _ htb),aW.of (s0 _ _ hc),?_⟩;refine ZC (xs:=as.map nV) (ys:=kN) (by rw[ay];omega) (TwI H (.ref a) (nV k) (.ref t) (.ref G) (.ref ta) ts ls ps as b) ⟨Wd,_,none,none,none,none,O,s0,DH,WN,?_⟩ ?_ ?_ ?_
  ·unfold FK;rw[kh,pD];exact .cons ⟨G,O,s0 _ _ hG⟩ .nil
  ·rintro i σ H' _ ⟨Wd,cL,x6,x7,x8,x9,rfl,sm,_⟩;exact⟨aW.of (sm _ _ htb),aW.of (sm _ _ hc)⟩
  ·rintro i vx vy p0 σ H' hx hy ⟨Wd,cL,x6,x7,x8,x9,rfl,sm,DH,DI,wa⟩ hp0;rw[aJ]at hx;obtain⟨m,hm,rfl⟩:=b8.mp hx;obtain⟨p,hp,hpy⟩:=wk dP hy;have s1:=aD hp0 (.tup [nV m,vy]);have g1:=sm.trans s1;have hW1:=s1 _ _ DI;have wa1:=qH wa s1;refine⟨p0,_,O,aW.of ak,O,_,_,O,_,_,O,O,?_⟩;generalize aC H' p0 (.tup [nV m,vy])=H1 at s1 g1 hW1 wa1 ⊢;refine⟨aQ _,fun Lg hLg =>?_⟩;dsimp only[b7];have agh:H Lg=none:=g1.free hLg;have s2:=aD hLg (.lst []);have qS:=ak (H:=H1) (a:=Lg) (o := .lst []);have g2:=g1.trans s2;have OY:=s2 _ _ hW1;have UR:=qH wa1 s2;have nWL:Wd≠Lg:=fun z=>by rw[z,hLg]at hW1;cases hW1
   generalize aC H1 Lg (.lst [])=H2 at s2 qS g2 OY UR ⊢;have hml:m < ts.length:=by have:=(ok.at ht y as rfl).2 m (aN hm);have:=ok.len;omega
   obtain⟨hh,hkn⟩:=ZZ hp;have hzp:ts.length ^ p.kn<=1000000:=bp (iT hN (by omega)) hz;have aa3:=Z0 (ts:=ts) (ls:=ls) (b:=b) hp hm;have eO:(FK ts ls ps as b (i+1)).length<=1000000:=by
    unfold FK;refine bp (IW hN (fun l=>OQ l) _ _ _) ?_;rw[gn,FO,cW,hp,Ka];refine bp (iT hN ?_) hz;show _+(p.kn+0)<=_;omega
   rw[aa3]at eO;refine⟨_,O,Wd,O,⟨_,bw.of OY⟩,?_⟩;refine jm (xs:=cL) (TwJ H (.ref a) (nV k) (.ref t) (.ref G) (.ref ta) (nV m) vy Wd Lg cL (fun v=>ox ts ls (pZ ts ls) p (ls.getD m 0) v) (FK ts ls ps as b i)) ⟨[],_,O,g2,OY,UR,qS,.nil⟩ ?_ ?_ ?_
   ·rintro j σ H' _ ⟨Br,x9,rfl,sm,DI,_⟩;exact bw.of DI
   ·rintro j vw σ H3 hj ⟨Br,x9,rfl,HH,hW3,wa3,DM,UP⟩;obtain⟨bj,RH,g,rfl,hg⟩:=Paired.at wa3 hj;have hM3:=hM.same HH;obtain⟨b0,hb0,hsz⟩:=Ky (ts:=ts) (ls:=ls) (hd:=pZ ts ls) (ps.take i) (as:=as) (ws := [b]) (w:=bj) (aN RH);rw[a8.mp hb0]at hsz;have vz:ls[m]? = some (ls.getD m 0):=getD_at (by have:=ok.len;omega);refine⟨_,O,.inl ⟨O,_,bw.of DM⟩,_,O,a,dx,_,O,hM3.ins,O,_,O,a,CM,dx,_,_,O,hM3.ins,Z.cM,Z.ma,O,_,O,L,_,_,_,O,O,bw.of hM3.hL,gG vz,_,O,_,O,
     a,dx,Ta,L,S,F,us,ts,ls,lV,kvs,m,vy,p,g,bj,O,hM3,ok,hml,iZ (fun c ys e=>HH _ _ e) hpy,bp (o9 (aN hp)) hd,hg,by omega,hzp,fun R us4 H4 s4 hR Fz wa4 =>?_⟩
    have O2:=s4 _ _ DM;have l1:=bx UP;have l2:=bx wa4;have l3:=AY (fun v=>ox ts ls (pZ ts ls) p (ls.getD m 0) v) (FK ts ls ps as b i) (j+1);rw[qV _ RH,aO]at l3;refine⟨Lg,R,_,_,O,O,O2,Fz,Rv (by omega),⟨_,_,O,(HH.trans s4).put agh,?_,sG (qH wa3 s4) O2,ak,?_⟩⟩
    ·rw[av nWL];exact s4 _ _ hW3
    ·rw[qV _ RH];exact ju (sG (qH UP s4) O2) (sG wa4 O2)
   ·rintro σ H3 ⟨Br,x9,rfl,HH,hW3,wa3,DM,UP⟩;have e3:=bx wa3;rw[e3,du, <- aa3]at UP;exact⟨_,O,Lg,Br,_,_,_,_,O,HH,agh,DM,UP⟩
  ·rintro σ H' ⟨Wd,cL,x6,x7,x8,x9,rfl,sm,DH,DI,wa⟩;unfold FK at wa;rw[ay,el,du]at wa;exact⟨_,O,q Wd cL H' sm DH DI wa⟩
theorem Rj(B:iY mg)(Bb:mg "zip" = none)(Z:E3 K mg CM)(nh:c7 P w K mg base 1 "hole_ways" wb7 Nh)(Dc:gD K CM "class_ways" "Matcher.class_ways" rl wa2)(Dt:gD K CM "term_ways" "Matcher.term_ways" uo wa8):∀ n,ic P w K mg base (2 * n+2) CM "class_ways" wa2 (Tc P w CM n)
 | 0=>by
  obtain⟨fa,fd,F,hm,hb⟩:=Dc.ex;have no:∀ vs H Q E, ¬ Tc P w CM 0 vs H Q E:=fun vs H Q E h=>by
   obtain⟨a,dx,Ta,L,S,F,us,ts,ls,lV,kvs,j,v,p,G,b,_,_,_,_,_,z,_⟩:=h;have:=uO p;omega
  exact⟨fa,fd,⟨fun vs H Q E h=>absurd h (no vs H Q E),fun A outer s H args us vs Q E _ _ _ _ h=>absurd h (no vs H Q E)⟩,hm,hb⟩
 | n+1=>Mq B Z nh (Dh B Bb Z (Rj B Bb Z nh Dc Dt n) Dt) Dc
def anK(H:Hp)(u:V)(r:Nat × Bd):Prop := ∃ p g,u = .ref p∧H p=some (.tup [nV r.1,.ref g])∧H g=some (.dK (lL r.2))
abbrev ym(H:Hp):List V->List (Nat × Bd)->Prop:=Paired (anK H)
theorem rp(h:ym H us rs)(sm:a6 H H'):ym H' us rs:=Paired.g9 h fun _ _ ⟨p,g,e,h1,h2⟩=>⟨p,g,e,sm _ _ h1,sm _ _ h2⟩
theorem Le{pT:List V}(h:ym H us rs)(hR:H R=some (.lst vs)):ym (aC H R (.lst pT)) us rs:=Paired.g9 h fun _ _ ⟨p,g,e,h1,h2⟩ =>
 ⟨p,g,e,by rw[av (b9 h1 hR nofun)];exact h1,by rw[av (b9 h2 hR nofun)];exact h2⟩
def Dn(ts:List Tm)(ls:List Nat)(x:Str)(ps:List T)(k:Nat):List (Nat × Bd):=(wm ts ls k x ps []).map fun v=>(k,v)
theorem adS(hN:1<=ts.length)(x:Str)(ps:List T)(k:Nat)(b:Bd):(wm ts ls k x ps b).length<=ts.length ^ T.nJ ps:=by
 unfold wm;split
 ·split
  ·refine bp (IW hN (fun l=>OQ l) _ _ _) ?_;rw[gn,FO];exact aw _
  ·exact aQ _
 ·exact aQ _
inductive Ea(vs:List V)(H:Hp)(Q:VK):Prop
 | mk (Ta L:Addr) (us:List V) (ts:List Tm) (ls:List Nat) (v:V) (x:Str) (ps:List T) (z0:vs = [.ref Ta,.ref L,v]) (z1:H Ta=some (.lst us)) (z2:kO H us ts) (z3:H L=some (.lst (ls.map nV))) (z4:vj ts ls) (z5:ts.length<=900) (z6:1<=ts.length)
  (z7:dj H (.of x ps) v) (z8:T.fM ps<=3) (z9:(T.jy ps).length<=900) (UL:ts.length ^ (1+T.nJ ps)<=1000000)
  (UK:∀ (R:Addr) (cL:List V) (ns:List Nat) (H':Hp),a6 H H'->H R=none->H' R=some (.lst cL)->ns.Perm (dQ (ts.map (mk ls)) ts.length)->ns.Pairwise (· <= ·)->ym H' cL (ns.flatMap (Dn ts ls x ps))->Q (.ref R) H'):Ea vs H Q
def La:Sp:=fun vs H Q _=>Ea vs H Q
inductive MxI(H1:Hp)(s0 s1 s2 s3:V)(Fd N:Addr)(f:Nat->List (Nat × Bd))(ns:List Nat)(i:Nat)(σ : St)(H':Hp):Prop
 | mk (us:List V) (x5 x6:Option V):(σ = [some s0,some s1,some s2,some s3,some (.ref Fd),x5,x6])->a6 H1 H'->H' N=some (.lst (ns.map nV))->H' Fd=some (.lst us)->ym H' us ((ns.take i).flatMap f)->MxI H1 s0 s1 s2 s3 Fd N f ns i σ H'
inductive MxJ(H1:Hp)(s0 s1 s2 s3:V)(k:Nat)(Fd N R:Addr)(ns:List Nat)(rs:List (Nat × Bd))(Br:List V)(ws:List Bd)(i:Nat)(σ : St)(H':Hp):Prop
 | mk (us:List V) (x6:Option V):(σ = [some s0,some s1,some s2,some s3,some (.ref Fd),some (nV k),x6])->a6 H1 H'->H' N=some (.lst (ns.map nV))->H' R=some (.lst Br)->m7 H' Br ws->H' Fd=some (.lst us)->ym H' us (rs ++ (ws.take i).map fun v=>(k,v)) ->
   MxJ H1 s0 s1 s2 s3 k Fd N R ns rs Br ws i σ H'
theorem Tw(Z:E3 K mg CM)(tU:pO P w K mg base 3 "Matcher" CM bh (Q4 P w CM))(kf:c7 P w K mg base 3 "node_numbers" eU Nd)(p4:ic P w K mg base 9 CM "term_ways" wa8 (Yk P w CM 3))(D:Def K mg "matches" Cj wc0):c7 P w K mg base 10 "matches" wc0 La:=by
 have cM:=Z.cM;refine D.has rk (fun vs H Q E h =>?_) (fun f bU A outer s H vs Q E hr h =>?_)
 ·obtain⟨Ta,L,us,ts,ls,v,x,ps,rfl,_⟩:=h;rfl
 obtain⟨Ta,L,us,ts,ls,v,x,ps,rfl,hT,dP,hL,ok,h60,hN,hP,hdp,zF,hz,q⟩:=h;refine⟨_,(au (bG (i:=3) rk.nd O (aM O) (qp tU hr (by omega) gw O (ae (pv 0) (ae (pv 1) aq))))
  (au (bG (i:=4) rk.nd O (aM O) (fu aq))
  (au (dM bX O (ja (bb kf hr (by omega) O (ae (pv 0) (ae (pv 1) aq)))) (bZ (i:=5) rk.nd O (aM O))
  (ax (dM bX O (ja (lP p4 cM hr (by omega) gw (pv 3) (ae (pv 5) (ae (pv 2) (ae wB aq))))) (bZ (i:=6) rk.nd O (aM O))
  (ax (eJ (jV bK cy cx fX (pv 4) (ae (dX (ae (pv 5) (ae (pv 6) aq))) aq)))))))
  (ax (aZ (pv 4)))))),?_⟩
 try dsimp only[cG]
 have Ww:ts.length ^ T.nJ ps<=1000000:=bp (iT hN (Jk _ _)) hz;refine⟨_,O,_,O,fun a dx zH amN kM =>?_⟩;have nn:∀ c o,H c=some o->c≠a∧c≠dx:=fun c o e=>⟨fe e zH,fe e amN⟩;have up:a6 H (aC (aC H dx (.own a)) a (.ins CM dx [])):=fun c o e=>by rw[av (nn c o e).1,av (nn c o e).2];exact e
 refine⟨a,dx,Ta,L,us,ts,ls,O,ak,up _ _ hT,eN up dP,up _ _ hL,ok,fun H1 S F lV kvs bt hM=>⟨O,?_⟩⟩;dsimp only[b7];have s1:a6 H H1:=fun c o e=>bt c o (nn c o e).1 (up c o e);clear up nn bt;refine⟨aQ _,fun Fd RN =>?_⟩;dsimp only[b7];have s2:=aD RN (.lst []);have IG:=ak (H:=H1) (a:=Fd) (o := .lst []);generalize aC H1 Fd (.lst [])=H2 at s2 IG ⊢;have g2:=s1.trans s2;refine⟨_,O,_,O,Ta,L,us,ts,ls,O,g2 _ _ hT,eN g2 dP,g2 _ _ hL,ok,h60,fun N ns H3 s3 O0 LG pm Na =>?_⟩;have nNF:N≠Fd:=fun z=>by rw[z,IG]at O0;cases O0
 have arA:H1 N=none:=s2.free O0;have eO:(ns.flatMap (Dn ts ls x ps)).length<=1000000:=by
  refine bp (AZ (n:=ts.length ^ T.nJ ps) fun k _ =>?_) ?_
  ·unfold Dn;rw[ay];exact adS hN x ps k []
  ·refine bp (r8 _ ?_) (by rw[FN,FL]at hz;exact hz);rw[pm.length_eq];exact rQ _ _
 refine⟨N,O,⟨_,bw.of LG⟩,?_⟩;refine jm (xs:=ns.map nV) (MxI H1 (.ref Ta) (.ref L) v (.ref a) Fd N (Dn ts ls x ps) ns) ⟨[],none,none,O,s2.trans s3,LG,s3 _ _ IG,.nil⟩ ?_ ?_ ?_
 ·rintro i σ H' _ ⟨cL,x5,x6,rfl,sm,DL,_⟩;exact bw.of DL
 ·rintro i y σ H' hy ⟨cL,x5,x6,rfl,sm,DL,w6,rm⟩;rw[aJ]at hy;obtain⟨k,hk,rfl⟩:=b8.mp hy;have BC:k < ts.length:=LK (pm.mem_iff.mp (aN hk));have qR:=hM.same sm;dsimp only[b7];refine⟨_,O,a,dx,_,O,qR.ins,O,_,O,_,O,fun G hG =>?_⟩;have s4:=aD hG (.dK []);have hG4:=ak (H:=H') (a:=G) (o := .dK []);have g4:=sm.trans s4;have FC:=s4 _ _ DL;have DP:=s4 _ _ w6;have rm4:=rp rm s4;generalize aC H' G (.dK [])=H4 at s4 hG4 g4 FC DP rm4 ⊢;refine⟨a,dx,Ta,L,S,F,us,ts,ls,lV,kvs,k,v,x,ps,G, [],O,hM.same g4,ok,BC,iZ (fun c ys e=>g4 _ _ (s1 _ _ e)) hP,hdp,hG4,by rw[jG];omega,Ww,fun R Br H5 s5 hR WR wa5 =>?_⟩;have l1:=AY (Dn ts ls x ps) ns (i+1);rw[qV _ hk,aO]at l1;have hRF:R≠Fd:=fun z=>by rw[z,DP]at hR;cases hR
  have hRN:N≠R:=fun z=>by rw[<- z,FC]at hR;cases hR
  have arF:(Dn ts ls x ps k).length=(wm ts ls k x ps []).length:=by unfold Dn;rw[ay]
  refine⟨R,O,⟨_,bw.of WR⟩,?_⟩;refine jm (xs:=Br) (MxJ H1 (.ref Ta) (.ref L) v (.ref a) k Fd N R ns ((ns.take i).flatMap (Dn ts ls x ps)) Br (wm ts ls k x ps [])) ⟨cL,_,O,g4.trans s5,s5 _ _ FC,WR,wa5,s5 _ _ DP,?_⟩ ?_ ?_ ?_
  ·rw[kh,fS,cY];exact rp rm4 s5
  ·rintro j σ H' _ ⟨us3,x6,rfl,sm,DL,BF,_⟩;exact bw.of BF
  ·rintro j vw σ H6 hj ⟨us3,x6,rfl,sm6,FA,RK,wa6,hF6,VC⟩;obtain⟨bj,RH,g,rfl,hg⟩:=Paired.at wa6 hj;have jl:=(aj.mp RH).1;have l2:=bx VC;rw[aO,ay,cf,gS (ky jl)]at l2;dsimp only[b7];refine⟨_,O,.inl ⟨O,_,bw.of hF6⟩,_,O,_,O,(show 2<=sizeLine by decide),fun p hp =>?_⟩;have s7:=aD hp (.tup [nV k,.ref g]);have hp7:=ak (H:=H6) (a:=p) (o := .tup [nV k,.ref g]);have DO:=s7 _ _ hF6;have OO:=s7 _ _ hg;have rm7:=rp VC s7;generalize aC H6 p (.tup [nV k,.ref g])=H7 at s7 hp7 DO OO rm7 ⊢;refine⟨Fd,_,_,O,O,DO,cu (m:=1000000) (by omega) (by decide),⟨_,_,O,(sm6.trans s7).put RN,?_,?_,sG (qH wa6 s7) DO,ak,?_⟩⟩
   ·rw[av nNF];exact s7 _ _ FA
   ·rw[av hRF];exact s7 _ _ RK
   ·rw[cW,RH,cR, <- a7];refine ju (Le rm7 DO) (.cons ⟨p,g,O,?_,?_⟩ .nil)
    ·rw[av (b9 hp7 DO nofun)];exact hp7
    ·rw[av (b9 OO DO nofun)];exact OO
  ·rintro σ H6 ⟨us3,x6,rfl,sm6,FA,RK,wa6,hF6,VC⟩;have e3:=bx wa6;rw[e3,du]at VC;refine⟨us3,_,_,O,sm6,FA,hF6,?_⟩;rw[qV _ hk];exact VC
 ·rintro σ H' ⟨cL,x5,x6,rfl,sm,DL,w6,rm⟩;rw[ay,du]at rm;exact⟨_,O,q Fd cL ns H' (s1.trans sm) (s1.free RN) w6 pm Na rm⟩
structure TopE(K:ai)(CE:Addr):Prop where
 cE:lB K CE
 gM:dY K CE "terms"
 ma:dY K CE "leads"
 zw:dY K CE "table"
 Og:dY K CE "signs"
 Oi:dY K CE "names"
 nKs:dY K CE "known_signs"
 nKn:dY K CE "known_names"
theorem xj.but{fs:List (Str × V)}(h:xj CS H s ts ls)(ho:H o=some (.ins C dx fs))(ne:s≠o)(bt:eZ o H H'):xj CS H' s ts ls:=by
 obtain⟨dx',A1,A2,us,a,b,c,d⟩:=h.ex;exact⟨dx',A1,A2,us,bt _ _ ne a,bt _ _ (b9 b ho nofun) b,iK (fun c ys z=>bt _ _ (b9 z ho nofun) z) c,bt _ _ (b9 d ho nofun) d⟩
theorem mv.but{fs:List (Str × V)}(h:mv CN H s ts ls)(ho:H o=some (.ins C dx fs))(ne:s≠o)(bt:eZ o H H'):mv CN H' s ts ls:=by
 obtain⟨dx',A1,A2,A3,A4,A5,kb,ks,h1,h2,h3,h4,h5,h6,h7,us,h8,h9⟩:=h.ex;exact⟨dx',A1,A2,A3,A4,A5,kb,ks,bt _ _ ne h1,bt _ _ (b9 h2 ho nofun) h2,bt _ _ (b9 h3 ho nofun) h3,bt _ _ (b9 h4 ho nofun) h4,h5,bt _ _ (b9 h6 ho nofun) h6,h7,us,bt _ _ (b9 h8 ho nofun) h8,iK (fun c ys z=>bt _ _ (b9 z ho nofun) z) h9⟩
structure t7(P:Program)(w:World)(CS CE:Addr)(H:Hp)(o dx T L p sg nm N N':Addr)(ts:List Tm)(ls:List Nat)(kvs:List (NK × V)):Prop where
 ho:H o=some (.ins CE dx [("terms",.ref T),("leads",.ref L),("table",.ref p),("signs",.ref sg),("names",.ref nm),("known_signs",.ref N),("known_names",.ref N')])
 dn:DN P w H p kvs
 tab:yl ts ls ts.length kvs
 sgn:xj CS H sg ts ls
theorem t7.same{T p sg nm N N':Addr}{kvs:List (NK × V)}(h:t7 P w CS CE H o dx T L p sg nm N N' ts ls kvs)(s:a6 H H'):t7 P w CS CE H' o dx T L p sg nm N N' ts ls kvs:=⟨s _ _ h.ho,h.dn.same s,h.tab,h.sgn.same s⟩
inductive KL(P:Program)(w:World)(CS CE:Addr)(vs:List V)(H:Hp)(Q:VK):Prop
 | mk (o dx T L:Addr) (us:List V) (ts:List Tm) (ls:List Nat) (z0:vs = [.ref o,.ref T,.ref L]) (ho:H o=some (.ins CE dx [])) (hT:H T=some (.lst us)) (dP:kO H us ts) (hL:H L=some (.lst (ls.map nV))) (ok:vj ts ls) (tok:PB ts) (iI:SH ts)
  (q:∀ H' p kvs sg nm N N',eZ o H H'->t7 P w CS CE H' o dx T L p sg nm N N' ts ls kvs->Q .cj H'):KL P w CS CE vs H Q
def Q1(P:Program)(w:World)(CS CE:Addr):Sp:=fun vs H Q _=>KL P w CS CE vs H Q
structure PX(CE o dx T L:Addr)(us:List V)(ts:List Tm)(ls:List Nat)(H:Hp)(fs:List (Str × V))(H':Hp):Prop where
 bt:eZ o H H'
 ho:H' o=some (.ins CE dx fs)
 hT:H' T=some (.lst us)
 dP:kO H' us ts
 hL:H' L=some (.lst (ls.map nV))
theorem PX.same{CE T:Addr}{fs:List (Str × V)}(h:PX CE o dx T L us ts ls H fs H1)(sm:a6 H1 H2):PX CE o dx T L us ts ls H fs H2:=by
 obtain⟨bt,ho,hT,dP,hL⟩:=h;exact⟨bt.same sm,sm _ _ ho,sm _ _ hT,eN sm dP,sm _ _ hL⟩
theorem PX.put{CE T:Addr}{fs fs':List (Str × V)}(h:PX CE o dx T L us ts ls H fs H1):PX CE o dx T L us ts ls H fs' (aC H1 o (.ins CE dx fs')):=by
 obtain⟨bt,ho,hT,dP,hL⟩:=h;have nT:=b9 hT ho nofun
 have nL:=b9 hL ho nofun
 exact⟨bt.put,ak,by rw[av nT];exact hT,iK (fun c ys z=>by rw[av (b9 z ho nofun)];exact z) dP,by rw[av nL];exact hL⟩
theorem Dp{b:Addr}{o:HO}(hb:H b=none)(hd:H dx=none)(bt:eZ b (aC (aC H dx (.own b)) b o) H1):a6 H H1:=fun c u h=>by
 have n1:c≠b:=fun e=>by rw[e,hb]at h;cases h
 have n2:c≠dx:=fun e=>by rw[e,hd]at h;cases h
 exact bt c u n1 (by rw[av n1,av n2];exact h)
theorem VZ(Z:TopE K CE)(oW:c7 P w K mg base 2 "marks" eU (EH P w))(wW:pO P w K mg base 1 "Signs" CS bh (EI CS))(wY:pO P w K mg base 2 "Names" CN bh (Q3 CN))(WM:c7 P w K mg base 4 "learned" ["kind"] (Ah (fun o ts ls H=>xj CS H o ts ls) (fun _=>7) (fun ts _ ks k=>wSg ts ks k)))(AR:c7 P w K mg base 4 "learned" ["kind"] (Ah (fun o ts ls H=>mv CN H o ts ls) (fun ts=>2 ^ (df ts).length - 1) wNm))(D:oI K mg "Scene" CE "Scene.__init__" ql bh):pO P w K mg base 5 "Scene" CE bh (Q1 P w CS CE):=by
 refine D.has Vx (fun vs H Q E h =>?_) (fun f bU A outer s H vs Q E hr h =>?_)
 ·obtain⟨o,dx,T,L,us,ts,ls,rfl,_⟩:=h;rfl
 obtain⟨o,dx,T,L,us,ts,ls,rfl,ho,hT,dP,hL,ok,tok,iI,q⟩:=h;refine⟨_,(au (ft (pv 0) (pv 1) O)
  (au (ft (pv 0) (pv 2) O)
  (au (ft (pv 0) (bb oW hr (by omega) O (ae (pv 1) (ae (pv 2) aq))) O)
  (au (ft (pv 0) (qp wW hr (by omega) gw O (ae (pv 1) (ae (pv 2) aq))) O)
  (au (ft (pv 0) (qp wY hr (by omega) gw O (ae (pv 1) (ae (pv 2) aq))) O)
  (au (ft (pv 0) (aV aY (bb WM hr (by omega) O (ae (bW (pv 0) O) aq)) az (fun _ _=>O)) O)
  (ax (ft (pv 0) (aV aY (bb AR hr (by omega) O (ae (bW (pv 0) O) aq)) az (fun _ _=>O)) O)))))))),?_⟩
 try dsimp only[cG]
 have i0:PX CE o dx T L us ts ls H [] H:=⟨eZ.refl _ _,ho,hT,dP,hL⟩;refine⟨_,O,_,O,o,CE,dx,_,O,ho,Z.cE,Z.gM,(show 0 < 1000 by decide),?_⟩;have i1:=i0.put (fs':=(bQ "terms" (.ref T) []));dsimp only;generalize aC H o (.ins CE dx (bQ "terms" (.ref T) []))=H1 at i1 ⊢;refine⟨_,O,_,O,o,CE,dx,_,O,i1.ho,Z.cE,Z.ma,(show 1 < 1000 by decide),?_⟩;have i2:=i1.put (fs':=(bQ "leads" (.ref L) (bQ "terms" (.ref T) [])));dsimp only;generalize aC H1 o (.ins CE dx (bQ "leads" (.ref L) (bQ "terms" (.ref T) [])))=H2 at i2 ⊢;refine⟨_,O,_,O,T,L,us,ts,ls,O,i2.hT,i2.dP,i2.hL,ok,fun p kvs H3 s3 hp dn tb =>?_⟩;have i3:=i2.same s3;refine⟨_,O,o,CE,dx,_,O,i3.ho,Z.cE,Z.zw,(show 2 < 1000 by decide),?_⟩;have i4:=i3.put (fs':=(bQ "table" (.ref p) (bQ "leads" (.ref L) (bQ "terms" (.ref T) []))));dsimp only;have IQ:DN P w (aC H3 o (.ins CE dx (bQ "table" (.ref p) (bQ "leads" (.ref L) (bQ "terms" (.ref T) []))))) p kvs:=Sw.DN.qi (P:=P) (w:=w) dn i3.ho (fun φ z=>nomatch z) (fun ys z=>nomatch z);generalize aC H3 o (.ins CE dx (bQ "table" (.ref p) (bQ "leads" (.ref L) (bQ "terms" (.ref T) []))))=H4 at i4 IQ ⊢;refine⟨_,O,_,O,fun sg dg hsg hdg kM =>?_⟩;have sN:a6 H4 (aC (aC H4 dg (.own sg)) sg (.ins CS dg [])):=(aD hdg _).trans (aD (by rw[av (fun z=>by first | exact kM z.symm | exact kM z)];exact hsg) _);have ns:sg≠o:=fun e=>by rw[e,i4.ho]at hsg;cases hsg
 refine⟨sg,dg,T,L,us,ls.map nV,O,ak,sN _ _ i4.hT,sN _ _ i4.hL,fun H5 A1 A2 IU mZ mY e1 e2 e3=>⟨O,?_⟩⟩;have s5:=Dp hsg hdg IU;have i5:=i4.same s5;have sg5:xj CS H5 sg ts ls:=⟨dg,A1,A2,us,e3,e1,i5.dP,e2⟩;refine⟨_,O,o,CE,dx,_,O,i5.ho,Z.cE,Z.Og,(show 3 < 1000 by decide),?_⟩;have i6:=i5.put (fs':=(bQ "signs" (.ref sg) (bQ "table" (.ref p) (bQ "leads" (.ref L) (bQ "terms" (.ref T) [])))));have sg6:=sg5.but i5.ho ns (fun c u n h=>by rw[av n];exact h) (H':=aC H5 o (.ins CE dx (bQ "signs" (.ref sg) (bQ "table" (.ref p) (bQ "leads" (.ref L) (bQ "terms" (.ref T) []))))));dsimp only;have dn6:DN P w (aC H5 o (.ins CE dx (bQ "signs" (.ref sg) (bQ "table" (.ref p) (bQ "leads" (.ref L) (bQ "terms" (.ref T) [])))))) p kvs:=Sw.DN.qi (P:=P) (w:=w) (IQ.same s5) i5.ho (fun φ z=>nomatch z) (fun ys z=>nomatch z);generalize aC H5 o (.ins CE dx (bQ "signs" (.ref sg) (bQ "table" (.ref p) (bQ "leads" (.ref L) (bQ "terms" (.ref T) [])))))=H6 at i6 sg6 dn6 ⊢;refine⟨_,O,_,O,fun nm dm hnm hdm afz =>?_⟩;have sM:a6 H6 (aC (aC H6 dm (.own nm)) nm (.ins CN dm [])):=(aD hdm _).trans (aD (by rw[av (fun z=>by first | exact afz z.symm | exact afz z)];exact hnm) _);have nn:nm≠o:=fun e=>by rw[e,i6.ho]at hnm;cases hnm
 refine⟨nm,dm,T,L,us,ts,ls,O,ak,sM _ _ i6.hT,eN sM i6.dP,sM _ _ i6.hL,tok.2.2,ok.len,iI,fun H7 bt7 hN7=>⟨O,?_⟩⟩;have s7:=Dp hnm hdm bt7;have i7:=i6.same s7;have sg7:=sg6.same s7;have nm7:=hN7.at_;refine⟨_,O,o,CE,dx,_,O,i7.ho,Z.cE,Z.Oi,(show 4 < 1000 by decide),?_⟩;have kk:eZ o H7 (aC H7 o (.ins CE dx (bQ "names" (.ref nm) (bQ "signs" (.ref sg) (bQ "table" (.ref p) (bQ "leads" (.ref L) (bQ "terms" (.ref T) []))))))):=fun c u n h=>by rw[av n];exact h
 have i8:=i7.put (fs':=(bQ "names" (.ref nm) (bQ "signs" (.ref sg) (bQ "table" (.ref p) (bQ "leads" (.ref L) (bQ "terms" (.ref T) []))))));have sg8:=sg7.but i7.ho ns kk;have nm8:=nm7.but i7.ho nn kk;dsimp only;have dn8:DN P w (aC H7 o (.ins CE dx (bQ "names" (.ref nm) (bQ "signs" (.ref sg) (bQ "table" (.ref p) (bQ "leads" (.ref L) (bQ "terms" (.ref T) []))))))) p kvs:=Sw.DN.qi (P:=P) (w:=w) (dn6.same s7) i7.ho (fun φ z=>nomatch z) (fun ys z=>nomatch z);generalize aC H7 o (.ins CE dx (bQ "names" (.ref nm) (bQ "signs" (.ref sg) (bQ "table" (.ref p) (bQ "leads" (.ref L) (bQ "terms" (.ref T) []))))))=H8 at i8 sg8 nm8 dn8 ⊢;refine⟨_,O,o,CE,dx,_,_,O,i8.ho,Z.cE,Z.Og,O,vS.mk sg ts ls rfl sg8 tok ok.len iI fun pp N S ks H9 s9 hpp hN =>?_⟩;have i9:=i8.same s9;have nm9:=nm8.same s9;refine⟨pp,_,0,_,O,O,aW.of hpp,aB (j:=0) rfl,_,O,o,CE,dx,_,O,i9.ho,Z.cE,Z.nKs,(show 5 < 1000 by decide),?_⟩;have kk9:eZ o H9 (aC H9 o (.ins CE dx (bQ "known_signs" (.ref N) (bQ "names" (.ref nm) (bQ "signs" (.ref sg) (bQ "table" (.ref p) (bQ "leads" (.ref L) (bQ "terms" (.ref T) [])))))))):=fun c u n h=>by rw[av n];exact h
 have i10:=i9.put (fs':=(bQ "known_signs" (.ref N) (bQ "names" (.ref nm) (bQ "signs" (.ref sg) (bQ "table" (.ref p) (bQ "leads" (.ref L) (bQ "terms" (.ref T) [])))))));have aeE:=nm9.but i9.ho nn kk9;dsimp only;have aef:=(sg8.same s9).but i9.ho ns kk9;have agV:DN P w (aC H9 o (.ins CE dx (bQ "known_signs" (.ref N) (bQ "names" (.ref nm) (bQ "signs" (.ref sg) (bQ "table" (.ref p) (bQ "leads" (.ref L) (bQ "terms" (.ref T) [])))))))) p kvs:=Sw.DN.qi (P:=P) (w:=w) (dn8.same s9) i9.ho (fun φ z=>nomatch z) (fun ys z=>nomatch z);generalize aC H9 o (.ins CE dx (bQ "known_signs" (.ref N) (bQ "names" (.ref nm) (bQ "signs" (.ref sg) (bQ "table" (.ref p) (bQ "leads" (.ref L) (bQ "terms" (.ref T) [])))))))=H10 at i10 aeE aef agV ⊢;refine⟨_,O,o,CE,dx,_,_,O,i10.ho,Z.cE,Z.Oi,O,vS.mk nm ts ls rfl aeE tok ok.len iI fun pq N' S' kL Mg s11 hpq DL =>?_⟩;have i11:=i10.same s11;refine⟨pq,_,0,_,O,O,aW.of hpq,aB (j:=0) rfl,_,O,o,CE,dx,_,O,i11.ho,Z.cE,Z.nKn,(show 6 < 1000 by decide),?_⟩;exact q _ p kvs sg nm N N' i11.put.bt ⟨ak,Sw.DN.qi (P:=P) (w:=w) (agV.same s11) i11.ho (fun φ z=>nomatch z) (fun ys z=>nomatch z),tb,(aef.same s11).but i11.ho ns (fun c u n h=>by rw[av n];exact h)⟩
def add(acc:List Str)(x:Str):List Str:=if x∈acc then acc else acc ++ [x]
mutual
def raw:T->List Str
 | .num _ => []
 | .name _ => []
 | .any x => [x]
 | .of _ ts=>iH ts
def iH:List T->List Str
 | [] => []
 | t :: ts=>raw t ++ iH ts
end
def lE(t:T)(acc:List Str):List Str:=(raw t).foldl add acc
theorem ac6{acc:List Str}:y∈add acc x↔y∈acc∨y=x:=by
 unfold add;split
 ·rename_i h
  constructor
  ·exact .inl
  ·rintro(h' | rfl)
   ·exact h'
   ·exact h
 ·simp
theorem Oj:∀ {l acc:List Str}{y:Str},y∈l.foldl add acc↔y∈acc∨y∈l
 | [],acc,y=>by simp
 | x :: l,acc,y=>by
  rw[se,Oj (l:=l),ac6];simp[or_assoc]
theorem Z2(acc:List Str)(x:Str):(add acc x).length<=acc.length+1:=by
 unfold add;split
 ·omega
 ·rw[aO,gn];exact aw _
theorem Pw:∀ (l acc:List Str),(l.foldl add acc).length<=acc.length+l.length
 | [],acc=>aw _
 | x :: l,acc=>by
  have h1:=Pw l (add acc x);have h2:=Z2 acc x;rw[se,cg];omega
mutual
theorem acB:∀ t:T,(raw t).length<=t.parts
 | .num _=>by rw[raw];exact aQ _
 | .name _=>by rw[raw];exact aQ _
 | .any _=>by rw[raw,T.parts];exact aw _
 | .of _ ts=>by
  rw[raw,T.parts];have:=Gb ts;omega
theorem Gb:∀ ts:List T,(iH ts).length<=T.fw ts
 | []=>by rw[iH];exact aQ _
 | t :: ts=>by
  rw[iH,T.fw,aO];have:=acB t;have:=Gb ts;omega
end
theorem NL:∀ (a b:List T),iH (a ++ b)=iH a ++ iH b
 | [],b=>by rw[gh,iH,gh]
 | t :: a,b=>by rw[eS,iH,iH,NL a b,a7]
theorem Yz(t:T):iH [t]=raw t:=by rw[iH,iH,cY]
theorem VE{ts:List T}{t:T}(h:ts[i]? = some t):iH (ts.take (i+1))=iH (ts.take i) ++ raw t:=by
 rw[cW,h,NL];show _ ++ iH [t]=_;rw[Yz]
def yg(acc:List Str):List (Key × V):=acc.map fun x=>(fo x,V.bl true)
theorem acF(acc:List Str)(x:Str):gm (yg acc) (fo x) (.bl true)=yg (add acc x):=by
 have e:((yg acc).any fun kv=>decide (kv.1=fo x))=decide (x∈acc):=by
  unfold yg;rw[List.any_map]
  induction acc with
  | nil=>rfl
  | cons y r ih =>
   rw[gE,ih];by_cases h:y=x
   ·subst h;simp
   ·have:¬ x=y:=fun z=>h z.symm;simp[h,this]
 unfold gm add;rw[e];by_cases h:x∈acc
 ·rw[if_pos (decide_eq_true h),if_pos h];unfold yg;rw[hU];apply gW;intro y _;simp only[Function.comp];split
  ·rfl
  ·rfl
 ·rw[if_neg (by simpa using h),if_neg h];unfold yg;rw[cR];rfl
theorem Tq(n:Nat)(ts:List T):T.fw (ts.take n)+T.fw (ts.drop n)=T.fw ts:=by
 rw[oO,oO,oO, <- sd, <- cR,cV]
def JG(n:Nat):Sp:=fun vs H Q _=>∃ v t,vs = [v]∧dj H t v∧t.depth<=n∧Q (.int (t.parts:Int)) H
theorem JD(ts:List T)(i:Nat)(h:i < ts.length):T.fw (ts.take (i+1))=T.fw (ts.take i)+ts[i].parts:=by
 rw[cW,ah h];rw[oO,oO,cR,sd];simp
theorem NY(D:Def K mg "parts" JM ["tree"]):∀ n,c7 P w K mg base n "parts" ["tree"] (JG n)
 | 0=>by
  obtain⟨fa,fd,F,hm,hb⟩:=D.ex;have no:∀ vs H Q E, ¬ JG 0 vs H Q E:=fun vs H Q E h=>by
   obtain⟨v,t,_,_,z,_⟩:=h;have:=uO t;omega
  exact⟨fa,fd,⟨fun vs H Q E h=>absurd h (no vs H Q E),fun A outer s H args us vs Q E _ _ _ _ h=>absurd h (no vs H Q E)⟩,hm,F.kp,hb⟩
 | n+1=>by
  have v9:=NY D n;refine D.has Ak (fun vs H Q E h =>?_) (fun f bU A outer s H vs Q E hr h =>?_)
  ·obtain⟨v,t,rfl,_⟩:=h;rfl
  obtain⟨v,t,rfl,hT,hd,q⟩:=h;refine⟨_,(au (cA (br oP (aV aY (pv 0) az (fun _ _=>O)) bN (bo _)) (ax (aZ az)) bD)
  (au (bG (i:=1) Ak.nd O (aM O) az)
  (au (dM bX O (pV (aV aY (pv 0) az (fun _ _=>O))) (bZ (i:=2) Ak.nd O (aM O))
  (ax (VM (i:=1) Ak.nd O (aM O) (bb v9 hr (by omega) O (ae (pv 2) aq)) Wu)))
  (ax (aZ (pv 1)))))),?_⟩
  try dsimp only[cG]
  cases t with
  | num k =>
   rw[dj]at hT;obtain⟨a,rfl,h⟩:=hT;rw[T.parts]at q;exact⟨_,O,a,_,0,_,O,O,aW.of h,aB (j:=0) rfl,O,_,O,ig (fun _=>q) (fun z=>absurd (V.str.inj z) (by decide))⟩
  | name x =>
   rw[dj]at hT;obtain⟨a,rfl,h⟩:=hT;rw[T.parts]at q;exact⟨_,O,a,_,0,_,O,O,aW.of h,aB (j:=0) rfl,O,_,O,ig (fun _=>q) (fun z=>absurd (V.str.inj z) (by decide))⟩
  | any x =>
   rw[dj]at hT;obtain⟨a,rfl,h⟩:=hT;rw[T.parts]at q;exact⟨_,O,a,_,0,_,O,O,aW.of h,aB (j:=0) rfl,O,_,O,ig (fun _=>q) (fun z=>absurd (V.str.inj z) (by decide))⟩
  | of x ts =>
   rw[dj]at hT;rw[T.depth]at hd;rw[T.parts]at q;obtain⟨a,b,vs,rfl,ha,hb,OB⟩:=hT;refine⟨_,O,a,_,0,_,O,O,aW.of ha,aB (j:=0) rfl,O,_,O,ig (fun z=>absurd rfl z) (fun _ =>?_)⟩;have eO:=sO OB;refine⟨_,O,a,_,2,_,O,O,aW.of ha,aB (j:=2) rfl,b,O,⟨vs,aW.of hb⟩,?_⟩;refine qT (xs:=vs) (fun i σ H'=>∃ o, σ = [some (.ref a),some (.int ((1+T.fw (ts.take i):Nat):Int)),o]∧H'=H) ⟨none,O,O⟩ ?_ ?_ ?_
   ·rintro i σ H' _ ⟨o,rfl,rfl⟩;exact aW.of hb
   ·rintro i y σ H' hy ⟨o,rfl,rfl⟩;obtain⟨ti,BB,OZ⟩:=wk OB hy;have AN:ti∈ts:=aN BB;have d1:=o9 AN;obtain⟨hi,oj⟩:=aj.mp BB;have e:((1+T.fw (ts.take (i+1)):Nat):Int)=((1+T.fw (ts.take i):Nat):Int)+((ti.parts:Nat):Int):=by rw[JD ts i hi,oj];omega
    refine⟨_,O,_,O,y,ti,O,OZ,by omega,_,_,O,O,⟨some y,?_,O⟩⟩;rw[e];rfl
   ·rintro σ H' ⟨o,rfl,rfl⟩;rw[<- eO,du];exact⟨_,O,q⟩
mutual
def Bz:T->Nat
 | .num _=>0
 | .name _=>0
 | .any _=>0
 | .of _ ts=>1+vh ts
def vh:List T->Nat
 | []=>0
 | t :: ts=>Bz t+vh ts
end
theorem GF:∀ ts:List T,vh ts=(ts.map Bz).sum
 | []=>by rw[vh];rfl
 | t :: ts=>by rw[vh,GF ts,aS,ij]
def F4(n:Nat):Sp:=fun vs H Q _=>∃ v t,vs = [v]∧dj H t v∧t.depth<=n∧Q (.int (Bz t:Int)) H
theorem JE(ts:List T)(i:Nat)(h:i < ts.length):vh (ts.take (i+1))=vh (ts.take i)+Bz ts[i]:=by
 rw[cW,ah h];rw[GF,GF,cR,sd];simp
theorem NZ(D:Def K mg "knots" JP wb9):∀ n,c7 P w K mg base n "knots" wb9 (F4 n)
 | 0=>by
  obtain⟨fa,fd,F,hm,hb⟩:=D.ex;have no:∀ vs H Q E, ¬ F4 0 vs H Q E:=fun vs H Q E h=>by
   obtain⟨v,t,_,_,z,_⟩:=h;have:=uO t;omega
  exact⟨fa,fd,⟨fun vs H Q E h=>absurd h (no vs H Q E),fun A outer s H args us vs Q E _ _ _ _ h=>absurd h (no vs H Q E)⟩,hm,F.kp,hb⟩
 | n+1=>by
  have zJ:=NZ D n;refine D.has Am (fun vs H Q E h =>?_) (fun f bU A outer s H vs Q E hr h =>?_)
  ·obtain⟨v,t,rfl,_⟩:=h;rfl
  obtain⟨v,t,rfl,hT,hd,q⟩:=h;refine⟨_,(au (cA (br oP (aV aY (pv 0) az (fun _ _=>O)) bN (bo _)) (ax (aZ az)) bD)
  (au (bG (i:=1) Am.nd O (aM O) az)
  (au (dM bX O (pV (aV aY (pv 0) az (fun _ _=>O))) (bZ (i:=2) Am.nd O (aM O))
  (ax (VM (i:=1) Am.nd O (aM O) (bb zJ hr (by omega) O (ae (pv 2) aq)) Wu)))
  (ax (aZ (pv 1)))))),?_⟩
  try dsimp only[cG]
  cases t with
  | num k =>
   rw[dj]at hT;obtain⟨a,rfl,h⟩:=hT;rw[Bz]at q;exact⟨_,O,a,_,0,_,O,O,aW.of h,aB (j:=0) rfl,O,_,O,ig (fun _=>q) (fun z=>absurd (V.str.inj z) (by decide))⟩
  | name x =>
   rw[dj]at hT;obtain⟨a,rfl,h⟩:=hT;rw[Bz]at q;exact⟨_,O,a,_,0,_,O,O,aW.of h,aB (j:=0) rfl,O,_,O,ig (fun _=>q) (fun z=>absurd (V.str.inj z) (by decide))⟩
  | any x =>
   rw[dj]at hT;obtain⟨a,rfl,h⟩:=hT;rw[Bz]at q;exact⟨_,O,a,_,0,_,O,O,aW.of h,aB (j:=0) rfl,O,_,O,ig (fun _=>q) (fun z=>absurd (V.str.inj z) (by decide))⟩
  | of x ts =>
   rw[dj]at hT;rw[T.depth]at hd;rw[Bz]at q;obtain⟨a,b,vs,rfl,ha,hb,OB⟩:=hT;refine⟨_,O,a,_,0,_,O,O,aW.of ha,aB (j:=0) rfl,O,_,O,ig (fun z=>absurd rfl z) (fun _ =>?_)⟩;have eO:=sO OB;refine⟨_,O,a,_,2,_,O,O,aW.of ha,aB (j:=2) rfl,b,O,⟨vs,aW.of hb⟩,?_⟩;refine qT (xs:=vs) (fun i σ H'=>∃ o, σ = [some (.ref a),some (.int ((1+vh (ts.take i):Nat):Int)),o]∧H'=H) ⟨none,O,O⟩ ?_ ?_ ?_
   ·rintro i σ H' _ ⟨o,rfl,rfl⟩;exact aW.of hb
   ·rintro i y σ H' hy ⟨o,rfl,rfl⟩;obtain⟨ti,BB,OZ⟩:=wk OB hy;have AN:ti∈ts:=aN BB;have d1:=o9 AN;obtain⟨hi,oj⟩:=aj.mp BB;have e:((1+vh (ts.take (i+1)):Nat):Int)=((1+vh (ts.take i):Nat):Int)+((Bz ti:Nat):Int):=by rw[JE ts i hi,oj];omega
    refine⟨_,O,_,O,y,ti,O,OZ,by omega,_,_,O,O,⟨some y,?_,O⟩⟩;rw[e];rfl
   ·rintro σ H' ⟨o,rfl,rfl⟩;rw[<- eO,du];exact⟨_,O,q⟩
def Nf(n:Nat):Sp:=fun vs H Q _=>∃ v d t acc,vs = [v,.ref d]∧dj H t v∧t.depth<=n∧H d=some (.dK (yg acc))∧acc.length+t.parts<=10000∧Q .cj (aC H d (.dK (yg (lE t acc))))
theorem Bu(D:Def K mg "note_holes" wq wc2):∀ n,c7 P w K mg base n "note_holes" wc2 (Nf n)
 | 0=>by
  obtain⟨fa,fd,F,hm,hb⟩:=D.ex;have no:∀ vs H Q E, ¬ Nf 0 vs H Q E:=fun vs H Q E h=>by
   obtain⟨v,d,t,acc,_,_,z,_⟩:=h;have:=uO t;omega
  exact⟨fa,fd,⟨fun vs H Q E h=>absurd h (no vs H Q E),fun A outer s H args us vs Q E _ _ _ _ h=>absurd h (no vs H Q E)⟩,hm,F.kp,hb⟩
 | n+1=>by
  have oo:=Bu D n;refine D.has Bt (fun vs H Q E h =>?_) (fun f bU A outer s H vs Q E hr h =>?_)
  ·obtain⟨v,d,t,acc,rfl,_⟩:=h;rfl
  obtain⟨v,d,t,acc,rfl,hT,hd,hD,hz,q⟩:=h;refine⟨_,(au (cA (br d5 (aV aY (pv 0) az (fun _ _=>O)) bN (bo _)) (ax (EO (lU hr) (pv 1) (aV aY (pv 0) az (fun _ _=>O)) lQ O)) bD)
  (ax (cA (br d5 (aV aY (pv 0) az (fun _ _=>O)) bN (bo _)) (ax (dM bX O (pV (aV aY (pv 0) az (fun _ _=>O))) (bZ (i:=2) Bt.nd O (aM O))
  (ax (eJ (bb oo hr (by omega) O (ae (pv 2) (ae (pv 1) aq))))))) bD))),?_⟩
  try dsimp only[cG]
  have aaD:lE t acc=acc->Q .cj H:=fun hn=>by
   have e:aC H d (.dK (yg acc))=H:=by
    funext b;by_cases hb:b=d
    ·rw[hb,ak,hD]
    ·rw[av hb]
   rw[hn,e]at q;exact q
  cases t with
  | num k =>
   rw[dj]at hT;obtain⟨a,rfl,h⟩:=hT;refine⟨_,O,a,_,0,_,O,O,aW.of h,aB (j:=0) rfl,O,_,O,cC (fun z=>absurd (V.str.inj z) (by decide)) (fun _ =>?_)⟩;exact⟨_,O,a,_,0,_,O,O,aW.of h,aB (j:=0) rfl,O,_,O,cC (fun z=>absurd (V.str.inj z) (by decide)) (fun _=>aaD (by unfold lE;rw[raw];rfl))⟩
  | name x =>
   rw[dj]at hT;obtain⟨a,rfl,h⟩:=hT;refine⟨_,O,a,_,0,_,O,O,aW.of h,aB (j:=0) rfl,O,_,O,cC (fun z=>absurd (V.str.inj z) (by decide)) (fun _ =>?_)⟩;exact⟨_,O,a,_,0,_,O,O,aW.of h,aB (j:=0) rfl,O,_,O,cC (fun z=>absurd (V.str.inj z) (by decide)) (fun _=>aaD (by unfold lE;rw[raw];rfl))⟩
  | any x =>
   rw[dj]at hT;obtain⟨a,rfl,h⟩:=hT;have en:lE (.any x) acc=add acc x:=by unfold lE;rw[raw];rfl
   rw[en]at q;refine⟨_,O,a,_,0,_,O,O,aW.of h,aB (j:=0) rfl,O,_,O,cC (fun _ =>?_) (fun z=>absurd rfl z)⟩;have kp:=lF (o' := .dK (yg (add acc x))) hD trivial;refine⟨_,O,_,O,a,_,1,_,O,O,aW.of h,aB (j:=1) rfl,d,_,O,EA.k (k:=fo x) hD ?_,?_⟩
   ·unfold yg;rw[ay];exact lx (by omega:acc.length<=10000) (by decide)
   rw[acF];refine⟨_,O,a,_,0,_,O,O,aW.of (kp _ _ h),aB (j:=0) rfl,O,_,O,cC (fun z=>absurd (V.str.inj z) (by decide)) (fun _=>q)⟩
  | of x ts =>
   rw[dj]at hT;obtain⟨a,b,vs,rfl,h,hb,hTs⟩:=hT;rw[T.depth]at hd;rw[T.parts]at hz;have eO:=sO hTs;refine⟨_,O,a,_,0,_,O,O,aW.of h,aB (j:=0) rfl,O,_,O,cC (fun z=>absurd (V.str.inj z) (by decide)) (fun _ =>?_)⟩;refine⟨_,O,a,_,0,_,O,O,aW.of h,aB (j:=0) rfl,O,_,O,cC (fun _ =>?_) (fun z=>absurd rfl z)⟩;refine⟨_,O,a,_,2,_,O,O,aW.of h,aB (j:=2) rfl,b,O,⟨vs,aW.of hb⟩,?_⟩;refine qT (xs:=vs) (fun i σ H'=>(∃ o, σ = [aa a,aa d,o])∧H'=aC H d (.dK (yg ((iH (ts.take i)).foldl add acc)))) ⟨⟨none,O⟩,?_⟩ ?_ ?_ ?_
   ·rw[kh,iH];funext c;by_cases hc:c=d
    ·rw[hc,ak,hD];rfl
    ·rw[av hc]
   ·rintro i σ H' _ ⟨_,rfl⟩;exact aW.of (lF hD trivial _ _ hb)
   ·rintro i y σ H' hy ⟨⟨o,rfl⟩,rfl⟩;obtain⟨ti,BB,OZ⟩:=wk hTs hy;have AN:ti∈ts:=aN BB;have d1:=o9 AN;have et:=VE BB;have l1:=Pw (iH (ts.take i)) acc;have l2:=Gb (ts.take i);have l3:=Tq i ts;have l4:ti.parts<=T.fw (ts.drop i):=by
     have e:ts.drop i=ti :: ts.drop (i+1):=by
      obtain⟨h1,h2⟩:=aj.mp BB;rw[nR h1,h2]
     rw[e,T.fw];omega
    refine⟨_,O,_,O,y,d,ti,_,O,iZ (lF hD trivial) OZ,by omega,ak,by omega,⟨_,O⟩,?_⟩;rw[sI,et,pN];rfl
   ·rintro σ H' ⟨⟨o,rfl⟩,rfl⟩;rw[<- eO,du];have en:lE (.of x ts) acc=(iH ts).foldl add acc:=by unfold lE;rw[raw]
    rw[en]at q;exact q
def EJ(n:Nat):Sp:=fun vs H Q _=>∃ v t,vs = [v]∧dj H t v∧t.depth+1<=n∧t.parts<=1000∧∀ l H',a6 H H'->H' l=some (.lst ((lE t []).map V.str))->Q (.ref l) H'
theorem YR(B:iY mg)(oo:c7 P w K mg base n "note_holes" wc2 (Nf n))(D:Def K mg "holes" JQ wb9):c7 P w K mg base (n+1) "holes" wb9 (EJ (n+1)):=by
 refine D.has Nr (fun vs H Q E h =>?_) (fun f bU A outer s H vs Q E hr h =>?_)
 ·obtain⟨v,t,rfl,_⟩:=h;rfl
 obtain⟨v,t,rfl,hT,hd,hz,q⟩:=h;refine⟨_,(au (bG (i:=1) Nr.nd O (aM O) wB)
  (au (eJ (bb oo hr (by omega) O (ae (pv 0) (ae (pv 1) aq))))
  (ax (aZ (fF (Ku O) O B.vO jY (ae (pv 1) aq)))))),?_⟩
 try dsimp only[cG]
 refine fun d hd0 =>?_;have s1:=aD hd0 (.dK []);refine⟨_,O,_,O,v,d,t, [],O,vX s1 hT,by omega,ak,by simp only[jG];omega,?_⟩;rw[sI];have s2:=aD hd0 (.dK (yg (lE t [])));refine⟨_,O,d,_,O,.inl ak,fun l hl =>?_⟩;refine q l _ (s2.trans (aD hl _)) ?_;rw[ak];unfold yg;rw[hU];rfl
structure D9(K:ai)(mg:Str->Option Value)(CU kP:Addr):Prop where
 cU:lB K CU
 Wc:dY K CU "title"
 Rq:dY K CU "weight"
 MD:dY K CU "left"
 Oh:dY K CU "right"
 aaS:dY K CU "asks"
 uM:∃ t,mg "LETTERS" = some (.str "abcdefghijklmnopqrstuvwxyz" t)
 kT:∃ t,mg "MOST_WEIGHT" = some (.int 1000000000000 t)
 gP:∃ t,mg "MOST_RULE_PARTS" = some (.int 12 t)
 jc:∃ t,mg "MOST_LEFT_KNOTS" = some (.int 3 t)
 nt:∃ t,mg "MOST_ASKS" = some (.int 4 t)
 nq:∃ t,mg "MOST_MASK" = some (.int 7 t)
 mi:∃ t,mg "MOST_LETTERS" = some (.int 8 t)
 gU:Exc K mg "NoRule" kP
theorem ahs:∀ c,c < 128->¬ (97<=c∧c<=122)->pH ("abcdefghijklmnopqrstuvwxyz" : Str) ⟨#[c]⟩ 0 ("abcdefghijklmnopqrstuvwxyz" : Str).length 1 = []:=by decide +kernel
inductive PQ(vs:List V)(H:Hp)(Q:VK):Prop
 | mk (z:Str) (z0:vs = [.str z]) (z1:(∀ c∈z.cps.toList,c < 128)) (z2:z.length<=1000) (z3:∀ b:Bool,(b=true↔P4 z)->Q (.bl b) H):PQ  vs H Q
def F5:Sp:=fun vs H Q _=>PQ  vs H Q
inductive IwI(H:Hp)(z:Str)(i:Nat)(σ : St)(H':Hp):Prop
 | mk (o:Option V) (e : σ = [some (.str z),o]) (eh:H'=H) (al:∀ j c,j < i->z.cps.toList[j]? = some c->97<=c∧c<=122)
theorem Tx(B:iY mg)(Z:D9 K mg CU kP)(D:Def K mg "is_word" Cm ["text"]):c7 P w K mg base 1 "is_word" ["text"] F5:=by
 have uM:=Z.uM;have mi:=Z.mi;refine D.has HM (fun vs H Q E h =>?_) (fun f bU A outer s H vs Q E hr h =>?_)
 ·obtain⟨z,rfl,_⟩:=h;rfl
 obtain⟨z,rfl,agD,eO,q⟩:=h;refine⟨_,(au (cA (PW.pt (pw_or (br d5 (pv 0) bN (bo _)) (pw_or1 (br rE (dz D0 O B.jK cn (ae (pv 0) aq)) (d7 mi O) (bo _))))) (ax (aZ lQ)) bD)
  (au (dM bX O (aeo (pv 0)) (bZ (i:=1) HM.nd O (aM O))
  (ax (cA (br NV (pv 1) (YF uM O) (by with_unfolding_all rfl)) (ax (aZ lQ)) bD)))
  (ax (aZ lQ)))),?_⟩
 try dsimp only[cG]
 have aiB:z.cps.all (· < 128)=true:=by
  rw[<- Array.all_toList];exact iw.mpr fun c xY=>decide_eq_true (agD c xY)
 refine Cv (fun b Hc=>Hc=H∧(b=true->¬ P4 z)∧(b=false->1<=z.length∧z.length<=8)) (fun Qc qc=>⟨_,O,O,_,O,cC (fun e=>qc _ _ ⟨O,fun _ w =>?_,fun x=>nomatch x⟩) (fun e=>⟨_,O,z,O,bp eO (by decide),_,_,O,O,_,O,qc _ _ ⟨O,fun x w =>?_,fun x =>?_⟩⟩)⟩) ?_ ?_
 ·have:=V.str.inj e;rw[this]at w;exact absurd w.1 (by decide)
 ·have:=of_decide_eq_true x;have:=w.2.1;omega
 ·have:=of_decide_eq_false x;refine⟨Nat.pos_of_ne_zero fun h0=>e ?_,by omega⟩;have:z = "" := acp (by
   have:z.cps.toList = []:=gN.mp (by rw[<- Rw];exact h0);rw[this];rfl)
  rw[this]
 ·rintro Hc ⟨rfl,hn,_⟩;exact q false ⟨fun x=>(nomatch x),fun w=>absurd w (hn rfl)⟩
 rintro H ⟨rfl,_,hl⟩;obtain⟨l1,l8⟩:=hl rfl;dsimp only[gQ];refine⟨_,O,z,O,aiB,?_⟩;refine adj (IwI H z) (IwI.mk none rfl rfl fun j c hj=>absurd hj (gf _)) ?_ ?_
 ·rintro i c σ H' xY ⟨o,rfl,rfl,al⟩;dsimp only[b7];have hm:=aN xY;by_cases RG:97<=c∧c<=122
  ·have e:=adw (c - 97) (by omega);rw[show 97+(c - 97)=c by omega]at e;refine⟨_,O,_,_,O,O,_,O,?_⟩;rw[e];refine fC (IwI.mk _ rfl rfl fun j d hj hd =>?_);by_cases ej:j=i
   ·rw[ej,xY]at hd;cases hd;exact RG
   ·exact al j d (by omega) hd
  ·refine⟨_,O,_,_,O,O,_,O,?_⟩;rw[ahs c (agD c hm) RG];exact gH (q false ⟨fun x=>(nomatch x),fun w=>absurd (w.2.2 c hm) RG⟩)
 ·rintro σ H' ⟨o,rfl,rfl,al⟩;refine q true ⟨fun _=>⟨l1,l8,fun c hc =>?_⟩,fun _=>rfl⟩;obtain⟨j,hj⟩:=eG hc;have Dy:=(aj.mp hj).1;exact al j c (by rw[Rw];exact Dy) hj
theorem EU{hs:List Str}:inV (.str z) (hs.map V.str)=decide (z∈hs):=by
 unfold inV
 induction hs with
 | nil=>rfl
 | cons x l ih =>
  rw[aS,gE,ih];have e:BI (.str x) (.str z)=decide (x=z):=by
   show (x == z)=_;rw[jJ,beq_iff_eq,decide_eq_true_iff]
  rw[e,jJ,Jv,decide_eq_true_iff,decide_eq_true_iff,decide_eq_true_iff,bC];exact⟨fun h=>h.elim (fun h => .inl h.symm) .inr,fun h=>h.elim (fun h => .inl h.symm) .inr⟩
theorem yb(hs:List Str):(hs.map V.str).all oY=true:=by
 rw[iw];intro y hy;obtain⟨z,_,rfl⟩:=eD.mp hy;rfl
def T2:T->Bool
 | .of _ _=>true
 | _=>false
def UA(l r:T):Prop:=T2 l=true∧l.parts<=12∧r.parts<=12∧Bz l<=3∧∀ h∈raw r,h∈raw l
theorem AI{t:T}:h∈lE t []↔h∈raw t:=by unfold lE;rw[Oj];simp
inductive PK(kP:Addr)(vs:List V)(H:Hp)(Q:VK)(E:XK):Prop
 | mk (v u:V) (l r:T) (ev:vs = [v,u]) (hv:dj H l v) (hu:dj H r u) (dl:l.depth<=14) (dr:r.depth<=14) (pl:l.parts<=100) (pr:r.parts<=100) (q1:UA l r->∀ H',a6 H H'->Q .cj H') (q2:¬ UA l r->∀ H',a6 H H'->E (.ref kP) none H'):PK kP vs H Q E
def Vh(kP:Addr):Sp:=fun vs H Q E=>PK kP vs H Q E
inductive RpI(H:Hp)(a:V)(u:V)(l:Addr)(lt:T)(hs:List Str)(i:Nat)(σ : St)(H':Hp):Prop
 | mk (o:Option V) (e : σ = [some a,some u,some (.ref l),o]) (eh:H'=H) (al:∀ j h,j < i->hs[j]? = some h->h∈raw lt)
theorem Di(B:iY mg)(Z:D9 K mg CU kP)(v9:c7 P w K mg base 14 "parts" ["tree"] (JG 14))(zJ:c7 P w K mg base 14 "knots" wb9 (F4 14))(ng:c7 P w K mg base 15 "holes" wb9 (EJ 15))(D:Def K mg "refuse_patterns" pI wd4):KW P w K mg base 16 "refuse_patterns" wd4 (Vh kP):=by
 have gU:=Z.gU;have gP:=Z.gP;have jc:=Z.jc;refine D.af5 n9 (fun vs H Q E h =>?_) (fun f bU A outer s H vs Q E hr h =>?_)
 ·obtain⟨v,u,l,r,rfl,_⟩:=h;rfl
 obtain⟨v,u,l,r,rfl,hv,hu,dl,dr,pl,pr,q1,q2⟩:=h;refine⟨_,(au (cA (br oP (aV aY (pv 0) az (fun _ _=>O)) bN (bo _)) (ax (lD gU O (fun _ _ _ _ _ _ _ I hx q=>uy I hx q) (ae bN aq) O)) bD)
  (au (cA (PW.pt (pw_or (br rE (bb v9 hr (by omega) O (ae (pv 0) aq)) (d7 gP O) (bo _)) (pw_or1 (br rE (bb v9 hr (by omega) O (ae (pv 1) aq)) (d7 gP O) (bo _))))) (ax (lD gU O (fun _ _ _ _ _ _ _ I hx q=>uy I hx q) (ae (uE (ke bN (ke (zt (d7 gP O)) (ke bN C7)))) aq) O)) bD)
  (au (cA (br rE (bb zJ hr (by omega) O (ae (pv 0) aq)) (d7 jc O) (bo _)) (ax (lD gU O (fun _ _ _ _ _ _ _ I hx q=>uy I hx q) (ae (uE (ke bN (ke (zt (d7 jc O)) (ke bN C7)))) aq) O)) bD)
  (au (bG (i:=2) n9.nd O (aM O) (bb ng hr (by omega) O (ae (pv 0) aq)))
  (ax (dM dZ O (ja (bb ng hr (by omega) O (ae (pv 1) aq))) (bZ (i:=3) n9.nd O (aM O))
  (ax (cA (br Dg (pv 3) (pv 2) (by with_unfolding_all rfl)) (ax (lD gU O (fun _ _ _ _ _ _ _ I hx q=>uy I hx q) (ae bN aq) O)) bD)))))))),?_⟩
 try dsimp only[cG]
 refine Cv (fun b Hc=>Hc=H∧(b=true↔¬ T2 l=true)) (fun Qc qc =>?_) ?_ ?_
 ·cases l with
  | num n =>
   rw[dj]at hv;obtain⟨a,rfl,h⟩:=hv;exact⟨_,O,a,_,0,_,O,O,aW.of h,aB (j:=0) rfl,O,_,O,qc _ _ ⟨O,⟨fun _ x=>(nomatch x),fun _=>rfl⟩⟩⟩
  | name n =>
   rw[dj]at hv;obtain⟨a,rfl,h⟩:=hv;exact⟨_,O,a,_,0,_,O,O,aW.of h,aB (j:=0) rfl,O,_,O,qc _ _ ⟨O,⟨fun _ x=>(nomatch x),fun _=>rfl⟩⟩⟩
  | any n =>
   rw[dj]at hv;obtain⟨a,rfl,h⟩:=hv;exact⟨_,O,a,_,0,_,O,O,aW.of h,aB (j:=0) rfl,O,_,O,qc _ _ ⟨O,⟨fun _ x=>(nomatch x),fun _=>rfl⟩⟩⟩
  | of x ts =>
   rw[dj]at hv;obtain⟨a,b,vs,rfl,h,_⟩:=hv;exact⟨_,O,a,_,0,_,O,O,aW.of h,aB (j:=0) rfl,O,_,O,qc _ _ ⟨O,⟨fun x=>(nomatch x),fun x=>absurd rfl x⟩⟩⟩
 ·rintro Hc ⟨rfl,hn⟩;exact⟨(show 1<=sizeLine by decide),q2 (fun p=>hn.mp rfl p.1) _ (a6.refl _)⟩
 rintro H ⟨rfl,Ly⟩;have Ly:T2 l=true:=by
  cases e:T2 l with
  | true=>rfl
  | false=>rw[e]at Ly;exact absurd (Ly.mpr (by decide)) (by decide)
 dsimp only[gQ];refine Cv (fun b Hc=>Hc=H∧(b=true↔¬ (l.parts<=12∧r.parts<=12))) (fun Qc qc=>⟨_,O,v,l,O,hv,dl,_,_,O,O,_,O,cC (fun e=>qc _ _ ⟨O,⟨fun _ x=>by omega,fun _=>rfl⟩⟩) (fun e=>⟨_,O,u,r,O,hu,dr,_,_,O,O,_,O,qc _ _ ⟨O,?_⟩⟩)⟩) ?_ ?_
 ·rw[decide_eq_true_iff];exact⟨fun x y=>by omega,fun x=>by omega⟩
 ·rintro Hc ⟨rfl,hn⟩;exact⟨by decide,_,O,by decide,_,O,by decide,_,O,by decide,_,O,by decide,fun zz=>⟨(show 1<=sizeLine by decide),q2 (fun p=>hn.mp rfl ⟨p.2.1,p.2.2.1⟩) _ (a6.refl _)⟩⟩
 rintro H ⟨rfl,hpt⟩;have hpt:l.parts<=12∧r.parts<=12:=vW fun c=>nomatch hpt.mpr c
 dsimp only[gQ];refine⟨_,O,v,l,O,hv,dl,_,_,O,O,_,O,cC (fun e =>?_) (fun e =>?_)⟩
 ·exact⟨by decide,_,O,by decide,_,O,by decide,_,O,by decide,_,O,by decide,fun zz=>⟨(show 1<=sizeLine by decide),q2 (fun p=>by have:=p.2.2.2.1;omega) _ (a6.refl _)⟩⟩
 dsimp only[gQ];refine⟨_,O,v,l,O,hv,(by omega),(by omega),fun lh H1 s1 hlh =>?_⟩;dsimp only[b7];refine⟨_,O,u,r,O,vX s1 hu,(by omega),(by omega),fun rh H2 s2 hrh=>⟨rh,O,⟨_,bw.of hrh⟩,?_⟩⟩;have amD:=s2 _ _ hlh;have g2:=s1.trans s2;refine jm (xs:=(lE r []).map V.str) (RpI H2 v u lh l (lE r [])) (RpI.mk none rfl rfl fun j h hj=>absurd hj (gf _)) ?_ ?_ ?_
 ·rintro i σ H' _ ⟨o,rfl,rfl,_⟩;exact bw.of hrh
 ·rintro i y σ H' hy ⟨o,rfl,rfl,al⟩;rw[aJ]at hy;obtain⟨h,hh,rfl⟩:=b8.mp hy;dsimp only[b7];refine⟨_,O,_,O,lh,_,O,.inl (bw.of amD),O,yb _,_,O,?_⟩;rw[if_pos rfl,EU];by_cases hm:h∈lE l []
  ·rw[decide_eq_true hm];refine fC (RpI.mk _ rfl rfl fun j d hj hd =>?_);by_cases ej:j=i
   ·rw[ej,hh]at hd;cases hd;exact AI.mp hm
   ·exact al j d (by omega) hd
  ·rw[decide_eq_false hm];exact gH ⟨(show 1<=sizeLine by decide),q2 (fun p=>hm (AI.mpr (p.2.2.2.2 h (AI.mp (aN hh))))) _ g2⟩
 ·rintro σ H' ⟨o,rfl,rfl,al⟩;refine q1 ⟨Ly,hpt.1,hpt.2,by omega,fun h hh =>?_⟩ _ g2;obtain⟨j,hj⟩:=eG (AI.mpr hh);have Dy:=(aj.mp hj).1;exact al j h (by rw[ay];exact Dy) hj
inductive Ask where
 | free (h z:Str)
 | sign (h:Str) (m:Int)
 | num (h:Str)
def Bq(H:Hp)(v:V):Ask->Prop
 | .free h z=>∃ a,v = .ref a∧H a=some (.tup [.str "free",.str h,.str z])
 | .sign h m=>∃ a,v = .ref a∧H a=some (.tup [.str "sign",.str h,.int m])
 | .num h=>∃ a,v = .ref a∧H a=some (.tup [.str "number",.str h])
theorem Bq.keep{a:Ask}(k:∀ b ys,H b=some (.tup ys)->H' b=some (.tup ys))(h:Bq H v a):Bq H' v a:=by
 cases a with
 | free x z=>obtain⟨b,e,h⟩:=h;exact⟨b,e,k _ _ h⟩
 | sign x m=>obtain⟨b,e,h⟩:=h;exact⟨b,e,k _ _ h⟩
 | num x=>obtain⟨b,e,h⟩:=h;exact⟨b,e,k _ _ h⟩
def Asc(z:Str):Prop:=(∀ c∈z.cps.toList,c < 128)∧z.length<=1000
theorem ada(h:P4 z):Asc z:=⟨fun c hc=>by have:=h.2.2 c hc;omega,by have:=h.2.1;omega⟩
def ahV:Ask->Prop
 | .free _ z=>Asc z
 | _=>True
def Jw(bs:List Str):Ask->Prop
 | .free h z=>h∈bs∧P4 z
 | .sign h m=>h∈bs∧1<=m∧m<=7
 | .num h=>h∈bs
def Ql(bs:List Str)(as:List Ask):Prop:=as.length<=4∧∀ a∈as,Jw bs a
theorem De{α β : Type}{R : α -> β -> Prop}:∀ {xs:List α}{ys:List β}{i:Nat}{x : α},Paired R xs ys->xs[i]? = some x->∃ y,ys[i]? = some y∧R x y
 | _,_,_,_,.nil,h=>by simp at h
 | _,_,0,_,.cons r _,h=>⟨_,O,by simp at h;rw[<- h];exact r⟩
 | _,_,i+1,_,.cons _ t,h=>by
  obtain⟨y,hy,r⟩:=De (i:=i) t (by simpa using h);exact⟨y,by simpa using hy,r⟩
inductive PL(kP:Addr)(vs:List V)(H:Hp)(Q:VK)(E:XK):Prop
 | mk (A L:Addr) (kN:List V) (as:List Ask) (bs:List Str) (ev:vs = [.ref A,.ref L]) (hA:H A=some (.lst kN)) (hp:Paired (Bq H) kN as) (ha:∀ a∈as,ahV a) (hL:H L=some (.lst (bs.map V.str))) (iI:as.length<=100) (q1:Ql bs as->Q .cj H) (q2:¬ Ql bs as->E (.ref kP) none H):PL kP vs H Q E
def Vi(kP:Addr):Sp:=fun vs H Q E=>PL kP vs H Q E
inductive XF(H:Hp)(A L:Addr)(as:List Ask)(bs:List Str)(i:Nat)(σ : St)(H':Hp):Prop
 | mk (o:Option V) (e : σ = [aa A,aa L,o]) (eh:H'=H) (al:∀ j a,j < i->as[j]? = some a->Jw bs a)
theorem JV(B:iY mg)(Z:D9 K mg CU kP)(qQ:c7 P w K mg base 1 "is_word" ["text"] F5)(D:Def K mg "refuse_asks" u4 wd5):KW P w K mg base 2 "refuse_asks" wd5 (Vi kP):=by
 have gU:=Z.gU;have nt:=Z.nt;have nq:=Z.nq;refine D.af5 zq (fun vs H Q E h =>?_) (fun f bU A outer s H vs Q E hr h =>?_)
 ·obtain⟨A,L,kN,as,bs,rfl,_⟩:=h;rfl
 obtain⟨A,L,kN,as,bs,rfl,hA,hp,Zp,hL,iI,q1,q2⟩:=h;refine⟨_,(au (cA (br rE (dz cX O B.jK cn (ae (pv 0) aq)) (d7 nt O) (bo _)) (ax (lD gU O (fun _ _ _ _ _ _ _ I hx q=>uy I hx q) (ae (uE (ke bN (ke (zt (d7 nt O)) (ke bN C7)))) aq) O)) bD)
  (ax (dM dZ O (ja (pv 0)) (bZ (i:=2) zq.nd O (aM O))
  (au (cA (br Dg (aV aY (pv 2) az (fun _ _=>O)) (pv 1) (by with_unfolding_all rfl)) (ax (lD gU O (fun _ _ _ _ _ _ _ I hx q=>uy I hx q) (ae bN aq) O)) bD)
  (au (cA (PW.pt (pw_and (br d5 (aV aY (pv 2) az (fun _ _=>O)) bN (bo _)) (pw_and1 (rA (km (bb qQ hr (by omega) O (ae (aV aY (pv 2) az (fun _ _=>O)) aq))))))) (ax (lD gU O (fun _ _ _ _ _ _ _ I hx q=>uy I hx q) (ae bN aq) O)) bD)
  (ax (cA (PW.pt (pw_and (br d5 (aV aY (pv 2) az (fun _ _=>O)) bN (bo _)) (pw_and1 (PW.pt (pw_or (br Mz (aV aY (pv 2) az (fun _ _=>O)) az (bo _)) (pw_or1 (br rE (aV aY (pv 2) az (fun _ _=>O)) (d7 nq O) (bo _)))))))) (ax (lD gU O (fun _ _ _ _ _ _ _ I hx q=>uy I hx q) (ae (uE (ke bN (ke (zt (d7 nq O)) C7))) aq) O)) bD))))))),?_⟩
 try dsimp only[cG]
 have j7:=bx hp;refine⟨_,O,A,kN,O,.inl (bw.of hA),_,_,O,O,_,O,cC (fun e =>?_) (fun e =>?_)⟩
 ·exact⟨by decide,_,O,by decide,_,O,by decide,_,O,by decide,_,O,by decide,fun zz=>⟨(show 1<=sizeLine by decide),q2 fun p=>by have:=p.1;omega⟩⟩
 have h4:as.length<=4:=by omega
 dsimp only[gQ];refine⟨_,O,A,O,⟨_,bw.of hA⟩,?_⟩;refine jm (xs:=kN) (XF H A L as bs) (XF.mk none rfl rfl fun j a hj=>absurd hj (gf _)) ?_ ?_ ?_
 ·rintro i σ H' _ ⟨o,rfl,rfl,_⟩;exact bw.of hA
 ·rintro i y σ H' hy ⟨o,rfl,rfl,al⟩;obtain⟨k,hk,ha⟩:=De hp hy;have hkm:=aN hk;have nxt:Jw bs k->∀ j a,j < i+1->as[j]? = some a->Jw bs a:=fun ok j a hj hja=>by
   by_cases ej:j=i
   ·rw[ej,hk]at hja;cases hja;exact ok
   ·exact al j a (by omega) hja
  have no:¬ Jw bs k->E (.ref kP) none H':=fun n=>q2 fun p=>n (p.2 k hkm);dsimp only[b7];cases k with
  | free x z =>
   obtain⟨a,rfl,h⟩:=ha;refine⟨_,O,a,_,1,_,O,O,aW.of h,aB (j:=1) rfl,_,O,L,_,O,.inl (bw.of hL),O,yb bs,_,O,?_⟩;rw[if_pos rfl,EU];by_cases hx:x∈bs
   ·rw[decide_eq_true hx];refine fC ?_;dsimp only[gQ];obtain⟨z1,z2⟩:=(show Asc z from Zp _ hkm);refine⟨_,O,a,_,0,_,O,O,aW.of h,aB (j:=0) rfl,O,_,O,cC (fun _ =>?_) (fun z=>absurd rfl z)⟩;refine⟨_,O,a,_,2,_,O,O,aW.of h,aB (j:=2) rfl,z,O,z1,z2,fun b hb=>⟨_,O,?_⟩⟩;cases b with
    | false=>exact gH ⟨(show 1<=sizeLine by decide),no fun p=>nomatch hb.mpr p.2⟩
    | true =>
     refine fC ?_;dsimp only[gQ];exact⟨_,O,a,_,0,_,O,O,aW.of h,aB (j:=0) rfl,O,_,O,cC (fun z=>absurd (V.str.inj z) (by decide)) (fun _=>fC (XF.mk _ rfl rfl (nxt ⟨hx,hb.mp rfl⟩)))⟩
   ·rw[decide_eq_false hx];exact gH ⟨(show 1<=sizeLine by decide),no fun p=>hx p.1⟩
  | sign x m =>
   obtain⟨a,rfl,h⟩:=ha;refine⟨_,O,a,_,1,_,O,O,aW.of h,aB (j:=1) rfl,_,O,L,_,O,.inl (bw.of hL),O,yb bs,_,O,?_⟩;rw[if_pos rfl,EU];by_cases hx:x∈bs
   ·rw[decide_eq_true hx];refine fC ?_;dsimp only[gQ];refine⟨_,O,a,_,0,_,O,O,aW.of h,aB (j:=0) rfl,O,_,O,cC (fun z=>absurd (V.str.inj z) (by decide)) (fun _=>fC ?_)⟩;dsimp only[gQ];refine⟨_,O,a,_,0,_,O,O,aW.of h,aB (j:=0) rfl,O,_,O,cC (fun _ =>?_) (fun z=>absurd rfl z)⟩;refine⟨_,O,a,_,2,_,O,O,aW.of h,aB (j:=2) rfl,_,_,O,O,_,O,cC (fun z=>gH ?_) (fun z1 =>?_)⟩
    ·exact⟨by decide,_,O,by decide,_,O,by decide,_,O,by decide,fun zz=>⟨(show 1<=sizeLine by decide),no fun p=>by have:=p.2.1;omega⟩⟩
    refine⟨_,O,a,_,2,_,O,O,aW.of h,aB (j:=2) rfl,_,_,O,O,_,O,cC (fun z =>?_) (fun z2=>XF.mk _ rfl rfl (nxt ⟨hx,by omega,by omega⟩))⟩;exact⟨by decide,_,O,by decide,_,O,by decide,_,O,by decide,fun zz=>⟨(show 1<=sizeLine by decide),no fun p=>by have:=p.2.2;omega⟩⟩
   ·rw[decide_eq_false hx];exact gH ⟨(show 1<=sizeLine by decide),no fun p=>hx p.1⟩
  | num x =>
   obtain⟨a,rfl,h⟩:=ha;refine⟨_,O,a,_,1,_,O,O,aW.of h,aB (j:=1) rfl,_,O,L,_,O,.inl (bw.of hL),O,yb bs,_,O,?_⟩;rw[if_pos rfl,EU];by_cases hx:x∈bs
   ·rw[decide_eq_true hx];refine fC ?_;dsimp only[gQ];refine⟨_,O,a,_,0,_,O,O,aW.of h,aB (j:=0) rfl,O,_,O,cC (fun z=>absurd (V.str.inj z) (by decide)) (fun _=>fC ?_)⟩;dsimp only[gQ];exact⟨_,O,a,_,0,_,O,O,aW.of h,aB (j:=0) rfl,O,_,O,cC (fun z=>absurd (V.str.inj z) (by decide)) (fun _=>fC (XF.mk _ rfl rfl (nxt hx)))⟩
   ·rw[decide_eq_false hx];exact gH ⟨(show 1<=sizeLine by decide),no fun p=>hx p⟩
 ·rintro σ H' ⟨o,rfl,rfl,al⟩;refine q1 ⟨h4,fun a ha =>?_⟩;obtain⟨j,hj⟩:=eG ha;have Dy:=(aj.mp hj).1;exact al j a (by omega) hj
def PY(z:Str)(wt:Int)(l r:T)(as:List Ask):Prop:=P4 z∧(1<=wt∧wt<=1000000000000)∧UA l r∧Ql (lE l []) as
inductive KO(CU kP:Addr)(vs:List V)(H:Hp)(Q:VK)(E:XK):Prop
 | mk (o dx A:Addr) (z:Str) (wt:Int) (vl vr:V) (l r:T) (kN:List V) (as:List Ask) (ev:vs = [.ref o,.str z,.int wt,vl,vr,.ref A]) (ho:H o=some (.ins CU dx [])) (hz:Asc z) (hl:dj H l vl) (hr:dj H r vr) (dl:l.depth<=14) (dr:r.depth<=14) (pl:l.parts<=100) (pr:r.parts<=100)
  (hA:H A=some (.lst kN)) (hp:Paired (Bq H) kN as) (ha:∀ a∈as,ahV a) (iI:as.length<=100)
  (q1:PY z wt l r as->∀ H' A2,(∀ b u,b≠o->H b=some u->H' b=some u)->H A2=none->H' A2=some (.lst kN)->H' o=some (.ins CU dx [("title",.str z),("weight",.int wt),("left",vl),("right",vr),("asks",.ref A2)])->Q .cj H')
  (q2:¬ PY z wt l r as->∀ H',a6 H H'->E (.ref kP) none H'):KO CU kP vs H Q E
def Q2(CU kP:Addr):Sp:=fun vs H Q E=>KO CU kP vs H Q E
theorem YK(B:iY mg)(Z:D9 K mg CU kP)(qQ:c7 P w K mg base 1 "is_word" ["text"] F5)(pK:KW P w K mg base 16 "refuse_patterns" wd4 (Vh kP))(vi:KW P w K mg base 2 "refuse_asks" wd5 (Vi kP))(ng:c7 P w K mg base 15 "holes" wb9 (EJ 15))(D:oI K mg "Rule" CU "Rule.__init__" sU ue):pO P w K mg base 17 "Rule" CU ue (Q2 CU kP):=by
 have gU:=Z.gU;have kT:=Z.kT;refine D.has Ys (fun vs H Q E h =>?_) (fun f bU A outer s H vs Q E hr h =>?_)
 ·obtain⟨o,dx,A,z,wt,vl,vr,l,r,kN,as,rfl,_⟩:=h;rfl
 obtain⟨o,dx,A,z,wt,vl,vr,l,r,kN,as,rfl,ho,hz,hl,hr',dl,dr,pl,pr,hA,hp,Zp,iI,q,q2⟩:=h;refine⟨_,(au (cA (rA (km (bb qQ hr (by omega) O (ae (pv 1) aq)))) (ax (lD gU O (fun _ _ _ _ _ _ _ I hx q=>uy I hx q) (ae bN aq) O)) bD)
  (au (cA (PW.pt (pw_or (br Mz (pv 2) az (bo _)) (pw_or1 (br rE (pv 2) (d7 kT O) (bo _))))) (ax (lD gU O (fun _ _ _ _ _ _ _ I hx q=>uy I hx q) (ae (uE (ke bN (ke (zt (d7 kT O)) C7))) aq) O)) bD)
  (au (eJ (NT pK hr (by omega) (AA fun _ _ _ z=>z) O (ae (pv 3) (ae (pv 4) aq))))
  (au (eJ (NT vi hr (by omega) (AA fun _ _ _ z=>z) O (ae (pv 5) (ae (bb ng hr (by omega) O (ae (pv 3) aq)) aq))))
  (au (ft (pv 0) (pv 1) O)
  (au (ft (pv 0) (pv 2) O)
  (au (ft (pv 0) (pv 3) O)
  (au (ft (pv 0) (pv 4) O)
  (ax (ft (pv 0) (fF kr O B.vO jY (ae (pv 5) aq)) O)))))))))),?_⟩
 try dsimp only[cG]
 refine⟨_,O,z,O,hz.1,hz.2,fun b hb=>⟨_,O,?_⟩⟩;cases b with
 | false=>exact gH ⟨(show 1<=sizeLine by decide),q2 (fun p=>nomatch hb.mpr p.1) _ (a6.refl _)⟩
 | true =>
 have hw:P4 z:=hb.mp rfl;refine fC ?_;dsimp only[gQ];refine⟨_,O,_,_,O,O,_,O,cC (fun e=>gH ?_) (fun e1=>⟨_,O,_,_,O,O,_,O,cC (fun e =>?_) (fun e2 =>?_)⟩)⟩
 ·exact⟨by decide,_,O,by decide,_,O,by decide,_,O,by decide,fun zz=>⟨(show 1<=sizeLine by decide),q2 (fun p=>by have:=p.2.1.1;omega) _ (a6.refl _)⟩⟩
 ·exact⟨by decide,_,O,by decide,_,O,by decide,_,O,by decide,fun zz=>⟨(show 1<=sizeLine by decide),q2 (fun p=>by have:=p.2.1.2;omega) _ (a6.refl _)⟩⟩
 have w12:1<=wt∧wt<=1000000000000:=⟨by omega,by omega⟩;dsimp only[gQ];refine⟨_,O,_,O,PK.mk vl vr l r rfl hl hr' dl dr pl pr (fun pok H1 s1 =>?_) (fun n H' s'=>q2 (fun p=>n p.2.2.1) _ s')⟩;refine⟨_,O,_,O,vl,l,O,vX s1 hl,(by omega),(by omega),fun lh H2 s2 hlh =>?_⟩;have g2:=s1.trans s2;refine PL.mk A lh kN as (lE l []) rfl (g2 _ _ hA) (Paired.g9 hp fun _ _ y=>y.keep fun b ys=>g2 _ _) Zp hlh iI (fun aok =>?_) (fun n=>q2 (fun p=>n p.2.2.2) _ g2);have ho2:=g2 _ _ ho;have hAo:A≠o:=b9 hA ho nofun
 have k2:∀ b u,b≠o->H b=some u->H2 b=some u:=fun b u _ h=>g2 _ _ h;have f2:∀ b,H2 b=none->H b=none:=fun b h=>g2.free h;refine⟨_,O,_,O,o,CU,dx,_,O,ho2,Z.cU,Z.Wc,by decide,?_⟩;refine⟨_,O,_,O,o,CU,dx,_,O,ak,Z.cU,Z.Rq,(show 1 < 1000 by decide),?_⟩;rw[sI];refine⟨_,O,_,O,o,CU,dx,_,O,ak,Z.cU,Z.MD,(show 2 < 1000 by decide),?_⟩;rw[sI];refine⟨_,O,_,O,o,CU,dx,_,O,ak,Z.cU,Z.Oh,(show 3 < 1000 by decide),?_⟩;rw[sI];refine⟨_,O,A,kN,O,.inl (bw.of (by rw[av hAo];exact g2 _ _ hA)),fun A2 mY =>?_⟩;have w8:A2≠o:=fun e=>by rw[e,ak]at mY;cases mY
 have pL:H A2=none:=f2 _ (by rw[av w8]at mY;exact mY);refine⟨_,O,o,CU,dx, [("title",.str z),("weight",.int wt),("left",vl),("right",vr)],O,(by rw[av (bR w8),ak];rfl),Z.cU,Z.aaS,(show 4 < 1000 by decide),?_⟩;refine q ⟨hw,w12,pok,aok⟩ _ A2 (fun b u n h =>?_) pL ?_ ak
 ·rw[av n,av (fe h pL),av n];exact k2 b u n h
 ·rw[av w8];exact ak
theorem N6(D:Er K mg "class_of" kZ gr [.cj]):zd P w K mg base 0 "class_of" gr [.cj] (fun _ _ _ _=>False):=by
 obtain⟨f,fd,ds,F,hm,hk,hb,hv,j8⟩:=D.ex;exact⟨f,fd,ds,⟨fun vs H Q E h=>h.elim,fun A outer s H args us vs Q E _ _ _ _ h=>h.elim⟩,hm,hk,hb,hv,j8⟩
inductive Uz(vs:List V)(H:Hp)(Q:VK):Prop
 | mk (t v:V) (L G:Addr) (ls:List Nat) (h:Str) (j:Nat) (z0:vs = [t,.ref L,v,.ref G]) (hL:H L=some (.lst (ls.map nV))) (hv:dj H (.any h) v) (hG:H G=some (.dK (lL [(h,j)]))) (hj:j < ls.length) (q:Q (nV (ls.getD j 0)) H):Uz vs H Q
def aaC:Sp:=fun vs H Q _=>Uz vs H Q
theorem Kp{G:Addr}(hG:H G=some (.dK (lL [(h,j)]))):mP H G (.str h) (some (nV j)):=by
 have:=mP.k (k:=(.inr h:Key)) hG;rw[zP,look,if_pos rfl]at this;exact this
theorem N5(B:iY mg)(D:Er K mg "class_of" kZ gr [.cj]):zd P w K mg base 1 "class_of" gr [.cj] aaC:=by
 have rO:=N6 (P:=P) (w:=w) (base:=base) D;refine D.has j4 (fun vs H Q E h =>?_) (fun f bU A outer s H vs Q E hr h =>?_)
 ·obtain⟨t,v,L,G,ls,h,j,rfl,_⟩:=h;rfl
 obtain⟨t,v,L,G,ls,h,j,rfl,hL,hv,hG,hj,q⟩:=h;refine⟨_,(au (cA (br d5 (aV aY (pv 2) az (fun _ _=>O)) bN (bo _)) (ax (aZ (aV dy (pv 1) (qL (lU hr) (pv 3) (aV aY (pv 2) az (fun _ _=>O)) (fun _ _=>O)) (fun _ _=>O)))) bD)
  (au (cA (br oP (aV aY (pv 2) az (fun _ _=>O)) bN (bo _)) (ax (aZ (wA (sL hr) (pv 0) (pv 2) ⟨O,O,O,O⟩))) bD)
  (au (bG (i:=4) j4.nd O (aM O) (fu aq))
  (au (dM dZ O (pV (aV aY (pv 2) az (fun _ _=>O))) (bZ (i:=5) j4.nd O (aM O))
  (au (bG (i:=6) j4.nd O (aM O) (Dd rO hr (by omega) O (ae (pv 0) (ae (pv 1) (ae (pv 5) (ae (pv 3) aq))))))
  (au (cA (br VW (pv 6) rC (bo _)) (ax (aZ rC)) bD)
  (ax (eJ (jV bK cy cx fX (pv 4) (ae (pv 6) aq)))))))
  (ax (aZ (wA (sL hr) (pv 0) (dX (ae bN (ae (aV aY (pv 2) az (fun _ _=>O)) (ae (fF m6 O B.BZ p8 (ae (pv 4) aq)) aq)))) ⟨O,O,O,O⟩))))))),?_⟩
 try dsimp only[cG]
 rw[dj]at hv;obtain⟨a,rfl,ha⟩:=hv;have e3:ls[j]? = some (ls.getD j 0):=by rw[aU,ah hj];rfl
 refine⟨_,O,a,_,0,_,O,O,aW.of ha,aB (j:=0) rfl,O,_,O,cC (fun _ =>?_) (fun z=>absurd rfl z)⟩;exact⟨_,O,_,O,_,O,a,_,1,_,O,O,aW.of ha,aB (j:=1) rfl,G,_,O,Kp hG,L,_,_,_,O,O,bw.of hL,gG e3,q⟩
inductive Uy(P:Program)(w:World)(vs:List V)(H:Hp)(Q:VK):Prop
 | mk (p L G:Addr) (v:V) (kvs:List (NK × V)) (ls:List Nat) (x h:Str) (j:Nat) (z0:vs = [.ref p,.ref L,v,.ref G]) (dn:DN P w H p kvs) (hL:H L=some (.lst (ls.map nV))) (hv:dj H (.of x [.any h,.any h]) v) (hG:H G=some (.dK (lL [(h,j)]))) (hj:j < ls.length)
  (q:∀ H',a6 H H'->Q ((cP kvs (dJ (.of x [ls.getD j 0,ls.getD j 0]))).getD .cj) H'):Uy P w vs H Q
def aaB(P:Program)(w:World):Sp:=fun vs H Q _=>Uy P w vs H Q
inductive ClI(H:Hp)(p L t G Ar:Addr)(l i:Nat)(σ : St)(H':Hp):Prop
 | mk (o5 o6:Option V) (e : σ = [aa p,aa L,aa t,aa G,aa Ar,o5,o6]) (sm:a6 H H') (hAr:H' Ar=some (.lst ((bq i l).map nV))):ClI H p L t G Ar l i σ H'
theorem N4(B:iY mg)(rO:zd P w K mg base 1 "class_of" gr [.cj] aaC)(D:Er K mg "class_of" kZ gr [.cj]):zd P w K mg base 2 "class_of" gr [.cj] (aaB P w):=by
 refine D.has j4 (fun vs H Q E h =>?_) (fun f bU A outer s H vs Q E hr h =>?_)
 ·obtain⟨p,L,G,v,kvs,ls,x,h,j,rfl,_⟩:=h;rfl
 obtain⟨p,L,G,v,kvs,ls,x,h,j,rfl,dn,hL,hv,hG,hj,q⟩:=h;refine⟨_,(au (cA (br d5 (aV aY (pv 2) az (fun _ _=>O)) bN (bo _)) (ax (aZ (aV dy (pv 1) (qL (lU hr) (pv 3) (aV aY (pv 2) az (fun _ _=>O)) (fun _ _=>O)) (fun _ _=>O)))) bD)
  (au (cA (br oP (aV aY (pv 2) az (fun _ _=>O)) bN (bo _)) (ax (aZ (wA (sL hr) (pv 0) (pv 2) ⟨O,O,O,O⟩))) bD)
  (au (bG (i:=4) j4.nd O (aM O) (fu aq))
  (au (dM dZ O (pV (aV aY (pv 2) az (fun _ _=>O))) (bZ (i:=5) j4.nd O (aM O))
  (au (bG (i:=6) j4.nd O (aM O) (Dd rO hr (by omega) O (ae (pv 0) (ae (pv 1) (ae (pv 5) (ae (pv 3) aq))))))
  (au (cA (br VW (pv 6) rC (bo _)) (ax (aZ rC)) bD)
  (ax (eJ (jV bK cy cx fX (pv 4) (ae (pv 6) aq)))))))
  (ax (aZ (wA (sL hr) (pv 0) (dX (ae bN (ae (aV aY (pv 2) az (fun _ _=>O)) (ae (fF m6 O B.BZ p8 (ae (pv 4) aq)) aq)))) ⟨O,O,O,O⟩))))))),?_⟩
 try dsimp only[cG]
 rw[dj]at hv;obtain⟨t,b,as,rfl,ht,hb,has⟩:=hv;have WL:=sO has;refine⟨_,O,t,_,0,_,O,O,aW.of ht,aB (j:=0) rfl,O,_,O,cC (fun z=>absurd (V.str.inj z) (by decide)) (fun _ =>?_)⟩;refine⟨_,O,t,_,0,_,O,O,aW.of ht,aB (j:=0) rfl,O,_,O,ig (fun z=>absurd rfl z) (fun _ =>?_)⟩;refine⟨aQ _,fun Ar hAr =>?_⟩;dsimp only[b7];have s1:=aD hAr (.lst []);have mZ:=ak (H:=H) (a:=Ar) (o := .lst []);generalize aC H Ar (.lst [])=H1 at s1 mZ ⊢;refine⟨_,O,t,_,2,_,O,O,aW.of (s1 _ _ ht),aB (j:=2) rfl,b,O,⟨as,aW.of (s1 _ _ hb)⟩,?_⟩;refine qT (xs:=as) (ClI H p L t G Ar (ls.getD j 0)) (ClI.mk none none rfl s1 mZ) ?_ ?_ ?_
 ·rintro i σ H' _ ⟨o5,o6,rfl,sm,_⟩;exact aW.of (sm _ _ hb)
 ·rintro i y σ H' hy ⟨o5,o6,rfl,sm,WZ⟩;obtain⟨ti,BB,OZ⟩:=wk has hy;obtain rfl:ti = .any h:=by
   have:=aN BB;simp at this;exact this
  have il:i < 2:=(aj.mp BB).1;dsimp only[b7];refine⟨_,O,_,O,_,O,_,O,Uz.mk _ y L G ls h j rfl (sm _ _ hL) (vX sm OZ) (sm _ _ hG) hj ?_⟩;dsimp only[b7];refine⟨_,O,O,_,O,fC ?_⟩;dsimp only[gQ];refine⟨_,O,.inl ⟨O,_,bw.of WZ⟩,_,O,Ar,_,_,O,O,WZ,dD (by rw[ay,iF];omega),ClI.mk _ _ rfl (fun c u z=>by rw[av (fe z hAr)];exact sm _ _ z) ?_⟩;rw[ak,List.replicate_succ',cR];rfl
 ·rintro σ H' ⟨o5,o6,rfl,sm,WZ⟩;rw[<- WL]at WZ;refine⟨_,O,p,O,⟨kvs,dn.same sm⟩,?_⟩;refine⟨_,O,t,_,1,_,O,O,aW.of (sm _ _ ht),aB (j:=1) rfl,?_⟩;refine⟨_,O,Ar,_,O,.inl ⟨bw.of WZ,fun l Fw =>?_⟩⟩;have s2:=aD Fw (.tup ((bq 2 (ls.getD j 0)).map nV));have h2:=ak (H:=H') (a:=l) (o := .tup ((bq 2 (ls.getD j 0)).map nV));dsimp only[cg,jG] ;generalize aC H' l (.tup ((bq 2 (ls.getD j 0)).map nV))=H2 at s2 h2 ⊢;refine⟨(show 3<=sizeLine by decide),fun tp uK =>?_⟩;have s3:=aD uK (.tup [.str "of",.str x,.ref l]);have h3:=ak (H:=H2) (a:=tp) (o := .tup [.str "of",.str x,.ref l]);generalize aC H2 tp (.tup [.str "of",.str x,.ref l])=H3 at s3 h3 ⊢;have it:ix H3 (.of x [ls.getD j 0,ls.getD j 0]) (.ref tp):=⟨tp,l,O,h3,s3 _ _ h2⟩;obtain⟨kb,e,nk⟩:=it.key;cases e;have g3:=sm.trans (s2.trans s3);exact⟨tp,kvs,_,O,dn.same g3,nk,q _ g3⟩
theorem V0(D:gD K CN "free" "Names.free" Q8 wc3):ic P w K mg base 1 CN "free" wc3 (fun _ _ _ _=>False):=by
 obtain⟨fa,fd,F,hm,hb⟩:=D.ex;exact⟨fa,fd,⟨fun vs H Q E h=>h.elim,fun A outer s H args us vs Q E _ _ _ _ h=>h.elim⟩,hm,hb⟩
theorem Qw(D:gD K CS "within" "Signs.within" Ld wc4):ic P w K mg base 1 CS "within" wc4 (fun _ _ _ _=>False):=by
 obtain⟨fa,fd,F,hm,hb⟩:=D.ex;exact⟨fa,fd,⟨fun vs H Q E h=>h.elim,fun A outer s H args us vs Q E _ _ _ _ h=>h.elim⟩,hm,hb⟩
structure jA(CU:Addr)(H:Hp)(R dr:Addr)(z:Str)(wt:Int)(vl vr:V)(A:Addr)(x h:Str):Prop where
 ho:H R=some (.ins CU dr [("title",.str z),("weight",.int wt),("left",vl),("right",vr),("asks",.ref A)])
 hl:dj H (.of x [.any h]) vl
 hr:dj H (.of x [.any h,.any h]) vr
 hA:∃ kN as,H A=some (.lst kN)∧Paired (Bq H) kN as∧∀ a∈as,a = .num h
theorem jA.same(r:jA CU H R dr z wt vl vr A x h)(s:a6 H H'):jA CU H' R dr z wt vl vr A x h:=by
 obtain⟨kN,as,a,b,c⟩:=r.hA;exact⟨s _ _ r.ho,vX s r.hl,vX s r.hr,kN,as,s _ _ a,Paired.g9 b fun _ _ y=>y.keep fun c ys=>s _ _,c⟩
inductive PR(CU CS:Addr)(vs:List V)(H:Hp)(Q:VK):Prop
 | mk (R dr A G sg:Addr) (z:Str) (wt:Int) (vl vr k1 k2 k3:V) (x h:Str) (j:Nat) (n:Int) (ts:List Tm) (ls:List Nat) (z0:vs = [.ref R,.ref G,.ref sg,k1,k2,k3]) (hR:jA CU H R dr z wt vl vr A x h) (hG:H G=some (.dK (lL [(h,j)]))) (hS:xj CS H sg ts ls) (uL:ls.length=ts.length) (iI:ts.length<=900) (hj:j < ts.length) (hn:AE ts ls j = [n])
  (q:∀ H',a6 H H'->Q (.bl true) H'):PR CU CS vs H Q
def Vm(CU CS:Addr):Sp:=fun vs H Q _=>PR CU CS vs H Q
theorem TB(B:iY mg)(Z:D9 K mg CU kP)(Zs:Bf K mg CS tB)(cN:lB K CN)(Kj:ic P w K mg base 1 CN "free" wc3 (fun _ _ _ _=>False))(DC:ic P w K mg base 1 CS "within" wc4 (fun _ _ _ _=>False))(qP:c7 P w K mg base 2 "numbers" wb3 Ca)(D:Def K mg "holding" Co qg):c7 P w K mg base 3 "holding" qg (Vm CU CS):=by
 have cU:=Z.cU;have cS:=Zs.cS;refine D.has An (fun vs H Q E h =>?_) (fun f bU A outer s H vs Q E hr h =>?_)
 ·obtain⟨R,dr,A,G,sg,z,wt,vl,vr,k1,k2,k3,x,h,j,n,ts,ls,rfl,_⟩:=h;rfl
 obtain⟨R,dr,A,G,sg,z,wt,vl,vr,k1,k2,k3,x,h,j,n,ts,ls,rfl,hR,hG,hS,uL,iI,hj,hn,q⟩:=h;obtain⟨kN,as,hA,hp,bO⟩:=hR.hA;obtain⟨dS,T1,L1,us,hS1,hT1,dP,w4⟩:=hS.ex;refine⟨_,(au (dM bX O (ja (bW (pv 0) O)) (bZ (i:=6) An.nd O (aM O))
  (au (bG (i:=7) An.nd O (aM O) (qL (lU hr) (pv 1) (aV aY (pv 6) az (fun _ _=>O)) (fun _ _=>O)))
  (au (cA (PW.pt (pw_and (br d5 (aV aY (pv 6) az (fun _ _=>O)) bN (bo _)) (pw_and1 (rA (km (lP Kj cN hr (by omega) gw (pv 4) (ae (pv 5) (ae (pv 7) (ae (aV aY (pv 6) az (fun _ _=>O)) aq))))))))) (ax (aZ lQ)) bD)
  (au (cA (PW.pt (pw_and (br d5 (aV aY (pv 6) az (fun _ _=>O)) bN (bo _)) (pw_and1 (rA (km (lP DC cS hr (by omega) gw (pv 2) (ae (pv 3) (ae (pv 7) (ae (aV aY (pv 6) az (fun _ _=>O)) aq))))))))) (ax (aZ lQ)) bD)
  (ax (cA (PW.pt (pw_and (br d5 (aV aY (pv 6) az (fun _ _=>O)) bN (bo _)) (pw_and1 (rA (Av (bb qP hr (by omega) O (ae (bW (pv 2) O) (ae (bW (pv 2) O) (ae (pv 7) aq)))) (fun _=>O)))))) (ax (aZ lQ)) bD))))))
  (ax (aZ lQ))),?_⟩
 try dsimp only[cG]
 refine⟨_,O,R,CU,dr,_,_,O,hR.ho,Z.cU,Z.aaS,O,A,O,⟨_,bw.of hA⟩,?_⟩;refine jm (xs:=kN) (fun i σ H'=>∃ o o7, σ = [aa R,aa G,aa sg,some k1,some k2,some k3,o,o7]∧a6 H H') ⟨none,none,O,a6.refl _⟩ ?_ ?_ ?_
 ·rintro i σ H' _ ⟨o,o7,rfl,sm⟩;exact bw.of (sm _ _ hA)
 ·rintro i y σ H' hy ⟨o,o7,rfl,sm⟩;obtain⟨k,hk,ha⟩:=De hp hy;obtain rfl:=bO k (aN hk);obtain⟨a,rfl,h0⟩:=ha;have h':=sm _ _ h0;dsimp only[b7];refine⟨_,O,_,O,a,_,1,_,O,O,aW.of h',aB (j:=1) rfl,G,_,O,Kp (sm _ _ hG),?_⟩;dsimp only[b7];refine⟨_,O,a,_,0,_,O,O,aW.of h',aB (j:=0) rfl,O,_,O,cC (fun z=>absurd (V.str.inj z) (by decide)) (fun _=>fC ?_)⟩;refine⟨_,O,a,_,0,_,O,O,aW.of h',aB (j:=0) rfl,O,_,O,cC (fun z=>absurd (V.str.inj z) (by decide)) (fun _=>fC ?_)⟩;refine⟨_,O,a,_,0,_,O,O,aW.of h',aB (j:=0) rfl,O,_,O,cC (fun _ =>?_) (fun z=>absurd rfl z)⟩;refine⟨_,O,sg,CS,dS,_,_,O,sm _ _ hS1,Zs.cS,Zs.gM,O,_,O,sg,CS,dS,_,_,O,sm _ _ hS1,Zs.cS,Zs.ma,O,_,O,T1,L1,us,ts,ls,j,O,sm _ _ hT1,eN sm dP,sm _ _ w4,uL,(by omega),hj,fun W H3 s3 _ hW =>?_⟩;rw[hn]at hW;exact⟨true,.inl ⟨_,bw.of hW,O⟩,fC ⟨_,_,O,sm.trans s3⟩⟩
 ·rintro σ H' ⟨o,o7,rfl,sm⟩;exact q H' sm
theorem tlG(hm:m<=n)(hn:n<=120):vj (eC x b n (2 * n+m)) (mw n (2 * n+m)) :=
 ⟨MK (by omega),by rw[tO,fK],by rw[fK];omega,fun i x as h=>by have:=(ofG h).2.2;omega,ac8 (MK (by omega)) (Kt hm)⟩
theorem teG(hm:m<=n){k:Nat}(hk:k < 2 * n+m):Dn (eC x b n (2 * n+m)) (mw n (2 * n+m)) x [.any h] k=if k < 2 * n∧k % 2=1 then [(k, [(h,k - 1)])] else []:=by
 unfold Dn wm;rw[wj hk];unfold iL;by_cases h1:k < 2 * n
 ·rw[if_pos h1];by_cases h2:k % 2=0
  ·rw[if_pos h2,if_neg (c:=k < 2 * n∧_) (by omega)];rfl
  ·rw[if_neg h2,if_pos (c:=k < 2 * n∧_) (by omega)];show qC _ (if x=x∧1=1 then _ else _)=_;rw[if_pos ⟨O,O⟩,pD,pD];show (qC _ (ox _ _ _ (.any h) ((mw n (2 * n+m)).getD (k - 1) 0) [] ++ []))=_;rw[ox,tP (by omega),ldG,if_pos (by omega)];rfl
 ·rw[if_neg h1,if_neg (c:=k < 2 * n∧_) (by omega)];show qC _ (if x=x∧2=1 then _ else _)=_;rw[if_neg (by omega)];rfl
theorem IM{α β : Type}{f g : α -> List β}:∀ {l:List α},(∀ a∈l,f a=g a)->l.flatMap f=l.flatMap g
 | [],_=>rfl
 | a :: l,h=>by rw[f6,f6,h a bM,IM fun b hb=>h b (aX _ hb)]
theorem mtG(hm:m<=n):(aI (2 * n+m)).flatMap (Dn (eC x b n (2 * n+m)) (mw n (2 * n+m)) x [.any h])=(aI n).map fun j=>(2 * j+1, [(h,2 * j)]):=by
 rw[IM fun k hk=>teG hm (dH.mp hk),ub,gX];have e2:((aI m).map (2 * n + ·)).flatMap (fun k=>if k < 2 * n∧k % 2=1 then [(k, [(h,k - 1)])] else []) = []:=by
  rw[List.flatMap_eq_nil_iff];intro k hk;obtain⟨i,_,rfl⟩:=eD.mp hk;rw[if_neg (by omega)]
 rw[e2,cY];have key:∀ c,c<=n->(aI (2 * c)).flatMap (fun k=>if k < 2 * n∧k % 2=1 then [(k, [(h,k - 1)])] else [])=(aI c).map fun j=>(2 * j+1, [(h,2 * j)]):=fun c=>by
  induction c with
  | zero=>exact fun _=>rfl
  | succ c ih =>
   intro hc;rw[show 2 * (c+1)=2 * c+1+1 by omega,eM,eM,gX,gX,ih (by omega),eM,cR,f6,f6,if_neg (by omega),if_pos (by omega)];rw[List.flatMap_nil,cY,cY,cY];rfl
 exact key n (aw _)
theorem YU{ns:List Nat}(pm:ns.Perm (aI l))(so:ns.Pairwise (· <= ·)):ns=aI l :=
 eg.eq_of_pairwise (fun a b _ _ h1 h2=>Nat.le_antisymm h1 h2) so (zb.imp fun {a b} h=>ky h) pm
def dW(z h:Str)(j:Nat):D := .tup [.str "rule",.str z,.tup [.tup [.str h,.int ((2 * j:Nat):Int)]]]
structure uz(vl vr:V)(z:Str)(wt:Int)(h:Str)(H:Hp)(v:V)(j:Nat):Prop where
 ex:∃ p y g,v = .ref p∧H p=some (.tup [y,.int wt,vl,vr,.ref g])∧Den H (dW z h j) y∧H g=some (.dK (lL [(h,2 * j)]))
theorem uz.keep(kt:∀ c ys,H c=some (.tup ys)->H' c=some (.tup ys))(kd:∀ c kv,H c=some (.dK kv)->H' c=some (.dK kv))(s:uz vl vr z wt h H v j):uz vl vr z wt h H' v j:=by
 obtain⟨p,y,g,e,h1,h2,h3⟩:=s.ex;exact⟨p,y,g,e,kt _ _ h1,ye kt rfl h2,kd _ _ h3⟩
inductive Z9(P:Program)(w:World)(CS CE CU:Addr)(vs:List V)(H:Hp)(Q:VK):Prop
 | mk (o dx T L p sg nm N N' R dr A G:Addr) (z:Str) (wt:Int) (vl vr:V) (x h:Str) (j:Nat) (n:Int) (ts:List Tm) (ls:List Nat) (kvs:List (NK × V)) (z0:vs = [.ref o,.ref R,.ref G]) (hS:t7 P w CS CE H o dx T L p sg nm N N' ts ls kvs) (hR:jA CU H R dr z wt vl vr A x h) (hG:H G=some (.dK (lL [(h,j)]))) (uL:ls.length=ts.length) (iI:ts.length<=900) (hj:j < ts.length) (hn:AE ts ls j = [n])
  (q:∀ H',a6 H H'->Q (.bl true) H'):Z9 P w CS CE CU vs H Q
def ad9(P:Program)(w:World)(CS CE CU:Addr):Sp:=fun vs H Q _=>Z9 P w CS CE CU vs H Q
theorem N7(Z:TopE K CE)(DG:c7 P w K mg base 3 "holding" qg (Vm CU CS))(D:gD K CE "asks_hold" "Scene.asks_hold" yI wb8):ic P w K mg base 4 CE "asks_hold" wb8 (ad9 P w CS CE CU):=by
 refine D.has Nt (fun vs H Q E h =>?_) (fun f bU A outer s H vs Q E hr h =>?_)
 ·obtain⟨o,dx,T,L,p,sg,nm,N,N',R,dr,A,G,z,wt,vl,vr,x,h,j,n,ts,ls,kvs,rfl,_⟩:=h;rfl
 obtain⟨o,dx,T,L,p,sg,nm,N,N',R,dr,A,G,z,wt,vl,vr,x,h,j,n,ts,ls,kvs,rfl,hS,hR,hG,uL,iI,hj,hn,q⟩:=h;refine⟨_,(ax (aZ (bb DG hr (by omega) O (ae (pv 1) (ae (pv 2) (ae (bW (pv 0) O) (ae (bW (pv 0) O) (ae (bW (pv 0) O) (ae (bW (pv 0) O) aq))))))))),?_⟩
 try dsimp only[cG]
 exact⟨_,O,_,O,_,O,o,CE,dx,_,_,O,hS.ho,Z.cE,Z.Og,O,_,O,o,CE,dx,_,_,O,hS.ho,Z.cE,Z.nKs,O,_,O,o,CE,dx,_,_,O,hS.ho,Z.cE,Z.Oi,O,_,O,o,CE,dx,_,_,O,hS.ho,Z.cE,Z.nKn,O,PR.mk R dr A G sg z wt vl vr _ _ _ x h j n ts ls rfl hR hG hS.sgn uL iI hj hn q⟩
inductive Z7(P:Program)(w:World)(CS CE:Addr)(vs:List V)(H:Hp)(Q:VK):Prop
 | mk (o dx T L p sg nm N N' G:Addr) (v:V) (x h:Str) (j k:Nat) (ts:List Tm) (ls:List Nat) (kvs:List (NK × V)) (z0:vs = [.ref o,nV k,v,.ref G]) (hS:t7 P w CS CE H o dx T L p sg nm N N' ts ls kvs) (hL:H L=some (.lst (ls.map nV))) (hv:dj H (.of x [.any h,.any h]) v) (hG:H G=some (.dK (lL [(h,j)]))) (hj:j < ls.length) (hk:k < ls.length)
  (hs:Yr ((cP kvs (dJ (.of x [ls.getD j 0,ls.getD j 0]))).getD .cj) (nV (ls.getD k 0))=true) (q:∀ H',a6 H H'->Q (.bl (!decide ((cP kvs (dJ (.of x [ls.getD j 0,ls.getD j 0]))).getD .cj=nV (ls.getD k 0)))) H'):Z7 P w CS CE vs H Q
def ad7(P:Program)(w:World)(CS CE:Addr):Sp:=fun vs H Q _=>Z7 P w CS CE vs H Q
theorem Tz(Z:TopE K CE)(rO:zd P w K mg base 2 "class_of" gr [.cj] (aaB P w))(D:gD K CE "is_news" "Scene.is_news" Cn wb2):ic P w K mg base 3 CE "is_news" wb2 (ad7 P w CS CE):=by
 refine D.has Ti (fun vs H Q E h =>?_) (fun f bU A outer s H vs Q E hr h =>?_)
 ·obtain⟨o,dx,T,L,p,sg,nm,N,N',G,v,x,h,j,k,ts,ls,kvs,rfl,_⟩:=h;rfl
 obtain⟨o,dx,T,L,p,sg,nm,N,N',G,v,x,h,j,k,ts,ls,kvs,rfl,hS,hL,hv,hG,hj,hk,hs,q⟩:=h;refine⟨_,(ax (aZ (jb oP (Dd rO hr (by omega) O (ae (bW (pv 0) O) (ae (bW (pv 0) O) (ae (pv 2) (ae (pv 3) aq))))) (aV dy (bW (pv 0) O) (pv 1) (fun _ _=>O)) (bo _)))),?_⟩
 try dsimp only[cG]
 have e3:ls[k]? = some (ls.getD k 0):=by rw[aU,ah hk];rfl
 refine⟨_,O,o,CE,dx,_,_,O,hS.ho,Z.cE,Z.zw,O,_,O,o,CE,dx,_,_,O,hS.ho,Z.cE,Z.ma,O,_,O,_,O,Uy.mk p L G v kvs ls x h j rfl hS.dn hL hv hG hj fun H1 s1 =>?_⟩;exact⟨_,O,o,CE,dx,_,_,O,s1 _ _ hS.ho,Z.cE,Z.ma,O,_,O,L,_,_,_,O,O,bw.of (s1 _ _ hL),gG e3,hs,q _ s1⟩
inductive Z6(P:Program)(w:World)(CS CE CU:Addr)(vs:List V)(H:Hp)(Q:VK):Prop
 | mk (o dx Ta L p sg nm N N' R dr A:Addr) (z:Str) (wt:Int) (vl vr:V) (x h:Str) (b:Int) (n m:Nat) (us:List V) (kvs:List (NK × V)) (z0:vs = [.ref o,.ref R]) (hS:t7 P w CS CE H o dx Ta L p sg nm N N' (eC x b n (2 * n+m)) (mw n (2 * n+m)) kvs) (hT:H Ta=some (.lst us)) (dP:kO H us (eC x b n (2 * n+m))) (hL:H L=some (.lst ((mw n (2 * n+m)).map nV))) (hR:jA CU H R dr z wt vl vr A x h) (hm:m<=n) (h1:1<=n) (tV:n<=120)
  (q:∀ F fs H',a6 H H'->H F=none->H' F=some (.lst fs)->Paired (uz vl vr z wt h H') fs ((aI n).drop m)->Q (.ref F) H'):Z6 P w CS CE CU vs H Q
def ad6(P:Program)(w:World)(CS CE CU:Addr):Sp:=fun vs H Q _=>Z6 P w CS CE CU vs H Q
inductive XE(vl vr:V)(z:Str)(wt:Int)(h:Str)(m:Nat)(o R F Wd M:Addr)(ms:List V)(rs:List (Nat × Bd))(H:Hp)(i:Nat)(σ : St)(H':Hp):Prop
 | mk (fs:List V) (x4 x5 x6:Option V) (e : σ = [aa o,aa R,aa F,aa Wd,x4,x5,x6]) (sm:a6 H H') (DH:H' Wd=some (.lst [.str h])) (hM:H' M=some (.lst ms)) (rm:ym H' ms rs) (hF:H' F=some (.lst fs)) (hf:Paired (uz vl vr z wt h H') fs ((aI i).drop m)):XE vl vr z wt h m o R F Wd M ms rs H i σ H'
theorem adn(h:i < m):(aI (i+1)).drop m=(aI i).drop m:=by
 rw[hV (by rw[bA];omega),hV (by rw[bA];omega)]
theorem ado(h:m<=i):(aI (i+1)).drop m=(aI i).drop m ++ [i]:=by
 rw[eM,su (by rw[bA];exact h)]
theorem NX(B:iY mg)(Z:TopE K CE)(Zu:D9 K mg CU kP)(ng:c7 P w K mg base 15 "holes" wb9 (EJ 15))(DE:c7 P w K mg base 10 "matches" wc0 La)(yW:ic P w K mg base 4 CE "asks_hold" wb8 (ad9 P w CS CE CU))(DF:ic P w K mg base 3 CE "is_news" wb2 (ad7 P w CS CE))(D:gD K CE "rule_news" "Scene.rule_news" uq wd7):ic P w K mg base 16 CE "rule_news" wd7 (ad6 P w CS CE CU):=by
 have cE:=Z.cE;refine D.has lZ (fun vs H Q E h =>?_) (fun f bU A outer s H vs Q E hr h =>?_)
 ·obtain⟨o,dx,Ta,L,p,sg,nm,N,N',R,dr,A,z,wt,vl,vr,x,h,b,n,m,us,kvs,rfl,_⟩:=h;rfl
 obtain⟨o,dx,Ta,L,p,sg,nm,N,N',R,dr,A,z,wt,vl,vr,x,h,b,n,m,us,kvs,rfl,hS,hT,dP,hL,hR,hm,h1,tV,q⟩:=h;refine⟨_,(au (bG (i:=2) lZ.nd O (aM O) (fu aq))
  (au (bG (i:=3) lZ.nd O (aM O) (bb ng hr (by omega) O (ae (bW (pv 1) O) aq)))
  (au (dM dZ O (ja (bb DE hr (by omega) O (ae (bW (pv 0) O) (ae (bW (pv 0) O) (ae (bW (pv 1) O) aq))))) (rB O (fi (bZ (i:=4) lZ.nd O (aM O)) (fi (bZ (i:=5) lZ.nd O (Or.inr O)) oN)))
  (ax (cA (PW.pt (pw_and (km (lP yW cE hr (by omega) (AA fun _ _ _ z=>z) (pv 0) (ae (pv 1) (ae (pv 5) aq)))) (pw_and1 (km (lP DF cE hr (by omega) (AA fun _ _ _ z=>z) (pv 0) (ae (pv 4) (ae (bW (pv 1) O) (ae (pv 5) aq)))))))) (au (bG (i:=6) lZ.nd O (aM O) (fF m6 O B.BZ p8 (ae (Ri (te:=_) (own := ["word"]) (caps := [("binds",5)]) (rT (aF uq) ["self", "rule", "found", "words", "k", "binds", "pairs"] O O O (by decide +kernel)) (ja (pv 3)) O (fun _ _ _=>bZ (i:=0) (show (["word", "binds"]:List Str).Nodup by decide +kernel) O (aM O)) (fun _ _ _=>(dX (ae (pv 0) (ae (qL (lU hr) (pv 1) (pv 0) (fun _ _=>O)) aq))))) aq)))
  (ax (eJ (jV bK cy cx fX (pv 2) (ae (dX (ae (dX (ae bN (ae (bW (pv 1) O) (ae (pv 6) aq)))) (ae (bW (pv 1) O) (ae (bW (pv 1) O) (ae (bW (pv 1) O) (ae (pv 5) aq)))))) aq))))) bD)))
  (ax (aZ (pv 2)))))),?_⟩
 try dsimp only[cG]
 refine⟨aQ _,fun F xZ =>?_⟩;dsimp only[b7];have s1:=aD xZ (.lst []);have zO:=ak (H:=H) (a:=F) (o := .lst []);generalize aC H F (.lst [])=H1 at s1 zO ⊢;have hR1:=hR.same s1;have en:lE (T.of x [.any h]) [] = [h]:=by unfold lE;rw[raw,iH,iH,raw];rfl
 refine⟨_,O,R,CU,dr,_,_,O,hR1.ho,Zu.cU,Zu.MD,O,vl,.of x [.any h],O,hR1.hl,(by rw[T.depth,T.fM,T.fM,T.depth];omega),(by rw[T.parts,T.fw,T.fw,T.parts];omega),fun Wd H2 s2 DH =>?_⟩;rw[en]at DH;dsimp only[b7];have g2:=s1.trans s2;have zM:=hR.same g2;have WQ:=hS.same g2;have tl:=tlG (x:=x) (b:=b) hm tV;have len:(eC x b n (2 * n+m)).length=2 * n+m:=fK;have arv:(mw n (2 * n+m)).length=2 * n+m:=tO;refine⟨_,O,o,CE,dx,_,_,O,WQ.ho,Z.cE,Z.gM,O,_,O,o,CE,dx,_,_,O,WQ.ho,Z.cE,Z.ma,O,_,O,R,CU,dr,_,_,O,zM.ho,Zu.cU,Zu.MD,O,Ea.mk Ta L us _ _ vl x [.any h] rfl (g2 _ _ hT) (eN g2 dP) (g2 _ _ hL) tl (by omega) (by omega) zM.hl (by rw[T.fM,T.fM,T.depth];omega) (by rw[T.jy,T.jy,T.mV];exact(show 1<=900 by decide)) (by rw[T.nJ,T.nJ,T.kn];show _ ^ 1<=_;rw[FL];omega) fun M ms ns H3 s3 vA hM pm Na rm =>?_⟩;rw[adk hm]at pm;rw[YU pm Na,mtG hm]at rm;clear pm Na ns;have ml:=bx rm;rw[ay,bA]at ml;have WV:=s3 _ _ (s2 _ _ zO);have nFM:F≠M:=fun e=>by rw[<- e,s2 _ _ zO]at vA;cases vA
 have nFW:F≠Wd:=fun e=>by rw[<- e,s2 _ _ zO]at DH;cases DH
 refine⟨M,O,⟨_,bw.of hM⟩,?_⟩;refine jm (xs:=ms) (XE vl vr z wt h m o R F Wd M ms ((aI n).map fun j=>(2 * j+1, [(h,2 * j)])) H) (XE.mk [] none none none rfl (g2.trans s3) (s3 _ _ DH) hM rm WV (by rw[hV (aQ _)];exact .nil)) ?_ ?_ ?_
 ·rintro i σ H' _ ⟨fs,x4,x5,x6,rfl,sm,OX,qR,_⟩;exact bw.of qR
 ·rintro i y σ H' hy ⟨fs,x4,x5,x6,rfl,sm,OX,qR,rm',w6,hf⟩;obtain⟨r,Lx,pp,g,rfl,hp,hg⟩:=Paired.at rm' hy;have il:i < n:=by have:=(aj.mp hy).1;omega
  obtain rfl:r=(2 * i+1, [(h,2 * i)]):=by
   rw[aJ,dO il]at Lx;exact(aP Lx).symm
  refine⟨pp,_,O,aW.of hp,O,_,_,O,_,_,O,O,?_⟩;have zL:=hS.same sm;have BF:=hR.same sm;refine Cv (fun c Hc=>a6 H' Hc∧c=decide (m<=i)) (fun Qc qc =>?_) ?_ ?_
  ·have hn:=(GC (x:=x) (b:=b) hm (k:=2 * i) (by omega)).2 i il rfl;refine⟨_,O,o,dx,_,O,zL.ho,O,_,O,_,O,Z9.mk o dx Ta L p sg nm N N' R dr A g z wt vl vr x h (2 * i) _ _ _ kvs rfl zL BF hg (by omega) (by omega) (by omega) hn fun H4 s4 =>?_⟩;refine⟨_,O,gH ?_⟩;have Fy:=zL.same s4;have Fz:=BF.same s4;have ee:(mw n (2 * n+m)).getD (2 * i) 0=2 * i:=by rw[tP (by omega),ldG,if_pos (by omega)]
   have ek:(mw n (2 * n+m)).getD (2 * i+1) 0=2 * i+1:=by rw[tP (by omega),ldG,if_pos (by omega)]
   have et:=alc hm Fy.tab il;refine⟨_,O,o,dx,_,O,Fy.ho,O,_,O,_,O,R,CU,dr,_,_,O,Fz.ho,Zu.cU,Zu.Oh,O,_,O,Z7.mk o dx Ta L p sg nm N N' g vr x h (2 * i) (2 * i+1) _ _ kvs rfl Fy ((sm.trans s4) _ _ hL) Fz.hr (s4 _ _ hg) (by omega) (by omega) ?_ fun H5 s5 =>?_⟩
   ·rw[ee,et];by_cases c:i < m
    ·rw[if_pos c];rfl
    ·rw[if_neg c];rfl
   ·refine⟨_,O,qc _ _ ⟨s4.trans s5,?_⟩⟩;rw[ee,et,ek];by_cases c:i < m
    ·rw[if_pos c,decide_eq_false (by omega:¬ m<=i)];simp
    ·rw[if_neg c,decide_eq_true (by omega:m<=i)];rfl
  ·rintro Hc ⟨sc,ec⟩;have Ir:m<=i:=of_decide_eq_true ec.symm;have hWc:=sc _ _ OX;refine⟨_,O,Wd,O,⟨_,bw.of hWc⟩,?_⟩;refine Ut (ds := [.tup [.str h,.int ((2 * i:Nat):Int)]]) (bw.of hWc) (show 1<=1000 by decide) rfl rfl (fun k xv d hk hd H4 s4 Q' q' =>?_) (fun D1 H4 ys WX s4 hD4 anc =>?_)
   ·have k0:k=0:=by have:=(aj.mp hk).1;simp at this;exact this
    subst k0;cases hk;cases hd;refine⟨_,O,_,O,_,O,g,_,O,Kp (s4 _ _ (sc _ _ hg)),(show 2<=sizeLine by decide),fun t ht=>q' _ _ (aD ht _) ?_⟩;rw[Den];exact⟨t,_,O,ak,gx (by rw[Den]) (lG (by rw[Den];exact .inl rfl))⟩
   ·refine⟨D1,_,O,.inl ⟨bw.of hD4,fun l hl =>?_⟩⟩;have s5:=aD hl (.tup ys);have hl5:=ak (H:=H4) (a:=l) (o := .tup ys);dsimp only[b7];generalize aC H4 l (.tup ys)=H5 at s5 hl5 ⊢;have g5:=(sc.trans s4).trans s5;have WR:=BF.same g5;have LH:=g5 _ _ w6;refine⟨_,O,.inl ⟨O,_,bw.of LH⟩,?_⟩;refine⟨_,O,R,CU,dr,_,_,O,WR.ho,Zu.cU,Zu.Wc,O,_,O,(show 3<=sizeLine by decide),fun yw hyw =>?_⟩;have s6:=aD hyw (.tup [.str "rule",.str z,.ref l]);have hy6:=ak (H:=H5) (a:=yw) (o := .tup [.str "rule",.str z,.ref l]);generalize aC H5 yw (.tup [.str "rule",.str z,.ref l])=H6 at s6 hy6 ⊢;have RK:=WR.same s6;refine⟨_,O,R,CU,dr,_,_,O,RK.ho,Zu.cU,Zu.Rq,O,_,O,R,CU,dr,_,_,O,RK.ho,Zu.cU,Zu.MD,O,_,O,R,CU,dr,_,_,O,RK.ho,Zu.cU,Zu.Oh,O,_,O,(show 5<=sizeLine by decide),fun tp uK =>?_⟩;have s7:=aD uK (.tup [.ref yw,.int wt,vl,vr,.ref g]);have ht7:=ak (H:=H6) (a:=tp) (o := .tup [.ref yw,.int wt,vl,vr,.ref g]);generalize aC H6 tp (.tup [.ref yw,.int wt,vl,vr,.ref g])=H7 at s7 ht7 ⊢;have g7:=g5.trans (s6.trans s7);have DO:=g7 _ _ w6;have fl:=bx hf;rw[fj,bA]at fl;refine⟨F,_,_,O,O,DO,dD (by omega),?_⟩;have kt:∀ c zs,H7 c=some (.tup zs)->(aC H7 F (.lst (fs ++ [.ref tp]))) c=some (.tup zs):=fun c zs e=>by rw[av (b9 e DO nofun)];exact e
    have kd:∀ c zs,H7 c=some (.dK zs)->(aC H7 F (.lst (fs ++ [.ref tp]))) c=some (.dK zs):=fun c zs e=>by rw[av (b9 e DO nofun)];exact e
    have st:uz vl vr z wt h H7 (.ref tp) i:=⟨tp,.ref yw,g,O,ht7,by
     rw[dW,Den];refine⟨yw,_,O,s7 _ _ hy6,gx (by rw[Den]) (gx (by rw[Den]) (lG ?_))⟩;rw[Den];exact⟨l,ys,O,s7 _ _ (s6 _ _ hl5),LM (s5.trans (s6.trans s7)) anc⟩,g7 _ _ hg⟩
    refine XE.mk _ _ _ _ rfl ((sm.trans g7).put xZ) ?_ ?_ (Le (rp rm' g7) DO) ak ?_
    ·rw[av (bR nFW)];exact g7 _ _ OX
    ·rw[av (bR nFM)];exact g7 _ _ qR
    ·rw[ado Ir];exact ju (Paired.g9 hf fun _ _ y=>(y.keep (fun c ys=>g7 _ _) (fun c ys=>g7 _ _)).keep kt kd) (.cons (st.keep kt kd) .nil)
  ·rintro Hc ⟨sc,ec⟩;have Ir:¬ m<=i:=of_decide_eq_false ec.symm;refine XE.mk fs _ _ _ rfl (sm.trans sc) (sc _ _ OX) (sc _ _ qR) (rp rm' sc) (sc _ _ w6) ?_;rw[adn (by omega)];exact Paired.g9 hf fun _ _ y=>y.keep (fun c ys=>sc _ _) (fun c ys=>sc _ _)
 ·rintro σ H' ⟨fs,x4,x5,x6,rfl,sm,OX,qR,rm',w6,hf⟩;rw[ml]at hf;exact⟨_,O,q F fs H' sm xZ w6 hf⟩
structure NoW(x:Str):Prop where
 n1:x ≠ "plus"
 n2:x ≠ "times"
 n3:x ≠ "neg"
theorem noG(hx:NoW x):∀ t∈eC x b n l,UB t:=fun t ht=>by
 have no:∀ (y:Str) k as,x≠y->rJ y k (.of x as)=false:=fun y k as ne=>by show (decide (x=y) && _)=false;rw[decide_eq_false ne];rfl
 have nn:∀ as,UB (.of x as):=fun as=>⟨no _ _ _ hx.n1,no _ _ _ hx.n2,no _ _ _ hx.n3⟩;obtain⟨i,hi⟩:=eG ht;obtain⟨_,rfl⟩:=pU hi;unfold iL;split
 ·split
  ·exact⟨O,O,O⟩
  ·exact nn _
 ·exact nn _
theorem aiz:df (eC x b n l) = []:=by
 unfold df;refine vV.mpr fun t ht =>?_;obtain⟨i,hi⟩:=eG ht;obtain⟨_,rfl⟩:=pU hi;unfold iL;split
 ·split <;> rfl
 ·rfl
inductive PN(P:Program)(w:World)(CB CH CU:Addr)(vs:List V)(H:Hp)(Q:VK):Prop
 | mk (bn dn bk dx L M EL Rs R dr A:Addr) (z:Str) (wt:Int) (vl vr:V) (x h:Str) (b:Int) (n m:Nat) (z0:vs = [.ref bn,.ref Rs]) (hb:gq P w CB CH H bn dn bk dx L M EL 400 (eC x b n (2 * n+m)) (BH n m)) (mx:H Rs=some (.lst [.ref R])) (hR:jA CU H R dr z wt vl vr A x h) (hx:NoW x) (hm:m<=n) (h1:1<=n) (tV:n<=120)
  (q:∀ F fs H',a6 H H'->H F=none->H' F=some (.lst fs)->Paired (uz vl vr z wt h H') fs ((aI n).drop m)->Q (.ref F) H'):PN P w CB CH CU vs H Q
def Vk(P:Program)(w:World)(CB CH CU:Addr):Sp:=fun vs H Q _=>PN P w CB CH CU vs H Q
inductive NwI(vl vr:V)(z:Str)(wt:Int)(h:Str)(n m:Nat)(bn Rs L D F sc:Addr)(H H4:Hp)(i:Nat)(σ : L2.St)(H':Hp):Prop
 | mk (x6:Option V) (e : σ = [aa bn,aa Rs,aa L,aa D,aa F,aa sc,x6]) (sm:a6 H H') (h0:i=0->H'=H4) (h1:i=1->∃ fs,H' F=some (.lst fs)∧Paired (uz vl vr z wt h H') fs ((aI n).drop m)):NwI vl vr z wt h n m bn Rs L D F sc H H4 i σ H'
theorem abN(hm:m<=n):∀ p q:Nat,(p,q)∈BH n m->p < (eC x b n (2 * n+m)).length∧q < (eC x b n (2 * n+m)).length:=fun p q h=>by
 obtain⟨k,hk,rfl,rfl⟩:=Ko h;rw[fK];omega
theorem acT(Zb:rX K CB)(Y:yk K CH)(Z:TopE K CE)(oX:c7 P w K mg base 4 "leads_of" ["bench"] (JI P w CB CH))(zI:c7 P w K mg base 3 "odds" eU Nc)(OT:c7 P w K mg base 4 "sums" eU Vg)(wX:pO P w K mg base 5 "Scene" CE bh (Q1 P w CS CE))(yS:ic P w K mg base 16 CE "rule_news" wd7 (ad6 P w CS CE CU))(D:Def K mg "news" NA wd2):c7 P w K mg base 17 "news" wd2 (Vk P w CB CH CU):=by
 have cE:=Z.cE;refine D.has vZ (fun vs H Q E h =>?_) (fun f bU A outer s H vs Q E hr h =>?_)
 ·obtain⟨bn,dn,bk,dx,L,M,EL,Rs,R,dr,A,z,wt,vl,vr,x,h,b,n,m,rfl,_⟩:=h;rfl
 obtain⟨bn,dn,bk,dx,L,M,EL,Rs,R,dr,A,z,wt,vl,vr,x,h,b,n,m,rfl,hb,mx,hR,hx,hm,h1,tV,q⟩:=h;refine⟨_,(au (bG (i:=2) vZ.nd O (aM O) (bW (bW (pv 0) O) O))
  (au (bG (i:=3) vZ.nd O (aM O) (bb oX hr (by omega) O (ae (pv 0) aq)))
  (au (cA (br JU (bb zI hr (by omega) O (ae (pv 2) (ae (pv 3) aq))) rC (bo _)) (ax (aZ (fu aq))) bD)
  (au (bG (i:=4) vZ.nd O (aM O) (bb OT hr (by omega) O (ae (pv 2) (ae (pv 3) aq))))
  (au (bG (i:=5) vZ.nd O (aM O) (qp wX hr (by omega) gw O (ae (pv 2) (ae (pv 3) aq))))
  (au (dM bX O (ja (pv 1)) (bZ (i:=6) vZ.nd O (aM O))
  (ax (eJ (jV bK iR iQ uI (pv 4) (ae (lP yS cE hr (by omega) gw (pv 5) (ae (pv 6) aq)) aq)))))
  (ax (aZ (pv 4))))))))),?_⟩
 try dsimp only[cG]
 obtain⟨us,hL,dP⟩:=id hb.hB.2.1;have len:(eC x b n (2 * n+m)).length=2 * n+m:=fK;have tl:=tlG (x:=x) (b:=b) hm tV;refine⟨_,O,bn,CH,dn,_,_,O,hb.hn,Y.cH,Y.ur,O,bk,CB,dx,_,_,O,hb.hB.1,Zb.cB,Zb.gM,O,?_⟩;dsimp only[b7];refine⟨_,O,E4.mk bn dn bk dx L M EL 400 _ _ rfl hb tl.arms (by omega) tl.small (abN hm) fun D ls H1 s1 hD0 hD c =>?_⟩;dsimp only[b7];obtain rfl:=IT c (Kt hm);refine⟨_,O,_,O,Jd.mk L D us _ _ rfl (s1 _ _ hL) (eN s1 dP) hD c.1 (by omega) (fun k hk=>(GC hm (by omega)).1) fun H2 s2 =>?_⟩;refine⟨O,_,O,fC ?_⟩;dsimp only[gQ];have Fp:=s1.trans s2;refine⟨_,O,_,O,PH.mk L D us _ _ rfl (Fp _ _ hL) (eN Fp dP) (s2 _ _ hD) tl (noG hx) fun F H3 s3 xZ hF =>?_⟩;dsimp only[b7];have Cp:=Fp.trans s3;refine⟨_,O,_,O,fun sc ds hsc hds kM =>?_⟩;have sN:a6 H3 (aC (aC H3 ds (.own sc)) sc (.ins CE ds [])):=(aD hds _).trans (aD (by rw[av (fun z=>by first | exact kM z.symm | exact kM z)];exact hsc) _);refine KL.mk sc ds L D us _ _ rfl ak (sN _ _ (Cp _ _ hL)) (eN (Cp.trans sN) dP) (sN _ _ ((s2.trans s3) _ _ hD)) tl (ak7 (by omega)) ⟨by omega,by rw[aiz];exact aQ _⟩ fun H4 p kvs sg nm N N' bt hS=>⟨O,?_⟩;have s4:=Dp hsc hds bt;dsimp only[b7];have Q9:=Cp.trans s4;have hD4:=((s2.trans s3).trans s4) _ _ hD;refine⟨_,O,Rs,O,⟨_,bw.of (Q9 _ _ mx)⟩,?_⟩;refine jm (xs := [.ref R]) (NwI vl vr z wt h n m bn Rs L D F sc H H4) ⟨none,O,Q9,fun _=>rfl,fun e=>nomatch e⟩ ?_ ?_ ?_
 ·rintro i σ H' _ ⟨x6,rfl,sm,_,_⟩;exact bw.of (sm _ _ mx)
 ·rintro i y σ H' hy ⟨x6,rfl,sm,h0,_⟩;have i0:i=0:=by have:=(aj.mp hy).1;simp at this;exact this
  subst i0;cases hy;cases h0 rfl;refine⟨_,O,.inl ⟨O,_,bw.of (s4 _ _ hF)⟩,_,O,sc,ds,_,O,hS.ho,O,_,O,Z6.mk sc ds L D p sg nm N N' R dr A z wt vl vr x h b n m us kvs rfl hS (Q9 _ _ hL) (eN Q9 dP) hD4 (hR.same Q9) hm h1 tV fun F2 fs H5 s5 arB IG hf =>?_⟩;have LH:=s5 _ _ (s4 _ _ hF);have fl:=bx hf;rw[fj,bA]at fl;refine⟨F,F2,_,_,O,O,LH,IG,ky (dD (n:=_+_) (by rw[jG];omega)),?_⟩;have kt:∀ c zs,H5 c=some (.tup zs)->(aC H5 F (.lst ([] ++ fs))) c=some (.tup zs):=fun c zs e=>by rw[av (b9 e LH nofun)];exact e
  have kd:∀ c zs,H5 c=some (.dK zs)->(aC H5 F (.lst ([] ++ fs))) c=some (.dK zs):=fun c zs e=>by rw[av (b9 e LH nofun)];exact e
  exact⟨_,O,(Q9.trans s5).put (Fp.free xZ),(fun e=>nomatch e),fun _=>⟨fs,ak,Paired.g9 hf fun _ _ y=>y.keep kt kd⟩⟩
 ·rintro σ H' ⟨x6,rfl,sm,_,hq⟩;obtain⟨fs,w6,hf⟩:=hq rfl;exact⟨_,O,q F fs _ sm (Fp.free xZ) w6 hf⟩
def DV(n:Nat)(z:Str)(wt:Int)(h:Str)(j:Nat):D := .tup [.int ((2 * j+1:Nat):Int),.int ((2 * n+j:Nat):Int),.int wt,dW z h j]
structure Aa(n:Nat)(z:Str)(wt:Int)(h:Str)(H:Hp)(v:V)(j:Nat):Prop where
 ex:∃ t y,v = .ref t∧H t=some (.tup [nV (2 * j+1),nV (2 * n+j),.int wt,y])∧Den H (dW z h j) y
theorem Aa.keep(kt:∀ c ys,H c=some (.tup ys)->H' c=some (.tup ys))(e:Aa n z wt h H v j):Aa n z wt h H' v j:=by
 obtain⟨t,y,e,h1,h2⟩:=e.ex;exact⟨t,y,e,kt _ _ h1,ye kt rfl h2⟩
theorem Aa.den(e:Aa n z wt h H v j):Den H (DV n z wt h j) v:=by
 obtain⟨t,y,e,h1,h2⟩:=e.ex;rw[DV,Den];exact⟨t,_,e,h1,gx (by rw[Den];exact .inl rfl) (gx (by rw[Den];exact .inl rfl) (gx (by rw[Den];exact .inl rfl) (lG h2)))⟩
structure kG(P:Program)(w:World)(CB CH:Addr)(H:Hp)(bn dn bk dx L M EL:Addr)(x:Str)(b:Int)(n:Nat)(z:Str)(wt:Int)(h:Str)(m:Nat):Prop where
 hb:gq P w CB CH H bn dn bk dx L M EL 400 (eC x b n (2 * n+m)) (BH n m)
 ev:∃ my,H EL=some (.lst my)∧Paired (Aa n z wt h H) my (aI m)
theorem kG.same{bk:Addr}(g:kG P w CB CH H bn dn bk dx L M EL x b n z wt h m)(s:a6 H H'):kG P w CB CH H' bn dn bk dx L M EL x b n z wt h m:=by
 obtain⟨my,a,e⟩:=g.ev;exact⟨g.hb.same s,my,s _ _ a,Paired.g9 e fun _ _ y=>y.keep fun c ys=>s _ _⟩
inductive Z8(P:Program)(w:World)(CB CH:Addr)(vs:List V)(H:Hp)(Q:VK):Prop
 | mk (bn dn bk dx L M EL S:Addr) (x:Str) (b:Int) (n:Nat) (z:Str) (wt:Int) (h:Str) (m c:Nat) (vl vr:V) (M7:List V) (z0:vs = [.ref bn,.ref S]) (hg:kG P w CB CH H bn dn bk dx L M EL x b n z wt h m) (hS:H S=some (.lst M7)) (hs:Paired (uz vl vr z wt h H) M7 ((aI c).map (m + ·))) (hl:dj H (.of x [.any h]) vl) (hv:dj H (.of x [.any h,.any h]) vr) (nL:S≠L) (nE:S≠EL) (mc:m+c<=n) (tV:n<=120)
  (q:∀ v H',pS L M EL H H'->kG P w CB CH H' bn dn bk dx L M EL x b n z wt h (m+c)->Q v H'):Z8 P w CB CH vs H Q
def ad8(P:Program)(w:World)(CB CH:Addr):Sp:=fun vs H Q _=>Z8 P w CB CH vs H Q
inductive SN(P:Program)(w:World)(CB CH bn dn bk dx L M EL S Ed:Addr)(x:Str)(b:Int)(n:Nat)(z:Str)(wt:Int)(h:Str)(m:Nat)(H:Hp)(i:Nat)(σ : L2.St)(H':Hp):Prop
 | mk (x2 x4 x5 x6 x7 x8 x9 Fn:Option V) (vB:List V) (e : σ = [aa bn,aa S,x2,some (.ref Ed),x4,x5,x6,x7,x8,x9,Fn]) (bt:kE L M H H') (hb:gq P w CB CH H' bn dn bk dx L M EL 400 (eC x b n (2 * n+(m+i))) (BH n m)) (O5:H' Ed=some (.lst vB)) (hf:Paired (Aa n z wt h H') vB ((aI i).map (m + ·))):SN P w CB CH bn dn bk dx L M EL S Ed x b n z wt h m H i σ H'
theorem ahn{g:Addr}{l:List Str}(hg:H g=some (.dK (lL [(h,j)])))(hl:∀ y∈l,y=h):X4 H (.ref g) (fun _=>j) l:=fun y hy=>⟨g,_,O,hg,by rw[hl y hy,zP,look,if_pos rfl];rfl⟩
theorem adl:BH n (m+c)=BH n m ++ (aI c).map fun i=>(2 * (m+i)+1,2 * n+(m+i)):=by unfold BH;rw[ub,cR,hU];rfl
theorem LL{n:Nat}{z:Str}{wt:Int}{h:Str}{H:Hp}:∀ {vs:List V}{js:List Nat},Paired (Aa n z wt h H) vs js->Bl H vs (js.map fun j=>(2 * j+1,2 * n+j))
 | _,_,.nil => .nil
 | _,_,.cons a r=>let ⟨t,_,e,h1,_⟩:=a.ex; .cons ⟨t,_,e,h1⟩ (LL r)
theorem Qz{k:Nat}(OK:2<=k)(B:iY mg)(Zb:rX K CB)(Y:yk K CH)(AQ:yu P w K mg base (k+2) CB "put" uS [.cj] (Tb P w CB k))(D:Def K mg "do_steps" As wd3):c7 P w K mg base (k+3) "do_steps" wd3 (ad8 P w CB CH):=by
 have cB:=Zb.cB;refine D.has iJ (fun vs H Q E h =>?_) (fun f bU A outer s H vs Q E hr h =>?_)
 ·obtain⟨bn,dn,bk,dx,L,M,EL,S,x,b,n,z,wt,h,m,c,vl,vr,M7,rfl,_⟩:=h;rfl
 obtain⟨bn,dn,bk,dx,L,M,EL,S,x,b,n,z,wt,h,m,c,vl,vr,M7,rfl,hg,hS,hs,hl,hv,nL,nE,mc,tV,q⟩:=h;refine⟨_,(au (bG (i:=2) iJ.nd O (aM O) (dz cX O B.jK cn (ae (bW (bW (pv 0) O) O) aq)))
  (au (bG (i:=3) iJ.nd O (aM O) (fu aq))
  (au (Gz (ax (dM bX O (ja (pv 1)) (rB O (fi (bZ (i:=4) iJ.nd O (aM O)) (fi (bZ (i:=5) iJ.nd O (aM O)) (fi (bZ (i:=6) iJ.nd O (aM O)) (fi (bZ (i:=7) iJ.nd O (aM O)) (fi (bZ (i:=8) iJ.nd O (aM O)) oN))))))
  (au (bG (i:=9) iJ.nd O (aM O) (lP AQ.a cB hr (by omega) gw (bW (pv 0) O) (ae (pv 6) (ae (pv 8) aq))))
  (au (bG (i:=10) iJ.nd O (aM O) (lP AQ.a cB hr (by omega) gw (bW (pv 0) O) (ae (pv 7) (ae (pv 8) aq))))
  (ax (eJ (jV bK cy cx fX (pv 3) (ae (dX (ae (pv 9) (ae (pv 10) (ae (pv 5) (ae (pv 4) aq))))) aq)))))))))
  (au (eJ (jV bK iR iQ uI (bW (pv 0) O) (ae (pv 3) aq)))
  (ax (aZ (dz cX O B.jK cn (ae (pv 1) aq)))))))),?_⟩
 try dsimp only[cG]
 have hb:=hg.hb;obtain⟨us,hL⟩:=mI hb.hB;have Dv:=bx hs;rw[ay,bA]at Dv;refine⟨_,O,bn,CH,dn,_,_,O,hb.hn,Y.cH,Y.ur,O,bk,CB,dx,_,_,O,hb.hB.1,Zb.cB,Zb.gM,O,L,us,O,.inl (bw.of hL),?_⟩;dsimp only[b7];refine⟨aQ _,fun Ed Km =>?_⟩;dsimp only[b7];have s1:=aD Km (.lst []);have agm:=ak (H:=H) (a:=Ed) (o := .lst []);generalize aC H Ed (.lst [])=H1 at s1 agm ⊢;obtain⟨φ0,vA⟩:=oz hb.hB;obtain⟨ZF,O6,afN⟩:=hg.ev;have YY:Ed≠L:=fun z=>by rw[z,hL]at Km;cases Km
 have al9:Ed≠EL:=fun z=>by rw[z,O6]at Km;cases Km
 have nSM:S≠M:=b9 hS vA nofun
 have nEM:EL≠M:=b9 O6 vA nofun
 refine kj (SN P w CB CH bn dn bk dx L M EL S Ed x b n z wt h m H c) ?_ (fun key =>?_);rotate_left
 ·refine⟨_,O,S,O,⟨M7,bw.of (s1 _ _ hS)⟩,?_⟩;refine jm (xs:=M7) (SN P w CB CH bn dn bk dx L M EL S Ed x b n z wt h m H) (SN.mk _ none none none none none none none [] rfl (a6.ZS s1) (hb.same s1) agm .nil) ?_ ?_ ?_
  ·rintro i σ H' _ ⟨x2,x4,x5,x6,x7,x8,x9,Fn,vB,rfl,bt,_⟩;exact bw.of (bt _ _ nL nSM hS)
  ·rintro i y σ H' hy ⟨x2,x4,x5,x6,x7,x8,x9,Fn,vB,rfl,bt,j8,O5,hf⟩;obtain⟨j,hj,sj⟩:=Paired.at hs hy;have il:i < c:=by have:=(aj.mp hy).1;omega
   obtain rfl:m+i=j:=by
    rw[aJ,dO il]at hj;exact aP hj
   obtain⟨p,yw,g,rfl,hp,hyw,hgd⟩:=sj.ex;have kt:=hb.hB.tup bt;have kd:H' g=some (.dK (lL [(h,2 * (m+i))])):=bt _ _ (b9 hgd hL nofun) (b9 hgd vA nofun) hgd;have fl:=bx hf;rw[ay,bA]at fl;have pl:=YD (x:=x) (b:=b) (n:=n) (l:=2 * n+(m+i)) (j:=m+i) (by omega) (by omega) (h:=h) (bf:=fun _=>2 * (m+i)) rfl;have pr:=VI (x:=x) (b:=b) (n:=n) (j:=m+i) (h:=h) (bf:=fun _=>2 * (m+i)) rfl;refine⟨p,_,O,aW.of (kt _ _ hp),O,_,_,O,_,_,O,_,_,O,_,_,O,_,_,O,O,?_⟩;refine⟨_,O,bn,CH,dn,_,_,O,j8.hn,Y.cH,Y.ur,O,bk,dx,_,O,j8.hB.1,O,_,O,_,O,Jc.mk bk dx L M 400 _ vl (.ref g) (.of x [.any h]) (fun _=>2 * (m+i)) rfl j8.hB (iZ kt hl) (by rw[T.depth,T.fM,T.fM,T.depth];omega) (by rw[T.vk,T.qf,T.qf,T.vk];exact⟨(show 1<=900 by decide),trivial,trivial⟩) (ahn kd fun y hy=>by rw[T.mV,T.jy,T.jy,T.mV]at hy;exact a8.mp hy) (by rw[pl,fK];omega) (by rw[pl,fK];omega) fun H2 vE hB2 =>?_⟩;rw[pl]at hB2 ⊢;have BE:=j8.put vE hB2;have Lp:=j8.hB.tup vE;obtain⟨cL,FE⟩:=mI j8.hB;obtain⟨φ,qR⟩:=oz j8.hB;have kd2:H2 g=some (.dK (lL [(h,2 * (m+i))])):=vE _ _ (b9 kd FE nofun) (b9 kd qR nofun) kd;dsimp only[b7];refine⟨_,O,bn,CH,dn,_,_,O,BE.hn,Y.cH,Y.ur,O,bk,dx,_,O,BE.hB.1,O,_,O,_,O,Jc.mk bk dx L M 400 _ vr (.ref g) (.of x [.any h,.any h]) (fun _=>2 * (m+i)) rfl BE.hB (iZ Lp (iZ kt hv)) (by rw[T.depth,T.fM,T.fM,T.fM,T.depth];omega) (by rw[T.vk,T.qf,T.qf,T.qf,T.vk];exact⟨(show 2<=900 by decide),trivial,trivial,trivial⟩) (ahn kd2 fun y hy=>by rw[T.mV,T.jy,T.jy,T.jy,T.mV]at hy;simp at hy;exact hy) (by rw[pr,fK];omega) (by rw[pr,fK];omega) fun H3 IV hB3 =>?_⟩;rw[pr]at hB3 ⊢;have IE:=BE.put IV hB3;have kt3:=BE.hB.tup IV;dsimp only[b7];have aeF:Ed≠M:=b9 O5 qR nofun
   have agl:=IV _ _ YY aeF (vE _ _ YY aeF O5);have hf3:=Paired.g9 hf fun _ _ y=>(y.keep Lp).keep kt3;refine⟨_,O,.inl ⟨O,_,bw.of agl⟩,_,O,_,O,_,O,_,O,(show 4<=sizeLine by decide),fun tp uK =>?_⟩;have s4:=aD uK (.tup [nV (2 * (m+i)+1),nV (2 * n+(m+i)),.int wt,yw]);have hv4:=ak (H:=H3) (a:=tp) (o := .tup [nV (2 * (m+i)+1),nV (2 * n+(m+i)),.int wt,yw]);have RJ:=IE.same s4;have O4:=s4 _ _ agl;generalize aC H3 tp (.tup [nV (2 * (m+i)+1),nV (2 * n+(m+i)),.int wt,yw])=H4 at s4 hv4 RJ O4 ⊢;have ea:Aa n z wt h H4 (.ref tp) (m+i):=⟨tp,yw,O,hv4,ye (fun c ys e=>s4 _ _ (kt3 _ _ (Lp _ _ (kt _ _ e)))) rfl hyw⟩;refine⟨Ed,vB,_,O,O,O4,dD (by omega),?_⟩;have kp:=lF (o' := .lst (vB ++ [.ref tp])) O4 trivial;have bE:eZ Ed H4 (aC H4 Ed (.lst (vB ++ [.ref tp]))):=(eZ.refl Ed H4).put;obtain⟨anb,hE4,Zl⟩:=id RJ.hE;have hb5:gq P w CB CH (aC H4 Ed (.lst (vB ++ [.ref tp]))) bn dn bk dx L M EL 400 (eC x b n (2 * n+(m+(i+1)))) (BH n m):=⟨by rw[av (b9 RJ.hn O4 nofun)];exact RJ.hn,RJ.hB.keep O4 YY bE,⟨anb,by rw[av (bR al9)];exact hE4,rR kp Zl⟩,RJ.ne⟩;refine SN.mk _ _ _ _ _ _ _ _ _ rfl (fun c o n1 n2 h =>?_) hb5 ak ?_
   ·rw[av (fun e=>by rw[e,Km]at h;cases h)];exact s4 _ _ (IV c o n1 n2 (vE c o n1 n2 (bt c o n1 n2 h)))
   ·rw[eM,cR];exact ju (Paired.g9 hf3 fun _ _ y=>(y.keep fun c ys=>s4 _ _).keep kp) (.cons (ea.keep kp) .nil)
  ·rintro σ H' ⟨x2,x4,x5,x6,x7,x8,x9,Fn,vB,rfl,bt,j8,O5,hf⟩;rw[Dv]at j8 hf;exact key _ _ (SN.mk _ _ _ _ _ _ _ _ _ rfl bt j8 O5 hf)
 rintro σ H' ⟨x2,x4,x5,x6,x7,x8,x9,Fn,vB,rfl,bt,j8,O5,hf⟩;have kt:=hb.hB.tup bt;have hE:=bt _ _ hb.ne nEM O6;have el:=bx afN;have fl:=bx hf;rw[bA]at el;rw[ay,bA]at fl;refine⟨_,O,bn,CH,dn,_,_,O,j8.hn,Y.cH,Y.Dm,O,.inl ⟨O,_,bw.of hE⟩,_,O,EL,Ed,_,_,O,O,hE,O5,ky (dD (n:=_+_) (by omega)),?_⟩;have hfe:=LL hf;rw[hU]at hfe;have hb5:=j8.more hE hfe;have ee:BH n m ++ qC ((fun j=>(2 * j+1,2 * n+j)) ∘ fun i=>m+i) (aI c)=BH n (m+c):=adl.symm;rw[ee]at hb5;dsimp only;have hS5:(aC H' EL (.lst (ZF ++ vB))) S=some (.lst M7):=by rw[av nE];exact bt _ _ nL nSM hS
 have kp:=lF (o' := .lst (ZF ++ vB)) hE trivial;refine⟨_,O,S,_,O,.inl (bw.of hS5),q _ _ (fun c o n1 n2 n3 h=>by rw[av n3];exact bt c o n1 n2 h) ⟨hb5,_,ak,?_⟩⟩;rw[ub];exact ju (Paired.g9 afN fun _ _ y=>(y.keep kt).keep kp) (Paired.g9 hf fun _ _ y=>y.keep kp)
theorem jA.but{es:List V}(r:jA CU H R dr z wt vl vr A x h)(bt:pS L M EL H H')(hL:H L=some (.lst us))(qR:∃ φ,H M=some (.ext φ))(hE:H EL=some (.lst es))(nL:A≠L)(nE:A≠EL):jA CU H' R dr z wt vl vr A x h:=by
 obtain⟨kN,as,a,b,c⟩:=r.hA;obtain⟨φ,hM⟩:=qR;have kt:∀ c ys,H c=some (.tup ys)->H' c=some (.tup ys):=fun c ys e=>bt _ _ (b9 e hL nofun) (b9 e hM nofun) (b9 e hE nofun) e;exact⟨bt _ _ (b9 r.ho hL nofun) (b9 r.ho hM nofun) (b9 r.ho hE nofun) r.ho,iZ kt r.hl,iZ kt r.hr,kN,as,bt _ _ nL (b9 a hM nofun) nE a,Paired.g9 b fun _ _ y=>y.keep kt,c⟩
inductive Jf(P:Program)(w:World)(CB CH CU:Addr)(vs:List V)(H:Hp)(Q:VK):Prop
 | mk (bn dn bk dx L M EL Rs R dr A:Addr) (x:Str) (b:Int) (n:Nat) (z:Str) (wt:Int) (h:Str) (m l6:Nat) (vl vr:V) (z0:vs = [.ref bn,.ref Rs,.int (l6:Int),.int 100]) (hg:kG P w CB CH H bn dn bk dx L M EL x b n z wt h m) (mx:H Rs=some (.lst [.ref R])) (hR:jA CU H R dr z wt vl vr A x h) (nL:Rs≠L) (nE:Rs≠EL) (aL:A≠L) (aE:A≠EL) (hx:NoW x) (hm:m<=n) (h1:1<=n) (tV:n<=120) (Lx:l6<=1000)
  (q1:∀ tp t H',t < l6->n<=m+100 * t->(∀ k,k < t->m+100 * k < n)->pS L M EL H H'->kG P w CB CH H' bn dn bk dx L M EL x b n z wt h n->H' tp=some (.tup [.str "rest",.int (t:Int)])->Q (.ref tp) H')
  (q2:∀ tp H',(∀ k,k < l6->m+100 * k < n)->pS L M EL H H'->kG P w CB CH H' bn dn bk dx L M EL x b n z wt h (min n (m+100 * l6))->H' tp=some (.tup [.str "open",.int (l6:Int)])->Q (.ref tp) H'):Jf P w CB CH CU vs H Q
def Vn(P:Program)(w:World)(CB CH CU:Addr):Sp:=fun vs H Q _=>Jf P w CB CH CU vs H Q
inductive GrI(P:Program)(w:World)(CB CH bn dn bk dx L M EL Rs:Addr)(x:Str)(b:Int)(n:Nat)(z:Str)(wt:Int)(h:Str)(m l6:Nat)(H:Hp)(i:Nat)(σ : L2.St)(H':Hp):Prop
 | mk (x4 x5:Option V) (e : σ = [aa bn,aa Rs,some (.int (l6:Int)),some (.int 100),x4,x5]) (bt:pS L M EL H H') (hg:kG P w CB CH H' bn dn bk dx L M EL x b n z wt h (min n (m+100 * i))) (lt:∀ k,k < i->m+100 * k < n):GrI P w CB CH bn dn bk dx L M EL Rs x b n z wt h m l6 H i σ H'
theorem EY{xs:List V}{k:Nat}:DW xs none (some (k:Int))=xs.take k:=by
 unfold DW;rw[HT.acA,HT.Ga,KS,xq];rcases mq k xs.length with h | h
 ·rw[gS h]
 ·rw[jq h,hJ (aw _),hJ h]
theorem Xd(h:m<=n):((aI n).drop m).take 100=(aI (min 100 (n - m))).map (m + ·):=by
 rw[show n=m+(n - m) by omega,ub,su (by rw[bA];omega),hV (by rw[bA];omega),gh, <- List.map_take,yo];rw[show m+(n - m) - m=n - m by omega]
theorem acW{k:Nat}(B:iY mg)(Zb:rX K CB)(Y:yk K CH)(oX:c7 P w K mg base 4 "leads_of" ["bench"] (JI P w CB CH))(zI:c7 P w K mg base 3 "odds" eU Nc)(OU:c7 P w K mg base 17 "news" wd2 (Vk P w CB CH CU))(AS:c7 P w K mg base (k+3) "do_steps" wd3 (ad8 P w CB CH))(D:Er K mg "grow" zr wb4 [.int 100]):zd P w K mg base (k+18) "grow" wb4 [.int 100] (Vn P w CB CH CU):=by
 refine D.has JL (fun vs H Q E h =>?_) (fun f bU A outer s H vs Q E hr h =>?_)
 ·obtain⟨bn,dn,bk,dx,L,M,EL,Rs,R,dr,A,x,b,n,z,wt,h,m,l6,vl,vr,rfl,_⟩:=h;rfl
 obtain⟨bn,dn,bk,dx,L,M,EL,Rs,R,dr,A,x,b,n,z,wt,h,m,l6,vl,vr,rfl,hg,mx,hR,nL,nE,aL,aE,hx,hm,h1,tV,Lx,q1,q2⟩:=h;refine⟨_,(au (dM dZ O (qK O B.uD (ae (pv 2) aq)) (bZ (i:=4) JL.nd O (aM O))
  (au (cA (br JU (bb zI hr (by omega) O (ae (bW (bW (pv 0) O) O) (ae (bb oX hr (by omega) O (ae (pv 0) aq)) aq))) rC (bo _)) (ax (aZ (dX (ae bN (ae (pv 4) aq))))) bD)
  (au (bG (i:=5) JL.nd O (aM O) (bb OU hr (by omega) O (ae (pv 0) (ae (pv 1) aq))))
  (au (cA (rA (Av (pv 5) (fun _=>O))) (ax (aZ (dX (ae bN (ae (pv 4) aq))))) bD)
  (ax (Gz (ax (eJ (bb AS hr (by omega) O (ae (pv 0) (ae (qo EK (pv 5) tw (tj (pv 3))) aq)))))))))))
  (ax (aZ (dX (ae bN (ae (pv 2) aq)))))),?_⟩
 try dsimp only[cG]
 obtain⟨φ,hM⟩:=oz hg.hb.hB;obtain⟨us0,BG⟩:=mI hg.hb.hB;obtain⟨ZF,O6,_⟩:=id hg.ev;have nM:Rs≠M:=b9 mx hM nofun
 refine⟨_,O,_,O,by omega,by omega,?_⟩;rw[bP];refine qU (lo:=0) (GrI P w CB CH bn dn bk dx L M EL Rs x b n z wt h m l6 H) (GrI.mk none none rfl (pS.refl _ _ _ _) (by rw[Nat.mul_zero,oF,jq hm];exact hg) fun k hk=>absurd hk (gf _)) ?_ ?_
 ·rintro i σ H' hi ⟨x4,x5,rfl,bt,mW,lt⟩;have ei:(0:Int)+(i:Int)=((i:Nat):Int):=by omega
  rw[ei];have j8:=mW.hb;have Ir:min n (m+100 * i)<=n:=Nat.min_le_left _ _;have len:(eC x b n (2 * n+min n (m+100 * i))).length=2 * n+min n (m+100 * i):=fK;have tl:=tlG (x:=x) (b:=b) Ir tV;obtain⟨us,hL,dP⟩:=id j8.hB.2.1;have amR:=bt _ _ nL nM nE mx;have BF:=hR.but bt BG ⟨φ,hM⟩ O6 aL aE;dsimp only[b7];refine⟨_,O,bn,CH,dn,_,_,O,j8.hn,Y.cH,Y.ur,O,bk,CB,dx,_,_,O,j8.hB.1,Zb.cB,Zb.gM,O,_,O,E4.mk bn dn bk dx L M EL 400 _ _ rfl j8 tl.arms (by omega) tl.small (abN Ir) fun DD ls H1 s1 hD0 hD c =>?_⟩;obtain rfl:=IT c (Kt Ir);refine Jd.mk L DD us _ _ rfl (s1 _ _ hL) (eN s1 dP) hD c.1 (by omega) (fun k hk=>(GC Ir (by omega)).1) fun H2 s2 =>?_;refine⟨O,_,O,fC ?_⟩;dsimp only[gQ];have Fp:=s1.trans s2;refine⟨_,O,_,O,PN.mk bn dn bk dx L M EL Rs R dr A z wt vl vr x h b n _ rfl (j8.same Fp) (Fp _ _ amR) (BF.same Fp) hx Ir h1 tV fun F fs H3 s3 xZ hF hf =>?_⟩;dsimp only[b7];have Cp:=Fp.trans s3;have fl:=bx hf;rw[fj,bA]at fl;refine Cv (fun cc Hc=>Hc=H3∧cc=fs.isEmpty) (fun Qc qc=>⟨_,O,_,.inl ⟨_,bw.of hF,O⟩,qc _ _ ⟨O,by simp⟩⟩) ?_ ?_
  ·rintro Hc ⟨rfl,ec⟩;refine⟨_,O,(show 2<=sizeLine by decide),fun tp uK =>?_⟩;have s4:=aD uK (.tup [.str "rest",.int ((i:Nat):Int)]);rw[List.isEmpty_iff.mp ec.symm,jG]at fl;have en:min n (m+100 * i)=n:=by omega
   rw[en]at mW;exact q1 tp i _ hi (by omega) lt (bt.same (Cp.trans s4)) (mW.same (Cp.trans s4)) ak
  ·rintro Hc ⟨rfl,ec⟩;dsimp only[gQ];have ne:min n (m+100 * i) < n:=by
    have:fs ≠ []:=fun e=>by rw[e]at ec;cases ec
    have:=List.length_pos_iff.mpr this;omega
   have em:min n (m+100 * i)=m+100 * i:=by omega
   refine⟨_,O,_,O,_,O,_,O,F,_,O,bw.of hF,fun S hS =>?_⟩;rw[show DW fs none (some 100)=fs.take 100 from EY (k:=100)];have s4:=aD hS (.lst (fs.take 100));have Fy:=ak (H:=Hc) (a:=S) (o := .lst (fs.take 100));have Dz:=(mW.same Cp).same s4;have Fz:=BF.same (Cp.trans s4);have DM:=Cp _ _ hL;obtain⟨my,hE,OP⟩:=id (mW.same Cp).ev;have nSL:S≠L:=fun z=>by rw[z,DM]at hS;cases hS
   have nSE:S≠EL:=fun z=>by rw[z,hE]at hS;cases hS
   have Wx:Paired (uz vl vr z wt h (aC Hc S (.lst (fs.take 100)))) (fs.take 100) ((aI (min 100 (n - min n (m+100 * i)))).map (min n (m+100 * i) + ·)):=by
    rw[<- Xd Ir];exact Paired.g9 (Sw.pW 100 hf) fun _ _ y=>y.keep (fun c ys=>s4 _ _) (fun c ys=>s4 _ _)
   generalize aC Hc S (.lst (fs.take 100))=H4 at s4 Fy Dz Wx Fz ⊢;refine Z8.mk bn dn bk dx L M EL S x b n z wt h _ _ vl vr _ rfl Dz Fy Wx Fz.hl Fz.hr nSL nSE (by omega) tV fun v H5 IU WG =>?_;have e5:min n (m+100 * i)+min 100 (n - min n (m+100 * i))=min n (m+100 * (i+1)):=by omega
   rw[e5]at WG;refine GrI.mk _ _ rfl ((bt.same (Cp.trans s4)).trans IU) WG fun k hk =>?_;rcases Nat.lt_or_eq_of_le (Nat.le_of_lt_succ hk) with h2 | h2
   ·exact lt k h2
   ·rw[h2];omega
 ·rintro σ H' ⟨x4,x5,rfl,bt,mW,lt⟩;refine⟨_,O,(show 2<=sizeLine by decide),fun tp uK =>?_⟩;have s4:=aD uK (.tup [.str "open",.int (l6:Int)]);exact q2 tp _ lt (bt.same s4) (mW.same s4) ak
def rS(c p m:Int):Int:=c % p * 48271 % p % m
theorem ZI(c p:Int){m:Int}(h:0 < m):0<=rS c p m:=nU _ (by omega)
theorem ZJ(c p:Int){m:Int}(h:0 < m):rS c p m < m:=lA _ h
inductive XD(vs:List V)(H:Hp)(Q:VK):Prop
 | mk (c p m:Int) (z0:vs = [.int c,.int p,.int m]) (z1:0 < p) (z2:p < 20000) (z3:0 < m) (z4:Q (.int (rS c p m)) H):XD vs H Q
def Ni:Sp:=fun vs H Q _=>XD vs H Q
theorem acX(D:Def K mg "_law_draw" NB vc):c7 P w K mg base 1 "_law_draw" vc Ni:=by
 refine D.has acy (fun vs H Q E h =>?_) (fun f bU A outer s H vs Q E hr h =>?_)
 ·obtain⟨c,f,m,rfl,_⟩:=h;rfl
 obtain⟨c,p,m,rfl,h0,h1,h2,q⟩:=h;refine⟨_,(ax (aZ (eF wC (eF wC (eF uF (eF wC (pv 0) (pv 1)) az) (pv 1)) (pv 2)))),?_⟩
 try dsimp only[cG]
 have a0:0<=c % p:=nU _ (by omega);have a1:c % p < p:=lA _ h0;exact⟨_,O,_,O,_,_,O,O,h0,_,_,O,O,.inl ⟨by omega,by omega⟩,_,O,_,_,O,O,h0,_,O,_,_,O,O,h2,q⟩
def pX(c:Int):Str:=gA "mmmmmmm" none (some (rS c 10007 8))
def Bx(c:Int):Int:=rS c 10009 ((pX c).length+1)
def eE(c k:Int):Str:=gA (pX c) none (some (Bx c)) ++ JZ k ++ gA (pX c) (some (Bx c)) none
theorem slice_le(x:Str)(lo hi:Option Int):(gA x lo hi).length<=x.length:=by
 show (gA x lo hi).cps.size<=x.cps.size;rw[<- bF,xO,cf,fj,bF];omega
theorem mm7(c:Int):(pX c).length<=7:=bp (slice_le _ _ _) (by decide)
inductive Xu(vs:List V)(H:Hp)(Q:VK):Prop
 | mk (k c:Int) (z0:vs = [.int k,.int c]) (z4:Q (.str (eE c k)) H):Xu vs H Q
def Vd:Sp:=fun vs H Q _=>Xu vs H Q
theorem acP(B:iY mg)(p5:c7 P w K mg base 1 "_law_draw" vc Ni)(D:Def K mg "_law_word" Nv wc5):c7 P w K mg base 2 "_law_word" wc5 Vd:=by
 refine D.has JJ (fun vs H Q E h =>?_) (fun f bU A outer s H vs Q E hr h =>?_)
 ·obtain⟨k,c,rfl,_⟩:=h;rfl
 obtain⟨k,c,rfl,q⟩:=h;refine⟨_,(au (bG (i:=2) JJ.nd O (aM O) (qo Nl bN tw (tj (bb p5 hr (by omega) O (ae (pv 1) (ae az (ae az aq)))))))
  (au (bG (i:=3) JJ.nd O (aM O) (bb p5 hr (by omega) O (ae (pv 1) (ae az (ae (eF uG (dz D0 O B.jK cn (ae (pv 2) aq)) az) aq)))))
  (ax (aZ (eF HU (eF HU (qo Nl (pv 2) tw (tj (pv 3))) (aV afc bN (eF wC (pv 0) az) (fun _ _=>O))) (qo Nl (pv 2) (tj (pv 3)) tw)))))),?_⟩
 try dsimp only[cG]
 have big:(1000:Nat)<=sizeLine:=by decide
 have l7:=mm7 c;refine⟨_,O,c,10007,8,O,by decide,by decide,by decide,_,O,_,O,(by decide),?_⟩;dsimp only[b7];refine⟨_,O,_,O,_,O,(show (pX c).length<=sizeLine by omega),_,_,O,O,c,10009,_,O,by decide,by decide,(show (0:Int) < ((pX c).length:Int)+1 by omega),?_⟩;dsimp only[b7];have l1:=slice_le (pX c) none (some (Bx c));have l2:=slice_le (pX c) (some (Bx c)) none;have hz:("abcdefghijklmnopqrstuvwxyz" : Str).length<=sizeLine:=by decide +kernel
 refine⟨_,O,_,O,_,O,_,O,(show (pX c).length<=sizeLine by omega),_,O,_,_,O,O,nD,_,_,_,O,O,hz,adx k,_,_,O,O,?_,?_⟩
 ·show (gA (pX c) none (some (Bx c))).length+(JZ k).length<=sizeLine;have:(JZ k).length=1:=rfl;omega
 refine⟨_,O,_,O,_,O,_,O,(show (pX c).length<=sizeLine by omega),_,_,O,O,?_,q⟩;show (gA (pX c) none (some (Bx c)) ++ JZ k).length+(gA (pX c) (some (Bx c)) none).length<=sizeLine;have:(JZ k).length=1:=rfl;rw[pM];omega
end
section
theorem Ll{lo hi:Option Int}(h:c∈(gA y lo hi).cps.toList):c∈y.cps.toList:=by
 rw[xO]at h;exact mO (iU h)
theorem MQ{c k:Int}{ch:Nat}(h:ch∈(eE c k).cps.toList):ch=109∨ch=abc.cps.toList.getD (k % 26).toNat 97:=by
 unfold eE at h;have ap:∀ x y:Str,(x ++ y).cps.toList=x.cps.toList ++ y.cps.toList:=fun x y=>by show (x.cps ++ y.cps).toList=_;exact dB
 rw[ap,ap]at h;have mm:∀ lo hi,ch∈(gA (pX c) lo hi).cps.toList->ch=109:=fun lo hi h=>by
  have h1:=Ll h;unfold pX at h1;have h2:=Ll h1;have:∀ d∈("mmmmmmm" : Str).cps.toList,d=109:=by decide +kernel
  exact this _ h2
 rcases cI.mp h with h | h
 ·rcases cI.mp h with h | h
  ·exact .inl (mm _ _ h)
  ·exact .inr (a8.mp h)
 ·exact .inl (mm _ _ h)
theorem aht:∀ k,k < 26->97<=abc.cps.toList.getD k 97∧abc.cps.toList.getD k 97<=122:=by decide +kernel
theorem X8(c k:Int):1<=(eE c k).length∧(eE c k).length<=8:=by
 unfold eE;rw[pM,pM];have l1:(JZ k).length=1:=rfl;have e:(gA (pX c) none (some (Bx c))).length+(gA (pX c) (some (Bx c)) none).length<=7:=by
  have len:∀ y:Str,y.length=y.cps.toList.length:=fun y=>by rw[bF];rfl
  rw[len,len,xO,xO,cf,fj,cf,fj,HT.Ga,HT.Ga, <- len];have p1:=HT.NF (pX c).length 0 (aQ _) (some (Bx c));have p2:=mm7 c;have e0:HT.jx (pX c).length (pX c).length (some (Bx c))=HT.jx (pX c).length 0 (some (Bx c)):=rfl;rw[e0];omega
 omega
theorem UO(c k:Int):P4 (eE c k):=by
 obtain⟨h1,h2⟩:=X8 c k;refine⟨h1,h2,fun d hd =>?_⟩;have h0:(k % 26).toNat < 26:=by have:=nU k (b:=26) (by decide);have:=lA k (b:=26) (by decide);omega
 rcases MQ hd with e | e
 ·omega
 ·have:=aht _ h0;omega
theorem acg(c:Int):NoW (eE c 20):=by
 have key:∀ (y:Str) (d:Nat),d∈y.cps.toList->d≠109->d≠117->eE c 20≠y:=fun y d hd h1 h2 e=>by
  rw[<- e]at hd;rcases MQ hd with e | e
  ·exact h1 e
  ·exact h2 (e.trans (by decide +kernel))
 exact⟨key "plus" 112 (by decide +kernel) (by decide) (by decide),key "times" 116 (by decide +kernel) (by decide) (by decide),key "neg" 110 (by decide +kernel) (by decide) (by decide)⟩
theorem GN(c p:Int)(h:0 < m):∃ d:Nat,d < m∧rS c p (m:Int)=(d:Int):=by
 have h1:=ZI c p (m:=(m:Int)) (by omega);have h2:=ZJ c p (m:=(m:Int)) (by omega);exact⟨(rS c p (m:Int)).toNat,by omega,by omega⟩
def vD:Tm->D
 | .num n => .tup [.str "num",.int n]
 | .name x => .tup [.str "name",.str x]
 | .of x as => .tup [.str "of",.str x,.tup (as.map fun n:Nat => .int (n:Int))]
theorem LN{H:Hp}:∀ as:List Nat,fO H (as.map fun n:Nat=>D.int (n:Int)) (as.map nV)
 | []=>GP
 | a :: as=>gx (by rw[Den];exact .inl rfl) (LN as)
theorem agW:∀ {t:Tm}{v:V},ix H t v->Den H (vD t) v
 | .num n,v,h=>by
  obtain⟨a,e,h⟩:=h;rw[vD,Den];exact⟨a,_,e,h,gx (by rw[Den]) (lG (by rw[Den];exact .inl rfl))⟩
 | .name n,v,h=>by
  obtain⟨a,e,h⟩:=h;rw[vD,Den];exact⟨a,_,e,h,gx (by rw[Den]) (lG (by rw[Den]))⟩
 | .of x as,v,h=>by
  obtain⟨a,b,e,h,h2⟩:=h;rw[vD,Den];refine⟨a,_,e,h,gx (by rw[Den]) (gx (by rw[Den]) (lG ?_))⟩;rw[Den];exact⟨b,_,O,h2,LN as⟩
theorem Kr{α : Type}{H:Hp}{R:V -> α -> Prop}{f : α -> D}(hR:∀ v a,R v a->Den H (f a) v):∀ {vs:List V}{as:List α},Paired R vs as->fO H (as.map f) vs
 | _,_,.nil=>GP
 | _,_,.cons a r=>gx (hR _ _ a) (Kr hR r)
theorem yf{α : Type}{f : α -> D}{m:Nat}(h:∀ a,(f a).deep<=m):∀ as:List α,D.f9 (as.map f)<=m
 | []=>by rw[fS,D.f9];exact aQ _
 | a :: as=>by rw[aS,D.f9];have:=h a;have:=yf h as;omega
theorem adq:∀ t:Tm,(vD t).deep<=10
 | .num n=>by rw[vD];simp[D.deep,D.f9]
 | .name n=>by rw[vD];simp[D.deep,D.f9]
 | .of x as=>by
  rw[vD,D.deep,D.f9,D.f9,D.f9,D.f9,D.deep,D.deep,D.deep];have:=yf (f:=fun n:Nat=>D.int (n:Int)) (m:=1) (fun a=>by rw[D.deep];exact aQ _) as;omega
end
section
variable {P:Program}{w:World}{K:ai}{mg:Str->Option Value}{base:Heap}{CB CF CH CS CN CE CM CR tB:Addr}
inductive ab1(K:ai)(vs:List V)(H:Hp)(Q:VK):Prop
 | mk (a:Addr) (ns:List Int) (z0:vs = [.ref a]) (z1:bw K H a (ns.map V.int)) (z2:ns.length<=63) (z3:∀ H',Q (.bl true) H'):ab1 K vs H Q
def My(K:ai):Sp:=fun vs H Q _=>ab1 K vs H Q
inductive Sk(P:Program)(w:World)(CB CH:Addr)(S:V)(bn dn bk dx L M EL:Addr)(c m:Int)(x:Str)(b:Int)(n i:Nat)(σ : L2.St)(H:Hp):Prop
 | mk (x7:Option V) (e : σ = [some S,some (.int c),some (.int m),some (.int (n:Int)),some (.str x),some (.int b),some (.ref bn),x7,none,none,none,none,none,none,none,none,none]) (hb:gq P w CB CH H bn dn bk dx L M EL 400 (eC x b n (2 * i)) []):Sk P w CB CH S bn dn bk dx L M EL c m x b n i σ H
inductive RuI(P:Program)(w:World)(CB CH CU:Addr)(S:V)(bn dn bk dx L M EL Rs R dr A:Addr)(c m:Int)(x:Str)(b:Int)(n:Nat)(z:Str)(wt:Int)(h:Str)(vl vr:V)(σ : L2.St)(H:Hp):Prop
 | mk (x7 x9 Fn:Option V) (e : σ = [some S,some (.int c),some (.int m),some (.int (n:Int)),some (.str x),some (.int b),some (.ref bn),x7,some (.str h),x9,Fn,some (.str z),some (.int wt),some (.ref Rs),none,none,none]) (hg:kG P w CB CH H bn dn bk dx L M EL x b n z wt h 0) (mx:H Rs=some (.lst [.ref R])) (hR:jA CU H R dr z wt vl vr A x h) (nL:Rs≠L) (nE:Rs≠EL) (aL:A≠L) (aE:A≠EL):RuI P w CB CH CU S bn dn bk dx L M EL Rs R dr A c m x b n z wt h vl vr σ H
theorem Yg{k:Nat}(h:k < n):iL x b n (2 * k) = .num (b+(k:Int)):=by unfold iL;rw[if_pos (by omega),if_pos (by omega),show 2 * k / 2=k by omega]
theorem acj{k:Nat}(h:k < n):iL x b n (2 * k+1) = .of x [2 * k]:=by unfold iL;rw[if_pos (by omega),if_neg (by omega)];rfl
theorem Ye{k:Nat}:iL x b n (2 * n+k) = .of x [2 * k,2 * k]:=by unfold iL;rw[if_neg (by omega),show 2 * n+k - 2 * n=k by omega]
theorem RW(y:Str)(a:Int):eqT [.str y,.int a] [.str y,.int a]=true:=by simp[eqT,BI,eM]
theorem kG.put{bk:Addr}{D:Addr}(g:kG P w CB CH H bn dn bk dx L M EL x b n z wt h m)(hD:H D=some (.lst us))(nL:D≠L)(nE:D≠EL):kG P w CB CH (aC H D (.lst cL)) bn dn bk dx L M EL x b n z wt h m:=by
 obtain⟨my,a,e⟩:=g.ev;obtain⟨agL,hE,OP⟩:=id g.hb.hE;have kp:=lF (o' := .lst cL) hD trivial;exact⟨⟨by rw[av (b9 g.hb.hn hD nofun)];exact g.hb.hn,g.hb.hB.keep hD nL ((eZ.refl D H).put),⟨agL,by rw[av (bR nE)];exact hE,rR kp OP⟩,g.hb.ne⟩,my,by rw[av (bR nE)];exact a,Paired.g9 e fun _ _ y=>y.keep kp⟩
theorem jA.put{D:Addr}(r:jA CU H R dr z wt vl vr A x h)(hD:H D=some (.lst us))(nA:A≠D):jA CU (aC H D (.lst cL)) R dr z wt vl vr A x h:=by
 obtain⟨kN,as,a,b,c⟩:=r.hA;have kp:=lF (o' := .lst cL) hD trivial;exact⟨by rw[av (b9 r.ho hD nofun)];exact r.ho,iZ kp r.hl,iZ kp r.hr,kN,as,by rw[av nA];exact a,Paired.g9 b fun _ _ y=>y.keep kp,c⟩
structure FW(P:Program)(w:World)(CB CH CU:Addr)(bn dn bk dx L M EL Rs R dr A Du He:Addr)(x:Str)(b:Int)(n:Nat)(z:Str)(wt:Int)(h:Str)(vl vr:V)(i l:Nat)(dC nK:List V)(H:Hp):Prop where
 hg:kG P w CB CH H bn dn bk dx L M EL x b n z wt h 0
 mx:H Rs=some (.lst [.ref R])
 hR:jA CU H R dr z wt vl vr A x h
 IH:H Du=some (.lst dC)
 hd:Paired (Aa n z wt h H) dC (aI i)
 zN:H He=some (.lst nK)
 ht:kO H nK (eC x b n l)
structure NeC(L EL Rs A Du He:Addr):Prop where
 dL:Du≠L
 dE:Du≠EL
 dR:Rs≠Du
 dA:A≠Du
 hL:He≠L
 hE:He≠EL
 hR:Rs≠He
 hA:A≠He
 hD:He≠Du
section
variable {bn dn bk dx L M EL Rs R dr A Du He:Addr}{x:Str}{b:Int}{n:Nat}{z:Str}{wt:Int}{h:Str}{vl vr:V}{i l:Nat}{dC nK:List V} {H H':Hp}
theorem FW.same(c:FW P w CB CH CU bn dn bk dx L M EL Rs R dr A Du He x b n z wt h vl vr i l dC nK H)(s:a6 H H'):FW P w CB CH CU bn dn bk dx L M EL Rs R dr A Du He x b n z wt h vl vr i l dC nK H' :=
 ⟨c.hg.same s,s _ _ c.mx,c.hR.same s,s _ _ c.IH,Paired.g9 c.hd fun _ _ y=>y.keep fun c ys=>s _ _,s _ _ c.zN,eN s c.ht⟩
theorem FW.due(N:NeC L EL Rs A Du He)(c:FW P w CB CH CU bn dn bk dx L M EL Rs R dr A Du He x b n z wt h vl vr i l dC nK H)(e:Aa n z wt h H v i):FW P w CB CH CU bn dn bk dx L M EL Rs R dr A Du He x b n z wt h vl vr (i+1) l (dC ++ [v]) nK (aC H Du (.lst (dC ++ [v]))):=by
 have kp:=lF (o' := .lst (dC ++ [v])) c.IH trivial;refine⟨c.hg.put c.IH N.dL N.dE,by rw[av N.dR];exact c.mx,c.hR.put c.IH N.dA,ak,?_,by rw[av N.hD];exact c.zN,iK kp c.ht⟩;rw[eM];exact ju (Paired.g9 c.hd fun _ _ y=>y.keep kp) (.cons (e.keep kp) .nil)
theorem FW.held(N:NeC L EL Rs A Du He)(c:FW P w CB CH CU bn dn bk dx L M EL Rs R dr A Du He x b n z wt h vl vr i l dC nK H)(e:ix H (iL x b n l) v):FW P w CB CH CU bn dn bk dx L M EL Rs R dr A Du He x b n z wt h vl vr i (l+1) dC (nK ++ [v]) (aC H He (.lst (nK ++ [v]))):=by
 have kp:=lF (o' := .lst (nK ++ [v])) c.zN trivial;refine⟨c.hg.put c.zN N.hL N.hE,by rw[av N.hR];exact c.mx,c.hR.put c.zN N.hA,by rw[av (bR N.hD)];exact c.IH,Paired.g9 c.hd fun _ _ y=>y.keep kp,ak,?_⟩;rw[MT];exact ju (iK kp c.ht) (.cons (e.keep kp) .nil)
end
inductive En(P:Program)(w:World)(CB CH CU:Addr)(S:V)(bn dn bk dx L M EL Rs R dr A Du He:Addr)(c m:Int)(x:Str)(b:Int)(n:Nat)(z:Str)(wt:Int)(h:Str)(vl vr:V)(i l:Nat)(σ : L2.St)(H:Hp):Prop
 | mk (x7 x9 Fn x16:Option V) (dC nK:List V) (e : σ = [some S,some (.int c),some (.int m),some (.int (n:Int)),some (.str x),some (.int b),some (.ref bn),x7,some (.str h),x9,Fn,some (.str z),some (.int wt),some (.ref Rs),some (.ref Du),some (.ref He),x16]) (hc:FW P w CB CH CU bn dn bk dx L M EL Rs R dr A Du He x b n z wt h vl vr i l dC nK H):En P w CB CH CU S bn dn bk dx L M EL Rs R dr A Du He c m x b n z wt h vl vr i l σ H
theorem aex(B:iY mg)(Zb:rX K CB)(Y:yk K CH)(Zu:D9 K mg CU kP)(p5:c7 P w K mg base 1 "_law_draw" vc Ni)(DB:c7 P w K mg base 2 "_law_word" wc5 Vd)(OV:pO P w K mg base 3 "Bench" CH wb1 (Q6 P w CB CH))(OW:ic P w K mg base 8 CH "put" wc9 (Vo P w CB CH 5))(yV:pO P w K mg base 17 "Rule" CU ue (Q2 CU kP))(IF:zd P w K mg base 23 "grow" wb4 [.int 100] (Vn P w CB CH CU)){f:Addr}{fd:FuncData}(F:BP K "law" "law" vN f fd) :
  kC P w K mg base FY 24 f fd ["_law_script"] (My K):=by
 have cH:=Y.cH;have cB:=Zb.cB;refine F.ok jj (fun vs H Q E h =>?_) (fun bU A outer s H vs Q E hr h =>?_)
 ·obtain⟨a,ns,rfl,_⟩:=h;rfl
 obtain⟨S,ns,rfl,hS,h63,q⟩:=h;refine⟨_,(au (bG (i:=1) jj.nd O (aM O) (Ay (br rE (dz cX O B.jK cn (ae (pv 0) aq)) az (bo _)) (aV dy (pv 0) az (fun _ _=>O)) az))
  (au (bG (i:=2) jj.nd O (aM O) (Ay (br rE (dz cX O B.jK cn (ae (pv 0) aq)) az (bo _)) (aV dy (pv 0) az (fun _ _=>O)) az))
  (au (bG (i:=3) jj.nd O (aM O) (eF uG az (bb p5 hr (by omega) O (ae (pv 2) (ae az (ae az aq))))))
  (au (bG (i:=4) jj.nd O (aM O) (bb DB hr (by omega) O (ae az (ae (pv 1) aq))))
  (au (bG (i:=5) jj.nd O (aM O) (aV aY (dX (ae (eF wC (pv 1) (eF NU az az)) (ae (Tp UU (eF wC (pv 1) (eF NU az az))) aq))) (bb p5 hr (by omega) O (ae (pv 1) (ae az (ae az aq)))) (fun _ _=>O)))
  (au (bG (i:=6) jj.nd O (aM O) (qp OV hr (by omega) gw O (ae az aq)))
  (au (dM bX O (qK O B.uD (ae (pv 3) aq)) (bZ (i:=7) jj.nd O (aM O))
  (ax (eJ (lP OW cH hr (by omega) gw (pv 6) (ae (dX (ae bN (ae (pv 4) (ae (dX (ae (dX (ae bN (ae (eF uG (pv 5) (pv 7)) aq))) aq)) aq)))) aq)))))
  (au (bG (i:=8) jj.nd O (aM O) (bb DB hr (by omega) O (ae (bb p5 hr (by omega) O (ae (pv 1) (ae az (ae az aq)))) (ae (pv 2) aq))))
  (au (bG (i:=9) jj.nd O (aM O) (qo EK (fu (ae (dX (ae bN (ae (pv 8) aq))) aq)) tw (tj (bb p5 hr (by omega) O (ae (pv 2) (ae az (ae az aq)))))))
  (au (bG (i:=10) jj.nd O (aM O) (dX (ae bN (ae (pv 8) aq))))
  (au (bG (i:=11) jj.nd O (aM O) (bb DB hr (by omega) O (ae az (ae (pv 2) aq))))
  (au (bG (i:=12) jj.nd O (aM O) (eF uG az (eF wC (pv 2) (eF NU az az))))
  (au (bG (i:=13) jj.nd O (aM O) (fu (ae (qp yV hr (by omega) gw O (ae (pv 11) (ae (pv 12) (ae (dX (ae bN (ae (pv 4) (ae (dX (ae (pv 10) aq)) aq)))) (ae (dX (ae bN (ae (pv 4) (ae (dX (ae (pv 10) (ae (pv 10) aq))) aq)))) (ae (pv 9) aq)))))) aq)))
  (au (bG (i:=14) jj.nd O (aM O) (fu aq))
  (au (bG (i:=15) jj.nd O (aM O) (fu aq))
  (au (dM bX O (qK O B.uD (ae (pv 3) aq)) (bZ (i:=16) jj.nd O (aM O))
  (au (eJ (jV bK cy cx fX (pv 14) (ae (dX (ae (eF uG (eF uF az (pv 16)) az) (ae (eF uG (eF uF az (pv 3)) (pv 16)) (ae (pv 12) (ae (dX (ae bN (ae (pv 11) (ae (dX (ae (dX (ae (pv 8) (ae (eF uF az (pv 16)) aq))) aq)) aq)))) aq))))) aq)))
  (au (eJ (jV bK cy cx fX (pv 15) (ae (dX (ae bN (ae (eF uG (pv 5) (pv 16)) aq))) aq)))
  (ax (eJ (jV bK cy cx fX (pv 15) (ae (dX (ae bN (ae (pv 4) (ae (dX (ae (eF uF az (pv 16)) aq)) aq)))) aq)))))))
  (au (dM bX O (qK O B.uD (ae (pv 3) aq)) (bZ (i:=16) jj.nd O (aM O))
  (ax (eJ (jV bK cy cx fX (pv 15) (ae (dX (ae bN (ae (pv 4) (ae (dX (ae (eF uF az (pv 16)) (ae (eF uF az (pv 16)) aq))) aq)))) aq)))))
  (au (cA (PW.pt (pw_or (br (VU hr.UT) (Lf IF hr (by omega) O (ae (pv 6) (ae (fF kr O B.vO jY (ae (pv 13) aq)) (ae az aq)))) (dX (ae bN (ae az aq))) (bo _)) (pw_or1 (br (VV (Mw hr)) (bW (pv 6) O) (qo EK (pv 14) tw (tj az)) (bo _))))) (ax (aZ lQ)) bD)
  (au (cA (br (VV (Mw hr)) (bW (bW (pv 6) O) O) (qo EK (pv 15) tw (tj (eF uG (eF uF az (pv 3)) (dz (LS O) O B.Y1 D6 (ae az (ae (pv 3) aq)))))) (bo _)) (ax (aZ lQ)) bD)
  (au (cA (br (VU hr.UT) (Lf IF hr (by omega) O (ae (pv 6) (ae (fF kr O B.vO jY (ae (pv 13) aq)) (ae az aq)))) (dX (ae bN (ae (fF Xl O B.amn Xo (ae (jb rE (pv 3) az (bo _)) aq)) aq))) (bo _)) (ax (aZ lQ)) bD)
  (ax (aZ (rD (jb (VX (Mw hr)) (bW (pv 6) O) (pv 14) (bo _)) (C9 (jb (VX (Mw hr)) (bW (bW (pv 6) O) O) (pv 15) (bo _)))))))))))))))))))))))))),?_⟩
 try dsimp only[cG]
 refine kj (fun σ H'=>∃ c:Int, σ = [some (.ref S),some (.int c),none,none,none,none,none,none,none,none,none,none,none,none,none,none,none]∧H'=H) ?_ (fun key =>?_);rotate_left
 ·refine⟨_,O,S,_,O,.inl hS,_,_,O,O,_,O,cC (fun c =>?_) (fun _=>key _ _ ⟨0,O,O⟩)⟩;rw[ay]at c;have h0:0 < ns.length:=by omega
  exact⟨_,O,S,_,0,_,O,O,hS,aB (j:=0) (by rw[aJ,ah h0];rfl),key _ _ ⟨ns[0],O,O⟩⟩
 rintro bJ H' ⟨c,rfl,rfl⟩;refine kj (fun σ Hc=>∃ m:Int, σ = [some (.ref S),some (.int c),some (.int m),none,none,none,none,none,none,none,none,none,none,none,none,none,none]∧Hc=H') ?_ (fun key =>?_);rotate_left
 ·refine⟨_,O,S,_,O,.inl hS,_,_,O,O,_,O,cC (fun c =>?_) (fun _=>key _ _ ⟨0,O,O⟩)⟩;rw[ay]at c;have h0:1 < ns.length:=by omega
  exact⟨_,O,S,_,1,_,O,O,hS,aB (j:=1) (by rw[aJ,ah h0];rfl),key _ _ ⟨ns[1],O,O⟩⟩
 rintro bJ H0 ⟨m,rfl,rfl⟩;clear hS h63
 -- how aru,xK arp,xK arb aoM
 obtain⟨d,hd,ed⟩:=GN m 10037 (m:=60) (by decide);refine⟨_,O,m,10037,60,O,by decide,by decide,by decide,_,_,O,O,?_⟩;rw[show rS m 10037 60=(d:Int) from ed,show (60:Int)+(d:Int)=((60+d:Nat):Int) by omega];dsimp only[b7];refine⟨_,O,20,c,O,?_⟩;dsimp only[b7];refine kj (fun σ Hc=>∃ b:Int, σ = [some (.ref S),some (.int c),some (.int m),some (.int ((60+d:Nat):Int)),some (.str (eE c 20)),some (.int b),none,none,none,none,none,none,none,none,none,none,none]) ?_ (fun key =>?_);rotate_left
 ·refine⟨_,O,_,_,O,O,⟨by decide,by decide,by decide⟩,_,_,O,O,(by decide),_,O,_,_,O,O,⟨by decide,by decide,by decide⟩,_,_,O,O,(by decide),_,O,(show 2<=sizeLine by decide),fun tb htb =>?_⟩;obtain⟨d2,hd2,ed2⟩:=GN c 10039 (m:=2) (by decide);refine⟨_,O,c,10039,2,O,by decide,by decide,by decide,?_⟩;rw[show rS c 10039 2=(d2:Int) from ed2]
  match d2,hd2 with
  | 0,_=>exact⟨tb,_,0,_,O,O,aW.of ak,aB (j:=0) rfl,key _ _ ⟨_,O⟩⟩
  | 1,_=>exact⟨tb,_,1,_,O,O,aW.of ak,aB (j:=1) rfl,key _ _ ⟨_,O⟩⟩
 rintro bJ H1 ⟨b,rfl⟩;have amA:60<=60+d:=by omega
 have T7:60+d<=120:=by omega
 generalize 60+d=n at amA T7;clear hd ed
 -- xK arj
 intro bn dn hbn hdn kM;refine KQ.mk bn dn 400 rfl ak fun H2 bk dx L M EL bt BG vA O6 hb=>⟨O,?_⟩;dsimp only[b7];refine kj (Sk P w CB CH (.ref S) bn dn bk dx L M EL c m (eE c 20) b n n) ?_ (fun key =>?_);rotate_left
 ·refine⟨_,O,_,O,by omega,by omega,?_⟩;rw[bP];refine qU (lo:=0) (Sk P w CB CH (.ref S) bn dn bk dx L M EL c m (eE c 20) b n) (Sk.mk none rfl hb) ?_ ?_
  ·rintro i σ H3 hi ⟨x7,rfl,IE⟩;have ei:(0:Int)+(i:Int)=((i:Nat):Int):=by omega
   rw[ei];dsimp only[b7];refine⟨_,O,bn,dn,_,O,IE.hn,O,_,O,_,O,_,O,_,_,O,O,(show 2<=sizeLine by decide),fun t1 ht1=>⟨(show 1<=sizeLine by decide),fun t2 Lw=>⟨(show 3<=sizeLine by decide),fun t3 Lv =>?_⟩⟩⟩;have s1:=aD ht1 (.tup [.str "num",.int (b+((i:Nat):Int))]);have e1:=ak (H:=H3) (a:=t1) (o := .tup [.str "num",.int (b+((i:Nat):Int))]);generalize aC H3 t1 (.tup [.str "num",.int (b+((i:Nat):Int))])=H4 at s1 e1 Lw Lv ⊢;have s2:=aD Lw (.tup [.ref t1]);have e2:=ak (H:=H4) (a:=t2) (o := .tup [.ref t1]);generalize aC H4 t2 (.tup [.ref t1])=H5 at s2 e2 Lv ⊢;have s3:=aD Lv (.tup [.str "of",.str (eE c 20),.ref t2]);have e3:=ak (H:=H5) (a:=t3) (o := .tup [.str "of",.str (eE c 20),.ref t2]);generalize aC H5 t3 (.tup [.str "of",.str (eE c 20),.ref t2])=H6 at s3 e3 ⊢;have BD:i < n:=hi;have pf:=VJ (x:=eE c 20) (b:=b) (n:=n) BD b0;refine PV.mk bn dn bk dx L M EL 400 _ [] (.ref t3) (.of (eE c 20) [.num (b+((i:Nat):Int))]) rfl (IE.same (s1.trans (s2.trans s3))) ?_ (by rw[T.depth,T.fM,T.fM,T.depth];omega) (by rw[T.vk,T.qf,T.qf,T.vk];exact⟨(show 1<=900 by decide),trivial,trivial⟩) (by rw[T.mV,T.jy,T.jy,T.mV];rfl) (by rw[pf,fK];omega) (by rw[pf,fK];omega) fun H7 bt7 OS =>?_
   ·rw[dj];refine⟨t3,t2, [.ref t1],O,e3,s3 _ _ e2,?_⟩;rw[j1];exact⟨.ref t1, [],O,by rw[dj];exact⟨t1,O,s3 _ _ (s2 _ _ e1)⟩,by rw[j1]⟩
   ·rw[pf]at OS;exact Sk.mk _ rfl OS
  ·rintro σ H3 ⟨x7,rfl,IE⟩;exact key _ _ (Sk.mk _ rfl IE)
 rintro bJ H3 ⟨x7,rfl,IE⟩;clear hb bt BG vA O6 hbn hdn kM
 -- xK aop aq7
 refine⟨_,O,c,10061,26,O,by decide,by decide,by decide,_,O,_,m,O,?_⟩;dsimp only[b7];generalize eh:eE m (rS c 10061 26)=h;refine⟨_,O,(show 2<=sizeLine by decide),fun ta Ds=>⟨(show 1<=sizeLine by decide),fun A0 hA0 =>?_⟩⟩;have sa:=aD Ds (.tup [.str "number",.str h]);have ea:=ak (H:=H3) (a:=ta) (o := .tup [.str "number",.str h]);generalize aC H3 ta (.tup [.str "number",.str h])=H4 at sa ea hA0 ⊢;have sb:=aD hA0 (.lst [.ref ta]);have eb:=ak (H:=H4) (a:=A0) (o := .lst [.ref ta]);generalize aC H4 A0 (.lst [.ref ta])=H5 at sb eb ⊢;obtain⟨d3,hd3,ed3⟩:=GN m 10067 (m:=2) (by decide);refine⟨_,O,m,10067,2,O,by decide,by decide,by decide,_,O,A0,_,O,bw.of eb,fun A1 mZ =>?_⟩;rw[show rS m 10067 2=(d3:Int) from ed3,EY];have sc:=aD mZ (.lst ([V.ref ta].take d3));have ec:=ak (H:=H5) (a:=A1) (o := .lst ([V.ref ta].take d3));dsimp only[b7];generalize aC H5 A1 (.lst ([V.ref ta].take d3))=H6 at sc ec ⊢;refine⟨_,O,(show 2<=sizeLine by decide),fun tx htx =>?_⟩;have sx:=aD htx (.tup [.str "any",.str h]);have ex:=ak (H:=H6) (a:=tx) (o := .tup [.str "any",.str h]);dsimp only[b7];generalize aC H6 tx (.tup [.str "any",.str h])=H7 at sx ex ⊢;refine⟨_,O,3,m,O,?_⟩;dsimp only[b7];refine⟨_,O,_,_,O,O,⟨by decide,by decide,by decide⟩,_,_,O,O,(by decide),_,_,O,O,?_⟩;dsimp only[b7];have w1:1<=1+m % 10 ^ (12:Int).toNat:=by have:=nU m (b:=10 ^ (12:Int).toNat) (by decide);omega
 have w2:1+m % 10 ^ (12:Int).toNat<=1000000000000:=by have:=lA m (b:=10 ^ (12:Int).toNat) (by decide);have e:(10:Int) ^ (12:Int).toNat=1000000000000:=(by decide);omega
 generalize 1+m % 10 ^ (12:Int).toNat=wt at w1 w2;have s37:=sa.trans (sb.trans (sc.trans sx));have OS:=IE.same s37;have ta7:=(sb.trans (sc.trans sx)) _ _ ea;have A17:=sx _ _ ec;have nA1:∀ c o,H3 c=some o->A1≠c:=fun c o e z=>by rw[z,(sa.trans sb) _ _ e]at mZ;cases mZ
 clear sa ea sb eb sc ec sx hA0 Ds htx ed3;refine kj (fun σ H=>∃ Rs R dr A vl vr,RuI P w CB CH CU (.ref S) bn dn bk dx L M EL Rs R dr A c m (eE c 20) b n (eE m 3) wt h vl vr σ H) ?_ (fun key =>?_);rotate_left
 ·refine⟨_,O,_,O,_,O,_,O,(show 1<=sizeLine by decide),fun l1 hl1=>⟨(show 3<=sizeLine by decide),fun l2 qN =>?_⟩⟩;have s1:=aD hl1 (.tup [.ref tx]);have e1:=ak (H:=H7) (a:=l1) (o := .tup [.ref tx]);generalize aC H7 l1 (.tup [.ref tx])=H8 at s1 e1 qN ⊢;have s2:=aD qN (.tup [.str "of",.str (eE c 20),.ref l1]);have e2:=ak (H:=H8) (a:=l2) (o := .tup [.str "of",.str (eE c 20),.ref l1]);generalize aC H8 l2 (.tup [.str "of",.str (eE c 20),.ref l1])=H9 at s2 e2 ⊢;refine⟨_,O,_,O,_,O,(show 2<=sizeLine by decide),fun r1 Lx=>⟨(show 3<=sizeLine by decide),fun r2 hr2 =>?_⟩⟩;have s3:=aD Lx (.tup [.ref tx,.ref tx]);have e3:=ak (H:=H9) (a:=r1) (o := .tup [.ref tx,.ref tx]);generalize aC H9 r1 (.tup [.ref tx,.ref tx])=H10 at s3 e3 hr2 ⊢;have s4:=aD hr2 (.tup [.str "of",.str (eE c 20),.ref r1]);have e4:=ak (H:=H10) (a:=r2) (o := .tup [.str "of",.str (eE c 20),.ref r1]);generalize aC H10 r2 (.tup [.str "of",.str (eE c 20),.ref r1])=Mg at s4 e4 ⊢;refine⟨_,O,fun R dr hR hdr kM =>?_⟩;have sN:a6 Mg (aC (aC Mg dr (.own R)) R (.ins CU dr [])):=(aD hdr _).trans (aD (by rw[av (fun z=>by first | exact kM z.symm | exact kM z)];exact hR) _);have g7:=((s1.trans s2).trans (s3.trans s4)).trans sN;have Zc:dj (aC (aC Mg dr (.own R)) R (.ins CU dr [])) (.any h) (.ref tx):=by rw[dj];exact⟨tx,O,g7 _ _ ex⟩
  have hl:dj (aC (aC Mg dr (.own R)) R (.ins CU dr [])) (.of (eE c 20) [.any h]) (.ref l2):=by
   rw[dj];refine⟨l2,l1,_,O,((s3.trans s4).trans sN) _ _ e2,(s2.trans ((s3.trans s4).trans sN)) _ _ e1,?_⟩;rw[j1];exact⟨_,_,O,Zc,by rw[j1]⟩
  have hv:dj (aC (aC Mg dr (.own R)) R (.ins CU dr [])) (.of (eE c 20) [.any h,.any h]) (.ref r2):=by
   rw[dj];refine⟨r2,r1,_,O,sN _ _ e4,(s4.trans sN) _ _ e3,?_⟩;rw[j1];refine⟨_,_,O,Zc,?_⟩;rw[j1];exact⟨_,_,O,Zc,by rw[j1]⟩
  have RA:Paired (Bq (aC (aC Mg dr (.own R)) R (.ins CU dr []))) ([V.ref ta].take d3) ([Ask.num h].take d3):=Sw.pW d3 (.cons ⟨ta,O,g7 _ _ ta7⟩ .nil);have WL:∀ a ∈ [Ask.num h].take d3,a = .num h:=fun a ha=>a8.mp (iU ha);have en:lE (T.of (eE c 20) [.any h]) [] = [h]:=by unfold lE;rw[raw,iH,iH,raw];rfl
  have rok:PY (eE m 3) wt (.of (eE c 20) [.any h]) (.of (eE c 20) [.any h,.any h]) ([Ask.num h].take d3):=by
   refine⟨UO _ _,⟨w1,w2⟩,⟨O,?_,?_,?_,fun y hy =>?_⟩,?_,fun a ha =>?_⟩
   ·rw[T.parts,T.fw,T.fw,T.parts];omega
   ·rw[T.parts,T.fw,T.fw,T.fw,T.parts];omega
   ·rw[Bz,vh,vh,Bz];omega
   ·rw[raw,iH,iH,iH,raw]at hy;rw[raw,iH,iH,raw];simpa using hy
   ·rw[cf];have : [Ask.num h].length=1:=rfl;omega
   ·rw[WL a ha,en];exact xG _
  refine KO.mk R dr A1 (eE m 3) wt (.ref l2) (.ref r2) _ _ _ _ rfl ak (ada (UO _ _)) hl hv (by rw[T.depth,T.fM,T.fM,T.depth];omega) (by rw[T.depth,T.fM,T.fM,T.fM,T.depth];omega) (by rw[T.parts,T.fw,T.fw,T.parts];omega) (by rw[T.parts,T.fw,T.fw,T.fw,T.parts];omega) (g7 _ _ A17) RA (fun a ha=>by rw[WL a ha];trivial) (by rw[cf];have : [Ask.num h].length=1:=rfl;omega) (fun _ H12 A2 kp pL mY amS=>⟨O,?_⟩) (fun nr=>absurd rok nr);have f7:∀ c o,H7 c=some o->c≠R:=fun c o e z=>by
   have:=((s1.trans s2).trans (s3.trans s4)) _ _ e;rw[z,hR]at this;cases this
  have VA:a6 H7 H12:=fun c o e=>kp c o (f7 c o e) (g7 _ _ e);have kt:∀ c ys,(aC (aC Mg dr (.own R)) R (.ins CU dr [])) c=some (.tup ys)->H12 c=some (.tup ys):=fun c ys e=>kp c _ (fun z=>by rw[z,ak]at e;cases e) e;refine⟨(show 1<=sizeLine by decide),fun Rs mx =>?_⟩;have s13:=aD mx (.lst [.ref R]);have g13:=VA.trans s13;obtain⟨us7,O1⟩:=mI OS.hB;obtain⟨agK,WW,amK⟩:=id OS.hE;have hbg:kG P w CB CH H12 bn dn bk dx L M EL (eE c 20) b n (eE m 3) wt h 0:=⟨OS.same VA,agK,VA _ _ WW,by
   cases amK;exact .nil⟩
  have hRA:jA CU H12 R dr (eE m 3) wt (.ref l2) (.ref r2) A2 (eE c 20) h:=⟨amS,iZ kt hl,iZ kt hv,_,_,mY,Paired.g9 RA fun _ _ y=>y.keep kt,WL⟩;refine key _ _ ⟨Rs,R,dr,A2,_,_,RuI.mk _ _ _ rfl (hbg.same s13) ak (hRA.same s13) ?_ ?_ ?_ ?_⟩
  ·exact fun z=>by rw[z,VA _ _ O1]at mx;cases mx
  ·exact fun z=>by rw[z,VA _ _ WW]at mx;cases mx
  ·exact fun z=>by rw[z,g7 _ _ O1]at pL;cases pL
  ·exact fun z=>by rw[z,g7 _ _ WW]at pL;cases pL
 rintro bJ H8 ⟨Rs,R,dr,A3,vl,vr,⟨x7',x9,Fn,rfl,hg,mx,hR,nL,nE,aL,aE⟩⟩;clear OS IE s37 ta7 A17 nA1 hd3;generalize eE m 3=z at hg hR ⊢;have hx:=acg c;generalize eE c 20=x at hg hR hx ⊢
 -- ak1 is due
 refine⟨aQ _,fun Du AU =>?_⟩;dsimp only[b7];have sD:=aD AU (.lst []);have Uk:=ak (H:=H8) (a:=Du) (o := .lst []);generalize aC H8 Du (.lst [])=H9 at sD Uk ⊢;refine⟨aQ _,fun He w5 =>?_⟩;dsimp only[b7];have sH:=aD w5 (.lst []);have Zy:=ak (H:=H9) (a:=He) (o := .lst []);have Zz:=sH _ _ Uk;generalize aC H9 He (.lst [])=HA at sH Zy Zz ⊢;obtain⟨us8,hL8⟩:=mI hg.hb.hB;obtain⟨arD,hE8,_⟩:=id hg.ev;obtain⟨arJ,as8,hA8,_⟩:=id hR.hA;have NC:NeC L EL Rs A3 Du He:=by
  refine⟨?_,?_,?_,?_,?_,?_,?_,?_,?_⟩
  ·exact fun z=>by rw[z,hL8]at AU;cases AU
  ·exact fun z=>by rw[z,hE8]at AU;cases AU
  ·exact fun z=>by rw[<- z,mx]at AU;cases AU
  ·exact fun z=>by rw[<- z,hA8]at AU;cases AU
  ·exact fun z=>by rw[z,sD _ _ hL8]at w5;cases w5
  ·exact fun z=>by rw[z,sD _ _ hE8]at w5;cases w5
  ·exact fun z=>by rw[<- z,sD _ _ mx]at w5;cases w5
  ·exact fun z=>by rw[<- z,sD _ _ hA8]at w5;cases w5
  ·exact fun z=>by rw[z,Uk]at w5;cases w5
 have s8:=sD.trans sH;refine kj (En P w CB CH CU (.ref S) bn dn bk dx L M EL Rs R dr A3 Du He c m x b n z wt h vl vr n (2 * n)) ?_ (fun key =>?_);rotate_left
 ·refine⟨_,O,_,O,by omega,by omega,?_⟩;rw[bP];refine qU (lo:=0) (fun i=>En P w CB CH CU (.ref S) bn dn bk dx L M EL Rs R dr A3 Du He c m x b n z wt h vl vr i (2 * i)) (En.mk _ _ _ none [] [] rfl ⟨hg.same s8,s8 _ _ mx,hR.same s8,Zz,.nil,Zy,.nil⟩) ?_ ?_
  ·rintro i σ H1 hi ⟨y7,y9,y10,y16,dC,nK,rfl,hc⟩;have BD:i < n:=hi;have ei:(0:Int)+(i:Int)=((i:Nat):Int):=by omega
   rw[ei];dsimp only[b7];have dl:=bx hc.hd;have hl:=bx hc.ht;rw[bA]at dl;rw[fK]at hl;refine⟨_,O,.inl ⟨O,_,bw.of hc.IH⟩,_,O,_,_,O,O,.inl ⟨by decide,by decide⟩,_,_,O,O,_,O,_,_,O,O,.inl ⟨by decide,by decide⟩,_,O,_,_,O,O,_,O,_,O,_,O,_,O,_,_,O,O,.inl ⟨by decide,by decide⟩,(show 2<=sizeLine by decide),fun t1 ht1=>⟨(show 1<=sizeLine by decide),fun t2 Lw=>⟨(show 3<=sizeLine by decide),fun t3 Lv=>⟨(show 4<=sizeLine by decide),fun t4 Lu =>?_⟩⟩⟩⟩;have ev:(2:Int) * ((i:Nat):Int)=((2 * i:Nat):Int):=by omega
   have ev1:((2 * i:Nat):Int)+1=((2 * i+1:Nat):Int):=by omega
   have ev2:(2:Int) * (n:Int)+((i:Nat):Int)=((2 * n+i:Nat):Int):=by omega
   rw[ev]at Lw Lv Lu;rw[ev,ev1,ev2];have s1:=aD ht1 (.tup [.str h,.int ((2 * i:Nat):Int)]);have e1:=ak (H:=H1) (a:=t1) (o := .tup [.str h,.int ((2 * i:Nat):Int)]);generalize aC H1 t1 (.tup [.str h,.int ((2 * i:Nat):Int)])=HB at s1 e1 Lw Lv Lu ⊢;have s2:=aD Lw (.tup [.ref t1]);have e2:=ak (H:=HB) (a:=t2) (o := .tup [.ref t1]);generalize aC HB t2 (.tup [.ref t1])=HC at s2 e2 Lv Lu ⊢;have s3:=aD Lv (.tup [.str "rule",.str z,.ref t2]);have e3:=ak (H:=HC) (a:=t3) (o := .tup [.str "rule",.str z,.ref t2]);generalize aC HC t3 (.tup [.str "rule",.str z,.ref t2])=HD at s3 e3 Lu ⊢;have s4:=aD Lu (.tup [.int ((2 * i+1:Nat):Int),.int ((2 * n+i:Nat):Int),.int wt,.ref t3]);have e4:=ak (H:=HD) (a:=t4) (o := .tup [.int ((2 * i+1:Nat):Int),.int ((2 * n+i:Nat):Int),.int wt,.ref t3]);generalize aC HD t4 (.tup [.int ((2 * i+1:Nat):Int),.int ((2 * n+i:Nat):Int),.int wt,.ref t3])=HE at s4 e4 ⊢;have hc4:=hc.same (s1.trans (s2.trans (s3.trans s4)));have ed:Aa n z wt h HE (.ref t4) i:=⟨t4,.ref t3,O,e4,by
    rw[dW,Den];refine⟨t3,_,O,s4 _ _ e3,gx (by rw[Den]) (gx (by rw[Den]) (lG ?_))⟩;rw[Den];refine⟨t2,_,O,(s3.trans s4) _ _ e2,lG ?_⟩;rw[Den];exact⟨t1,_,O,(s2.trans (s3.trans s4)) _ _ e1,gx (by rw[Den]) (lG (by rw[Den];exact .inl rfl))⟩⟩
   refine⟨Du,dC,_,O,O,hc4.IH,dD (by omega),?_⟩;have hc5:=hc4.due NC ed;generalize aC HE Du (.lst (dC ++ [.ref t4]))=HF at hc5 ⊢;dsimp only;refine⟨_,O,.inl ⟨O,_,bw.of hc5.zN⟩,_,O,_,O,_,_,O,O,(show 2<=sizeLine by decide),fun u1 hu1 =>?_⟩;have s5:=aD hu1 (.tup [.str "num",.int (b+((i:Nat):Int))]);have e5:=ak (H:=HF) (a:=u1) (o := .tup [.str "num",.int (b+((i:Nat):Int))]);generalize aC HF u1 (.tup [.str "num",.int (b+((i:Nat):Int))])=HG at s5 e5 ⊢;have hc6:=hc5.same s5;refine⟨He,nK,_,O,O,hc6.zN,dD (by omega),?_⟩;have hc7:=hc6.held NC (v := .ref u1) (by rw[Yg BD];exact⟨u1,O,e5⟩);generalize aC HG He (.lst (nK ++ [.ref u1]))=HI at hc7 ⊢;dsimp only;refine⟨_,O,.inl ⟨O,_,bw.of hc7.zN⟩,_,O,_,O,_,_,O,O,.inl ⟨by decide,by decide⟩,(show 1<=sizeLine by decide),fun u2 hu2=>⟨(show 3<=sizeLine by decide),fun u3 Oz =>?_⟩⟩;rw[ev]at Oz ⊢;have s6:=aD hu2 (.tup [.int ((2 * i:Nat):Int)]);have e6:=ak (H:=HI) (a:=u2) (o := .tup [.int ((2 * i:Nat):Int)]);generalize aC HI u2 (.tup [.int ((2 * i:Nat):Int)])=HJ at s6 e6 Oz ⊢;have s7:=aD Oz (.tup [.str "of",.str x,.ref u2]);have e7:=ak (H:=HJ) (a:=u3) (o := .tup [.str "of",.str x,.ref u2]);generalize aC HJ u3 (.tup [.str "of",.str x,.ref u2])=HK at s7 e7 ⊢;have WJ:=hc7.same (s6.trans s7);refine⟨He,_,_,O,O,WJ.zN,dD (by rw[aO,gn];omega),?_⟩;have hc9:=WJ.held NC (v := .ref u3) (by rw[acj BD];exact⟨u3,u2,O,e7,s7 _ _ e6⟩);exact En.mk _ _ _ _ _ _ rfl hc9
  ·rintro σ H1 ⟨y7,y9,y10,y16,dC,nK,rfl,hc⟩;exact key _ _ (En.mk _ _ _ _ _ _ rfl hc)
 rintro bJ H1 ⟨y7,y9,y10,y16,arG,arx,rfl,hc0⟩;refine kj (En P w CB CH CU (.ref S) bn dn bk dx L M EL Rs R dr A3 Du He c m x b n z wt h vl vr n (2 * n+n)) ?_ (fun key =>?_);rotate_left
 ·refine⟨_,O,_,O,by omega,by omega,?_⟩;rw[bP];refine qU (lo:=0) (fun i=>En P w CB CH CU (.ref S) bn dn bk dx L M EL Rs R dr A3 Du He c m x b n z wt h vl vr n (2 * n+i)) (En.mk _ _ _ _ _ _ rfl hc0) ?_ ?_
  ·rintro i σ H2 hi ⟨y7,y9,y10,y16,dC,nK,rfl,hc⟩;have BD:i < n:=hi;have ei:(0:Int)+(i:Int)=((i:Nat):Int):=by omega
   rw[ei];dsimp only[b7];have hl:=bx hc.ht;rw[fK]at hl;have ev:(2:Int) * ((i:Nat):Int)=((2 * i:Nat):Int):=by omega
   refine⟨_,O,.inl ⟨O,_,bw.of hc.zN⟩,_,O,_,O,_,_,O,O,.inl ⟨by decide,by decide⟩,_,O,_,_,O,O,.inl ⟨by decide,by decide⟩,(show 2<=sizeLine by decide),fun u2 hu2=>⟨(show 3<=sizeLine by decide),fun u3 Oz =>?_⟩⟩;rw[ev]at Oz ⊢;have s6:=aD hu2 (.tup [.int ((2 * i:Nat):Int),.int ((2 * i:Nat):Int)]);have e6:=ak (H:=H2) (a:=u2) (o := .tup [.int ((2 * i:Nat):Int),.int ((2 * i:Nat):Int)]);generalize aC H2 u2 (.tup [.int ((2 * i:Nat):Int),.int ((2 * i:Nat):Int)])=HJ at s6 e6 Oz ⊢;have s7:=aD Oz (.tup [.str "of",.str x,.ref u2]);have e7:=ak (H:=HJ) (a:=u3) (o := .tup [.str "of",.str x,.ref u2]);generalize aC HJ u3 (.tup [.str "of",.str x,.ref u2])=HK at s7 e7 ⊢;have WJ:=hc.same (s6.trans s7);refine⟨He,_,_,O,O,WJ.zN,dD (by omega),?_⟩;have hc9:=WJ.held NC (v := .ref u3) (by rw[Ye];exact⟨u3,u2,O,e7,s7 _ _ e6⟩);exact En.mk _ _ _ _ _ _ rfl hc9
  ·rintro σ H2 ⟨y7,y9,y10,y16,dC,nK,rfl,hc⟩;exact key _ _ (En.mk _ _ _ _ _ _ rfl hc)
 rintro bJ H2 ⟨y7',y9',aro,arn,dC,nK,rfl,hc⟩;clear hc0 hg mx hR s8 sD sH Uk Zz Zy;have dd:∀ (H:Hp) (vs:List V) (js:List Nat),Paired (Aa n z wt h H) vs js->fO H (js.map (DV n z wt h)) vs:=fun H vs js p=>Kr (fun _ _ y=>y.den) p;have dt:∀ (H:Hp) (vs:List V) (ts:List Tm),kO H vs ts->fO H (ts.map vD) vs:=fun H vs ts p=>Kr (fun _ _ y=>agW y) p;have deE:∀ js:List Nat,D.f9 (js.map (DV n z wt h))<=150:=fun js=>bp (yf (m:=10) (fun j=>by simp[DV,dW,D.deep,D.f9]) js) (by decide);have deT:∀ ts:List Tm,D.f9 (ts.map vD)<=150:=fun ts=>bp (yf (m:=10) adq ts) (by decide)
 -- xK first uY
 refine⟨_,O,_,O,Rs,_,O,.inl (bw.of hc.mx),fun R2 zM =>?_⟩;obtain⟨Br,qS⟩:=mI hc.hg.hb.hB;obtain⟨arE,hE2,_⟩:=id hc.hg.ev;obtain⟨φ2,hM2⟩:=oz hc.hg.hb.hB;have r2L:R2≠L:=fun z=>by rw[z,qS]at zM;cases zM
 have r2E:R2≠EL:=fun z=>by rw[z,hE2]at zM;cases zM
 have s1:=aD zM (.lst [.ref R]);have e1:=ak (H:=H2) (a:=R2) (o := .lst [.ref R]);generalize aC H2 R2 (.lst [.ref R])=H3 at s1 e1 ⊢;have zG:=hc.same s1;have kp3:∀ c us,c≠L->c≠EL->H3 c=some (.lst us)->c≠M:=fun c us _ _ e=>b9 e (s1 _ _ hM2) nofun
 refine Jf.mk bn dn bk dx L M EL R2 R dr A3 x b n z wt h 0 1 vl vr rfl zG.hg e1 zG.hR r2L r2E aL aE hx (aQ _) (by omega) T7 (by decide) (fun tp t H4 ht hn=>absurd hn (by omega)) (fun tp H4 _ LU Dz uK =>?_);have kt4:=zG.hg.hb.tup LU;have ago:=LU _ _ NC.dL (kp3 _ _ NC.dL NC.dE zG.IH) NC.dE zG.IH;have agj:=LU _ _ NC.hL (kp3 _ _ NC.hL NC.hE zG.zN) NC.hE zG.zN;have amQ:=LU _ _ nL (kp3 _ _ nL nE zG.mx) nE zG.mx;have Fz:=zG.hR.but LU (s1 _ _ qS) ⟨φ2,s1 _ _ hM2⟩ (s1 _ _ hE2) aL aE;have hd4:=Paired.g9 zG.hd fun _ _ y=>y.keep kt4;have Lu:=iK kt4 zG.ht;clear zG hc s1 e1 kp3 LU kt4 qS hE2 hM2;refine⟨(show 2<=sizeLine by decide),fun tq htq =>?_⟩;have s5:=aD htq (.tup [.str "open",.int 1]);have e5:=ak (H:=H4) (a:=tq) (o := .tup [.str "open",.int 1]);generalize aC H4 tq (.tup [.str "open",.int 1])=H5 at s5 e5 ⊢;refine⟨tp,tq,_,_,O,O,aW.of (s5 _ _ uK),aW.of e5,O,O,_,O,?_⟩;rw[show eqT [V.str "open",.int ((1:Nat):Int)] [.str "open",.int 1]=true from RW _ _];refine fC ?_;have WG:=Dz.same s5;obtain⟨ana,hE5,amL⟩:=id WG.ev;refine⟨_,O,bn,CH,dn,_,_,O,WG.hb.hn,Y.cH,Y.Dm,O,_,O,_,O,Du,_,O,bw.of (s5 _ _ ago),fun D2 hD2 =>?_⟩;rw[show DW dC none (some 100)=dC.take 100 from EY (k:=100)];have s6:=aD hD2 (.lst (dC.take 100));have e6:=ak (H:=H5) (a:=D2) (o := .lst (dC.take 100));generalize aC H5 D2 (.lst (dC.take 100))=H6 at s6 e6 ⊢;have g56:=s5.trans s6;have k46:∀ c ys,H4 c=some (.tup ys)->H6 c=some (.tup ys):=fun c ys=>g56 _ _;have eq1:qC (DV n z wt h) (aI (min n (0+100 * 1)))=qC (DV n z wt h) ((aI n).take 100):=by rw[yo,Nat.min_comm]
 refine⟨(aI (min n (0+100 * 1))).map (DV n z wt h),((aI n).take 100).map (DV n z wt h),.inr ⟨?_,?_⟩,deE _,_,O,?_⟩
 ·rw[Den];exact⟨EL,ana,O,s6 _ _ hE5,dd _ _ _ (Paired.g9 amL fun _ _ y=>y.keep fun c ys=>s6 _ _)⟩
 ·rw[Den];exact⟨D2,_,O,e6,dd _ _ _ (Sw.pW 100 (Paired.g9 hd4 fun _ _ y=>y.keep k46))⟩
 rw[decide_eq_true eq1];refine fC ?_;dsimp only[gQ];have hg6:=Dz.same g56;obtain⟨us6,hL6,amu⟩:=id hg6.hb.hB.2.1;refine⟨_,O,bn,CH,dn,_,_,O,hg6.hb.hn,Y.cH,Y.ur,O,bk,CB,dx,_,_,O,hg6.hb.hB.1,Zb.cB,Zb.gM,O,_,O,_,O,_,_,O,O,.inl ⟨by decide,by decide⟩,_,O,_,_,O,_,_,O,O,_,O,He,_,O,bw.of (g56 _ _ agj),fun D3 hD3 =>?_⟩;have ek:(2:Int) * (n:Int)+(if (n:Int) < 100 then (n:Int) else 100)=((2 * n+min n (0+100 * 1):Nat):Int):=by split <;> omega
 rw[ek,EY];have s7:=aD hD3 (.lst (nK.take (2 * n+min n (0+100 * 1))));have e7:=ak (H:=H6) (a:=D3) (o := .lst (nK.take (2 * n+min n (0+100 * 1))));generalize aC H6 D3 (.lst (nK.take (2 * n+min n (0+100 * 1))))=H7 at s7 e7 ⊢;have g47:=g56.trans s7;have tk:∀ l l',l<=l'->(eC x b n l').take l=eC x b n l:=fun l l' hl=>by unfold eC;rw[<- List.map_take,yo,gS hl]
 have eq2:qC vD (eC x b n (2 * n+min n (0+100 * 1)))=qC vD ((eC x b n (2 * n+n)).take (2 * n+min n (0+100 * 1))):=by rw[tk _ _ (by omega)]
 refine⟨(eC x b n (2 * n+min n (0+100 * 1))).map vD,((eC x b n (2 * n+n)).take (2 * n+min n (0+100 * 1))).map vD,.inr ⟨?_,?_⟩,deT _,_,O,?_⟩
 ·rw[Den];exact⟨L,us6,O,s7 _ _ hL6,dt _ _ _ (eN s7 amu)⟩
 ·rw[Den];exact⟨D3,_,O,e7,dt _ _ _ (Sw.pW _ (eN g47 Lu))⟩
 rw[decide_eq_true eq2];refine fC ?_;dsimp only[gQ]
 -- xK aom anM
 refine⟨_,O,_,O,Rs,_,O,.inl (bw.of (g47 _ _ amQ)),fun R3 WS =>?_⟩;have OO:=Dz.same g47;obtain⟨us7,O1⟩:=mI OO.hb.hB;obtain⟨agK,WW,_⟩:=id OO.ev;obtain⟨φ7,hM7⟩:=oz OO.hb.hB;have r3L:R3≠L:=fun z=>by rw[z,O1]at WS;cases WS
 have r3E:R3≠EL:=fun z=>by rw[z,WW]at WS;cases WS
 have s8:=aD WS (.lst [.ref R]);have e8:=ak (H:=H7) (a:=R3) (o := .lst [.ref R]);generalize aC H7 R3 (.lst [.ref R])=H8 at s8 e8 ⊢;have RQ:=g47.trans s8;refine Jf.mk bn dn bk dx L M EL R3 R dr A3 x b n z wt h (min n (0+100 * 1)) 3 vl vr rfl (Dz.same RQ) e8 (Fz.same RQ) r3L r3E aL aE hx (by omega) (by omega) T7 (by decide) (fun tr t H9 ht RB Lz bt9 hg9 OB =>?_) (fun tr H9 hno=>absurd (hno 2 (by decide)) (by omega));have et:((t:Nat):Int)=if decide ((100:Int) < (n:Int))=true then 1 else 0:=by
  have h2:=fun h=>Lz 0 h;by_cases c:(100:Int) < (n:Int)
  ·rw[decide_eq_true c,if_pos rfl];have:t≠0:=fun e=>by rw[e]at RB;omega
   have:¬ 1 < t:=fun e=>by have:=Lz 1 e;omega
   omega
  ·rw[decide_eq_false c,if_neg (by decide)];have:¬ 0 < t:=fun e=>by have:=Lz 0 e;omega
   omega
 refine⟨_,O,_,_,O,O,_,O,(show 2<=sizeLine by decide),fun tu htu =>?_⟩;rw[<- et]at *;have sA:=aD htu (.tup [.str "rest",.int ((t:Nat):Int)]);have eA:=ak (H:=H9) (a:=tu) (o := .tup [.str "rest",.int ((t:Nat):Int)]);generalize aC H9 tu (.tup [.str "rest",.int ((t:Nat):Int)])=HA at sA eA ⊢;refine⟨tr,tu,_,_,O,O,aW.of (sA _ _ OB),aW.of eA,O,O,_,O,?_⟩;rw[RW];refine fC ?_;dsimp only[gQ];have WE:=hg9.same sA;obtain⟨am9,hEA,amJ⟩:=id WE.ev;obtain⟨usA,hLA,amt⟩:=id WE.hb.hB.2.1;have k9:=(Dz.same RQ).hb.tup bt9;have kA:∀ c ys,H4 c=some (.tup ys)->HA c=some (.tup ys):=fun c ys e=>sA _ _ (k9 _ _ (RQ _ _ e));have kl:∀ c us,c≠L->c≠EL->H4 c=some (.lst us)->HA c=some (.lst us):=fun c us n1 n2 e=>sA _ _ (bt9 _ _ n1 (b9 (RQ _ _ e) (s8 _ _ hM7) nofun) n2 (RQ _ _ e));refine⟨_,O,bn,CH,dn,_,_,O,WE.hb.hn,Y.cH,Y.Dm,O,_,O,(aI n).map (DV n z wt h),(aI n).map (DV n z wt h),.inr ⟨?_,?_⟩,deE _,?_⟩
 ·rw[Den];exact⟨EL,am9,O,hEA,dd _ _ _ amJ⟩
 ·rw[Den];exact⟨Du,dC,O,kl _ _ NC.dL NC.dE ago,dd _ _ _ (Paired.g9 hd4 fun _ _ y=>y.keep kA)⟩
 rw[decide_eq_true rfl];refine⟨_,O,gH ?_⟩;refine⟨_,O,bn,CH,dn,_,_,O,WE.hb.hn,Y.cH,Y.ur,O,bk,CB,dx,_,_,O,WE.hb.hB.1,Zb.cB,Zb.gM,O,_,O,(eC x b n (2 * n+n)).map vD,(eC x b n (2 * n+n)).map vD,.inr ⟨?_,?_⟩,deT _,?_⟩
 ·rw[Den];exact⟨L,usA,O,hLA,dt _ _ _ amt⟩
 ·rw[Den];exact⟨He,nK,O,kl _ _ NC.hL NC.hE agj,dt _ _ _ (iK kA Lu)⟩
 rw[decide_eq_true rfl];exact q _
end
end aA
namespace aA
open PySem L2
variable{fd:FuncData}{ps:List Str}{K:ai}{x:Str}{st:Stmt}{f:Addr}{oc dc pm cd ct:Value}{od an:Option Addr}{sl:Array (Option Value)}{h:Heap}{mg:Str->Option Value}{l:Ji}
theorem lT{n:Nat}{us:List Value}(h:us.length=n+1):∃ v vs,us=v :: vs∧vs.length=n:=by cases us with | nil=>cases h | cons v vs=>exact⟨v,vs,O,Nat.succ.inj h⟩
theorem dq(h:∀ v0:Value,bindArgs fd ⟨[v0], []⟩=pure (ps.zip [v0])):∀ us:List Value,us.length=1->bindArgs fd ⟨us, []⟩=pure (ps.zip us):=fun us h0=>by obtain⟨v0,us,rfl,h1⟩:=lT h0;obtain rfl:=gu h1;exact h v0
open PySem L2 Sw
theorem de(h:∀ v0 v1:Value,bindArgs fd ⟨[v0,v1], []⟩=pure (ps.zip [v0,v1])):∀ us:List Value,us.length=2->bindArgs fd ⟨us, []⟩=pure (ps.zip us):=fun us h0=>by obtain⟨v0,us,rfl,h1⟩:=lT h0;obtain⟨v1,us,rfl,h2⟩:=lT h1;obtain rfl:=gu h2;exact h v0 v1
open PySem L2 Sw
theorem cT(h:∀ v0 v1 v2:Value,bindArgs fd ⟨[v0,v1,v2], []⟩=pure (ps.zip [v0,v1,v2])):∀ us:List Value,us.length=3->bindArgs fd ⟨us, []⟩=pure (ps.zip us):=fun us h0=>by obtain⟨v0,us,rfl,h1⟩:=lT h0;obtain⟨v1,us,rfl,h2⟩:=lT h1;obtain⟨v2,us,rfl,h3⟩:=lT h2;obtain rfl:=gu h3;exact h v0 v1 v2
open PySem L2 Sw
theorem dk(h:∀ v0 v1 v2 v3:Value,bindArgs fd ⟨[v0,v1,v2,v3], []⟩=pure (ps.zip [v0,v1,v2,v3])):∀ us:List Value,us.length=4->bindArgs fd ⟨us, []⟩=pure (ps.zip us):=fun us h0=>by obtain⟨v0,us,rfl,h1⟩:=lT h0;obtain⟨v1,us,rfl,h2⟩:=lT h1;obtain⟨v2,us,rfl,h3⟩:=lT h2;obtain⟨v3,us,rfl,h4⟩:=lT h3;obtain rfl:=gu h4;exact h v0 v1 v2 v3
open PySem L2 Sw
theorem dh(h:∀ v0 v1 v2 v3 v4 v5:Value,bindArgs fd ⟨[v0,v1,v2,v3,v4,v5], []⟩=pure (ps.zip [v0,v1,v2,v3,v4,v5])):∀ us:List Value,us.length=6->bindArgs fd ⟨us, []⟩=pure (ps.zip us):=fun us h0=>by obtain⟨v0,us,rfl,h1⟩:=lT h0;obtain⟨v1,us,rfl,h2⟩:=lT h1;obtain⟨v2,us,rfl,h3⟩:=lT h2;obtain⟨v3,us,rfl,h4⟩:=lT h3;obtain⟨v4,us,rfl,h5⟩:=lT h4;obtain⟨v5,us,rfl,h6⟩:=lT h5;obtain rfl:=gu h6;exact h v0 v1 v2 v3 v4 v5
open PySem L2 Sw
theorem dm{kV:Value}(X:K.In h)(G:h.Ns mainGlobals mg)(a:bg K mainGlobals x=some (some (.ref f)))(l:K.lookup f=some ⟨oc,od,.func (c9 x x (fU st) (d6 st) (aF st) .none kV dc pm an cd ct),sl⟩)(c:dG K cd x=true)(k:bH K (.ref f)=true)(b:∀ (kV dc pm:Value) (an:Option Addr) (cd ct:Value) (us:List Value),us.length=ps.length->bindArgs (c9 x x (fU st) (d6 st) (aF st) .none kV dc pm an cd ct) ⟨us, []⟩=pure (ps.zip us)):Def K mg x st ps:=⟨_,_,m5 l c k,cw X G a,(m5 l c k).binds b⟩
theorem vC{kV:Value}{m:Str}{C:Addr}(a:aK K (.ref C) m=some (some (.ref f)))(l:K.lookup f=some ⟨oc,od,.func (c9 m x (fU st) (d6 st) (aF st) .none kV dc pm an cd ct),sl⟩)(c:dG K cd x=true)(k:bH K (.ref f)=true)(n:gB K (.ref f)=true)(b:∀ (kV dc pm:Value) (an:Option Addr) (cd ct:Value) (us:List Value),us.length=ps.length->bindArgs (c9 m x (fU st) (d6 st) (aF st) .none kV dc pm an cd ct) ⟨us, []⟩=pure (ps.zip us)):gD K C m x st ps:=⟨_,_,m5 l c k,⟨a,n,k⟩,(m5 l c k).binds b⟩
theorem all_mk{w:World}{fa CB CH CK CS CN CE CU CM f0 f1 f8 RS f24 f34 f42 f44 f51 f59 f62 Ba lC:Addr}(X:K.In h)(G:h.Ns mainGlobals mg)(hfa:mg "law" = some (.ref fa)){od0 an0 od1 an1 od8 an8 alW anG alV anF alU anE alT anD alS anC alR anB alQ anA alP ahq:Option Addr}{sl0 sl1 sl8 alu als alr alq alp alo aln alm:Array (Option Value)}{oc0 kV0 dc0 pm0 cd0 ct0 oc1 kV1 dc1 pm1 cd1 ct1 oc8 kV8 dc8 pm8 cd8 ct8 al4 aml ank alM ahd ant al3 amk anj alL ahc ans al2 amj ani alK ahb anr al1 ami anh alJ aha anq al0 amh ang alI ag9 anp alZ amg anf alH ag8 ano alY amf ane alG ag7 anm alX ae2 agX aen ZR ag1:Value}{td1 adU adT:Addr}{tc1 alb ala:Value}{tt1 ak3 ak2:Option Addr}{tn1 ak9 ak8:Nat}{ts1 ak5 ak4:Array (Option Value)}{adM:Tok}{SS Yc SR SU Mm E6 E7 Qr Qq Jz UW Ml Mj Mi:Tok}{MZ:Option Addr}{MW:Nat}{MS:Array (Option Value)}(KJ:bg K mainGlobals "Bank" = some (some (.ref CB)))(G2:bg K mainGlobals "Bench" = some (some (.ref CH)))(KI:bg K mainGlobals "Kind" = some (some (.ref CK)))(GZ:bg K mainGlobals "Signs" = some (some (.ref CS)))(G1:bg K mainGlobals "Names" = some (some (.ref CN)))(G0:bg K mainGlobals "Scene" = some (some (.ref CE)))(KH:bg K mainGlobals "Rule" = some (some (.ref CU)))(Be:bg K mainGlobals "Matcher" = some (some (.ref CM)))(KG:aK K (.ref CB) "__init__" = some (some (.ref f0)))(l0:K.lookup f0=some ⟨oc0,od0,.func (c9 "__init__" "Bank.__init__" (fU wx) (d6 wx) (aF wx) .none kV0 dc0 pm0 an0 cd0 ct0),sl0⟩)(c0:dG K cd0 "Bank.__init__" = true)(k0:bH K (.ref f0)=true)(n0:gB K (.ref f0)=true)(a1:aK K (.ref CB) "put" = some (some (.ref f1)))(l1:K.lookup f1=some ⟨oc1,od1,.func (c9 "put" "Bank.put" (fU EN) (d6 EN) (aF EN) (.ref td1) kV1 dc1 pm1 an1 cd1 ct1),sl1⟩)(t1:K.lookup td1=some ⟨tc1,tt1,.seq #[.none] tn1,ts1⟩)(c1:dG K cd1 "Bank.put" = true)(k1:bH K (.ref f1)=true)(n1:gB K (.ref f1)=true)(Bn:gD K CB "put_part" "Bank.put_part" Ap uS)(Bm:gD K CB "put_term" "Bank.put_term" Ao wc8)(Qd:Def K mg "mark" HN wb6)(um:Def K mg "join_classes" sZ wc6)(zf:Def K mg "join_like" yF eU)(Hi:Def K mg "closed" F9 wd1)(GX:aK K (.ref CH) "__init__" = some (some (.ref f8)))(l8:K.lookup f8=some ⟨oc8,od8,.func (c9 "__init__" "Bench.__init__" (fU tf) (d6 tf) (aF tf) .none kV8 dc8 pm8 an8 cd8 ct8),sl8⟩)(c8:dG K cd8 "Bench.__init__" = true)(k8:bH K (.ref f8)=true)(n8:gB K (.ref f8)=true)(Qk:gD K CH "put" "Bench.put" ND wc9)(Bo:Def K mg "leads_of" Aq ["bench"])(Hh:Def K mg "is_sum" F8 wa7)(xB:Def K mg "is_product" wu wa7)(vo:Def K mg "is_opposite" u5 wa7)(zg:Def K mg "is_binder" yG wa7)(qE:Def K mg "sign_of_number" qk wd6)(zj:Def K mg "add_signs" yJ wb0)(qF:Def K mg "multiply_signs" qm wb0)(ug:Def K mg "sign_of_pair" sT wb5)(Kb:bg K mainGlobals "Kind" = some (some (.ref CK)))(Kc:Fe K (.ref CK) "__getattribute__" = some (some (.builtin "type.__getattribute__")))(J0:Jg K CK (.type "type")=true)(Kd:Jh K (.ref CK) (.type "type") "__init__" = some (.val (.ref RS)))(KD:aK K (.ref CK) "__init__" = some (some (.ref RS)))(GU:aK K (.ref CS) "__init__" = some (some (.ref RS)))(l19:K.lookup RS=some ⟨al4,alW,.func (c9 "__init__" "Kind.__init__" (fU m9) (d6 m9) (aF m9) .none aml ank alM anG ahd ant),alu⟩)(c19:dG K ahd "Kind.__init__" = true)(k19:bH K (.ref RS)=true)(n19:gB K (.ref RS)=true)(X3:gD K CK "top" "Kind.top" aeh wd0)(Qe:gD K CK "worth" "Kind.worth" Yv wa0)(P8:gD K CS "top" "Signs.top" Nx wd0)(Hf:gD K CS "worth" "Signs.worth" F6 wa0)(GW:aK K (.ref CN) "__init__" = some (some (.ref f24)))(l24:K.lookup f24=some ⟨al3,alV,.func (c9 "__init__" "Names.__init__" (fU qJ) (d6 qJ) (aF qJ) .none amk anj alL anF ahc ans),als⟩)(c24:dG K ahc "Names.__init__" = true)(k24:bH K (.ref f24)=true)(n24:gB K (.ref f24)=true)(Qa:gD K CN "top" "Names.top" Nz wd0)(Hg:gD K CN "worth" "Names.worth" F7 wa0)(Eu:Def K mg "members" xQ wc7)(yz:Def K mg "learned" Ck ["kind"])(Et:Def K mg "numbers" xP wb3)(P9:Def K mg "odds" Ny eU)(K2:Def K mg "marks" JO eU)(K0:Def K mg "nodes" JN eU)(uh:Def K mg "node_numbers" sV eU)(GV:aK K (.ref CE) "__init__" = some (some (.ref f34)))(l34:K.lookup f34=some ⟨al2,alU,.func (c9 "__init__" "Scene.__init__" (fU ql) (d6 ql) (aF ql) .none amj ani alK anE ahb anr),alr⟩)(c34:dG K ahb "Scene.__init__" = true)(k34:bH K (.ref f34)=true)(n34:gB K (.ref f34)=true)(KZ:Def K mg "parts" JM ["tree"])(K3:Def K mg "knots" JP wb9)(xA:Def K mg "note_holes" wq wc2)(K5:Def K mg "holes" JQ wb9)(Ex:Def K mg "is_word" Cm ["text"])(pR:Def K mg "refuse_patterns" pI wd4)(vn:Def K mg "refuse_asks" u4 wd5)(KC:aK K (.ref CU) "__init__" = some (some (.ref f42)))(l42:K.lookup f42=some ⟨al1,alT,.func (c9 "__init__" "Rule.__init__" (fU sU) (d6 sU) (aF sU) .none ami anh alJ anD aha anq),alq⟩)(c42:dG K aha "Rule.__init__" = true)(k42:bH K (.ref f42)=true)(n42:gB K (.ref f42)=true)(zh:Def K mg "hole_ways" yH wb7)(Bc:aK K (.ref CM) "__init__" = some (some (.ref f44)))(l44:K.lookup f44=some ⟨al0,alS,.func (c9 "__init__" "Matcher.__init__" (fU sW) (d6 sW) (aF sW) .none amh ang alI anC ag9 anp),alp⟩)(c44:dG K ag9 "Matcher.__init__" = true)(k44:bH K (.ref f44)=true)(n44:gB K (.ref f44)=true)(uB:gD K CM "term_ways" "Matcher.term_ways" uo wa8)(xC:gD K CM "class_ways" "Matcher.class_ways" rl wa2)(Ew:Def K mg "matches" Cj wc0)(Es:gD K CS "within" "Signs.within" Ld wc4)(K1:gD K CN "free" "Names.free" Q8 wc3)(Ez:Def K mg "holding" Co qg)(LZ:bg K mainGlobals "class_of" = some (some (.ref f51)))(l51:K.lookup f51=some ⟨alZ,alR,.func (c9 "class_of" "class_of" (fU kZ) (d6 kZ) (aF kZ) (.ref adU) amg anf alH anB ag8 ano),alo⟩)(t51:K.lookup adU=some ⟨alb,ak3,.seq #[.none] ak9,ak5⟩)(c51:dG K ag8 "class_of" = true)(k51:bH K (.ref f51)=true)(uk:Def K mg "known_values" sY wc1)(P7:Def K mg "sums" Nw eU)(ze:gD K CE "rule_news" "Scene.rule_news" uq wd7)(zi:gD K CE "asks_hold" "Scene.asks_hold" yI wb8)(Ey:gD K CE "is_news" "Scene.is_news" Cn wb2)(Qb:Def K mg "news" NA wd2)(Bp:Def K mg "do_steps" As wd3)(a59:bg K mainGlobals "grow" = some (some (.ref f59)))(l59:K.lookup f59=some ⟨alY,alQ,.func (c9 "grow" "grow" (fU zr) (d6 zr) (aF zr) (.ref adT) amf ane alG anA ag7 anm),aln⟩)(t59:K.lookup adT=some ⟨ala,ak2,.seq #[.int 100 adM] ak8,ak4⟩)(c59:dG K ag7 "grow" = true)(k59:bH K (.ref f59)=true)(Qj:Def K mg "_law_draw" NB vc)(P6:Def K mg "_law_word" Nv wc5)(a62:bg K mainGlobals "law" = some (some (.ref f62)))(l62:K.lookup f62=some ⟨alX,alP,.func (c9 "law" "law" (fU vN) (d6 vN) (aF vN) .none ae2 agX aen ahq ZR ag1),alm⟩)(c62:dG K ZR "law" = true)(k62:bH K (.ref f62)=true)(Gq:gb K CB=true)(Gu:bH K (.ref CB)=true)(Gm:eR K CB lg=true)(Gx:eW K CB=true)(Gi:fA K CB=true)(Gf:aK K (.ref CB) "__setattr__" = some (some (.builtin "object.__setattr__")))(wH:aK K (.ref CB) "room" = some none)(vf:aK K (.ref CB) "terms" = some none)(tN:aK K (.ref CB) "places" = some none)(CW:gb K CH=true)(C1:bH K (.ref CH)=true)(CP:eR K CH lg=true)(C5:eW K CH=true)(CI:fA K CH=true)(CA:aK K (.ref CH) "__setattr__" = some (some (.builtin "object.__setattr__")))(ve:aK K (.ref CH) "bank" = some none)(tM:aK K (.ref CH) "edges" = some none)(Gp:gb K CK=true)(Gs:bH K (.ref CK)=true)(Gk:eR K CK lg=true)(Gw:eW K CK=true)(Gh:fA K CK=true)(Ge:aK K (.ref CK) "__setattr__" = some (some (.builtin "object.__setattr__")))(Bv:aK K (.ref CK) "terms" = some none)(Bw:aK K (.ref CK) "leads" = some none)(CQ:gb K CS=true)(CY:bH K (.ref CS)=true)(CJ:eR K CS lg=true)(C2:eW K CS=true)(CC:fA K CS=true)(Cw:aK K (.ref CS) "__setattr__" = some (some (.builtin "object.__setattr__")))(oQ:aK K (.ref CS) "terms" = some none)(oR:aK K (.ref CS) "leads" = some none)(CV:gb K CN=true)(C0:bH K (.ref CN)=true)(CO:eR K CN lg=true)(C4:eW K CN=true)(CG:fA K CN=true)(Cz:aK K (.ref CN) "__setattr__" = some (some (.builtin "object.__setattr__")))(oS:aK K (.ref CN) "terms" = some none)(oU:aK K (.ref CN) "leads" = some none)(u9:aK K (.ref CN) "held" = some none)(vd:aK K (.ref CN) "bits" = some none)(pJ:aK K (.ref CN) "standing" = some none)(CT:gb K CE=true)(CZ:bH K (.ref CE)=true)(CL:eR K CE lg=true)(C3:eW K CE=true)(CD:fA K CE=true)(Cy:aK K (.ref CE) "__setattr__" = some (some (.builtin "object.__setattr__")))(tG:aK K (.ref CE) "terms" = some none)(tK:aK K (.ref CE) "leads" = some none)(tH:aK K (.ref CE) "table" = some none)(tI:aK K (.ref CE) "signs" = some none)(tJ:aK K (.ref CE) "names" = some none)(mF:aK K (.ref CE) "known_signs" = some none)(mG:aK K (.ref CE) "known_names" = some none)(Gn:gb K CU=true)(Gr:bH K (.ref CU)=true)(Gj:eR K CU lg=true)(Gv:eW K CU=true)(Gg:fA K CU=true)(Gd:aK K (.ref CU) "__setattr__" = some (some (.builtin "object.__setattr__")))(u6:aK K (.ref CU) "title" = some none)(tL:aK K (.ref CU) "weight" = some none)(wF:aK K (.ref CU) "left" = some none)(u7:aK K (.ref CU) "right" = some none)(wG:aK K (.ref CU) "asks" = some none)(yN:gb K CM=true)(yO:bH K (.ref CM)=true)(yM:eR K CM lg=true)(yP:eW K CM=true)(yL:fA K CM=true)(yK:aK K (.ref CM) "__setattr__" = some (some (.builtin "object.__setattr__")))(qr:aK K (.ref CM) "terms" = some none)(qu:aK K (.ref CM) "leads" = some none)(qt:aK K (.ref CM) "table" = some none)(qv:aK K (.ref CM) "heads" = some none)(AW:bg K mainGlobals "LETTERS" = some (some (.str "abcdefghijklmnopqrstuvwxyz" UW)))(yZ:bg K mainGlobals "NEGATIVE" = some (some (.int 1 SS)))(DQ:bg K mainGlobals "NOUGHT" = some (some (.int 2 Yc)))(yY:bg K mainGlobals "POSITIVE" = some (some (.int 4 SR)))(y3:bg K mainGlobals "ANY_SIGN" = some (some (.int 7 SU)))(tW:bg K mainGlobals "MOST_WEIGHT" = some (some (.int 1000000000000 Mm)))(ou:bg K mainGlobals "MOST_RULE_PARTS" = some (some (.int 12 E6)))(ow:bg K mainGlobals "MOST_LEFT_KNOTS" = some (some (.int 3 E7)))(xf:bg K mainGlobals "MOST_ASKS" = some (some (.int 4 Qr)))(xc:bg K mainGlobals "MOST_MASK" = some (some (.int 7 Qq)))(rP:bg K mainGlobals "MOST_LETTERS" = some (some (.int 8 Jz)))(xa:bg K mainGlobals "SIGN_BITS" = some (some (.ref lC)))(wL:K.lookup lC=some ⟨.type "tuple",MZ,.seq #[.int 1 Ml,.int 2 Mj,.int 4 Mi] MW,MS⟩)(FZ:bg K mainGlobals "NoRule" = some (some (.ref Ba)))(Ad:BN K Ba [.type "ValueError",.type "Exception",.type "BaseException",.type "object"] "ValueError.__new__" = true)(z0:bg K mainGlobals "len" = some none)(z1:bg K mainGlobals "min" = some none)(z2:bg K mainGlobals "max" = some none)(z3:bg K mainGlobals "sum" = some none)(z4:bg K mainGlobals "range" = some none)(z5:bg K mainGlobals "enumerate" = some none)(z6:bg K mainGlobals "isinstance" = some none)(z7:bg K mainGlobals "tuple" = some none)(z8:bg K mainGlobals "int" = some none)(z9:bg K mainGlobals "bool" = some none)(UL:bg K mainGlobals "str" = some none)(UK:bg K mainGlobals "list" = some none)(z12:bg K mainGlobals "abs" = some none)(z13:bg K mainGlobals "any" = some none)(z14:bg K mainGlobals "dict" = some none)(z15:bg K mainGlobals "sorted" = some none)(z16:bg K mainGlobals "zip" = some none) :
  ∃ fd:FuncData,(∀ (s:Shared) (v:Value),BindsTo s fd ⟨[v], []⟩ [("_law_script",v)])∧∀ base:Heap,K.In base->base.Ns mainGlobals mg->kC l.prog w K mg base FY 24 fa fd ["_law_script"] (My K):=by
 have e:=hfa.symm.trans (cw X G a62);cases e;have B:iY mg:=⟨cO X G z0,cO X G z1,cO X G z2,cO X G z3,cO X G z4,cO X G z5,cO X G z6,cO X G z7,cO X G z8,cO X G z9,cO X G UL,cO X G UK⟩;have arl:=cO X G z12;have ark:=cO X G z13;have Pu:=cO X G z14;have t6:=cO X G z15;have Bb:=cO X G z16;have ZQ:lB K CB:=⟨Gm,Gx,Gi,Gf⟩;have Xh:lB K CH:=⟨CP,C5,CI,CA⟩;have anu:lB K CK:=⟨Gk,Gw,Gh,Ge⟩;have LQ:lB K CS:=⟨CJ,C2,CC,Cw⟩;have DX:lB K CN:=⟨CO,C4,CG,Cz⟩;have Xg:lB K CE:=⟨CL,C3,CD,Cy⟩;have ZP:lB K CU:=⟨Gj,Gv,Gg,Gd⟩;have QK:lB K CM:=⟨yM,yP,yL,yK⟩;have uM:∃ t,mg "LETTERS" = some (.str "abcdefghijklmnopqrstuvwxyz" t):=⟨_,cw X G AW⟩;have iN:∃ t,mg "NEGATIVE" = some (.int 1 t):=⟨_,cw X G yZ⟩;have iM:∃ t,mg "NOUGHT" = some (.int 2 t):=⟨_,cw X G DQ⟩;have k6:∃ t,mg "POSITIVE" = some (.int 4 t):=⟨_,cw X G yY⟩;have iO:∃ t,mg "ANY_SIGN" = some (.int 7 t):=⟨_,cw X G y3⟩;have kT:∃ t,mg "MOST_WEIGHT" = some (.int 1000000000000 t):=⟨_,cw X G tW⟩;have gP:∃ t,mg "MOST_RULE_PARTS" = some (.int 12 t):=⟨_,cw X G ou⟩;have jc:∃ t,mg "MOST_LEFT_KNOTS" = some (.int 3 t):=⟨_,cw X G ow⟩;have nt:∃ t,mg "MOST_ASKS" = some (.int 4 t):=⟨_,cw X G xf⟩;have nq:∃ t,mg "MOST_MASK" = some (.int 7 t):=⟨_,cw X G xc⟩;have mi:∃ t,mg "MOST_LETTERS" = some (.int 8 t):=⟨_,cw X G rP⟩;have nj:=cw X G xa;have Qv:∀ H:Hp,aW K H lC [.int 1,.int 2,.int 4]:=fun H => .inr ⟨_,_,_,wL,O,O,(show 3<=sizeLine by decide),.cons ⟨_,O⟩ (.cons ⟨_,O⟩ (.cons ⟨_,O⟩ (.nil)))⟩;have gU:Exc K mg "NoRule" Ba:=⟨cw X G FZ,Ad⟩;have X2:=m5 (st:=wx) l0 c0 k0;have QO:oI K mg "Bank" CB "Bank.__init__" wx wb1:=⟨_,_,X2,cw X G KJ,⟨Gq,KG,n0,Gu⟩,X2.binds fun _ _ _ _ _ _ us hl=>de (fun _ _=>O) us hl⟩;have aiK:MM K CB "put" "Bank.put" EN uS [.cj]:=by
  refine⟨f1,_, [.none],⟨⟨_,_,_,_,_,_,_,_,_,_,O,l1,c1⟩⟩,⟨a1,n1,k1⟩,?_,.cons rfl (.nil),?_⟩
  ·intro s us KX hl;have qN:us.length=2:=by simpa using hl
   match us,qN with
   | [u0,u1],_=>exact lp KX rfl t1 rfl rfl rfl
  ·intro s us KX hl;have qN:us.length=3:=by simpa using hl
   match us,qN with
   | [u0,u1,u2],_=>exact lp KX rfl t1 rfl rfl rfl
 have SM:=m5 (st:=tf) l8 c8 k8;have Qi:oI K mg "Bench" CH "Bench.__init__" tf wb1:=⟨_,_,SM,cw X G G2,⟨CW,GX,n8,C1⟩,SM.binds fun _ _ _ _ _ _ us hl=>de (fun _ _=>O) us hl⟩;have wd:=m5 (st:=m9) l19 c19 k19;have adz:UE K mg "Kind" "__init__" "Kind.__init__" m9 bh:=⟨_,_,_,wd,cw X G Kb,⟨Kc,J0,Kd⟩,wd.binds fun _ _ _ _ _ _ us hl=>cT (fun _ _ _=>O) us hl⟩;have ahX:oI K mg "Kind" CK "Kind.__init__" m9 bh:=⟨_,_,wd,cw X G KI,⟨Gp,KD,n19,Gs⟩,wd.binds fun _ _ _ _ _ _ us hl=>cT (fun _ _ _=>O) us hl⟩;have Qf:oI K mg "Signs" CS "Kind.__init__" m9 bh:=⟨_,_,wd,cw X G GZ,⟨CQ,GU,n19,CY⟩,wd.binds fun _ _ _ _ _ _ us hl=>cT (fun _ _ _=>O) us hl⟩;have SJ:=m5 (st:=qJ) l24 c24 k24;have Qh:oI K mg "Names" CN "Names.__init__" qJ bh:=⟨_,_,SJ,cw X G G1,⟨CV,GW,n24,C0⟩,SJ.binds fun _ _ _ _ _ _ us hl=>cT (fun _ _ _=>O) us hl⟩;have P5:=m5 (st:=ql) l34 c34 k34;have Qg:oI K mg "Scene" CE "Scene.__init__" ql bh:=⟨_,_,P5,cw X G G0,⟨CT,GV,n34,CZ⟩,P5.binds fun _ _ _ _ _ _ us hl=>cT (fun _ _ _=>O) us hl⟩;have SI:=m5 (st:=sU) l42 c42 k42;have QN:oI K mg "Rule" CU "Rule.__init__" sU ue:=⟨_,_,SI,cw X G KH,⟨Gn,KC,n42,Gr⟩,SI.binds fun _ _ _ _ _ _ us hl=>dh (fun _ _ _ _ _ _=>O) us hl⟩;have SK:=m5 (st:=sW) l44 c44 k44;have K4:oI K mg "Matcher" CM "Matcher.__init__" sW bh:=⟨_,_,SK,cw X G Be,⟨yN,Bc,n44,yO⟩,SK.binds fun _ _ _ _ _ _ us hl=>cT (fun _ _ _=>O) us hl⟩;have Ju:Er K mg "class_of" kZ gr [.cj]:=by
  refine⟨f51,_, [.none],⟨⟨_,_,_,_,_,_,_,_,_,_,O,l51,c51⟩⟩,cw X G LZ,k51,?_,.cons rfl (.nil),?_⟩
  ·intro s us KX hl;have qN:us.length=3:=by simpa using hl
   match us,qN with
   | [u0,u1,u2],_=>exact lp KX rfl t51 rfl rfl rfl
  ·intro s us KX hl;have qN:us.length=4:=by simpa using hl
   match us,qN with
   | [u0,u1,u2,u3],_=>exact lp KX rfl t51 rfl rfl rfl
 have ahR:Er K mg "grow" zr wb4 [.int 100]:=by
  refine⟨f59,_, [.int 100 adM],⟨⟨_,_,_,_,_,_,_,_,_,_,O,l59,c59⟩⟩,cw X G a59,k59,?_,.cons ⟨_,O⟩ (.nil),?_⟩
  ·intro s us KX hl;have qN:us.length=3:=by simpa using hl
   match us,qN with
   | [u0,u1,u2],_=>exact lp KX rfl t59 rfl rfl rfl
  ·intro s us KX hl;have qN:us.length=4:=by simpa using hl
   match us,qN with
   | [u0,u1,u2,u3],_=>exact lp KX rfl t59 rfl rfl rfl
 have aiJ:=m5 (st:=vN) l62 c62 k62;refine⟨c9 "law" "law" (fU vN) (d6 vN) (aF vN) .none ae2 agX aen ahq ZR ag1,fun s v => .of_eq rfl,fun base _ _ =>?_⟩;have Zb:rX K CB:=⟨ZQ,wH,vf,tN⟩;have Yh:yk K CH:=⟨Xh,ve,tM⟩;have Zs:Bf K mg CS lC:=⟨LQ,oQ,oR,iN,iM,k6,iO,nj,Qv⟩;have Zn:PD K CN:=⟨DX,oS,oU,u9,vd,pJ⟩;have Ze:TopE K CE:=⟨Xg,tG,tK,tH,tI,tJ,mF,mG⟩;have Zm:E3 K mg CM:=⟨QK,qr,qu,qt,qv⟩;have Z:D9 K mg CU Ba:=⟨ZP,u6,tL,wF,u7,wG,uM,kT,gP,jc,nt,nq,mi,gU⟩;have tT:=V2 (P:=l.prog) (w:=w) (base:=base) B Hh;have mh:=Mp (P:=l.prog) (w:=w) (base:=base) B xB;have kS:=JW (P:=l.prog) (w:=w) (base:=base) B vo;have yU:=N2 (P:=l.prog) (w:=w) (base:=base) B zg;have qw:=Fb (P:=l.prog) (w:=w) (base:=base) Zs qE;have yX:=N8 (P:=l.prog) (w:=w) (base:=base) Zs zj;have qx:=Fc (P:=l.prog) (w:=w) (base:=base) Zs qF;have mf:=HV (P:=l.prog) (w:=w) (base:=base) Zs ug;have wW:=YQ (P:=l.prog) (w:=w) (base:=base) B Zs Qf;have Kk:=V1 (P:=l.prog) (w:=w) (base:=base) B Zn adz;have wY:=YM B Zn Kk Qh;have af8:=aev (P:=l.prog) (w:=w) (base:=base) Zs P8;have af9:=acQ (P:=l.prog) (w:=w) (base:=base) B Zn Qa;have Zq:=YJ Zs tT mh kS qw mf yX qx Hf;have Zr:=VY B Zn yU Hg;have rN:=acU (P:=l.prog) (w:=w) (base:=base) B Qd;have kg:=HY (P:=l.prog) (w:=w) (base:=base) B um;have yT:=N1 B rN kg zf;have GK:=V3 B kg yT Hi;have oq:=Tv (P:=l.prog) (w:=w) (base:=base) B Eu;have qP:=Tu oq Et;have zI:=acS B t6 qP P9;have Ui:=Ft B (amb (K:=K)) (aw 3) LQ oQ oR af8 Zq oq yz;have AR:=Ft B (amc (K:=K)) (show 2<=3 by decide) DX oS oU af9 Zr oq yz;have oW:=YO B rN K2;have wb:=YL B rN K0;have kf:=HW t6 wb uh;have tR:=HX B tT mh kS uk;have OT:=acR oW kf tR P7;have wX:=VZ Ze oW wW wY Ui AR Qg;have nh:=N3 (P:=l.prog) (w:=w) (base:=base) Pu zh;have tU:=YN Zm oW wb K4;have wZ:=Rj B Bb Zm nh xC uB 3;have p4:=Dh (n:=3) B Bb Zm wZ uB;have DE:=Tw Zm tU kf p4 Ew;have v9:=NY (P:=l.prog) (w:=w) (mg:=mg) (base:=base) KZ 14;have zJ:=NZ (P:=l.prog) (w:=w) (mg:=mg) (base:=base) K3 14;have oo:=Bu (P:=l.prog) (w:=w) (mg:=mg) (base:=base) xA 14;have ng:=YR B oo K5;have qQ:=Tx (P:=l.prog) (w:=w) (base:=base) B Z Ex;have pK:=Di B Z v9 zJ ng pR;have vi:=JV B Z qQ vn;have yV:=YK B Z qQ pK vi ng QN;have Zw:=N5 (P:=l.prog) (w:=w) (base:=base) B Ju;have Zv:=N4 B Zw Ju;have Kj:=V0 (P:=l.prog) (w:=w) (mg:=mg) (base:=base) K1;have DC:=Qw (P:=l.prog) (w:=w) (mg:=mg) (base:=base) Es;have DG:=TB B Z Zs DX Kj DC qP Ez;have yW:=N7 Ze DG zi;have DF:=Tz (CS:=CS) Ze Zv Ey;have yS:=NX B Ze Z ng DE yW DF ze;have agb:=acV (P:=l.prog) (w:=w) (base:=base) Zb QO;have rL:=Qx (P:=l.prog) (w:=w) (base:=base) B Zb Bm;have rM:=Fs B Zb rL Bn 5;have AQ:=aew B Zb rM aiK;have adf:=YS Yh agb Qi;have OW:=acY Zb Yh AQ Qk;have oX:=Qy Zb Yh GK Bo;have OU:=acT Zb Yh Ze oX zI OT wX yS Qb;have AS:=Qz (by decide) B Zb Yh AQ Bp;have IF:=acW B Zb Yh oX zI OU AS ahR;have p5:=acX (P:=l.prog) (w:=w) (mg:=mg) (base:=base) Qj;have DB:=acP B p5 P6;exact aex B Zb Yh Z p5 DB adf OW yV IF aiJ
theorem walk{q:Program}{loose:List Str}{XP:(Str->Option Value)->Heap->Prop}{YP:World->Heap->Prop}{d:DefRec}{K:Params->ai}(hn:l.most=some 63)(hdf:d.params.defaults = [])(hY:∀ (w:World) (h:Heap),YP w h->(K w.params).In h)(F:∀ (w:World) (mg:Str->Option Value) (fa:Addr) (h:Heap),(K w.params).In h->h.Ns mainGlobals mg->mg d.name=some (.ref fa) ->
   ∃ fd:FuncData,(∀ (s:Shared) (u:Value),BindsTo s fd ⟨[u], []⟩ [("_law_script",u)])∧∀ base:Heap,(K w.params).In base->base.Ns mainGlobals mg->kC l.prog w (K w.params) mg base FY 24 fa fd ["_law_script"] (My (K w.params))) :
  PySem.W.WalkO q loose XP YP l.row.toRowW d [] (fun f vs=>PySem.call f vs) :=
 L2.X9 (n:=63) (k:=24) (x := "_law_script") (CX:=fun _=>FY) (sp:=fun w=>My (K w.params)) hn (by decide) hdf ⟨O,by decide,by decide⟩ hY F (fun _ _ a ns hl hb hS=>⟨a,ns,O,hS,hl,fun _=>rfl⟩) fun _ _ _ _ _ z=>z
end aA
end
open PySem PySem.W PyProof.Rows
set_option maxRecDepth 100000 in
set_option maxHeartbeats 0 in
theorem PySem.Challenge.cw_samewise_k60_size_left_out_holds : PySem.Challenge.rw_samewise_k60_size_left_out.Holds := by
 refine KHd.top ?_
 k_fill
 refine aA.walk (l:=PySem.Challenge.rw_samewise_k60_size_left_out) rfl rfl (fun w h Y=>PySem.W.kIn_of Y) ?F
 case F =>
  intro w mg fa h KX G hmg;refine' aA.all_mk KX G hmg ?KJ ?G2 ?KI ?GZ ?G1 ?G0 ?KH ?Be ?KG ?l0 ?c0 ?k0 ?n0 ?a1 ?l1 ?t1 ?c1 ?k1 ?n1 ?Bn ?Bm ?Qd ?um ?zf ?Hi ?GX ?l8 ?c8 ?k8 ?n8 ?Qk ?Bo ?Hh ?xB ?vo ?zg ?qE ?zj ?qF ?ug ?Kb ?Kc ?J0 ?Kd ?KD ?GU ?l19 ?c19 ?k19 ?n19 ?X3 ?Qe ?P8 ?Hf ?GW ?l24 ?c24 ?k24 ?n24 ?Qa ?Hg ?Eu ?yz ?Et ?P9 ?K2 ?K0 ?uh ?GV ?l34 ?c34 ?k34 ?n34 ?KZ ?K3 ?xA ?K5 ?Ex ?pR ?vn ?KC ?l42 ?c42 ?k42 ?n42 ?zh ?Bc ?l44 ?c44 ?k44 ?n44 ?uB ?xC ?Ew ?Es ?K1 ?Ez ?LZ ?l51 ?t51 ?c51 ?k51 ?uk ?P7 ?ze ?zi ?Ey ?Qb ?Bp ?a59 ?l59 ?t59 ?c59 ?k59 ?Qj ?P6 ?a62 ?l62 ?c62 ?k62 ?Gq ?Gu ?Gm ?Gx ?Gi ?Gf ?wH ?vf ?tN ?CW ?C1 ?CP ?C5 ?CI ?CA ?ve ?tM ?Gp ?Gs ?Gk ?Gw ?Gh ?Ge ?Bv ?Bw ?CQ ?CY ?CJ ?C2 ?CC ?Cw ?oQ ?oR ?CV ?C0 ?CO ?C4 ?CG ?Cz ?oS ?oU ?u9 ?vd ?pJ ?CT ?CZ ?CL ?C3 ?CD ?Cy ?tG ?tK ?tH ?tI ?tJ ?mF ?mG ?Gn ?Gr ?Gj ?Gv ?Gg ?Gd ?u6 ?tL ?wF ?u7 ?wG ?yN ?yO ?yM ?yP ?yL ?yK ?qr ?qu ?qt ?qv ?AW ?yZ ?DQ ?yY ?y3 ?tW ?ou ?ow ?xf ?xc ?rP ?xa ?wL ?FZ ?Ad ?z0 ?z1 ?z2 ?z3 ?z4 ?z5 ?z6 ?z7 ?z8 ?z9 ?UL ?UK ?z12 ?z13 ?z14 ?z15 ?z16
  (case KJ=>k_is)
  (case G2=>k_is)
  (case KI=>k_is)
  (case GZ=>k_is)
  (case G1=>k_is)
  (case G0=>k_is)
  (case KH=>k_is)
  (case Be=>k_is)
  (case KG=>k_is)
  (case l0=>k_is)
  (case c0=>k_is)
  (case k0=>k_is)
  (case n0=>k_is)
  (case a1=>k_is)
  (case l1=>k_is)
  (case t1=>k_is)
  (case c1=>k_is)
  (case k1=>k_is)
  (case n1=>k_is)
  (case GX=>k_is)
  (case l8=>k_is)
  (case c8=>k_is)
  (case k8=>k_is)
  (case n8=>k_is)
  (case Kb=>k_is)
  (case Kc=>k_is)
  (case J0=>k_is)
  (case Kd=>k_is)
  (case KD=>k_is)
  (case GU=>k_is)
  (case l19=>k_is)
  (case c19=>k_is)
  (case k19=>k_is)
  (case n19=>k_is)
  (case GW=>k_is)
  (case l24=>k_is)
  (case c24=>k_is)
  (case k24=>k_is)
  (case n24=>k_is)
  (case GV=>k_is)
  (case l34=>k_is)
  (case c34=>k_is)
  (case k34=>k_is)
  (case n34=>k_is)
  (case KC=>k_is)
  (case l42=>k_is)
  (case c42=>k_is)
  (case k42=>k_is)
  (case n42=>k_is)
  (case Bc=>k_is)
  (case l44=>k_is)
  (case c44=>k_is)
  (case k44=>k_is)
  (case n44=>k_is)
  (case LZ=>k_is)
  (case l51=>k_is)
  (case t51=>k_is)
  (case c51=>k_is)
  (case k51=>k_is)
  (case a59=>k_is)
  (case l59=>k_is)
  (case t59=>k_is)
  (case c59=>k_is)
  (case k59=>k_is)
  (case a62=>k_is)
  (case l62=>k_is)
  (case c62=>k_is)
  (case k62=>k_is)
  (case Gq=>k_is)
  (case Gu=>k_is)
  (case Gm=>k_is)
  (case Gx=>k_is)
  (case Gi=>k_is)
  (case Gf=>k_is)
  (case wH=>k_is)
  (case vf=>k_is)
  (case tN=>k_is)
  (case CW=>k_is)
  (case C1=>k_is)
  (case CP=>k_is)
  (case C5=>k_is)
  (case CI=>k_is)
  (case CA=>k_is)
  (case ve=>k_is)
  (case tM=>k_is)
  (case Gp=>k_is)
  (case Gs=>k_is)
  (case Gk=>k_is)
  (case Gw=>k_is)
  (case Gh=>k_is)
  (case Ge=>k_is)
  (case Bv=>k_is)
  (case Bw=>k_is)
  (case CQ=>k_is)
  (case CY=>k_is)
  (case CJ=>k_is)
  (case C2=>k_is)
  (case CC=>k_is)
  (case Cw=>k_is)
  (case oQ=>k_is)
  (case oR=>k_is)
  (case CV=>k_is)
  (case C0=>k_is)
  (case CO=>k_is)
  (case C4=>k_is)
  (case CG=>k_is)
  (case Cz=>k_is)
  (case oS=>k_is)
  (case oU=>k_is)
  (case u9=>k_is)
  (case vd=>k_is)
  (case pJ=>k_is)
  (case CT=>k_is)
  (case CZ=>k_is)
  (case CL=>k_is)
  (case C3=>k_is)
  (case CD=>k_is)
  (case Cy=>k_is)
  (case tG=>k_is)
  (case tK=>k_is)
  (case tH=>k_is)
  (case tI=>k_is)
  (case tJ=>k_is)
  (case mF=>k_is)
  (case mG=>k_is)
  (case Gn=>k_is)
  (case Gr=>k_is)
  (case Gj=>k_is)
  (case Gv=>k_is)
  (case Gg=>k_is)
  (case Gd=>k_is)
  (case u6=>k_is)
  (case tL=>k_is)
  (case wF=>k_is)
  (case u7=>k_is)
  (case wG=>k_is)
  (case yN=>k_is)
  (case yO=>k_is)
  (case yM=>k_is)
  (case yP=>k_is)
  (case yL=>k_is)
  (case yK=>k_is)
  (case qr=>k_is)
  (case qu=>k_is)
  (case qt=>k_is)
  (case qv=>k_is)
  (case AW=>k_is)
  (case yZ=>k_is)
  (case DQ=>k_is)
  (case yY=>k_is)
  (case y3=>k_is)
  (case tW=>k_is)
  (case ou=>k_is)
  (case ow=>k_is)
  (case xf=>k_is)
  (case xc=>k_is)
  (case rP=>k_is)
  (case xa=>k_is)
  (case wL=>k_is)
  (case FZ=>k_is)
  (case Ad=>k_exc)
  (case z0=>k_is)
  (case z1=>k_is)
  (case z2=>k_is)
  (case z3=>k_is)
  (case z4=>k_is)
  (case z5=>k_is)
  (case z6=>k_is)
  (case z7=>k_is)
  (case z8=>k_is)
  (case z9=>k_is)
  (case UL=>k_is)
  (case UK=>k_is)
  (case z12=>k_is)
  (case z13=>k_is)
  (case z14=>k_is)
  (case z15=>k_is)
  (case z16=>k_is)
  all_goals first|(refine' aA.vC ?a ?l ?c ?k ?n ?b; (case a=>k_is); (case l=>k_is); (case c=>k_is); (case k=>k_is); (case n=>k_is); (case b=>(intro _ _ _ _ _ _ us hl;first | exact aA.dq (fun _=>O) us hl | exact aA.de (fun _ _=>O) us hl | exact aA.cT (fun _ _ _=>O) us hl | exact aA.dk (fun _ _ _ _=>O) us hl | exact aA.dh (fun _ _ _ _ _ _=>O) us hl)))|(refine' aA.dm KX G ?a ?l ?c ?k ?b; (case a=>k_is); (case l=>k_is); (case c=>k_is); (case k=>k_is); (case b=>(intro _ _ _ _ _ _ us hl;first | exact aA.dq (fun _=>O) us hl | exact aA.de (fun _ _=>O) us hl | exact aA.cT (fun _ _ _=>O) us hl | exact aA.dk (fun _ _ _ _=>O) us hl | exact aA.dh (fun _ _ _ _ _ _=>O) us hl)))
#print axioms PySem.Challenge.cw_samewise_k60_size_left_out_holds
