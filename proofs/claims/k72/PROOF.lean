import PyProof.Rows.All
import Wide.All
import OpenK.AllK
import Wide.FinOn
import Lean
import PyProof.EqAt
import PyProof.EqKinds
import PyProof.TupleCall
import KE.KTryMore
import KE.KIntText
import KE.RegKTryMore
import PySem.Challenge.RW_samewise_k72_rows_refused
set_option Elab.async false
set_option linter.all false
open Array renaming getElem?_eq_some_iff → gK, length_toList → l9, mk → ow, getElem?_setIfInBounds_ne → oO, toList_append → zh, append_assoc → Bi, toList_inj → Dx, all_toList → Dy
open Bool renaming false_ne_true → bM, and_eq_true → eC, and_eq_true_iff → fk, false_eq_true → gZ, eq_iff_iff → j0, or_eq_true → pR, not_eq_true' → su, eq_false_iff → sv, or_true → uP, or_false → zb, noConfusion → Dv
open Char renaming toNat → EI, ofNat → EJ
open Classical renaming byContradiction → me
open False renaming elim → cj
open ForInStep renaming yield → pO
open Int renaming emod_lt_of_pos → dz, emod_nonneg → dH, eq_ofNat_of_zero_le → eJ, toNat_natCast → fZ
open List renaming length_map → aA, getElem?_eq_getElem → aF, mem_cons → aK, mem_cons_of_mem → aL, length_append → aM, mem_cons_self → aV, mem_append → aZ, length_cons → bg, size_toArray → bo, getElem?_eq_some_iff → bt, mem_of_getElem? → bB, append_assoc → bH, mem_singleton → bI, map_cons → b0, getElem?_map → cf, mem_append_right → cg, getD_eq_getElem?_getD → cG, getElem?_append_left → cI, filterMap_append → cM, map_append → df, append_nil → dh, getElem?_append_right → dy, eq_nil_of_length_eq_zero → dB, replicate → dM, length_drop → dN, take_append_drop → d4, length_take → eA, filterMap_cons → eE, mem_filterMap → eP, take_of_length_le → eS, cons_append → eT, all_eq_true → eU, take_length → fj, mem_map → fD, range → fU, take_add_one → fX, takeWhile_cons → gu, lookup_cons → gM, length_replicate → gX, drop_left → gY, length_singleton → i7, lookup → jo, length_eq_zero_iff → jE, any_cons → jK, nil_append → jX, find?_cons → jY, contains_cons → jZ, getElem?_eq_none → kS, mem_append_left → lz, getElem_mem → lA, getElem?_of_mem → lB, getElem_of_mem → l7, map_nil → mG, length_filterMap_le → mH, getElem?_take_of_lt → mI, take_left → m9, length_range → nB, count_append → nD, getElem?_set_self → nR, sum_cons → nW, range_succ → pH, of_mem_zip → pI, nodup_cons → pJ, getElem?_set_ne → pK, count_cons → pL, take_append_of_le_length → pS, tail_cons → qD, mem_range → qE, length → qR, filterMap_nil → rm, getElem?_replicate → uQ, sum_append → vo, length_nil → vp, foldl_cons → vq, singleton_append → xh, drop_zero → xi, mem_of_mem_take → yz, map_take → y6, replicate_succ → zf, mem_replicate → A5, getElem?_drop → A9, take_sublist → BS, nodup_append → BU, not_mem_nil → Dq, mem_filter → ED, head?_cons → EE, drop_drop → F9, count_nil → Ga
open List.cons renaming inj → nX
open Nat renaming le_refl → aB, le_trans → a9, zero_le → bA, lt_of_lt_of_le → bS, ne_of_lt → b7, lt_irrefl → fB, lt_of_le_of_lt → gW, succ_le_succ → iG, not_lt_zero → i6, min_eq_left → jW, ne_of_gt → kR, le_succ → lU, le_of_not_lt → ou, min_eq_right → uA, lt_succ_self → uB, le_of_eq → uC, sub_zero → AY, le_of_lt → AZ, add_zero → A4, lt_trichotomy → BQ, lt_succ_of_lt → BR, succ_ne_self → Dp, le_antisymm → EC
open Ne renaming symm → cK
open Option renaming isSome_iff_exists → mF, map_eq_some_iff → nQ, isSome_map → BP, getD_none → Dj, bind_some → Dk
open Option.some renaming inj → bD, injEq → BO
open Or renaming inl → aH, inr → uy
open Prod renaming mk → BC
open Prod.mk renaming injEq → rX
open PyProof.Rows renaming slot_tuple_getitem → jC, callWith_type1 → kZ
open PySem renaming boot_len → bR, mem_of_lookup → jy, Within → mE, intText_digits → yy
open PySem.Around renaming under → Bj
open PySem.AutoSeq1 renaming wpAny_loadPart' → mK
open PySem.Builtin renaming bitAnd → xn, bitOr → za
open PySem.Builtin.Int renaming intBits → pY
open PySem.Builtin.ObjectAttr renaming storeInDict → pQ, storeTaker? → EK, newKeyGuard → EL
open PySem.Builtin.Slice renaming slicePlaces → jg, sliceAdjust → mf, sliceApplied → se
open PySem.Builtin.Str renaming occurrences → dE, strSub → fb, strKind → ix, strSliceIndices → rA, partsBetween → uO
open PySem.Builtin.Tuple renaming tupleExact → jw
open PySem.Calls renaming evalArgs_plain → jf, spliced_cons → rq, Name_function_global → r9, spliced_nil → BW
open PySem.Challenge renaming rw_samewise_k72_rows_refused → bL, pw_samewise_k72_rows_refused → kd
open PySem.Code renaming quiet_builtin → mJ, isFrame → Bh
open PySem.Data renaming fields → Cp, cell → Hs
open PySem.Draws renaming strAscii → Ge
open PySem.EntryCells renaming newEntry → zg
open PySem.F renaming plainAttrs_str → ck, type_list_append → cP, slot_list_append → cQ, plainAttrs_list → cV, type_str_partition → fz, slot_str_partition → fA, excBase_ValueError → gJ, type_str_join → kO, slot_str_join → kP, type_str_split → nO, slot_str_split → nP, typeOf_object_class → oK, called_enumerate → rn, args_str_split_2 → ro, entry_str_split → sr, slot_str_split → uG, slot_gs_get → y9
open PySem.Heap renaming get?_push_of_some → aN, lt_size → bq, get?_push_size → bW, get?_update_other → cH, get?_none_of_le → dj, FlyingW → eB, get?_update_self → eY, size_push → kT, HeldW → nc, MadeExcOf → qF, SameBut → uE
open PySem.Heap.Ns1 renaming of_empty → BV
open PySem.NameKind renaming free → fC
open PySem.NumText renaming digitsVal → cT, AllDigits → ir
open PySem.Obj renaming mapFields → d6, data_mapFields → gU, isFreed_of_fields → oJ
open PySem.Paired renaming length → dw, snoc → ke
open PySem.PassesOwn renaming never → eO, leaving → kq
open PySem.SeqAt renaming EqAt → dZ, RcNeAt → uw
open PySem.SeqAt.EqAt renaming str_int → AR, int_str → AS, of_refs → Bd, same → Hr
open PySem.SeqAt.RcNeAt renaming tuples → zc
open PySem.Str renaming length_append → au, ofString → aI, join → bw, empty → cF, length → sI
open PySem.StrLaws renaming At → ig, join_length_le → kc, strSub_toList → kL, found_one → nv, subAt_eq → ur, occ_head → uu, glued_eq_join → wZ, partsFrom → BJ
open PySem.Txt renaming partition → a5, slice → oI, slice_le → uo, join → uq, split → vk, startswith → wY
open PySem.Value renaming ref → bf, none → ef, builtin → gH, bool → iM, type → je, int → kY, str → rk, float → Cj, isStrOf → HK
open PySem.Value.type renaming inj → m7
open PySem.W renaming Frag → aj, findIn → bj, nsIn → bp, mg_of → bG, kitOne → bY, hideAll → cx, keepIn → cA, mg_none_of → du, fnOf → d8, of_hideAll → eM, kia_one → eN, looks_findIn → fi, Looks → fw, exmOne → fG, codeIn → fH, emptyDict → fK, hideAll_get → gq, instObj → ij, hasDictIn → iq, plainGet → jv, callWith_K → jV, isFn → kM, exmAny → kN, hideAll_none → ly, kitAny → m8, plainOver → nA, funFrames_hide → nM, cellsFrom_some → nN, any_some → oo, takerIn → pE, makesIn → pF, plainGet_of → pW, looks_clsIn → pX, typeIn → qB, lookIn → qC, excIn → rW, methodObj → so, handedIn → ux, methodCall_KW → xf, InstAt → xg, mroIn → yZ, looks_mroIn → zd, findObj_own → ze, tail_of_in → AV, codeRec_of → AW, check_slot → AX, set_plain → BL, kitx_list → BM, kitx_dict → BN, exm_one → Ey, binds_K → Ez, bind_fn → EA, OpenLaw → EB, notCls → F8, clsIn → HL
open PySem.W.Fast renaming tw14364793385576792824 → bE, tw10110043849684766642 → bF
open PySem.W.Looks renaming ld → oq
open PySem.W.OpenLaw renaming wellSaid → Dm, row → Lo
open PySem.W.OpenRow renaming wellSaid → Dl
open PySem.W.RowW renaming records → AU
open PySem.W.WData renaming int → vj, weight → AK, weightAll → Et, list → Eu
open PySem.Within renaming cons → BK
open Sum renaming inr → fF, inl → qA
open Sum.inr renaming inj → Ck
open True renaming intro → ie
noncomputable section
namespace KHd
open PySem PySem.W PySem.Calls PyProof.Rows
theorem PR {p q:Program}{loose:List Str}{Xt:Shared->Bool}{α : Type}{Yf:Shared -> α}{Ya:World -> α}{N:Nat} (e:opening p=plainProg p.main.scope.names) (hN:Nat.ble 600 N=true) (f:∀ s,fenceModules? p s=some s)
  (h:∀ (w:World) (os:OsState),(topFrom treeTable p w N ⟨boot_heap w.params,ow [],boot_drawn,boot_toks,os⟩).map (fun s=>(openSeen q loose (importedModules p.main.body) Xt true s,Yf s))=some (openGood q loose,Ya w)):LeftO p q loose Xt Yf Ya N:=fun w=>by
 obtain⟨⟨hp,gs,d,k,os⟩,e1,e2⟩:=nQ.mp (boot_open e hN f w)
 have e3:hp=boot_heap w.params∧gs=ow []∧d=boot_drawn∧k=boot_toks:=by simpa only [rX] using e2
 obtain⟨z1,z2,z3,z4⟩:=e3
 subst z1 z2 z3 z4
 unfold openEnds
 rw[e1]
 exact h w os
def abU {α : Type} (l:List α) (is:List Nat):List α := is.filterMap fun i=>l[i]?
def iH:Program:=kd
def view:Program := { iH with main := { iH.main with body:=abU iH.main.body [0,2,3,4,5,6,7,8,9,11,12,13,14,16,17,18,19,20,21,22,23,24,25,26,27,28,29,31,32,33,34,35,36,37,38,40,41,42,43,44,45,46,48,49,50,51,52,53,54,55,56,57,58,60,61,62,63,64,65,67,68,69,70,71,72,74,76,77,79,80,81,82,83,84,85,87,88,89,90,91,92,93,94,95,96,97,98,99,100,101,102,104,105,106,108,109,110,111,112,114,115,116,117,118,119,120,123,124,125,126,127,129,130,131,132,134,135,136,137,138,139,142,143,145,146,147,148,149,150,151,152,153,154,155,156,157,158,159,160,161,162,163] } }
structure HS where
 T:BT
 n:Nat
 k:Nat
def fc {α : Type} (n:Nat) (f:Nat -> α) : α := match n with
 | 0=>f 0
 | m+1=>f (m+1)
def fv {α : Type} (v:Value) (f:Value -> α) : α := match v with
 | .str x t=>fc t fun t=>f (.str x t)
 | .ref a=>fc a fun a=>f (.ref a)
 | v=>f v
def HS.al (s:HS) (o:Obj):HS:=match s with
 | ⟨T,n,k⟩=>fc n fun n=>⟨T.ins n o,n+1,k⟩
def HS.up (s:HS) (a:Nat) (f:Obj->Obj):HS:=match s with
 | ⟨T,n,k⟩=>⟨T.set a f,n,k⟩
def HS.tk (s:HS) (d:Nat):HS:=match s with
 | ⟨T,n,k⟩=>fc k fun k=>⟨T,n,k+d⟩
def xU (l:List Value):Obj := { cls := .type "tuple",data := .seq l.toArray 0 }
def zU (c:Value) (l:List Value):Obj := { cls:=c,data := .fields l.toArray }
def NT:List Str->Nat->List Value
 | [],_ => []
 | x :: r,t => .str x t :: NT r (t+1)
def ri (n:Nat):Value := .int n 0
def aa8:Str := "/claim/cut.py"
def Tx (P:Params) (x:Str) (t:Nat) (v:Value) (es:Array DictEntry):Array DictEntry:=es.push ⟨PyData.keyHash P x,.str x t,v⟩
def tY (P:Params) (s:HS) (d:Nat) (x:Str) (v:Value):HS:=fc s.k fun t=>(s.up d (Obj.mapDictKeys (Tx P x t v))).tk 1
def TF:Expr->Nat->Value × Nat
 | .Constant (.int i) _ _,t=>(.int i t,t+1)
 | .Constant (.str x) _ _,t=>(.str x t,t+1)
 | .Constant (.bool b) _ _,t=>(.bool b,t)
 | _,t=>(.none,t)
def NX:List Expr->Nat->List Value × Nat
 | [],t=>([],t)
 | e :: r,t=>match TF e t with
  | (v,t')=>match NX r t' with
   | (vs,t'')=>(v :: vs,t'')
def NY (name q:Str) (line afe fl:Nat) (fr:Nat) (isF:Bool) (pl:Nat) (a b c:Value) (t:Nat) (k:Nat):Obj :=
 zU (.type "code") [.str name t,.str q (t+1),.str aa8 (t+2),ri line,ri afe,ri 0,ri 0,ri fl,.ref fr,.bool isF,ri 181,.ref pl,.none,a,b,c,ri k,ri line,.str aa8 (k+1)]
def aau (s:HS) (ctx:Nat) (md:Value) (q name:Str) (args:Arguments) (body:List Stmt) (sc:Scope) (pos:Pos) (fl:Bool):HS :=
 fc s.k fun t=>match NX args.defaults t with
 | (ds,t)=>fc t fun t =>
  let s:=match ds with | []=>s | _=>s.al (xU ds)
  fc s.n fun n =>
  let dv:Value:=match ds with | [] => .none | _ => .ref (n - 1)
  let s:=(s.al (xU [])).al (zU .none [])
  let ns:=(sc.names.filter fun x=>match x.2 with | .local=>true | .cell=>(args.args.map (·.arg)).contains x.1 | _=>false).map (·.1)
  let cs:=(sc.names.filter fun x=>match x.2 with | .cell=>true | _=>false).map (·.1)
  fc (t+3+ns.length) fun u =>
  let s:=match fl with | true=>s | false=>(s.al (xU (NT ns (t+3)))).al (xU (NT cs u))
  fc (match fl with | true=>t+3 | false=>u+cs.length) fun k =>
  let va:Value:=match fl with | true => .none | false => .ref (n+2)
  let vb:Value:=match fl with | true => .none | false => .ref (n+3)
  fc s.n fun m =>
  let fd:FuncData := { name:=name,qualname:=q,params:=args,body := .stmts body,scope:=sc,globals:=0,closure := [],defaults := .none,kwdefaults := .none }
  let s:=(s.al { cls := .none,data := .func fd }).al (NY name q pos.line args.args.length 3 n true (n+1) va vb (.ref m) t k)
  let s:=(s.up ctx (d6 (· ++ #[ri pos.line,ri pos.col,.ref (m+1)]))).al { cls := .type "function",data := .func { name:=name,qualname:=q,params:=args,body := .stmts body,scope:=sc,globals:=3,closure := [],defaults:=dv,kwdefaults := .none,pyModule:=md,code := .ref (m+1) } }
  match s with
  | ⟨T,n,_⟩=>⟨T,n,k+2⟩
def VB (s:HS):Value:=match s.T.get 3 with
 | some ⟨_,_,.dict es _,_⟩=>match es.toList with
  | e :: _=>e.val
  | [] => .none
 | _ => .none
def JR (P:Params) (ctx ns:Nat) (md:Value) (cq:Str):List Stmt->Nat->HS->HS × Nat
 | [],f,s=>(s,f)
 | .FunctionDef name args body _ _ _ sc _ _ pos :: r,f,s =>
  let s:=aau s ctx md (cq ++ "." ++ name) name args body sc pos (Nat.beq (f % 2) 1)
  fc s.n fun n=>JR P ctx ns md cq r (f / 2) (tY P s ns name (.ref (n - 1)))
 | _ :: r,f,s=>JR P ctx ns md cq r f s
def ack (s:HS) (x:Str):Value:=match s.T.get 3 with
 | some ⟨_,_,.dict es _,_⟩=>match es.toList.find? (fun e=>e.key.isStr x) with
  | some e=>e.val
  | none => .type x.toString
 | _ => .none
def aco (s:HS) (a:Nat):Option ClassData:=match s.T.get a with
 | some ⟨_,_,.cls c,_⟩=>some c
 | _=>none
def aaw (P:Params) (s:HS) (name:Str) (bases:List Expr) (body:List Stmt) (st:List Str) (pos:Pos) (f:Nat):HS × Nat :=
 fv (VB s) fun md=>fc s.k fun t=>fc s.n fun n =>
 let bs:=match bases with
  | [.Name x _]=>fv (ack s x) fun v => [v]
  | _ => []
 let s:=((s.al (xU bs)).al (zU (.type "builtin_function_or_method") [.builtin "type.__prepare__",.type "type"])).al { cls := .type "dict",data := .dict #[] 0 }
 let s:=(s.al (xU [])).al (zU .none [])
 let s:=s.al (NY name name pos.line 0 0 (n+3) false (n+4) .none .none .none (t+2) (t+5))
 let s:=s.al { cls := .type "frame",slots := #[some (.ref (n+5)),some (.ref 3),some (.ref (n+2)),none,some md,none,some (.ref 0)] }
 let s:HS:=match s with | ⟨T,m,_⟩=>⟨T.set 12 (d6 (· ++ #[ri pos.line,ri pos.col,.ref (n+5)])),m,t+7⟩
 let s:=tY P s (n+2) "__module__" md
 let q:Value := .str name (t+8)
 let s:=tY P (s.tk 1) (n+2) "__qualname__" q
 let s:=tY P (s.tk 1) (n+2) "__firstlineno__" (.int pos.line (t+10))
 match JR P (n+4) (n+2) md name body f s with
 | (s,f) =>
  fc s.n fun sa=>fc s.k fun u =>
  let s:=(s.al (xU (NT st u))).tk st.length
  let s:=tY P s (n+2) "__static_attributes__" (.ref sa)
  let es:=match s.T.get (n+2) with
   | some ⟨_,_,.dict es _,_⟩=>es.toList
   | _ => []
  let es:=(es.filter fun e => !e.key.isStr "__qualname__").toArray
  let own:Value := .ref (sa+2)
  let s:=s.al { cls := .type "dict",data := .dict es 1 }
  let mro:=match bs with
   | [.ref b]=>match aco s b with | some d=>d.mro | none => []
   | [.type "ValueError"] => [.type "ValueError",.type "Exception",.type "BaseException",.type "object"]
   | _ => [.type "object"]
  let new:=match mro.contains (.type "ValueError") with | true => "ValueError.__new__" | false => "object.__new__"
  let s:=s.al { cls := .type "type",data := .cls { name:=name,bases:=match bs with | [] => [.type "object"] | _=>bs,mro:=own :: mro,ns:=sa+1,qualname:=name },slots := #[match bs with | []=>none | _=>some (.ref n),none,some (.str name t),some q,some (.builtin new),some (.bool true)] }
  let TU (s:HS) (x:Str) (a b:Value):HS:=fc s.k fun k=>fc s.n fun n=>tY P ((s.al (zU (.type "getset_descriptor") [.str x k,own,a,b])).tk 1) (sa+1) x (.ref n)
  let s:=match bs with
   | []=>TU (TU s "__dict__" (.builtin "function.__dict__") (.builtin "function.__dict__#set")) "__weakref__" (.builtin "ExceptionGroup.__weakref__") .none
   | [.type _]=>TU s "__weakref__" (.builtin "ExceptionGroup.__weakref__") .none
   | _=>s
  let s:=tY P s (sa+1) "__doc__" .none
  let s:=match bs with
   | [.ref b]=>s.up b (Obj.mapCls fun d=>{ d with subclasses:=d.subclasses ++ [own] })
   | _=>s
  let s:=(s.al (zU (.type "super") [own,own,own])).al (zU (.type "builtin_function_or_method") [.builtin "object.__init_subclass__",own])
  (tY P (s.tk 1) 3 name own,f)
def acd (P:Params):Stmt->HS->Nat->HS × Nat
 | .FunctionDef name args body _ _ _ sc _ _ pos,s,f =>
  fv (VB s) fun md =>
  let s:=aau s 12 md name name args body sc pos (Nat.beq (f % 2) 1)
  fc s.n fun n=>(tY P s 3 name (.ref (n - 1)),f / 2)
 | .ClassDef name bases _ body _ _ _ _ _ st pos,s,f=>aaw P s name bases body st pos f
 | .Assign [.Name x _] (.Tuple es _ _) _,⟨T,n,k⟩,f=>fc k fun k=>fc n fun n=>match NX es k with
  | (vs,t)=>(tY P ⟨T.ins n (xU vs),n+1,t⟩ 3 x (.ref n),f)
 | .Assign [.Name x _] e _,⟨T,n,k⟩,f=>fc k fun k=>match x.cps.toList with
  | 95 :: 95 :: 110 :: 97 :: _=>match TF e k with
   | (v,t)=>(⟨T.set 3 (Obj.mapDict (·.modify 0 fun d=>⟨d.hash,d.key,v⟩)),n,t+1⟩,f)
  | _=>match TF e k with
   | (v,t)=>(tY P ⟨T,n,t⟩ 3 x v,f)
 | _,s,f=>(s,f)
def qr (P:Params):List Stmt->HS->Nat->HS × Nat
 | [],s,f=>(s,f)
 | st :: r,s,f=>match acd P st s f with
  | (s',f')=>qr P r s' f'
def hs0 (P:Params):HS :=
 let s:HS:=((((((((((((⟨.nil,0,187⟩:HS).al (boot_o_0 P)).al (boot_o_1 P)).al (boot_o_2 P)).al (boot_o_3 P)).al (boot_o_4 P)).al (boot_o_5 P)).al (boot_o_6 P)).al (boot_o_7 P)).al (boot_o_8 P)).al (boot_o_9 P)).al (boot_o_10 P))
 let s:=(s.al (xU [])).al (zU .none [])
 let s:=s.al (NY "<module>" "<module>" 1 0 0 11 false 12 .none .none .none 182 185)
 s.al { cls := .type "frame",slots := #[some (.ref 13),some (.ref 3),some (.ref 3),none,some (.str "__main__" 164),none,some (.ref 0)] }
def i9:List Stmt:=iH.main.body
def lX:Env := { scope:=iH.main.scope,locals:=mainNs,globals:=mainNs,cells := [],code := .ref 13,frame:=some 14 }
def cE:Code := .body i9 lX
def tS (w:World) (os:OsState) (s:HS):SharedT:=⟨s.T,s.n,(boot_heap w.params).life,ow [],boot_drawn,s.k,os⟩
theorem yK {w:World}{os:OsState}{a b c n N:Nat} {S S':HS}{pos eu:Pos}{r:Shared} (h:bF bE iH w 11 (some (.ref 6)) 1 n (tS w os S) (piecesOf ((i9.drop a).take b) lX cE pos [topFrame ⟨0,0,0,0⟩])=some (.next,tS w os S',cE,eu))
  (k:topRun treeTable iH w 11 (some (.ref 6)) N (tS w os S').abs (restOf (i9.drop c) lX cE eu [topFrame ⟨0,0,0,0⟩])=some r) (hc:a+b=c:=by rfl):topRun treeTable iH w 11 (some (.ref 6)) (n+N) (tS w os S).abs (restOf (i9.drop a) lX cE pos [topFrame ⟨0,0,0,0⟩])=some r:=by
 subst hc
 have e:i9.drop a=(i9.drop a).take b ++ i9.drop (a+b):=by
  rw[<- F9]
  exact(d4 b _).symm
 rw[e]
 refine piece_app (segRun_of ?_) k
 rw[PySem.W.Fast.te10110043849684766642,PySem.W.Fast.te14364793385576792824]
 exact h
def S0 (P:Params):HS × Nat:=(hs0 P,100878760749631597955020876182978678262595584)
def S1 (P:Params):HS × Nat:=qr P ((i9.drop 0).take 6) (S0 P).1 (S0 P).2
set_option maxRecDepth 100000 in
set_option maxHeartbeats 0 in
theorem g1 (w:World) (os:OsState):bF bE iH w 11 (some (.ref 6)) 1 896 (tS w os (S0 w.params).1) (piecesOf ((i9.drop 0).take 6) lX cE ⟨0,0,0,0⟩ [topFrame ⟨0,0,0,0⟩])=some (.next,tS w os (S1 w.params).1,cE,⟨11,0,14,24⟩):=by kernel_rfl
def S2 (P:Params):HS × Nat:=qr P ((i9.drop 6).take 6) (S1 P).1 (S1 P).2
set_option maxRecDepth 100000 in
set_option maxHeartbeats 0 in
theorem g2 (w:World) (os:OsState):bF bE iH w 11 (some (.ref 6)) 1 893 (tS w os (S1 w.params).1) (piecesOf ((i9.drop 6).take 6) lX cE ⟨11,0,14,24⟩ [topFrame ⟨0,0,0,0⟩])=some (.next,tS w os (S2 w.params).1,cE,⟨24,0,30,16⟩):=by kernel_rfl
def S3 (P:Params):HS × Nat:=qr P ((i9.drop 12).take 24) (S2 P).1 (S2 P).2
set_option maxRecDepth 100000 in
set_option maxHeartbeats 0 in
theorem g3 (w:World) (os:OsState):bF bE iH w 11 (some (.ref 6)) 1 853 (tS w os (S2 w.params).1) (piecesOf ((i9.drop 12).take 24) lX cE ⟨24,0,30,16⟩ [topFrame ⟨0,0,0,0⟩])=some (.next,tS w os (S3 w.params).1,cE,⟨163,0,163,9⟩):=by kernel_rfl
def S4 (P:Params):HS × Nat:=qr P ((i9.drop 36).take 26) (S3 P).1 (S3 P).2
set_option maxRecDepth 100000 in
set_option maxHeartbeats 0 in
theorem g4 (w:World) (os:OsState):bF bE iH w 11 (some (.ref 6)) 1 778 (tS w os (S3 w.params).1) (piecesOf ((i9.drop 36).take 26) lX cE ⟨163,0,163,9⟩ [topFrame ⟨0,0,0,0⟩])=some (.next,tS w os (S4 w.params).1,cE,⟨310,0,310,14⟩):=by kernel_rfl
def S5 (P:Params):HS × Nat:=qr P ((i9.drop 62).take 14) (S4 P).1 (S4 P).2
set_option maxRecDepth 100000 in
set_option maxHeartbeats 0 in
theorem g5 (w:World) (os:OsState):bF bE iH w 11 (some (.ref 6)) 1 755 (tS w os (S4 w.params).1) (piecesOf ((i9.drop 62).take 14) lX cE ⟨310,0,310,14⟩ [topFrame ⟨0,0,0,0⟩])=some (.next,tS w os (S5 w.params).1,cE,⟨424,0,424,8⟩):=by kernel_rfl
def S6 (P:Params):HS × Nat:=qr P ((i9.drop 76).take 20) (S5 P).1 (S5 P).2
set_option maxRecDepth 100000 in
set_option maxHeartbeats 0 in
theorem g6 (w:World) (os:OsState):bF bE iH w 11 (some (.ref 6)) 1 766 (tS w os (S5 w.params).1) (piecesOf ((i9.drop 76).take 20) lX cE ⟨424,0,424,8⟩ [topFrame ⟨0,0,0,0⟩])=some (.next,tS w os (S6 w.params).1,cE,⟨517,0,518,72⟩):=by kernel_rfl
def S7 (P:Params):HS × Nat:=qr P ((i9.drop 96).take 6) (S6 P).1 (S6 P).2
set_option maxRecDepth 100000 in
set_option maxHeartbeats 0 in
theorem g7 (w:World) (os:OsState):bF bE iH w 11 (some (.ref 6)) 1 722 (tS w os (S6 w.params).1) (piecesOf ((i9.drop 96).take 6) lX cE ⟨517,0,518,72⟩ [topFrame ⟨0,0,0,0⟩])=some (.next,tS w os (S7 w.params).1,cE,⟨567,0,572,19⟩):=by kernel_rfl
def S8 (P:Params):HS × Nat:=qr P ((i9.drop 102).take 11) (S7 P).1 (S7 P).2
set_option maxRecDepth 100000 in
set_option maxHeartbeats 0 in
theorem g8 (w:World) (os:OsState):bF bE iH w 11 (some (.ref 6)) 1 895 (tS w os (S7 w.params).1) (piecesOf ((i9.drop 102).take 11) lX cE ⟨567,0,572,19⟩ [topFrame ⟨0,0,0,0⟩])=some (.next,tS w os (S8 w.params).1,cE,⟨676,0,685,15⟩):=by kernel_rfl
def S9 (P:Params):HS × Nat:=qr P ((i9.drop 113).take 14) (S8 P).1 (S8 P).2
set_option maxRecDepth 100000 in
set_option maxHeartbeats 0 in
theorem g9 (w:World) (os:OsState):bF bE iH w 11 (some (.ref 6)) 1 706 (tS w os (S8 w.params).1) (piecesOf ((i9.drop 113).take 14) lX cE ⟨676,0,685,15⟩ [topFrame ⟨0,0,0,0⟩])=some (.next,tS w os (S9 w.params).1,cE,⟨798,0,802,16⟩):=by kernel_rfl
def VZ (P:Params):HS × Nat:=qr P ((i9.drop 127).take 15) (S9 P).1 (S9 P).2
set_option maxRecDepth 100000 in
set_option maxHeartbeats 0 in
theorem Mx (w:World) (os:OsState):bF bE iH w 11 (some (.ref 6)) 1 838 (tS w os (S9 w.params).1) (piecesOf ((i9.drop 127).take 15) lX cE ⟨798,0,802,16⟩ [topFrame ⟨0,0,0,0⟩])=some (.next,tS w os (VZ w.params).1,cE,⟨980,0,988,18⟩):=by kernel_rfl
def VY (P:Params):HS × Nat:=qr P ((i9.drop 142).take 18) (VZ P).1 (VZ P).2
set_option maxRecDepth 100000 in
set_option maxHeartbeats 0 in
theorem g11 (w:World) (os:OsState):bF bE iH w 11 (some (.ref 6)) 1 899 (tS w os (VZ w.params).1) (piecesOf ((i9.drop 142).take 18) lX cE ⟨980,0,988,18⟩ [topFrame ⟨0,0,0,0⟩])=some (.next,tS w os (VY w.params).1,cE,⟨1194,0,1201,20⟩):=by kernel_rfl
def Hl (P:Params):HS × Nat:=qr P ((i9.drop 160).take 4) (VY P).1 (VY P).2
set_option maxRecDepth 100000 in
set_option maxHeartbeats 0 in
theorem g12 (w:World) (os:OsState):bF bE iH w 11 (some (.ref 6)) 1 135 (tS w os (VY w.params).1) (piecesOf ((i9.drop 160).take 4) lX cE ⟨1194,0,1201,20⟩ [topFrame ⟨0,0,0,0⟩])=some (.next,tS w os (Hl w.params).1,cE,⟨1225,0,1255,82⟩):=by kernel_rfl
def SF (w:World) (os:OsState):Shared:=(tS w os (Hl w.params).1).abs
def tg (T:BT) (n a:Nat):Option Obj:=match Nat.blt a n with
 | true=>match T.get a with
  | some o=>alive o
  | none=>alive default
 | false=>none
theorem UC (T:BT) (n:Nat) (l:Life) (a:Nat):(absHeap T n l).get? a=tg T n a:=by
 unfold tg
 cases e:Nat.blt a n with
 | false=>exact abs_get_none fun q=>by rw[show Nat.blt a n=true from Nat.ble_eq_true_of_le q]at e;cases e
 | true =>
  have lt:a < n:=Nat.le_of_ble_eq_true e
  cases g:T.get a with
  | some o=>exact abs_get lt g
  | none =>
   unfold Heap.get?
   rw[absHeap_at,if_pos lt,g]
   rfl
theorem hk {s:HS}{w:World}{os:OsState}{K:Params->Frag}{as:List Addr}{e:∀ P,as=(K P).map (·.1)} (h:as.map (tg s.T s.n)=(K w.params).map fun p=>some p.2):(kHook K as e).obs (tS w os s).abs=(kHook K as e).val w:=by
 have q:(tS w os s).abs.heap.get? = tg s.T s.n:=funext fun a=>UC _ _ _ a
 show as.map (tS w os s).abs.heap.get? = _
 rw[q]
 exact h
theorem hkM {s:HS}{w:World}{os:OsState}{K:Params->Frag}{as ts:List Addr}{e:∀ P,as=(K P).map (·.1)} (h:as.map (tg s.T s.n)=(K w.params).map fun p=>some p.2) (h2:ts.map (tg s.T s.n)=ts.map fun _=>some (tabObj #[])):(kmHook K as e ts).obs (tS w os s).abs=(kmHook K as e ts).val w:=by
 have q:(tS w os s).abs.heap.get? = tg s.T s.n:=funext fun a=>UC _ _ _ a
 show (as.map (tS w os s).abs.heap.get?,ts.map (tS w os s).abs.heap.get?)=_
 rw[q]
 exact Prod.ext h h2
theorem Tv {K:Params->Frag}{as ts:List Addr}{e:∀ P,as=(K P).map (·.1)}{w:World}{os:OsState} (h:as.map (tg (Hl w.params).1.T (Hl w.params).1.n)=(K w.params).map fun p=>some p.2) (h2:ts.map (tg (Hl w.params).1.T (Hl w.params).1.n)=ts.map fun _=>some (tabObj #[])):(kmHook K as e ts).obs (SF w os)=(kmHook K as e ts).val w:=hkM h h2
theorem XE {K:Params->Frag}{as:List Addr}{e:∀ P,as=(K P).map (·.1)}{w:World}{os:OsState} (h:as.map (tg (Hl w.params).1.T (Hl w.params).1.n)=(K w.params).map fun p=>some p.2):(kHook K as e).obs (SF w os)=(kHook K as e).val w:=hk h
set_option maxRecDepth 100000 in
set_option maxHeartbeats 0 in
theorem ad4 (w:World) (os:OsState):topGo treeTable iH w 11 (some (.ref 6)) 12 ⟨boot_heap w.params,ow [],boot_drawn,boot_toks,os⟩ (topStub iH)=some ((tS w os (S0 w.params).1).abs,⟨denote treeTable cE,cE,⟨0,0,0,0⟩, [topFrame ⟨0,0,0,0⟩]⟩):=by kernel_rfl
set_option maxRecDepth 100000 in
set_option maxHeartbeats 0 in
theorem afa (w:World) (os:OsState):segRun treeTable iH w 11 (some (.ref 6)) 1 1 (tS w os (S0 w.params).1).abs (blockOf i9 lX cE ⟨0,0,0,0⟩ [topFrame ⟨0,0,0,0⟩])=some (.next,(tS w os (S0 w.params).1).abs,cE,⟨0,0,0,0⟩):=by kernel_rfl
set_option maxRecDepth 100000 in
set_option maxHeartbeats 0 in
theorem aeY (w:World) (os:OsState):topRun treeTable iH w 11 (some (.ref 6)) 2 (SF w os) (restOf (i9.drop 164) lX cE ⟨1225,0,1255,82⟩ [topFrame ⟨0,0,0,0⟩])=some (SF w os):=by kernel_rfl
set_option maxRecDepth 100000 in
set_option maxHeartbeats 0 in
theorem adW (w:World) (os:OsState):topRun treeTable iH w 11 (some (.ref 6)) (12+(1+(896+(893+(853+(778+(755+(766+(722+(895+(706+(838+(899+(135+2)))))))))))))) ⟨boot_heap w.params,ow [],boot_drawn,boot_toks,os⟩ (topStub iH)=some (SF w os):=go_top (ad4 w os) (piece_block (afa w os) (yK (g1 w os) (yK (g2 w os) (yK (g3 w os) (yK (g4 w os) (yK (g5 w os) (yK (g6 w os) (yK (g7 w os) (yK (g8 w os) (yK (g9 w os) (yK (Mx w os) (yK (g11 w os) (yK (g12 w os) (aeY w os))))))))))))))
set_option maxRecDepth 100000 in
set_option maxHeartbeats 0 in
theorem chk (w:World) (os:OsState):(staticsOk (importedModules iH.main.body) (boot_heap w.params) (SF w os).heap && namesBound iH (SF w os).heap && gensDone (SF w os) && laidKept (boot_heap w.params) (SF w os).heap)=true:=by kernel_rfl
theorem Wo (P:Params):((boot_heap P).isNs mainGlobals,(boot_heap P).objs.size,(boot_heap P).nsMap mainGlobals "__annotations__")=(true,11,some (.ref 6)):=by kernel_rfl
theorem Qr {w:World}{os:OsState}{α : Type}{F:Shared -> α}{G : α} (h:F (SF w os)=G):(topFrom treeTable iH w 18374 ⟨boot_heap w.params,ow [],boot_drawn,boot_toks,os⟩).map F=some G:=by
 obtain⟨z1,z2,z3⟩:_∧_∧_:=by simpa only [rX] using Wo w.params
 have r:=topRun_mono 9223 _ _ _ _ (adW w os)
 have t:topFrom treeTable iH w 18374 ⟨boot_heap w.params,ow [],boot_drawn,boot_toks,os⟩=some (SF w os):=by
  unfold topFrom
  dsimp only
  rw[z1,z2,z3]
  rw[show topRun treeTable iH w 11 (some (.ref 6)) 18374 ⟨boot_heap w.params,ow [],boot_drawn,boot_toks,os⟩ (topStub iH)=some (SF w os) from r]
  show (match staticsOk (importedModules iH.main.body) (boot_heap w.params) (SF w os).heap && namesBound iH (SF w os).heap && gensDone (SF w os) && laidKept (boot_heap w.params) (SF w os).heap with | true=>_ | false=>_)=_
  rw[chk w os]
 rw[t]
 exact congrArg some h
set_option maxRecDepth 100000 in
set_option maxHeartbeats 0 in
theorem lk:looksOpen (Lo bL).toRowW.prog=true:=by
 unfold looksOpen
 refine look_both (look_both (look_both (look_both (look_both ?_ ?_) ?_) ?_) ?_) ?_
 all_goals decide +kernel
set_option maxRecDepth 100000 in
set_option maxHeartbeats 0 in
theorem lr:Dl (Lo bL)=true:=by
 unfold Dl OpenRow.partSaid
 rw[lk]
 decide +kernel
set_option maxRecDepth 100000 in
set_option maxHeartbeats 0 in
theorem ws:Dm bL=true:=by
 unfold Dm
 rw[lr]
 decide +kernel
local macro_rules | `(tactic| o_law) => `(tactic| refine holds_law ws fun ahD => ?_)
set_option maxRecDepth 100000 in
set_option maxHeartbeats 0 in
theorem q0 (w:World) (os:OsState):seen ((recsOf view).map (·.name)) (ownsOf view) [] { (SF w os) with gens := #[] }=expectedOf view:=by kernel_rfl
set_option maxRecDepth 100000 in
set_option maxHeartbeats 0 in
theorem qa (w:World) (os:OsState):((SF w os).heap.bltView,(SF w os).heap.accountedOkI (importedModules iH.main.body) && (SF w os).heap.isNs mainGlobals && (SF w os).heap.isNs builtinsNs && tablesOk view (SF w os).heap && (xlAt view [] (SF w os) && recOk (AU bL.row.toRowW) (SF w os)) && (if true then (SF w os).gens.size == 0 else !leftWithCleanup (SF w os).gens),pinSeenD view (drecsOf view) (SF w os),plainSeenD view ["class_of", "grow", "run"] (SF w os),clsSeenW view ["class_of", "grow", "run"] (SF w os))=(bltViewBooted,true,pinGoodD (drecsOf view),plainGoodD view ["class_of", "grow", "run"],clsGoodW view ["class_of", "grow", "run"]):=by kernel_rfl
set_option maxRecDepth 100000 in
set_option maxHeartbeats 0 in
theorem q2 (w:World) (os:OsState):(SF w os).heap.keysOk (looseW view ["class_of", "grow", "run"]) ((recsOf view).map (·.name)) ((litsOf view).map (·.1)) ((clssOf view (looseW view ["class_of", "grow", "run"])).map (·.name))=true:=by kernel_rfl
set_option maxRecDepth 100000 in
set_option maxHeartbeats 0 in
theorem q3 (w:World) (os:OsState):tabsOk view (SF w os)=true:=by kernel_rfl
set_option maxRecDepth 100000 in
set_option maxHeartbeats 0 in
theorem q5 (w:World) (os:OsState):plainSeenE view (looseW view ["class_of", "grow", "run"]) (SF w os)=plainGoodE view (looseW view ["class_of", "grow", "run"]):=by kernel_rfl
set_option maxRecDepth 100000 in
set_option maxHeartbeats 0 in
theorem q7 (w:World) (os:OsState):wideSeen view (SF w os)=wideGood view:=by kernel_rfl
theorem aff {a b c d e f g:Bool} (h1:a=true) (h2:(b && c && d && e && f && g)=true):(a && b && c && d && e && f && g)=true:=by
 simp only[eC]at h2
 simp only[h1,h2,Bool.and_self]
theorem aet {α β γ δ ε : Type} {a a' : α} {b b' : β} {c c' : γ} {d d' : δ} {e e' : ε} (h:(a,b,c,d,e)=(a',b',c',d',e')):a=a'∧b=b'∧c=c'∧d=d'∧e=e':=by cases h;exact⟨rfl,rfl,rfl,rfl,rfl⟩
theorem Ww {α β γ δ ε ζ η : Type} {a a' : α} {b b' : β}{p q r s t u v:Bool}{g:Bool} {c c' : γ} {d d' : δ} {e e' : ε} {f f' : ζ} {k k' : η} (h0:a=a') (hq:(b,q && r && s && t && u && v,c,d,e)=(b',true,c',d',e')) (h2:p=true) (h3:g=true) (h5:f=f') (h7:k=k'):(a,b,p && q && r && s && t && u && v,g,c,f,d,k,e)=(a',b',true,true,c',f',d',k',e'):=by
 obtain⟨rfl,x,rfl,rfl,rfl⟩:=aet hq
 rw[h0,h3,h5,h7,aff h2 x]
theorem OW (w:World) (os:OsState):openSeen view ["class_of", "grow", "run"] (importedModules iH.main.body) (fun s=>xlAt view [] s && recOk (AU bL.row.toRowW) s) true (SF w os)=openGood view ["class_of", "grow", "run"]:=Ww (q0 w os) (qa w os) (q2 w os) (q3 w os) (q5 w os) (q7 w os)
local macro_rules | `(tactic| o_head $H) => `(tactic| (refine holds_open (q:=view) (loose := ["class_of", "grow", "run"]) (Xt:=fun s=>xlAt view [] s && recOk (AU bL.row.toRowW) s) (XP:=XL view []) (Yf:=Hook.obs $H) (Ya:=Hook.val $H) (YP:=Hook.says $H) (N:=18374) ?hl (Hook.of $H) (Hook.keeps $H) (fun s e=>xl_of s (fk.mp e).1) XL.keeps (by rfl) (by rfl) (by rfl) (fun s e=>recFacts_of (fk.mp e).2) (by rfl) (by first | assumption | decide +kernel) (by decide +kernel) ⟨rfl,rfl,rfl,rfl,rfl,by decide +kernel⟩ ?hw ?hc;case hl=>(refine PR (by rfl) (by decide) (fun s=>by rfl) ?_;intro w os;first | (refine Qr (looks_pair (OW w os) (XE ?_));kernel_rfl) | (refine' Qr (looks_pair (OW w os) (Tv ?_ ?_)); (kernel_rfl);kernel_rfl))))
set_option maxRecDepth 100000 in
set_option maxHeartbeats 0 in
open_top top for bL
end KHd
set_option Elab.async false
set_option linter.all false
set_option maxRecDepth 100000
set_option maxHeartbeats 4000000
namespace L2
open PySem PySem.Spec PyProof.Rows
abbrev Key:=Sum Int Str
def xX:Key->Value->Bool
 | .inl k,v=>Value.isInt k v
 | .inr x,v=>HK x v
def aeo (w:World):Key->Int
 | .inl k=>hashInt k
 | .inr x=>hashStr w x
theorem hU:∀ {k:Key}{v:Value},xX k v=true->(∃ i t,k=qA i∧v=kY i t)∨(∃ x t,k=fF x∧v=rk x t)
 | .inl i,v,h=>by
  obtain⟨t,e⟩:=Value.isInt_shape (k:=i) (v:=v) h
  exact .inl ⟨i,t,rfl,e⟩
 | .inr x,v,h=>by
  obtain⟨t,e⟩:=Value.isStrOf_shape (x:=x) (v:=v) h
  exact .inr ⟨x,t,rfl,e⟩
theorem PV (i:Int) (t:Tok):xX (.inl i) (.int i t)=true:=by simp[xX,Value.isInt]
theorem PU (x:Str) (t:Tok):xX (.inr x) (.str x t)=true:=by simp[xX,HK]
theorem ZJ (a b:Int):decide ((qA a:Key)=qA b)=(a == b):=by
 by_cases e:a=b
 ·subst e;simp
 ·have h:¬ (qA a:Key)=qA b:=fun q=>e (qA.inj q)
  rw[decide_eq_false h]
  exact(beq_eq_false_iff_ne.mpr e).symm
theorem ZF (a b:Str):decide ((fF a:Key)=fF b)=decide (a=b):=by
 by_cases e:a=b
 ·subst e;simp
 ·have h:¬ (fF a:Key)=fF b:=fun q=>e (Ck q)
  rw[decide_eq_false h,decide_eq_false e]
theorem ZI (a:Int) (b:Str):decide ((qA a:Key)=fF b)=false:=decide_eq_false (fun q=>nomatch q)
theorem ZG (a:Str) (b:Int):decide ((fF a:Key)=qA b)=false:=decide_eq_false (fun q=>nomatch q)
def iB (prog:Program) (w:World):PySem.KeyKind prog w Key where
 is:=xX
 hash:=aeo w
 inj:=fun v a b ha hb=>by
  rcases hU ha with⟨i,t,rfl,rfl⟩ | ⟨x,t,rfl,rfl⟩
  ·rcases hU hb with⟨j,u,rfl,e⟩ | ⟨y,u,rfl,e⟩
   ·injection e with e1 _;rw[e1]
   ·exact nomatch e
  ·rcases hU hb with⟨j,u,rfl,e⟩ | ⟨y,u,rfl,e⟩
   ·exact nomatch e
   ·injection e with e1 _;rw[e1]
 byValue:=fun k v h=>by
   rcases hU h with⟨i,t,rfl,rfl⟩ | ⟨x,t,rfl,rfl⟩ <;> rfl
 pyHash:=fun hv h=>by
  rcases hU hv with⟨i,t,rfl,rfl⟩ | ⟨x,t,rfl,rfl⟩
  ·exact wpAny_pyHash_int h
  ·exact wpAny_pyHash_str h
 eqBool:=fun hu hv h=>by
  rcases hU hu with⟨i,t,rfl,rfl⟩ | ⟨x,t,rfl,rfl⟩
  ·rcases hU hv with⟨j,u,rfl,rfl⟩ | ⟨y,u,rfl,rfl⟩
   ·rw[ZJ]at h;exact wpAny_eqBool_int h
   ·rw[ZI]at h;exact AS i t y u _ _ _ _ h
  ·rcases hU hv with⟨j,u,rfl,rfl⟩ | ⟨y,u,rfl,rfl⟩
   ·rw[ZG]at h;exact AR x t j u _ _ _ _ h
   ·rw[ZF]at h;exact wpAny_eqBool_str h
 «strs» := fun k x t v h=>by
  rcases hU h with⟨i,u,rfl,e⟩ | ⟨y,u,rfl,e⟩
  ·exact nomatch e
  ·injection e with e1 _
   subst e1
   cases v <;> rfl
theorem Lk (prog:Program) (w:World) (i:Int) (t:Tok):(iB prog w).is (.inl i) (.int i t)=true:=PV i t
theorem Lj (prog:Program) (w:World) (x:Str) (t:Tok):(iB prog w).is (.inr x) (.str x t)=true:=PU x t
inductive V where
 | b9 | bl (b:Bool) | int (i:Int) | str (x:Str) | vg (b:Array UInt8) | Kd (b:UInt64) | ref (a:Addr) | ty (n:String)
 deriving DecidableEq
def RelV:V->Value->Prop
 | .b9,u=>u=ef
 | .bl b,u=>u=iM b
 | .int i,u=>∃ t,u=kY i t
 | .str x,u=>∃ t,u=rk x t
 | .vg b,u=>∃ t,u=Value.bytes b t
 | .Kd b,u=>∃ t,u=Cj b t
 | .ref a,u=>u=bf a
 | .ty n,u=>u=je n
abbrev Vals:List V->List Value->Prop:=Paired RelV
theorem Vals.length {xs:List V}{us:List Value} (r:Vals xs us):xs.length=us.length:=dw r
theorem Vals.get:∀ {xs:List V}{us:List Value}{i:Nat}{x:V},Vals xs us->xs[i]? = some x->∃ u,us[i]? = some u∧RelV x u
 | _,_,_,_,.nil,e=>by simp at e
 | _,_,0,_,.cons r _,e=>by simp at e;subst e;exact⟨_,rfl,r⟩
 | _,_,i+1,x,.cons _ t,e=>by
  obtain⟨u,h1,h2⟩:=Vals.get (i:=i) (x:=x) t (by simpa using e)
  exact⟨u,by simpa using h1,h2⟩
theorem Vals.append:∀ {xs ys:List V}{us ws:List Value},Vals xs us->Vals ys ws->Vals (xs ++ ys) (us ++ ws)
 | _,_,_,_,.nil,s=>s
 | _,_,_,_,.cons r t,s => .cons r (Vals.append t s)
theorem Vals.take:∀ {xs:List V}{us:List Value} (n:Nat),Vals xs us->Vals (xs.take n) (us.take n)
 | _,_,0,_ => .nil
 | _,_,_+1,.nil => .nil
 | _,_,n+1,.cons r t => .cons r (Vals.take n t)
theorem Vals.drop:∀ {xs:List V}{us:List Value} (n:Nat),Vals xs us->Vals (xs.drop n) (us.drop n)
 | _,_,0,r=>r
 | _,_,_+1,.nil => .nil
 | _,_,n+1,.cons _ t=>Vals.drop n t
def ny:Option V->Option Value->Prop
 | some v,some u=>RelV v u
 | none,none=>True
 | _,_=>False
def KV {κ : Type}:List (κ × V)->List (κ × Value)->Prop:=Paired fun (p : κ × V) (q : κ × Value)=>p.1=q.1∧RelV p.2 q.2
def kV:Key->V
 | .inl i => .int i
 | .inr x => .str x
inductive HO where
  | lst (xs:List V)
  | tup (xs:List V)
  | dK (kvs:List (Key × V)) | dT (kvs:List (List Key × V))
  | set (S:Int->Bool) (n:Nat)
  | ins (C dx:Addr) (fs:List (Str × V))
  | own (x:Addr)
  | xd (fs:List (Str × V))
  | met (f x:Addr)
  | UW (lo hi:Int)
  | uf (o:Obj) (u:HO)
  | Gy (ps:Array Value)
  | ext (φ : Heap->Prop)
abbrev Hp:=Addr->Option HO
def aO (H:Hp) (a:Addr) (o:HO):Hp:=fun b=>if b=a then some o else H b
theorem av {H:Hp}{a:Addr}{o:HO}:aO H a o a=some o:=by unfold aO;rw[if_pos rfl]
theorem bh {H:Hp}{a b:Addr}{o:HO} (h:b≠a):aO H a o b=H b:=by unfold aO;rw[if_neg h]
theorem kr {H:Hp}{a:Addr}{o u:HO}:aO (aO H a o) a u=aO H a u:=by
 funext b;unfold aO;split <;> rfl
theorem u5 {H:Hp}{a b:Addr}{o u:HO} (h:H a=some o) (h':H b=some u) (d:o≠u):a≠b:=by
 intro e;subst e;rw[h]at h';exact d (bD h')
theorem dC {H:Hp}{a b:Addr}{o:HO} (h:H a=some o) (h':H b=none):a≠b:=by
 intro e;subst e;rw[h]at h';cases h'
def pM (h:Heap) (a:Addr) (items:Array Value):Prop := ∃ o,h.get? a=some o∧o.cls = .type "tuple" ∧ ∃ n,o.data = .seq items n∧o.dict=none
theorem pM.tup {h:Heap}{a:Addr}{items:Array Value} (x:pM h a items):IsTup h a items:=let ⟨o,e,c,n,d,_⟩:=x; ⟨o,e,c,n,d⟩
theorem pM.new (h:Heap) (items:Array Value):pM (h.push { cls := .type "tuple",data := .seq items }) h.objs.size items:=⟨_,bW _ rfl,rfl,_,rfl,rfl⟩
section
variable (P:Program) (w:World)
def dD (H:Hp) (h:Heap) (a:Addr):HO->Prop
 | .lst xs=>xs.length<=sizeLine∧∃ (its:List Value) (n:Nat),Vals xs its∧h.get? a=some { cls := .type "list",data := .seq its.toArray n }
 | .tup xs=>xs.length<=sizeLine∧∃ its:List Value,Vals xs its∧pM h a its.toArray
 | .dK kvs=>kvs.length<=sizeLine∧(a == sysModules)=false∧∃ vs,KV kvs vs∧h.DictOf (iB P w) a vs
 | .dT kvs=>kvs.length<=sizeLine∧(a == sysModules)=false∧∃ xs:List (List Key × Addr × Value),
   Paired (fun (p:List Key × V) (q:List Key × Addr × Value)=>p.1=q.1∧H q.2.1=some (.tup (p.1.map kV))∧RelV p.2 q.2.2) kvs xs ∧
   ∃ o es ep,h.get? a=some o∧o.ExactDict∧o.data = .dict es ep∧es.toList=xs.map (entryOfKey (tupleKind (iB P w)))∧(xs.map (·.1)).Nodup
 | .set S n=>h.SetOf (intKind P w) a S n
 | .ins C dx fs=>H dx=some (.own a)∧fs.length<=1000∧dx≠a∧h.get? a=some (ij C dx) ∧
   ∃ mA,h.Ns1 dx mA∧(∀ f,ny (fs.lookup f) (mA f))∧mE mA (fs.map (·.1))
 | .own _=>∃ o,h.get? a=some o
 | .xd fs=>∃ mA,h.Ns1 a mA∧∀ f,ny (fs.lookup f) (mA f)
 | .UW lo hi=>∃ t u v,h.get? a=some { cls := .type "range",data := .fields #[.int lo t,.int hi u,.int 1 v] }
 | .uf o u=>h.get? a=some o∧dD H h a u
 | .Gy ps=>h.get? a=some { cls := .none,data := .fields ps }
 | .met f x=>h.get? a=some (so (.ref f) (.ref x))
 | .ext φ => φ h∧(∃ o,h.get? a=some o)∧∀ h1 h2:Heap, φ h1->(∀ o,h1.get? a=some o->h2.get? a=some o) -> φ h2
def gh (H:Hp) (h:Heap):Prop := ∀ a o,H a=some o->dD P w H h a o
end
section
variable {P:Program}{w:World} {H H':Hp} {h h':Heap}{a:Addr}{o:HO}
theorem dD.lt (x:dD P w H h a o):a < h.objs.size:=by
 cases o with
 | lst xs=>obtain⟨_,_,_,_,e⟩:=x;exact bq e
 | tup xs=>obtain⟨_,_,_,p⟩:=x;exact p.tup.lt
 | dK kvs=>obtain⟨_,_,_,_,o,_,_,e,_⟩:=x;exact bq e
 | dT kvs=>obtain⟨_,_,_,_,o,_,_,e,_⟩:=x;exact bq e
 | set S n=>obtain⟨o,_,_,_,e,_⟩:=x;exact bq e
 | ins C dx fs=>obtain⟨_,_,_,e,_⟩:=x;exact bq e
 | own y=>obtain⟨_,e⟩:=x;exact bq e
 | xd fs=>obtain⟨_,⟨_,_,_,e,_⟩,_⟩:=x;exact bq e
 | UW lo hi=>obtain⟨_,_,_,e⟩:=x;exact bq e
 | uf ob u=>obtain⟨e,_⟩:=x;exact bq e
 | Gy ps=>exact bq (show h.get? a=some _ from x)
 | met f y=>exact bq (show h.get? a=some _ from x)
 | ext φ => obtain⟨_,⟨_,e⟩,_⟩:=x;exact bq e
theorem Paired.j7 {α β : Type}{F G : α -> β -> Prop}:∀ {Zr : List α}{Zq : List β},Paired F Zr Zq -> (∀ a b,F a b->G a b)->Paired G Zr Zq
 | _,_,.nil,_ => .nil
 | _,_,.cons r t,f => .cons (f _ _ r) (Paired.j7 t f)
theorem dD.sV (x:dD P w H h a o) (k:∀ b u,(b=a∨H b=some (.own a))->h.get? b=some u->h'.get? b=some u)
  (ho:∀ b,H b=some (.own a)->H' b=some (.own a)) (ht:∀ b xs,H b=some (.tup xs)->H' b=some (.tup xs)):dD P w H' h' a o:=by
 induction o with
 | lst xs=>obtain⟨z,its,n,r,e⟩:=x;exact⟨z,its,n,r,k _ _ (.inl rfl) e⟩
 | tup xs=>obtain⟨z,its,r,ob,e,c⟩:=x;exact⟨z,its,r,ob,k _ _ (.inl rfl) e,c⟩
 | dK kvs=>obtain⟨z,y,vs,r,ob,es,ep,e,c⟩:=x;exact⟨z,y,vs,r,ob,es,ep,k _ _ (.inl rfl) e,c⟩
 | dT kvs =>
  obtain⟨z,y,xs,r,ob,es,ep,e,c⟩:=x
  exact⟨z,y,xs,Paired.j7 r fun p q z=>⟨z.1,ht _ _ z.2.1,z.2.2⟩,ob,es,ep,k _ _ (.inl rfl) e,c⟩
 | set S n=>obtain⟨ob,es,ep,t,e,c⟩:=x;exact⟨ob,es,ep,t,k _ _ (.inl rfl) e,c⟩
 | ins C dx fs =>
  obtain⟨d,z,ne,e,mA,⟨od,es,ep,e2,c⟩,r⟩:=x
  exact⟨ho _ d,z,ne,k _ _ (.inl rfl) e,mA,⟨od,es,ep,k _ _ (.inr d) e2,c⟩,r⟩
 | own y=>obtain⟨ob,e⟩:=x;exact⟨ob,k _ _ (.inl rfl) e⟩
 | xd fs=>obtain⟨mA,⟨od,es,ep,e,c⟩,r⟩:=x;exact⟨mA,⟨od,es,ep,k _ _ (.inl rfl) e,c⟩,r⟩
 | UW lo hi=>obtain⟨t,u,v,e⟩:=x;exact⟨t,u,v,k _ _ (.inl rfl) e⟩
 | uf ob u ih=>obtain⟨e,q⟩:=x;exact⟨k _ _ (.inl rfl) e,ih q⟩
 | Gy ps =>
  have e:h.get? a=some { cls := .none,data := .fields ps }:=x
  show h'.get? a=some { cls := .none,data := .fields ps }
  exact k a _ (.inl rfl) e
 | met f y =>
  have e:h.get? a=some (so (.ref f) (.ref y)):=x
  show h'.get? a=some (so (.ref f) (.ref y))
  exact k a _ (.inl rfl) e
 | ext φ => obtain⟨p,⟨o,e⟩,st⟩:=x;exact⟨st _ _ p fun o q=>k _ _ (.inl rfl) q,⟨o,k _ _ (.inl rfl) e⟩,st⟩
theorem gh.lt (x:gh P w H h) (e:H a=some o):a < h.objs.size:=(x a o e).lt
theorem gh.fresh (x:gh P w H h) (e:h.objs.size<=a):H a=none:=by
 cases q:H a with
 | none=>rfl
 | some u=>exact absurd (bS (x.lt q) e) (fB _)
theorem gh.kept (x:gh P w H h) (k:∀ b u,h.get? b=some u->h'.get? b=some u):gh P w H h':=fun a o e =>
 (x a o e).sV (fun b u _ q=>k b u q) (fun _ q=>q) fun _ _ q=>q
theorem gh.laid (x:gh P w H h) (k:∀ b u,h.get? b=some u->h'.get? b=some u) (hp:h.objs.size<=a) (new:dD P w (aO H a o) h' a o):gh P w (aO H a o) h':=fun b u e=>by
 have hn:=x.fresh hp
 by_cases hb:b=a
 ·subst hb;rw[av]at e;cases e;exact new
 ·rw[bh hb]at e
  exact(x b u e).sV (fun c v _ q=>k c v q) (fun c q=>by rw[bh (dC q hn)];exact q) fun c xs q=>by rw[bh (dC q hn)];exact q
end
def Rd (H:Hp) (a:Addr) (u:HO):Prop:=H a=some u∨∃ o,H a=some (.uf o u)
theorem Rd.ok {P:Program}{w:World}{H:Hp}{h:Heap}{a:Addr}{u:HO} (r:Rd H a u) (x:gh P w H h):dD P w H h a u:=by
 rcases r with r | ⟨o,r⟩
 ·exact x a u r
 ·obtain⟨_,q⟩:=x a _ r
  exact q
def Ro:Option HO->Prop
 | some (.lst _)=>True
 | some (.dK _)=>True
 | some (.dT _)=>True
 | some (.set _ _)=>True
 | some (.ins _ _ _)=>True
 | some (.ext _)=>True
 | _=>False
section
variable {P:Program}{w:World}{H:Hp} {h h':Heap}{x e:Addr} {o':HO}
theorem gh.write (ok:gh P w H h) (mu:Ro (H x)) (he:e=x∨H e=some (.own x)) (k:∀ b u,b≠e->h.get? b=some u->h'.get? b=some u) (Mn:∃ u,h'.get? e=some u)
  (new:dD P w (aO H x o') h' x o'):gh P w (aO H x o') h':=fun b u q=>by
 have Zh:∀ c y,H c=some (.own y)->c≠x:=fun c y r z=>by subst z;rw[r]at mu;exact mu
 have aeg:∀ c xs,H c=some (.tup xs)->c≠x:=fun c xs r z=>by subst z;rw[r]at mu;exact mu
 by_cases hb:b=x
 ·subst hb;rw[av]at q;cases q;exact new
 ·rw[bh hb]at q
  by_cases Ej:b=e
  ·have q':H b=some (.own x):=by
    rcases he with z | z
    ·exact absurd (Ej.trans z) hb
    ·rw[Ej];exact z
   rw[q]at q';cases q'
   obtain⟨v,hv⟩:=Mn
   exact⟨v,by rw[Ej];exact hv⟩
  ·refine(ok b u q).sV (fun c v hc r=>k c v ?_ r) (fun c r=>by rw[bh (Zh c b r)];exact r) fun c xs r=>by rw[bh (aeg c xs r)];exact r
   rcases hc with rfl | hc
   ·exact Ej
   ·rintro rfl
    rcases he with z | z
    ·exact Zh c b hc z
    ·rw[hc]at z;cases z;exact hb rfl
end
structure Un (fs ex:List Addr) (H H':Hp) (h h':Heap):Prop where
 keep:∀ b o,h.get? b=some o->H b=none->b ∉ fs->b ∉ ex->h'.get? b=some o
 slot:∀ b o,h.get? b=some o->H b=none->b∈fs->b ∉ ex->∃ sl,h'.get? b=some { o with slots:=sl }
 free:∀ b o,h.get? b=some o->H b=none->b ∉ ex->H' b=none
 there:∀ b o,h.get? b=some o->b ∉ ex->∃ o',h'.get? b=some o'
 nj:∀ b xs,H b=some (.tup xs)->H' b=some (.tup xs)
 oi:∀ b o u,H b=some (.uf o u)->H' b=some (.uf o u)
 oQ:∀ b ps,H b=some (.Gy ps)->∃ more,H' b=some (.Gy (ps ++ more))
section
variable {fs My ex ex':List Addr}{H H1 H2:Hp} {h h1 h2 h':Heap}{a x e:Addr}{o:HO}
theorem Un.any (u:Un fs ex H H1 h h1) {b:Addr}{ob:Obj} (q:h.get? b=some ob) (n:H b=none) (hx:b ∉ ex):∃ sl,h1.get? b=some { ob with slots:=sl }:=by
 by_cases hb:b∈fs
 ·exact u.slot b ob q n hb hx
 ·exact⟨ob.slots,u.keep b ob q n hb hx⟩
theorem Un.kept (k:∀ b u,h.get? b=some u->h'.get? b=some u):Un fs ex H H h h' :=
 ⟨fun b ob q _ _ _=>k b ob q,fun b ob q _ _ _=>⟨ob.slots,k b ob q⟩,fun _ _ _ n _=>n,fun b ob q _=>⟨ob,k b ob q⟩,fun _ _ q=>q,fun _ _ _ q=>q,fun _ ps q=>⟨#[],by rw[q];simp⟩⟩
theorem Un.refl:Un fs ex H H h h:=Un.kept fun _ _ q=>q
theorem Un.laid (k:∀ b u,h.get? b=some u->h'.get? b=some u) (hp:h.objs.size<=a) (hn:H a=none):Un fs ex H (aO H a o) h h' where
 keep:=fun b u q _ _ _=>k b u q
 slot:=fun b u q _ _ _=>⟨u.slots,k b u q⟩
 free:=fun b u q n _=>by rw[bh (b7 (bS (bq q) hp))];exact n
 there:=fun b u q _=>⟨u,k b u q⟩
 nj:=fun b xs q=>by rw[bh (dC q hn)];exact q
 oi:=fun b u xs q=>by rw[bh (dC q hn)];exact q
 oQ:=fun b ps q=>⟨#[],by rw[bh (dC q hn),q];simp⟩
theorem Un.write (mu:Ro (H x)) (he:e=x∨H e=some (.own x)) (k:∀ b u,b≠e->h.get? b=some u->h'.get? b=some u) (Mn:∃ u,h'.get? e=some u):Un fs ex H (aO H x o) h h':=by
 have hx:∀ b,H b=none->b≠x:=fun b n z=>by subst z;rw[n]at mu;exact mu
 have hb:∀ b,H b=none->b≠e:=fun b n z=>by
  subst z
  rcases he with r | r
  ·exact hx b n r
  ·rw[n]at r;cases r
 have hm:∀ b u,H b=some u->¬ Ro (some u)->b≠x:=fun b u q nm z=>by subst z;rw[q]at mu;exact nm mu
 refine⟨fun b u q n _ _=>k b u (hb b n) q,fun b u q n _ _=>⟨u.slots,k b u (hb b n) q⟩,fun b u q n _=>by rw[bh (hx b n)];exact n,fun b u q _ => ?_,
  fun b xs q=>by rw[bh (hm b _ q fun z=>z)];exact q,fun b u xs q=>by rw[bh (hm b _ q fun z=>z)];exact q,fun b ps q=>⟨#[],by rw[bh (hm b _ q fun z=>z),q];simp⟩⟩
 by_cases Ej:b=e
 ·subst Ej;exact Mn
 ·exact⟨u,k b u Ej q⟩
end
def UA (h:Heap) (H:Hp):List Addr:=(fU h.objs.size).filter fun a=>(H a).isSome
def ye (h:Heap) (H:Hp):Heap:=cx h (UA h H)
theorem Qe (h:Heap) (H:Hp):(ye h H).objs.size=h.objs.size:=PySem.W.hideAll_size _ _
theorem Tz {h:Heap}{H:Hp}{b:Addr}{o:Obj} (e:h.get? b=some o) (n:H b=none):(ye h H).get? b=some o :=
 gq _ e fun hm=>by
  have q:(H b).isSome=true:=(ED.mp hm).2
  rw[n]at q;simp at q
theorem Xo {h:Heap}{H:Hp}{b:Addr}{o:Obj} (e:(ye h H).get? b=some o):h.get? b=some o∧H b=none:=by
 have e':h.get? b=some o:=eM (UA h H) e
 refine⟨e',?_⟩
 cases q:H b with
 | none=>rfl
 | some x =>
  have hm:b∈UA h H:=ED.mpr ⟨qE.mpr (bq e'),by simp[q]⟩
  have z:(ye h H).get? b=none:=ly (UA h H) hm
  rw[z]at e;cases e
structure Mod (K:aj) (mg:Str->Option Value) (base:Heap):Prop where
 zY:K.In base
 glob:base.Ns mainGlobals mg
 blt:∃ mb,base.Ns builtinsNs mb∧∀ x:Str,x ≠ "__name__" -> mb x=bootBuiltins x
 nolimit:base.NoLimit
structure Cx where
 prog:Program
 w:World
 K:aj
 mg:Str->Option Value
 base:Heap
 A:Around
 N:List Str
 ky : Shared
 Bc : Hp
 env:Env
 outer:List Env
 stack:List Env
 ex:List Addr
 fn:Str->Bool
 calm:Bool
 pn:List (Addr × Obj)
 xe:Value->Shared->Prop
def dU (l:List Env):List Addr:=l.filterMap (·.frame)
abbrev Cx.fs (X:Cx):List Addr:=dU X.outer
def Q6 (sc:Scope) (x:Str):Prop:=sc.names.lookup x=some .local∨sc.names.lookup x=some .cell∨sc.names.lookup x=some .free
def Loc (sc:Scope) (x:Str):Prop:=sc.names.lookup x=some .local∨sc.names.lookup x=some .cell
def Look (env:Env) (h:Heap) (m:Str->Option Value) (x:Str) (u:Value):Prop :=
 (env.kindOf x=some .local∧m x=some u)∨((env.kindOf x=some .cell∨env.kindOf x=some .free)∧∃ c,env.cells.lookup x=some c∧h.IsCell c (some u))
structure Cx.Ok (X:Cx):Prop where
 mod:Mod X.K X.mg X.base
 kind:X.env.scope.kind = .function
 glob:X.env.globals=mainGlobals
 blt:X.env.builtins=builtinsNs
 above:X.ky.heap.objs.size<=X.env.locals
 inj:∀ x y c,X.env.cells.lookup x=some c->X.env.cells.lookup y=some c->x=y
 has:∀ x,(X.env.kindOf x=some .cell∨X.env.kindOf x=some .free)->∃ c,X.env.cells.lookup x=some c
 He:∀ x c,X.fn x=true->X.env.cells.lookup x=some c->X.ky.heap.objs.size<=c
 hd:X.calm=true->X.A.handled=none
 frames:X.A.frames=some X.stack
 IB:X.stack=X.outer∨(X.stack=X.env :: X.outer∧X.env.frame=some X.env.locals)
 Qz:∀ b∈X.ex,b≠X.env.locals∧∀ x c,X.env.cells.lookup x=some c->c≠b
 bs:∀ b o,X.base.get? b=some o->X.ky.heap.get? b=some o∧X.Bc b=none
 wW:X.base.objs.size<=X.ky.heap.objs.size
 zV:∀ b o,X.base.get? b=some o->b ∉ X.ex
 C7:∀ b∈X.ex,b ∉ X.fs
 nu:X.ky.heap.FunFrames X.base X.outer
 Ar:∀ b∈X.fs,X.Bc b=none
structure Inv (X:Cx) (ah:List (Addr × Obj)) (σ : List (Option V)) (H:Hp) (s:Shared):Prop where
 ok:X.Ok
 os:s.os=X.ky.os
 bare:AllBare s.gens
 base:Un X.fs X.ex X.Bc H X.ky.heap s.heap
 loc:∃ m,s.heap.Ns X.env.locals m∧∀ (i:Nat) (x:Str) (v:V),X.N[i]? = some x -> σ[i]? = some (some v)->Q6 X.env.scope x->∃ u,RelV v u∧Look X.env s.heap m x u
 cell:∀ x c,X.env.cells.lookup x=some c->∃ v,s.heap.IsCell c v
 free:H X.env.locals=none
 mY:∀ x c,X.env.cells.lookup x=some c->H c=none
 pin:∀ p∈X.pn ++ ah,s.heap.get? p.1=some p.2∧H p.1=none∧p.1≠X.env.locals∧p.1 ∉ X.fs∧∀ v,p.2.data ≠ .cell v
 br:gh X.prog X.w H s.heap
 len : σ.length=X.N.length
section
variable {X:Cx}{ah:List (Addr × Obj)}{σ : List (Option V)} {H H':Hp}{s:Shared} {h':Heap}
theorem Cx.Ok.aei (ok:X.Ok) {b:Addr}{o:Obj} (e:X.base.get? b=some o):b ∉ X.fs:=fun hb=>by
 have:=(ok.nu.mem hb).1
 rw[e]at this;cases this
theorem Inv.bs (I:Inv X ah σ H s):∀ b o,X.base.get? b=some o->s.heap.get? b=some o∧H b=none:=fun b o e =>
 ⟨I.base.keep b o (I.ok.bs b o e).1 (I.ok.bs b o e).2 (I.ok.aei e) (I.ok.zV b o e),I.base.free b o (I.ok.bs b o e).1 (I.ok.bs b o e).2 (I.ok.zV b o e)⟩
theorem Inv.bk (I:Inv X ah σ H s):∀ b o,X.base.get? b=some o->s.heap.get? b=some o:=fun b o e=>(I.bs b o e).1
theorem Inv.mod (I:Inv X ah σ H s):Mod X.K X.mg X.base:=I.ok.mod
theorem Inv.gL (I:Inv X ah σ H s):X.K.In s.heap:=I.ok.mod.zY.keeps I.bk
theorem Inv.lt (I:Inv X ah σ H s):X.env.locals < s.heap.objs.size:=let ⟨_,hn,_⟩:=I.loc;hn.lt
theorem Inv.sz (I:Inv X ah σ H s):X.ky.heap.objs.size<=s.heap.objs.size:=a9 I.ok.above (AZ I.lt)
theorem Inv.aeh (I:Inv X ah σ H s) {a:Addr} (h:s.heap.objs.size<=a):a ∉ X.fs:=fun hb=>by
 obtain⟨_,o,ho,_⟩:=I.ok.nu.mem hb
 exact absurd (bS (bq ho) (a9 I.sz h)) (fB _)
theorem Inv.AA (I:Inv X ah σ H s):∀ x c,X.env.cells.lookup x=some c->c≠X.env.locals:=fun x c e z=>by
 obtain⟨v,o,ho,hd⟩:=I.cell x c e
 obtain⟨m,⟨o',es,ep,JP,Ah,_⟩,_⟩:=I.loc
 rw[z,JP]at ho;cases ho;rw[Ah]at hd;cases hd
theorem Inv.nu (I:Inv X ah σ H s):s.heap.FunFrames X.base X.outer:=by
 have all:∀ (l:List Env),(∀ b∈dU l,b∈X.fs)->X.ky.heap.FunFrames X.base l->s.heap.FunFrames X.base l:=by
  intro l
  induction l with
  | nil=>intro _ _;trivial
  | cons env r ih =>
   intro hs hl
   obtain⟨hk,⟨L,o,hf,hn,ho,hd⟩,hr⟩:=hl
   have hL:L∈X.fs:=hs L (by unfold dU;rw[eE,hf];exact aV)
   obtain⟨sl,e⟩:=I.base.slot L o ho (I.ok.Ar L hL) hL fun z=>I.ok.C7 L z hL
   exact⟨hk,⟨L,_,hf,hn,e,hd⟩,ih (fun b hb=>hs b (by unfold dU;rw[eE,hf];exact aL _ hb)) hr⟩
 exact all X.outer (fun _ hb=>hb) I.ok.nu
theorem Inv.stack (I:Inv X ah σ H s):s.heap.FunFrames X.base X.stack:=by
 rcases I.ok.IB with e | ⟨e,hf⟩
 ·rw[e];exact I.nu
 ·rw[e]
  obtain⟨m,hn,_⟩:=I.loc
  refine .cons (by rw[I.ok.kind];decide) hf hn ?_ I.nu
  exact dj (a9 I.ok.wW I.ok.above)
theorem Inv.zx (I:Inv X ah σ H s):∀ b∈dU X.stack,b∈X.env.locals :: X.fs:=fun b hb=>by
 rcases I.ok.IB with e | ⟨e,hf⟩
 ·rw[e]at hb;exact aL _ hb
 ·rw[e]at hb
  unfold dU at hb
  rw[eE,hf]at hb
  exact hb
theorem Inv.wm (I:Inv X ah σ H s):∀ b∈dU X.stack,H b=none:=fun b hb=>by
 rcases aK.mp (I.zx b hb) with e | hb
 ·rw[e];exact I.free
 ·obtain⟨_,o,ho,_⟩:=I.ok.nu.mem hb
  exact I.base.free b o ho (I.ok.Ar b hb) fun z=>I.ok.C7 b z hb
theorem Inv.step {g':Array GenState} {t':Nat} {d':Drawn}{ch:List Addr} (I:Inv X ah σ H s)
  (sj:∀ b∈ch,(b∈X.ex∨X.ky.heap.objs.size<=b)∧b≠X.env.locals∧(∀ x c,X.env.cells.lookup x=some c->c≠b)∧∀ p∈X.pn ++ ah,p.1≠b)
  (keep:∀ b o,b≠X.env.locals->b ∉ X.fs->b ∉ ch->s.heap.get? b=some o->H b=none->h'.get? b=some o)
  (slot:∀ b o,b≠X.env.locals->b∈X.fs->b ∉ ch->s.heap.get? b=some o->H b=none->∃ sl,h'.get? b=some { o with slots:=sl }) (free:∀ b o,b ∉ ch->s.heap.get? b=some o->H b=none->H' b=none)
  (there:∀ b o,b ∉ ch->s.heap.get? b=some o->∃ o',h'.get? b=some o')
  (nj:∀ b xs,H b=some (.tup xs)->H' b=some (.tup xs)) (oi:∀ b o u,H b=some (.uf o u)->H' b=some (.uf o u)) (oQ:∀ b ps,H b=some (.Gy ps)->∃ more,H' b=some (.Gy (ps ++ more)))
  (ns:∀ m,s.heap.Ns X.env.locals m->h'.Ns X.env.locals m) (br:gh X.prog X.w H' h') (hg:AllBare g') :
  Inv X ah σ H' { s with heap:=h',gens:=g',drawn:=d',toks:=t' }:=by
 have neL:∀ b o,X.ky.heap.get? b=some o->b≠X.env.locals:=fun b o e=>b7 (bS (bq e) I.ok.above)
 have U6:∀ b o,X.ky.heap.get? b=some o->b ∉ X.ex->b ∉ ch:=fun b o e hx hb=>by
  rcases(sj b hb).1 with z | z
  ·exact hx z
  ·exact absurd (bS (bq e) z) (fB _)
 have VR:∀ x c,X.env.cells.lookup x=some c->∀ v,s.heap.IsCell c v->h'.IsCell c v:=fun x c e v ⟨o,ho,hd⟩=>by
  have PK:c ∉ ch:=fun z=>(sj c z).2.2.1 x c e rfl
  by_cases hc:c∈X.fs
  ·obtain⟨sl,q⟩:=slot c o (I.AA x c e) hc PK ho (I.mY x c e)
   exact⟨_,q,hd⟩
  ·exact⟨o,keep c o (I.AA x c e) hc PK ho (I.mY x c e),hd⟩
 refine⟨I.ok,I.os,hg,⟨fun b o e n hb hx => ?_,fun b o e n hb hx => ?_,fun b o e n hx => ?_,fun b o e hx => ?_,fun b xs e=>nj b xs (I.base.nj b xs e),fun b o xs e=>oi b o xs (I.base.oi b o xs e),fun b ps e => ?_⟩,?_,fun x c e => ?_,?_,fun x c e => ?_,fun p hp => ?_,br,I.len⟩
 ·exact keep b o (neL b o e) hb (U6 b o e hx) (I.base.keep b o e n hb hx) (I.base.free b o e n hx)
 ·obtain⟨sl,e1⟩:=I.base.slot b o e n hb hx
  obtain⟨sl',e2⟩:=slot b _ (neL b o e) hb (U6 b o e hx) e1 (I.base.free b o e n hx)
  exact⟨sl',e2⟩
 ·obtain⟨o',e1⟩:=I.base.there b o e hx
  exact free b o' (U6 b o e hx) e1 (I.base.free b o e n hx)
 ·obtain⟨o',e1⟩:=I.base.there b o e hx
  exact there b o' (U6 b o e hx) e1
 ·obtain⟨m1,e1⟩:=I.base.oQ b ps e
  obtain⟨m2,e2⟩:=oQ b _ e1
  exact⟨m1 ++ m2,by rw[e2,Bi]⟩
 ·obtain⟨m,hn,hl⟩:=I.loc
  refine⟨m,ns m hn,fun i x v e1 e2 e3 => ?_⟩
  obtain⟨u,r,l⟩:=hl i x v e1 e2 e3
  refine⟨u,r,?_⟩
  rcases l with l | ⟨k,c,e,z⟩
  ·exact .inl l
  ·exact .inr ⟨k,c,e,VR x c e _ z⟩
 ·obtain⟨v,z⟩:=I.cell x c e
  exact⟨v,VR x c e v z⟩
 ·obtain⟨m,⟨o,_,_,ho,_⟩,_⟩:=I.loc
  exact free _ o (fun z=>(sj _ z).2.1 rfl) ho I.free
 ·obtain⟨v,o,ho,hd⟩:=I.cell x c e
  exact free c o (fun z=>(sj c z).2.2.1 x c e rfl) ho (I.mY x c e)
 ·obtain⟨e,n,ne,nf,d⟩:=I.pin p hp
  have PK:p.1 ∉ ch:=fun z=>(sj p.1 z).2.2.2 p hp rfl
  exact⟨keep p.1 p.2 ne nf PK e n,free p.1 p.2 PK e n,ne,nf,d⟩
theorem Inv.un {t':Nat} (I:Inv X ah σ H s) (u:Un X.fs [] H H' s.heap h') (br:gh X.prog X.w H' h'):Inv X ah σ H' { s with heap:=h',toks:=t' }:=by
 obtain⟨m,⟨o,es,ep,ho,r⟩,_⟩:=id I.loc
 obtain⟨sl,hL⟩:=u.any ho I.free (by simp)
 exact I.step (g':=s.gens) (d':=s.drawn) (ch := []) (fun _ z=>nomatch z) (fun b o _ hb _ e n=>u.keep b o e n hb (by simp)) (fun b o _ hb _ e n=>u.slot b o e n hb (by simp)) (fun b o _ e n=>u.free b o e n (by simp)) (fun b o _ e=>u.there b o e (by simp)) u.nj u.oi u.oQ (fun m' hm=>by
  obtain⟨o',VL,ep',JP,r'⟩:=hm
  rw[ho]at JP;cases JP
  exact⟨_,VL,ep',hL,r'⟩) br I.bare
theorem Inv.call {g':Array GenState} {t':Nat} {d':Drawn}{ch:List Addr} (I:Inv X ah σ H s) (u:Un (dU X.stack) ch H H' s.heap h') (br:gh X.prog X.w H' h') (hg:AllBare g')
  (sj:∀ b∈ch,(b∈X.ex∨X.ky.heap.objs.size<=b)∧b≠X.env.locals∧(∀ x c,X.env.cells.lookup x=some c->c≠b)∧∀ p∈X.pn ++ ah,p.1≠b) :
  Inv X ah σ H' { s with heap:=h',gens:=g',drawn:=d',toks:=t' }:=by
 obtain⟨m,⟨o,es,ep,ho,r⟩,_⟩:=id I.loc
 obtain⟨sl,hL⟩:=u.any ho I.free fun z=>(sj _ z).2.1 rfl
 exact I.step (ch:=ch) sj (fun b o hL hb hc e n=>u.keep b o e n (fun z=>(aK.mp (I.zx b z)).elim hL hb) hc) (fun b o _ _ hc e n=>u.any e n hc) (fun b o hc e n=>u.free b o e n hc) (fun b o hc e=>u.there b o e hc) u.nj u.oi u.oQ (fun m' hm=>by
  obtain⟨o',VL,ep',JP,r'⟩:=hm
  rw[ho]at JP;cases JP
  exact⟨_,VL,ep',hL,r'⟩) br hg
theorem Inv.turned {t':Nat}{it:Addr} (I:Inv X ah σ H s) (k:∀ b o,b≠it->s.heap.get? b=some o->h'.get? b=some o) (hn:H it=none) (hL:it≠X.env.locals)
  (h1:it∈X.ex∨X.ky.heap.objs.size<=it) (h2:∀ x c,X.env.cells.lookup x=some c->c≠it) (h3:∀ p∈X.pn ++ ah,p.1≠it):Inv X ah σ H { s with heap:=h',toks:=t' }:=by
 have nit:∀ b u,H b=some u->b≠it:=fun b u e z=>by rw[z,hn]at e;cases e
 refine I.step (g':=s.gens) (d':=s.drawn) (ch := [it]) (fun b hb => ?_) (fun b o _ _ hc e _=>k b o (fun z=>hc (by simp[z])) e) (fun b o _ _ hc e _=>⟨o.slots,k b o (fun z=>hc (by simp[z])) e⟩) (fun _ _ _ _ n=>n)
  (fun b o hc e=>⟨o,k b o (fun z=>hc (by simp[z])) e⟩) (fun _ _ e=>e) (fun _ _ _ e=>e) (fun b ps e=>⟨#[],by rw[e];simp⟩) (fun m hm => ?_) (fun b u e => ?_) I.bare
 ·have e:b=it:=by simpa using hb
  subst e
  exact⟨h1,hL,h2,h3⟩
 ·obtain⟨o,es,ep,ho,r⟩:=hm
  exact⟨o,es,ep,k _ o (cK hL) ho,r⟩
 ·refine(I.br b u e).sV (fun c v hc q=>k c v ?_ q) (fun _ q=>q) fun _ _ q=>q
  rcases hc with z | z
  ·rw[z];exact nit b u e
  ·exact nit c _ z
theorem Inv.tok (I:Inv X ah σ H s) (t:Nat):Inv X ah σ H { s with toks:=t }:=I.un (h':=s.heap) (t':=t) Un.refl I.br
theorem Inv.kept {t':Nat} (I:Inv X ah σ H s) (k:∀ b u,s.heap.get? b=some u->h'.get? b=some u):Inv X ah σ H { s with heap:=h',toks:=t' }:=I.un (Un.kept k) (I.br.kept k)
theorem Inv.laid {a:Addr}{o:HO} {t':Nat} (I:Inv X ah σ H s) (k:∀ b u,s.heap.get? b=some u->h'.get? b=some u) (hp:s.heap.objs.size<=a) (new:dD X.prog X.w (aO H a o) h' a o) :
  Inv X ah σ (aO H a o) { s with heap:=h',toks:=t' }:=I.un (Un.laid k hp (I.br.fresh hp)) (I.br.laid k hp new)
theorem Inv.write {x e:Addr}{o:HO} {t':Nat} (I:Inv X ah σ H s) (mu:Ro (H x)) (he:e=x∨H e=some (.own x)) (k:∀ b u,b≠e->s.heap.get? b=some u->h'.get? b=some u) (Mn:∃ u,h'.get? e=some u)
  (new:dD X.prog X.w (aO H x o) h' x o):Inv X ah σ (aO H x o) { s with heap:=h',toks:=t' }:=I.un (Un.write mu he k Mn) (I.br.write mu he k Mn new)
theorem Inv.LY {U0:List (Addr × Obj)} (I:Inv X ah σ H s) (h:∀ p∈U0,s.heap.get? p.1=some p.2∧H p.1=none∧p.1≠X.env.locals∧p.1 ∉ X.fs∧∀ v,p.2.data ≠ .cell v):Inv X U0 σ H s :=
 ⟨I.ok,I.os,I.bare,I.base,I.loc,I.cell,I.free,I.mY,fun p hp=>(aZ.mp hp).elim (fun z=>I.pin p (lz _ z)) (h p),I.br,I.len⟩
theorem CV {N:List Str} (hN:N.Nodup) {i j:Nat}{x:Str} (a:N[i]? = some x) (b:N[j]? = some x):i=j:=by
 obtain⟨h1,e1⟩:=bt.mp a
 obtain⟨h2,e2⟩:=bt.mp b
 exact(List.getElem_inj hN).mp (e1.trans e2.symm)
theorem GB {M:Model}{A:Around}{E:Value->Shared->Prop}{i:Nat}{x:Str}{v:V}{u:Value}{Q:Unit->Shared->Prop} (I:Inv X ah σ H s) (hN:X.N.Nodup) (hi:X.N[i]? = some x) (hx:Loc X.env.scope x) (r:RelV v u)
  (h:∀ s',Inv X ah (σ.set i (some v)) H s'->(∃ a,uE a s.heap s'.heap∧(a=X.env.locals∨X.env.cells.lookup x=some a))->Q () s') (hf:X.fn x=true∨X.env.scope.names.lookup x=some .local:=by first | exact .inl rfl | exact .inr rfl | assumption):wpAny M A (storeName X.env x u) Q E s:=by
 obtain⟨m,hn,hl⟩:=id I.loc
 have TH:(X.env.scope.kind == .class || (X.env.scope.kind == .module && X.env.locals != X.env.globals))=false:=by rw[I.ok.kind];rfl
 have NV : i < σ.length:=by rw[I.len];exact(bt.mp hi).1
 have AA:=I.AA
 have E2:∀ {a:Addr} {h':Heap},(∃ o,s.heap.get? a=some o∧H a=none)->uE a s.heap h'->gh X.prog X.w H h':=fun {a h'} ha hs b ob e=>by
  obtain⟨_,_,Bw⟩:=ha
  refine(I.br b ob e).sV (fun c w' hc q=>(hs.2 c ?_).trans q) (fun _ q=>q) fun _ _ q=>q
  rintro rfl
  rcases hc with rfl | hc
  ·rw[Bw]at e;cases e
  ·rw[Bw]at hc;cases hc
 rcases hx with hk | hk
 ·refine wpAny_storeName_local hk hn (fun h' wM hs => ?_) TH
  obtain⟨oL,_,_,hoL,_⟩:=id hn
  refine h _ ⟨I.ok,I.os,I.bare,⟨fun b o e n hb hx => ?_,fun b o e n hb hx => ?_,I.base.free,fun b o e hx => ?_,I.base.nj,I.base.oi,I.base.oQ⟩,⟨_,wM,fun j y v' e1 e2 e3 => ?_⟩,fun y c e => ?_,I.free,I.mY,fun p hp => ?_,E2 ⟨oL,hoL,I.free⟩ hs,by simpa using I.len⟩ ⟨_,hs,.inl rfl⟩
  ·exact(hs.2 b (b7 (bS (bq e) I.ok.above))).trans (I.base.keep b o e n hb hx)
  ·obtain⟨sl,e1⟩:=I.base.slot b o e n hb hx
   exact⟨sl,(hs.2 b (b7 (bS (bq e) I.ok.above))).trans e1⟩
  ·obtain⟨o',e1⟩:=I.base.there b o e hx
   exact⟨o',(hs.2 b (b7 (bS (bq e) I.ok.above))).trans e1⟩
  ·by_cases hj:j=i
   ·subst hj
    rw[hi]at e1;cases e1
    rw[nR NV]at e2
    cases e2
    exact⟨u,r,.inl ⟨hk,by simp⟩⟩
   ·rw[pK (cK hj)]at e2
    obtain⟨u',r',q⟩:=hl j y v' e1 e2 e3
    refine⟨u',r',?_⟩
    rcases q with⟨k,e⟩ | ⟨k,c,e,z⟩
    ·refine .inl ⟨k,?_⟩
     have:y≠x:=fun e=>hj (CV hN e1 (e ▸ hi))
     simp[this,e]
    ·exact .inr ⟨k,c,e,z.sameBut hs (AA y c e)⟩
  ·obtain⟨w',z⟩:=I.cell y c e
   exact⟨w',z.sameBut hs (AA y c e)⟩
  ·obtain⟨e,n,ne,nf,d⟩:=I.pin p hp
   exact⟨(hs.2 p.1 ne).trans e,n,ne,nf,d⟩
 ·have hfn:X.fn x=true:=by
   rcases hf with z | z
   ·exact z
   ·rw[z]at hk;cases hk
  obtain⟨c,hc⟩:=I.ok.has x (.inl hk)
  obtain⟨w',z⟩:=I.cell x c hc
  refine wpAny_storeName_cell I.ok.kind hk hc z (fun h' u9 hs => ?_)
  obtain⟨oc,hoc,aeB⟩:=id z
  refine h { s with heap:=h' } ⟨I.ok,I.os,I.bare,⟨fun b o e n hb hx => ?_,fun b o e n hb hx => ?_,I.base.free,fun b o e hx => ?_,I.base.nj,I.base.oi,I.base.oQ⟩,⟨m,hn.sameBut hs (cK (AA x c hc)),fun j y v' e1 e2 e3 => ?_⟩,fun y c' e => ?_,I.free,I.mY,fun p hp => ?_,E2 ⟨oc,hoc,I.mY x c hc⟩ hs,by simpa using I.len⟩ ⟨c,hs,.inr hc⟩
  ·exact(hs.2 b (b7 (bS (bq e) (I.ok.He x c hfn hc)))).trans (I.base.keep b o e n hb hx)
  ·obtain⟨sl,e1⟩:=I.base.slot b o e n hb hx
   exact⟨sl,(hs.2 b (b7 (bS (bq e) (I.ok.He x c hfn hc)))).trans e1⟩
  ·obtain⟨o',e1⟩:=I.base.there b o e hx
   exact⟨o',(hs.2 b (b7 (bS (bq e) (I.ok.He x c hfn hc)))).trans e1⟩
  ·by_cases hj:j=i
   ·subst hj
    rw[hi]at e1;cases e1
    rw[nR NV]at e2
    cases e2
    exact⟨u,r,.inr ⟨.inl hk,c,hc,u9⟩⟩
   ·rw[pK (cK hj)]at e2
    obtain⟨u',r',q⟩:=hl j y v' e1 e2 e3
    refine⟨u',r',?_⟩
    rcases q with q | ⟨k,c',e,z'⟩
    ·exact .inl q
    ·refine .inr ⟨k,c',e,z'.sameBut hs ?_⟩
     rintro rfl
     exact hj (CV hN e1 (I.ok.inj _ _ _ e hc ▸ hi))
  ·by_cases Mp:c'=c
   ·subst Mp;exact⟨_,u9⟩
   ·obtain⟨w2,z2⟩:=I.cell y c' e
    exact⟨w2,z2.sameBut hs Mp⟩
  ·obtain⟨e,n,ne,nf,d⟩:=I.pin p hp
   refine⟨(hs.2 p.1 ?_).trans e,n,ne,nf,d⟩
   intro q
   rw[q,hoc]at e
   have q':oc=p.2:=bD e
   exact d w' (by rw[<- q'];exact aeB)
theorem sU {M:Model}{A:Around}{E:Value->Shared->Prop}{i:Nat}{x:Str}{v:V}{u:Value}{Q:Unit->Shared->Prop} (I:Inv X ah σ H s) (hN:X.N.Nodup) (hi:X.N[i]? = some x) (hx:Loc X.env.scope x) (r:RelV v u)
  (h:∀ s',Inv X ah (σ.set i (some v)) H s'->Q () s') (hf:X.fn x=true∨X.env.scope.names.lookup x=some .local:=by first | exact .inl rfl | exact .inr rfl | assumption):wpAny M A (storeName X.env x u) Q E s :=
 GB I hN hi hx r (fun s' I' _=>h s' I') hf
theorem Inv.Of {s':Shared}{ch:List Addr} (I:Inv X ah σ H s) (ho:s'.os=s.os) (u:Un (dU X.stack) ch H H' s.heap s'.heap) (br:gh X.prog X.w H' s'.heap) (hg:AllBare s'.gens)
  (sj:∀ b∈ch,(b∈X.ex∨X.ky.heap.objs.size<=b)∧b≠X.env.locals∧(∀ x c,X.env.cells.lookup x=some c->c≠b)∧∀ p∈X.pn ++ ah,p.1≠b):Inv X ah σ H' s':=by
 obtain⟨h',g',d',t',o'⟩:=s'
 have e:o'=s.os:=ho
 subst e
 exact I.call (g':=g') (t':=t') (d':=d') u br hg sj
end
abbrev XK:=Value->Option Addr->Hp->Prop
abbrev St:=List (Option V)
abbrev VK:=V->Hp->Prop
abbrev TE:=St->Hp->VK->Prop
abbrev TT:=St->Hp->(Bool->Hp->Prop)->Prop
abbrev TA:=St->Hp->(List V->Hp->Prop)->Prop
structure Ends where
 nx:St->Hp->Prop
 rt:VK
 bk:St->Hp->Prop:=fun _ _=>False
 ct:St->Hp->Prop:=fun _ _=>False
abbrev TS:=Ends->St->Hp->Prop
def EP (X:Cx) (ah:List (Addr × Obj)) (σ : St) (Q:VK) (u:Value) (s':Shared):Prop := ∃ v H',Inv X ah σ H' s'∧RelV v u∧Q v H'
def TP (X:Cx) (ah:List (Addr × Obj)) (σ : St) (Q:Bool->Hp->Prop) (b:Bool) (s':Shared):Prop := ∃ H',Inv X ah σ H' s'∧Q b H'
def AP (X:Cx) (ah:List (Addr × Obj)) (σ : St) (Q:List V->Hp->Prop) (us:List Value) (s':Shared):Prop := ∃ vs H',Inv X ah σ H' s'∧Vals vs us∧Q vs H'
def SP (X:Cx) (ah:List (Addr × Obj)) (D:Ends) (f:Flow) (s':Shared):Prop :=
 match f with
 | .next=>∃ bC H',Inv X ah bC H' s'∧D.nx bC H'
 | .brk=>∃ bC H',Inv X ah bC H' s'∧D.bk bC H'
 | .cont=>∃ bC H',Inv X ah bC H' s'∧D.ct bC H'
 | .ret u=>∃ v bC H',Inv X ah bC H' s'∧RelV v u∧D.rt v H'
def PE (X:Cx) (e:Expr) (t:TE):Prop :=
 ∀ (ah:List (Addr × Obj)) (s:Shared) (σ : St) (H:Hp) (Q:VK),Inv X ah σ H s->t σ H Q->wpAny (model X.prog X.w) X.A (eval e X.env) (EP X ah σ Q) X.xe s
@[irreducible]
def QE (X:Cx) (e:Expr) (t:TE):Prop:=PE X e t
def PT (X:Cx) (e:Expr) (t:TT):Prop :=
 ∀ (ah:List (Addr × Obj)) (s:Shared) (σ : St) (H:Hp) (Q:Bool->Hp->Prop),Inv X ah σ H s->t σ H Q->wpAny (model X.prog X.w) X.A (isTrue e X.env (eval e X.env)) (TP X ah σ Q) X.xe s
@[irreducible]
def QT (X:Cx) (e:Expr) (t:TT):Prop:=PT X e t
def PW (X:Cx) (e:Expr) (t:TT):Prop :=
 ∀ (mL:Sem Value) (ah:List (Addr × Obj)) (s:Shared) (σ : St) (H:Hp) (Q:Bool->Hp->Prop),Inv X ah σ H s->t σ H Q->wpAny (model X.prog X.w) X.A (isTrue e X.env mL) (TP X ah σ Q) X.xe s
@[irreducible]
def QW (X:Cx) (e:Expr) (t:TT):Prop:=PW X e t
theorem PW.pt {X:Cx}{e:Expr}{t:TT} (h:PW X e t):PT X e t:=h _
theorem PW.ji {X:Cx}{e:Expr}{t:TT} (h:QW X e t):QT X e t:=by
 delta QT QW at *
 exact PW.pt h
def PA (X:Cx) (es:List Expr) (t:TA):Prop :=
 ∀ (pos:Pos) (ah:List (Addr × Obj)) (s:Shared) (σ : St) (H:Hp) (Q:List V->Hp->Prop),Inv X ah σ H s->t σ H Q->wpAny (model X.prog X.w) X.A (spliced (backTo pos (starEach es X.env))) (AP X ah σ Q) X.xe s
@[irreducible]
def QA (X:Cx) (es:List Expr) (t:TA):Prop:=PA X es t
def PS (X:Cx) (st:Stmt) (t:TS):Prop :=
 ∀ (ah:List (Addr × Obj)) (s:Shared) (σ : St) (H:Hp) (D:Ends),Inv X ah σ H s->t D σ H->wpAny (model X.prog X.w) X.A (exec st X.env) (SP X ah D) X.xe s
@[irreducible]
def QS (X:Cx) (st:Stmt) (t:TS):Prop:=PS X st t
def k4 (X:Cx) (st:List Stmt) (t:TS):Prop :=
 ∀ (ah:List (Addr × Obj)) (s:Shared) (σ : St) (H:Hp) (D:Ends),Inv X ah σ H s->t D σ H->wpAny (model X.prog X.w) X.A (execs st X.env) (SP X ah D) X.xe s
@[irreducible]
def iJ (X:Cx) (st:List Stmt) (t:TS):Prop:=k4 X st t
theorem cz {α : Type}{t:Sem α} {Q Q' : α -> Shared->Prop}{M:Model}{A:Around}{E:Value->Shared->Prop}{s:Shared} (h:wpAny M A t Q E s) (hQ:∀ a s,Q a s->Q' a s):wpAny M A t Q' E s:=wpAny_mono h hQ fun _ _ x=>x
section
variable {X:Cx}
inductive abA (i:Nat) (σ : St) (H:Hp) (Q:VK):Prop
 | mk (v:V) (e : σ[i]? = some (some v)) (q:Q v H):abA i σ H Q
def zt (i:Nat):TE:=fun σ H Q=>abA i σ H Q
def tC (v:V):TE:=fun _ H Q=>Q v H
theorem YV {i:Nat}{x:Str}{pos:Pos} (hN:X.N[i]? = some x) (hv:Q6 X.env.scope x) (hd:(x == ("__debug__" : Str))=false:=by decide) (ni:(x == ("__classdict__" : Str))=false:=by decide):PE X (.Name x pos) (zt i):=by
 intro ah s σ H Q I h
 obtain⟨v,e,h⟩:=h
 obtain⟨m,hn,hl⟩:=I.loc
 obtain⟨u,r,l⟩:=hl i x v hN e hv
 have eZ:EP X ah σ Q u s:=⟨v,H,I,r,h⟩
 rcases l with⟨hk,hm⟩ | ⟨hk,c,hc,mV⟩
 ·exact wpAny_Name (wpAny_loadName_local I.ok.kind hk hn hm eZ) hd
 ·rcases hk with hk | hk
  ·exact wpAny_Name (wpAny_loadName_cell I.ok.kind hk hc mV eZ) hd
  ·exact wpAny_Name (wpAny_loadName_free I.ok.kind hk hc mV eZ ni) hd
theorem Pk {i j pos}:PE X (.Constant (.int i) j pos) (tC (.int i)):=fun _ _ _ H _ I h=>wpAny_Constant_int ⟨.int i,H,I.tok _,⟨_,rfl⟩,h⟩
theorem ai {i j pos}:QE X (.Constant (.int i) j pos) (tC (.int i)):=by
 delta QE at *
 exact Pk 
theorem ab0 {b j pos}:PE X (.Constant (.bool b) j pos) (tC (.bl b)):=fun _ _ _ H _ I h=>Constant_bool ⟨.bl b,H,I,rfl,h⟩
theorem jN {b j pos}:QE X (.Constant (.bool b) j pos) (tC (.bl b)):=by
 delta QE at *
 exact ab0 
theorem YZ {j pos}:PE X (.Constant .none j pos) (tC .b9):=fun _ _ _ H _ I h=>Constant_none ⟨.b9,H,I,rfl,h⟩
theorem iA {j pos}:QE X (.Constant .none j pos) (tC .b9):=by
 delta QE at *
 exact YZ 
theorem Ph {x j pos}:PE X (.Constant (.str x) j pos) (tC (.str x)):=fun _ _ _ H _ I h=>Calls.Constant_str ⟨.str x,H,I.tok _,⟨_,rfl⟩,h⟩
theorem ay {x j pos}:QE X (.Constant (.str x) j pos) (tC (.str x)):=by
 delta QE at *
 exact Ph 
def Gl (X:Cx) (x:Str):Prop:=X.env.kindOf x=some .globalImplicit
theorem jq {E:Value->Shared->Prop}{ah:List (Addr × Obj)}{s:Shared}{σ : St}{H:Hp}{x:Str}{u:Value}{pos:Pos}{Q:Value->Shared->Prop} (I:Inv X ah σ H s) (hg:Gl X x) (hm:X.mg x=some u) (h:Q u s)
  (hd:(x == ("__debug__" : Str))=false:=by decide):wpAny (model X.prog X.w) X.A (eval (.Name x pos) X.env) Q E s :=
 r9 I.ok.kind hg (Calls.loadGlobal_global (by rw[I.ok.glob];exact I.mod.glob.keeps I.bk) hm h) hd
theorem wI {E:Value->Shared->Prop}{ah:List (Addr × Obj)}{s:Shared}{σ : St}{H:Hp}{x:Str}{u:Value}{pos:Pos}{Q:Value->Shared->Prop} (I:Inv X ah σ H s) (hg:Gl X x) (hm:X.mg x=none) (hv:bootBuiltins x=some u) (h:Q u s)
  (hn:x ≠ "__name__" := by decide) (hd:(x == ("__debug__" : Str))=false:=by decide):wpAny (model X.prog X.w) X.A (eval (.Name x pos) X.env) Q E s:=by
 obtain⟨mb,h1,h2⟩:=I.mod.blt
 exact r9 I.ok.kind hg (Calls.loadGlobal_builtin (by rw[I.ok.glob];exact I.mod.glob.keeps I.bk) hm (by rw[I.ok.blt];exact h1.keeps I.bk) ((h2 x hn).trans hv) h) hd
theorem Fv {x:Str}{v:V}{u:Value}{pos:Pos} (hg:Gl X x) (hm:X.mg x=some u) (r:RelV v u) (hd:(x == ("__debug__" : Str))=false:=by decide):PE X (.Name x pos) (tC v) :=
 fun _ _ _ H _ I h=>jq I hg hm ⟨v,H,I,r,h⟩ hd
theorem j4 {x:Str}{v:V}{u:Value}{pos:Pos} (hg:Gl X x) (hm:X.mg x=some u) (r:RelV v u) (hd:(x == ("__debug__" : Str))=false:=by decide):QE X (.Name x pos) (tC v):=by
 delta QE at *
 exact Fv hg hm r hd
theorem W7 {x:Str}{v:V}{u:Value}{pos:Pos} (hg:Gl X x) (hm:X.mg x=none) (hv:bootBuiltins x=some u) (r:RelV v u) (hn:x ≠ "__name__" := by decide) (hd:(x == ("__debug__" : Str))=false:=by decide):PE X (.Name x pos) (tC v) :=
 fun _ _ _ H _ I h=>wI I hg hm hv ⟨v,H,I,r,h⟩ hn hd
theorem tw {x:Str}{v:V}{u:Value}{pos:Pos} (hg:Gl X x) (hm:X.mg x=none) (hv:bootBuiltins x=some u) (r:RelV v u) (hn:x ≠ "__name__" := by decide) (hd:(x == ("__debug__" : Str))=false:=by decide):QE X (.Name x pos) (tC v):=by
 delta QE at *
 exact W7 hg hm hv r hn hd
variable {a b:Expr}{ta tb:TE}{pos:Pos}
def PC (X:Cx) (op:CmpOp) (a b:Expr) (t:TE):Prop :=
 ∀ (ah:List (Addr × Obj)) (s:Shared) (σ : St) (H:Hp) (Q:VK),Inv X ah σ H s->t σ H Q ->
  wpAny (model X.prog X.w) X.A (eval a X.env) (fun v fg => wpAny (model X.prog X.w) X.A (eval b X.env) (fun u lV => wpAny (model X.prog X.w) X.A (compareOp op v u) (EP X ah σ Q) X.xe lV) X.xe fg) X.xe s
@[irreducible]
def QC (X:Cx) (op:CmpOp) (a b:Expr) (t:TE):Prop:=PC X op a b t
inductive abI (Q:Bool->Hp->Prop) (x:V) (H1:Hp):Prop
 | mk:∀ c,(x = .bl c)->(Q c H1)->abI Q x H1
def tB (t:TE):TT:=fun σ H Q=>t σ H fun x H1=>abI Q x H1
theorem YI {op:CmpOp}{t:TE} (h:PC X op a b t) (h1:behindInMarks op b=false:=by first | exact SY _ (by decide) (by decide) | rfl):PT X (.Compare a [op] [b] pos) (tB t):=by
 intro ah s σ H Q I hw
 refine wpAny_isTrue_Compare1 (cz (h ah s σ H _ I hw) fun v s1 h1=>cz h1 fun u s2 h2=>cz h2 fun c s3 ⟨x,H1,I1,r1,q1⟩ => ?_) h1
 obtain⟨d,rfl,q⟩:=q1
 cases r1
 exact wpAny_truthy_bool ⟨H1,I1,q⟩
theorem WH {op:CmpOp}{t:TE} (h:QC X op a b t) (h1:behindInMarks op b=false:=by first | exact SY _ (by decide) (by decide) | rfl):QT X (.Compare a [op] [b] pos) (tB t):=by
 delta QC QT at *
 exact YI h h1
theorem YG {e:Expr}{t:TE} (h:PE X e t) (he:∀ mL,isTrue e X.env mL=(do let v <- mL;standAt e.pos;holding [v] (truthy v)):=by intro _;rfl):PT X e (tB t):=by
 intro ah s σ H Q I hw
 refine isTrue_plain (cz (h ah s σ H _ I hw) fun v s1 ⟨x,H1,I1,r1,q1⟩ => ?_) (he _)
 obtain⟨d,rfl,q⟩:=q1
 cases r1
 exact wpAny_truthy_bool ⟨H1,I1,q⟩
theorem lK {e:Expr}{t:TE} (h:QE X e t) (he:∀ mL,isTrue e X.env mL=(do let v <- mL;standAt e.pos;holding [v] (truthy v)):=by intro _;rfl):QT X e (tB t):=by
 delta QE QT at *
 exact YG h he
variable {tA Gz:TT}{rest:List Expr}
def Yo (t u:TT):TT:=fun σ H Q=>t σ H fun c H1=>if c=true then u σ H1 Q else Q false H1
def tOr (t u:TT):TT:=fun σ H Q=>t σ H fun c H1=>if c=true then Q true H1 else u σ H1 Q
def Yj (t:TT):TT:=fun σ H Q=>t σ H fun c H1=>Q (!c) H1
theorem pw_and1 (ha:PT X a tA):PW X (.BoolOp .And [a] pos) tA:=by
 intro wh ah s σ H Q I h
 refine isTrue_and (cz (ha ah s σ H Q I h) fun c s1 e => ?_)
 cases c with
 | true=>exact isTrue_and_nil e
 | false=>exact e
theorem pw_and1Q (ha:QT X a tA):QW X (.BoolOp .And [a] pos) tA:=by
 delta QT QW at *
 exact pw_and1 ha
theorem pw_or1 (ha:PT X a tA):PW X (.BoolOp .Or [a] pos) tA:=by
 intro wh ah s σ H Q I h
 refine isTrue_or (cz (ha ah s σ H Q I h) fun c s1 e => ?_)
 cases c with
 | false=>exact isTrue_or_nil e
 | true=>exact e
theorem pw_or1Q (ha:QT X a tA):QW X (.BoolOp .Or [a] pos) tA:=by
 delta QT QW at *
 exact pw_or1 ha
theorem pw_and (ha:PT X a tA) (hb:PW X (.BoolOp .And (b :: rest) pos) Gz):PW X (.BoolOp .And (a :: b :: rest) pos) (Yo tA Gz):=by
 intro wh ah s σ H Q I h
 refine isTrue_and (cz (ha ah s σ H _ I h) fun c s1 ⟨H1,I1,q1⟩ => ?_)
 cases c with
 | true=>exact hb wh ah s1 σ H1 Q I1 q1
 | false=>exact⟨H1,I1,q1⟩
theorem pw_andQ (ha:QT X a tA) (hb:QW X (.BoolOp .And (b :: rest) pos) Gz):QW X (.BoolOp .And (a :: b :: rest) pos) (Yo tA Gz):=by
 delta QT QW at *
 exact pw_and ha hb
theorem pw_or (ha:PT X a tA) (hb:PW X (.BoolOp .Or (b :: rest) pos) Gz):PW X (.BoolOp .Or (a :: b :: rest) pos) (tOr tA Gz):=by
 intro wh ah s σ H Q I h
 refine isTrue_or (cz (ha ah s σ H _ I h) fun c s1 ⟨H1,I1,q1⟩ => ?_)
 cases c with
 | true=>exact⟨H1,I1,q1⟩
 | false=>exact hb wh ah s1 σ H1 Q I1 q1
theorem pw_orQ (ha:QT X a tA) (hb:QW X (.BoolOp .Or (b :: rest) pos) Gz):QW X (.BoolOp .Or (a :: b :: rest) pos) (tOr tA Gz):=by
 delta QT QW at *
 exact pw_or ha hb
theorem YH (ha:PT X a tA):PT X (.UnaryOp .Not a pos) (Yj tA):=by
 intro ah s σ H Q I h
 exact isTrue_not (ha ah s σ H (fun c H1=>Q (!c) H1) I h)
theorem sM (ha:QT X a tA):QT X (.UnaryOp .Not a pos) (Yj tA):=by
 delta QT at *
 exact YH ha
def UL (ta tb:TE):TE:=fun σ H Q=>ta σ H fun x H1=>∃ c,x = .bl c∧if c=true then tb σ H1 Q else Q (.bl false) H1
theorem YY {op}{t:TE} (h:PE X a t):PE X (.BoolOp op [a] pos) t:=fun ah s σ H Q I hw=>BoolOp_one (h ah s σ H Q I hw)
theorem WY {op}{t:TE} (h:QE X a t):QE X (.BoolOp op [a] pos) t:=by
 delta QE at *
 exact YY h
theorem Y4 (ha:PE X a ta) (hb:PE X (.BoolOp .And (b :: rest) pos) tb):PE X (.BoolOp .And (a :: b :: rest) pos) (UL ta tb):=by
 intro ah s σ H Q I h
 refine BoolOp_and (cz (ha ah s σ H _ I h) fun v s1 ⟨x,H1,I1,r1,q1⟩ => ?_)
 obtain⟨c,rfl,q1⟩:=q1
 cases r1
 refine wpAny_truthy_bool ?_
 cases c with
 | true=>exact hb ah s1 σ H1 Q I1 q1
 | false=>exact⟨.bl false,H1,I1,rfl,q1⟩
theorem W8 (ha:QE X a ta) (hb:QE X (.BoolOp .And (b :: rest) pos) tb):QE X (.BoolOp .And (a :: b :: rest) pos) (UL ta tb):=by
 delta QE at *
 exact Y4 ha hb
end
def b6 (K:aj) (H:Hp) (a:Addr) (xs:List V):Prop :=
 Rd H a (.lst xs) ∨
  ∃ (o:Obj) (its:Array Value) (n:Nat),K.lookup a=some o∧o.cls = .type "list" ∧ o.dict=none∧o.data = .seq its n∧its.size<=sizeLine∧Vals xs its.toList
def aU (K:aj) (H:Hp) (a:Addr) (xs:List V):Prop :=
 Rd H a (.tup xs) ∨
  ∃ (o:Obj) (its:Array Value) (n:Nat),K.lookup a=some o∧o.cls = .type "tuple" ∧ o.data = .seq its n∧its.size<=sizeLine∧Vals xs its.toList
def afl:Value->Option V
 | .none=>some .b9
 | .bool b=>some (.bl b)
 | .int i _=>some (.int i)
 | .str x _=>some (.str x)
 | .bytes b _=>some (.vg b)
 | .float b _=>some (.Kd b)
 | .ref a=>some (.ref a)
 | .type n=>some (.ty n)
 | _=>none
theorem RelV.abs {x:V}{u:Value} (r:RelV x u):afl u=some x:=by
 cases x with
 | b9=>cases r;rfl
 | bl _=>cases r;rfl
 | int _=>obtain⟨t,rfl⟩:=r;rfl
 | str _=>obtain⟨t,rfl⟩:=r;rfl
 | vg _=>obtain⟨t,rfl⟩:=r;rfl
 | Kd _=>obtain⟨t,rfl⟩:=r;rfl
 | ref _=>cases r;rfl
 | ty _=>cases r;rfl
theorem RelV.inj {x y:V}{u:Value} (r:RelV x u) (q:RelV y u):x=y:=bD (r.abs.symm.trans q.abs)
theorem Vals.inj:∀ {xs ys:List V}{us:List Value},Vals xs us->Vals ys us->xs=ys
 | _,_,_,.nil,.nil=>rfl
 | _,_,_,.cons r t,.cons r' t'=>by rw[r.inj r',Vals.inj t t']
section
variable {X:Cx}{ah:List (Addr × Obj)}{σ : St}{H:Hp}{s:Shared}{a:Addr}{xs ys:List V}
theorem b6.of {K:aj} (h:H a=some (.lst xs)):b6 K H a xs := .inl (.inl h)
theorem aU.of {K:aj} (h:H a=some (.tup xs)):aU K H a xs := .inl (.inl h)
theorem Inv.list (I:Inv X ah σ H s) (h:b6 X.K H a xs):∃ its:List Value,Vals xs its∧PlainL s.heap a its.toArray∧xs.length<=sizeLine:=by
 rcases h with h | ⟨o,its,n,hk,hc,hd,hs,hz,r⟩
 ·obtain⟨z,its,n,r,e⟩:=h.ok I.br
  exact⟨its,r,⟨_,n,e,rfl,rfl,rfl⟩,z⟩
 ·refine⟨its.toList,r,⟨o,n,I.gL a o hk,hc,hd,by simpa using hs⟩,?_⟩
  have e:=r.length
  simp only[l9]at e
  omega
theorem Inv.tuple (I:Inv X ah σ H s) (h:aU X.K H a xs):∃ its:List Value,Vals xs its∧IsTup s.heap a its.toArray∧xs.length<=sizeLine:=by
 rcases h with h | ⟨o,its,n,hk,hc,hs,hz,r⟩
 ·obtain⟨z,its,r,p⟩:=h.ok I.br
  exact⟨its,r,p.tup,z⟩
 ·refine⟨its.toList,r,⟨o,I.gL a o hk,hc,n,by simpa using hs⟩,?_⟩
  have e:=r.length
  simp only[l9]at e
  omega
theorem Inv.JG (I:Inv X ah σ H s) (h:b6 X.K H a xs) (h':b6 X.K H a ys):xs=ys:=by
 obtain⟨its,r,⟨o,n,e,_,_,d⟩,_⟩:=I.list h
 obtain⟨its',r',⟨o',n',e',_,_,d'⟩,_⟩:=I.list h'
 rw[e]at e';cases e'
 rw[d]at d'
 injection d' with d1 _
 have:its=its':=by simpa using congrArg Array.toList d1
 subst this
 exact r.inj r'
theorem Inv.OG (I:Inv X ah σ H s) (h:aU X.K H a xs) (h':aU X.K H a ys):xs=ys:=by
 obtain⟨its,r,⟨o,e,_,n,d⟩,_⟩:=I.tuple h
 obtain⟨its',r',⟨o',e',_,n',d'⟩,_⟩:=I.tuple h'
 rw[e]at e';cases e'
 rw[d]at d'
 injection d' with d1 _
 have:its=its':=by simpa using congrArg Array.toList d1
 subst this
 exact r.inj r'
end
abbrev Cx.rB (X:Cx) (E:Value->Shared->Prop):Cx := { X with xe:=E }
abbrev Cx.yR (X:Cx):Cx:=X.rB fun _ _=>False
theorem Cx.Ok.rB {X:Cx} (ok:X.Ok) (E:Value->Shared->Prop):(X.rB E).Ok :=
 ⟨ok.mod,ok.kind,ok.glob,ok.blt,ok.above,ok.inj,ok.has,ok.He,ok.hd,ok.frames,ok.IB,ok.Qz,ok.bs,ok.wW,ok.zV,ok.C7,ok.nu,ok.Ar⟩
theorem Cx.Ok.lD {X:Cx}{E:Value->Shared->Prop} (ok:(X.rB E).Ok):X.Ok :=
 ⟨ok.mod,ok.kind,ok.glob,ok.blt,ok.above,ok.inj,ok.has,ok.He,ok.hd,ok.frames,ok.IB,ok.Qz,ok.bs,ok.wW,ok.zV,ok.C7,ok.nu,ok.Ar⟩
section
variable {X:Cx}{ah:List (Addr × Obj)}{σ : St}{H:Hp}{s:Shared}{E:Value->Shared->Prop}
theorem Inv.rB (I:Inv X ah σ H s) (E:Value->Shared->Prop):Inv (X.rB E) ah σ H s:=⟨I.ok.rB E,I.os,I.bare,I.base,I.loc,I.cell,I.free,I.mY,I.pin,I.br,I.len⟩
theorem Inv.lD (I:Inv (X.rB E) ah σ H s):Inv X ah σ H s:=⟨I.ok.lD,I.os,I.bare,I.base,I.loc,I.cell,I.free,I.mY,I.pin,I.br,I.len⟩
theorem SP.lD {D:Ends}{f:Flow} {s':Shared} (h:SP (X.rB E) ah D f s'):SP X ah D f s':=by
 cases f with
 | next=>obtain⟨bC,H',I,q⟩:=h;exact⟨bC,H',I.lD,q⟩
 | brk=>obtain⟨bC,H',I,q⟩:=h;exact⟨bC,H',I.lD,q⟩
 | cont=>obtain⟨bC,H',I,q⟩:=h;exact⟨bC,H',I.lD,q⟩
 | ret u=>obtain⟨v, bC,H',I,r,q⟩:=h;exact⟨v, bC,H',I.lD,r,q⟩
theorem k4.yR {st:List Stmt}{t:TS} (h:k4 X.yR st t):k4 X st t:=fun ah s σ H D I hw =>
 wpAny_mono (h ah s σ H D (I.rB _) hw) (fun _ _ q=>q.lD) fun _ _ z=>cj z
end
section
variable {X:Cx}{st:Stmt}{rest:List Stmt}{t u:TS}{e:Expr}{te:TE}{pos:Pos}
def fe:TS:=fun D σ H=>D.nx σ H
def oS (t u:TS):TS:=fun D σ H=>t { D with nx:=u D } σ H
theorem WL:k4 X [] fe:=fun _ _ σ H _ I h=>wpAny_execs_nil ⟨σ,H,I,h⟩
theorem aJ:iJ X [] fe:=by
 delta iJ at *
 exact WL 
theorem Sd (h1:PS X st t) (h2:k4 X rest u):k4 X (st :: rest) (oS t u):=by
 intro ah s σ H D I h
 refine wpAny_execs_cons (cz (h1 ah s σ H { D with nx:=u D } I h) fun f s1 q => ?_)
 cases f with
 | next =>
  obtain⟨bC,H',I',q⟩:=q
  exact h2 ah s1 bC H' D I' q
 | ret v=>exact q
 | brk=>exact q
 | cont=>exact q
theorem ao (h1:QS X st t) (h2:iJ X rest u):iJ X (st :: rest) (oS t u):=by
 delta QS iJ at *
 exact Sd h1 h2
theorem WK (h1:PS X st t):k4 X [st] t:=by
 intro ah s σ H D I h
 refine wpAny_execs_cons (cz (h1 ah s σ H D I h) fun f s1 q => ?_)
 cases f with
 | next=>exact wpAny_execs_nil q
 | ret v=>exact q
 | brk=>exact q
 | cont=>exact q
theorem aw (h1:QS X st t):iJ X [st] t:=by
 delta QS iJ at *
 exact WK h1
theorem Inv.quiet {ah:List (Addr × Obj)}{σ : St}{H:Hp}{s:Shared} (I:Inv X ah σ H s):interactive X.env=false:=by simp[interactive,I.ok.kind]
def UK (te:TE):TS:=fun D σ H=>te σ H fun _ H1=>D.nx σ H1
theorem WQ (he:PE X e te) (hs:swapsWith e none pos.line X.env=pure false:=by rfl):PS X (.Expr e pos) (UK te):=by
 intro ah s σ H D I h
 exact wpAny_Expr_any (cz (he ah s σ H _ I h) fun v s1 ⟨x,H1,I1,r1,q1⟩=>⟨σ,H1,I1,q1⟩) I.quiet hs
theorem fh (he:QE X e te) (hs:swapsWith e none pos.line X.env=pure false:=by rfl):QS X (.Expr e pos) (UK te):=by
 delta QE QS at *
 exact WQ he hs
def RS (te:TE):TS:=fun D σ H=>te σ H D.rt
theorem YL (he:PE X e te):PS X (.Return (some e) pos) (RS te):=by
 intro ah s σ H D I h
 exact wpAny_Return_some (cz (he ah s σ H _ I h) fun v s1 ⟨x,H1,I1,r1,q1⟩=>⟨x, σ,H1,I1,r1,q1⟩)
theorem aW (he:QE X e te):QS X (.Return (some e) pos) (RS te):=by
 delta QE QS at *
 exact YL he
def E3 (c:TT) (t u:TS):TS:=fun D σ H=>c σ H fun b H1=>if b=true then t D σ H1 else u D σ H1
theorem abT {c:Expr}{a b:List Stmt}{tc:TT} (hc:PT X c tc) (ha:k4 X a t) (hb:k4 X b u):PS X (.If c a b pos) (E3 tc t u):=by
 intro ah s σ H D I h
 refine wpAny_If (cz (hc ah s σ H _ I h) fun d s1 ⟨H1,I1,q1⟩ => ?_)
 cases d with
 | true=>exact ha ah s1 σ H1 D I1 q1
 | false=>exact hb ah s1 σ H1 D I1 q1
theorem a6 {c:Expr}{a b:List Stmt}{tc:TT} (hc:QT X c tc) (ha:iJ X a t) (hb:iJ X b u):QS X (.If c a b pos) (E3 tc t u):=by
 delta QS iJ QT at *
 exact abT hc ha hb
def OL:TS:=fun _ _ _=>False
theorem Sk:PS X st OL:=fun _ _ _ _ _ _ h=>h.elim
theorem mn:QS X st OL:=by
 delta QS at *
 exact Sk 
end
abbrev TG:=V->St->Hp->(St->Hp->Prop)->Prop
abbrev AM:=List V->St->Hp->(St->Hp->Prop)->Prop
def PG (X:Cx) (ku:Expr) (t:TG):Prop :=
 ∀ (ah:List (Addr × Obj)) (s:Shared) (σ : St) (H:Hp) (v:V) (u:Value) (Q:St->Hp->Prop),Inv X ah σ H s->RelV v u->t v σ H Q ->
  wpAny (model X.prog X.w) X.A (assign ku X.env u) (fun _ s'=>∃ bC H',Inv X ah bC H' s'∧Q bC H') X.xe s
@[irreducible]
def QG (X:Cx) (ku:Expr) (t:TG):Prop:=PG X ku t
def KD (X:Cx) (ts:List Expr) (t:AM):Prop :=
 ∀ (ah:List (Addr × Obj)) (s:Shared) (σ : St) (H:Hp) (vs:List V) (us:List Value) (Q:St->Hp->Prop),Inv X ah σ H s->Vals vs us->t vs σ H Q ->
  wpAny (model X.prog X.w) X.A (assignInOrder ((assignEach ts X.env).map (·.2)) us) (fun _ s'=>∃ bC H',Inv X ah bC H' s'∧Q bC H') X.xe s
abbrev MN:=V->V->Hp->VK->Prop
def V4 (X:Cx) (op:Operator) (t:MN):Prop :=
 ∀ (ah:List (Addr × Obj)) (s:Shared) (σ : St) (H:Hp) (x y:V) (v u:Value) (Q:VK),Inv X ah σ H s->RelV x v->RelV y u->t x y H Q ->
  wpAny (model X.prog X.w) X.A (inplaceOp op v u) (EP X ah σ Q) X.xe s
section
variable {X:Cx}{pos:Pos}
def bc (i:Nat):TG:=fun v σ H Q=>Q (σ.set i (some v)) H
theorem WX {i:Nat}{x:Str} (hN:X.N.Nodup) (hi:X.N[i]? = some x) (hx:Loc X.env.scope x) (hf:X.fn x=true∨X.env.scope.names.lookup x=some .local:=by first | exact .inl rfl | exact .inr rfl | assumption):PG X (.Name x pos) (bc i):=by
 intro ah s σ H v u Q I r h
 exact wpAny_assign_Name (sU I hN hi hx r (fun s' I'=>⟨_,H,I',h⟩) hf)
theorem dI {i:Nat}{x:Str} (hN:X.N.Nodup) (hi:X.N[i]? = some x) (hx:Loc X.env.scope x) (hf:X.fn x=true∨X.env.scope.names.lookup x=some .local:=by first | exact .inl rfl | exact .inr rfl | assumption):QG X (.Name x pos) (bc i):=by
 delta QG at *
 exact WX hN hi hx hf
def aeX:AM:=fun vs σ H Q=>vs = []∧Q σ H
inductive M5 (t:TG) (u:AM) (vs:List V) (σ : St) (H:Hp) (Q:St->Hp->Prop):Prop
 | mk:∀ v r,(vs=v :: r)->(t v σ H fun bC H'=>u r bC H' Q)->M5 t u vs σ H Q
def VD (t:TG) (u:AM):AM:=fun vs σ H Q=>M5 t u vs σ H Q
theorem Ft:KD X [] aeX:=by
 intro ah s σ H vs us Q I r h
 obtain⟨e,h⟩:=h
 subst e
 cases r
 exact assignInOrder_nil ⟨σ,H,I,h⟩
theorem Sr {e:Expr}{es:List Expr}{t:TG}{u:AM} (h1:PG X e t) (h2:KD X es u)
  (hs:(assignEach (e :: es) X.env).map (·.2)=assign e X.env :: (assignEach es X.env).map (·.2):=by rfl):KD X (e :: es) (VD t u):=by
 intro ah s σ H vs us Q I r h
 obtain⟨v,vr,e1,h⟩:=h
 subst e1
 cases r with
 | cons r rr =>
  rw[hs]
  refine assignInOrder_cons (cz (h1 ah s σ H _ _ _ I r h) fun _ s1 ⟨Lq,H1,I1,q1⟩ => ?_)
  exact h2 ah s1 Lq H1 _ _ Q I1 rr q1
theorem oz {e:Expr}{es:List Expr}{t:TG}{u:AM} (h1:QG X e t) (h2:KD X es u)
  (hs:(assignEach (e :: es) X.env).map (·.2)=assign e X.env :: (assignEach es X.env).map (·.2):=by rfl):KD X (e :: es) (VD t u):=by
 delta QG at *
 exact Sr h1 h2 hs
inductive RD (K:aj) (n:Nat) (t:AM) (v:V) (σ : St) (H:Hp) (Q:St->Hp->Prop):Prop
 | mk:∀ a xs,(v = .ref a)->(aU K H a xs)->(xs.length=n)->(t xs σ H Q)->RD K n t v σ H Q
def aaT (K:aj) (n:Nat) (t:AM):TG:=fun v σ H Q=>RD K n t v σ H Q
theorem YU {es:List Expr}{k:Nat}{t:AM}{n:Nat} (hc:X.calm=true) (h:KD X es t)
  (hn:(assignEach es X.env).length=n:=by rfl) (kE:(assignEach es X.env).findIdx? (·.1)=none:=by rfl):PG X (.Tuple es k pos) (aaT X.K n t):=by
 intro ah s σ H v u Q I r hw
 obtain⟨a,xs,e1,hq,hl,hw⟩:=hw
 subst e1
 cases r
 obtain⟨its,rv,ht,hz⟩:=I.tuple hq
 refine assign_Tuple_tuple (I.ok.hd hc) ht (by simp[hn, <- hl,rv.length]) kE fun h' hx => ?_
 have I1:Inv X ah σ H { s with heap:=h' }:=I.kept (t':=s.toks) fun b o e=>hx b o (b7 (bq e)) e
 exact h ah _ σ H xs _ Q I1 (by simpa using rv) hw
theorem Fu {es:List Expr}{k:Nat}{t:AM}{n:Nat} (hc:X.calm=true) (h:KD X es t)
  (hn:(assignEach es X.env).length=n:=by rfl) (kE:(assignEach es X.env).findIdx? (·.1)=none:=by rfl):QG X (.Tuple es k pos) (aaT X.K n t):=by
 delta QG at *
 exact YU hc h hn kE
def zw (te:TE) (g:TG):TS:=fun D σ H=>te σ H fun x H1=>g x σ H1 D.nx
theorem YK {i:Nat}{x:Str}{e:Expr}{te:TE}{eu:Pos} (hN:X.N.Nodup) (hi:X.N[i]? = some x) (hx:Loc X.env.scope x) (he:PE X e te) (hs:swapsWith e (some (.Name x eu)) pos.line X.env=pure false:=by rfl) (hf:X.fn x=true∨X.env.scope.names.lookup x=some .local:=by first | exact .inl rfl | exact .inr rfl | assumption) :
  PS X (.Assign [.Name x eu] e pos) (zw te (bc i)):=by
 intro ah s σ H D I h
 refine wpAny_Assign_Name (cz (he ah s σ H _ I h) fun v s1 ⟨y,H1,I1,r1,q1⟩ => ?_) hs
 exact sU I1 hN hi hx r1 (fun s2 I2=>⟨_,H1,I2,q1⟩) hf
theorem aR {i:Nat}{x:Str}{e:Expr}{te:TE}{eu:Pos} (hN:X.N.Nodup) (hi:X.N[i]? = some x) (hx:Loc X.env.scope x) (he:QE X e te) (hs:swapsWith e (some (.Name x eu)) pos.line X.env=pure false:=by rfl) (hf:X.fn x=true∨X.env.scope.names.lookup x=some .local:=by first | exact .inl rfl | exact .inr rfl | assumption) :
  QS X (.Assign [.Name x eu] e pos) (zw te (bc i)):=by
 delta QE QS at *
 exact YK hN hi hx he hs hf
inductive Rr (i:Nat) (te:TE) (ti:MN) (D:Ends) (σ : St) (H:Hp):Prop
 | mk:∀ x,(σ[i]? = some (some x))->(te σ H fun y H1=>ti x y H1 fun z H2=>D.nx (σ.set i (some z)) H2)->Rr i te ti D σ H
def Yn (i:Nat) (te:TE) (ti:MN):TS:=fun D σ H=>Rr i te ti D σ H
theorem YO {i:Nat}{x:Str}{e:Expr}{te:TE}{op:Operator}{ti:MN}{eu:Pos} (hN:X.N.Nodup) (hi:X.N[i]? = some x) (hx:Loc X.env.scope x) (he:PE X e te) (ho:V4 X op ti) (hf:X.fn x=true∨X.env.scope.names.lookup x=some .local:=by first | exact .inl rfl | exact .inr rfl | assumption) :
  PS X (.AugAssign (.Name x eu) op e pos) (Yn i te ti):=by
 intro ah s σ H D I h
 obtain⟨v,e1,h⟩:=h
 obtain⟨m,hn,hl⟩:=I.loc
 have vis:Q6 X.env.scope x:=by rcases hx with k | k;exact .inl k;exact .inr (.inl k)
 obtain⟨u,r,l⟩:=hl i x v hi e1 vis
 refine wpAny_AugAssign_Name ?_
 have go:wpAny (model X.prog X.w) X.A (eval e X.env) (fun w lV => wpAny (model X.prog X.w) X.A (inplaceOp op u w) (fun r n5 => wpAny (model X.prog X.w) X.A (storeName X.env x r) (fun _=>SP X ah D .next) X.xe n5) X.xe lV) X.xe s:=by
  refine cz (he ah s σ H _ I h) fun w s1 ⟨y,H1,I1,r1,q1⟩ => ?_
  refine cz (ho ah s1 σ H1 v y u w _ I1 r r1 q1) fun z s2 ⟨zv,H2,I2,r2,q2⟩ => ?_
  exact sU I2 hN hi hx r2 (fun s3 I3=>⟨_,H2,I3,q2⟩) hf
 rcases l with⟨hk,hm⟩ | ⟨hk,c,hc,mV⟩
 ·exact wpAny_loadName_local I.ok.kind hk hn hm go
 ·rcases hk with hk | hk
  ·exact wpAny_loadName_cell I.ok.kind hk hc mV go
  ·rcases hx with k | k
   ·have:X.env.scope.names.lookup x=some .free:=hk
    rw[k]at this;cases this
   ·have:X.env.scope.names.lookup x=some .free:=hk
    rw[k]at this;cases this
theorem Fs {i:Nat}{x:Str}{e:Expr}{te:TE}{op:Operator}{ti:MN}{eu:Pos} (hN:X.N.Nodup) (hi:X.N[i]? = some x) (hx:Loc X.env.scope x) (he:QE X e te) (ho:V4 X op ti) (hf:X.fn x=true∨X.env.scope.names.lookup x=some .local:=by first | exact .inl rfl | exact .inr rfl | assumption) :
  QS X (.AugAssign (.Name x eu) op e pos) (Yn i te ti):=by
 delta QE QS at *
 exact YO hN hi hx he ho hf
def ipI (f:Int->Int->Int):MN:=fun x y H Q=>∃ i j,x = .int i∧y = .int j∧Q (.int (f i j)) H
theorem PY:V4 X .Add (ipI fun i j=>i+j):=by
 intro ah s σ H x y v u Q I r1 r2 h
 obtain⟨i,j,e1,e2,q⟩:=h
 subst e1;subst e2
 obtain⟨t,rfl⟩:=r1
 obtain⟨t',rfl⟩:=r2
 exact iadd_int ⟨.int _,H,I.tok _,⟨_,rfl⟩,q⟩
def OI (c:TT) (tb:TS):TS:=fun D σ H=>∃ W:Nat->St->Hp->Prop,(∃ m,W m σ H)∧∀ m σ H,W m σ H ->
 c σ H fun b H1=>if b=true then ∃ N:St->Hp->Prop,(∀ bC H',N bC H'->∃ m',m' < m∧W m' bC H')∧tb { D with nx:=N,ct:=N,bk:=D.nx } σ H1 else D.nx σ H1
theorem Se {c:Expr}{body:List Stmt}{tc:TT}{tb:TS} (hp:PassesOwn (model X.prog X.w) X.A X.env X.xe) (hc:PT X c tc) (hb:k4 X body tb):PS X (.While c body [] pos) (OI tc tb):=by
 intro ah s σ H D I h
 obtain⟨W,⟨m0,w0⟩,sR⟩:=h
 refine wpAny_While (codeAny_whileLoop (fun n s'=>∃ bC H',Inv X ah bC H' s'∧W n bC H') ?_ m0 ⟨σ,H,I,w0⟩)
 rintro n s1 ⟨Lq,H1,I1,w1⟩
 refine wpAny_passesOwn hp (cz (hc ah s1 Lq H1 _ I1 (sR n Lq H1 w1)) fun b s2 ⟨H2,I2,q2⟩ => ?_)
 cases b with
 | true =>
  obtain⟨N,hN,q2⟩:=q2
  rw[if_pos rfl]
  refine wpAny_passesOwn hp (cz (hb ah s2 Lq H2 _ I2 q2) fun f s3 q3 => ?_)
  cases f with
  | next =>
   obtain⟨zj,H3,I3,n3⟩:=q3
   obtain⟨m',hm,w3⟩:=hN zj H3 n3
   exact⟨m',hm, zj,H3,I3,w3⟩
  | cont =>
   obtain⟨zj,H3,I3,n3⟩:=q3
   obtain⟨m',hm,w3⟩:=hN zj H3 n3
   exact⟨m',hm, zj,H3,I3,w3⟩
  | brk=>exact q3
  | ret v=>exact q3
 | false =>
  rw[if_neg bM]
  exact wpAny_execs_nil ⟨Lq,H2,I2,q2⟩
theorem GI {c:Expr}{body:List Stmt}{tc:TT}{tb:TS} (hp:PassesOwn (model X.prog X.w) X.A X.env X.xe) (hc:QT X c tc) (hb:iJ X body tb):QS X (.While c body [] pos) (OI tc tb):=by
 delta QS iJ QT at *
 exact Se hp hc hb
end
structure It where
 go:Nat->Hp->Prop
 BX:Nat->Hp->V->Hp->Prop
 stop:Nat->Hp->Prop
def pN (X:Cx) (ah:List (Addr × Obj)) (H:Hp) (b:Addr):Prop :=
 H b=none∧b≠X.env.locals∧b ∉ X.fs∧(b∈X.ex∨X.ky.heap.objs.size<=b)∧(∀ x c,X.env.cells.lookup x=some c->c≠b)∧∀ p∈X.pn ++ ah,p.1≠b
theorem Inv.As {X:Cx}{ah:List (Addr × Obj)}{σ : St} {H H':Hp}{s:Shared}{b:Addr} (I:Inv X ah σ H s) (hb:s.heap.objs.size<=b) (hn:H' b=none):pN X ah H' b:=by
 refine⟨hn,kR (bS I.lt hb),I.aeh hb,.inr (a9 I.sz hb),fun x c e z => ?_,fun p hp z => ?_⟩
 ·obtain⟨v,q⟩:=I.cell x c e
  exact absurd (bS q.lt (by rw[z];exact hb)) (fB _)
 ·exact absurd (bS (bq (I.pin p hp).1) (by rw[z];exact hb)) (fB _)
structure Turn (P:Program) (w:World) (K:aj) (tg:Expr) (J:It) (fp:List Addr) (it:Addr) (tn:Nat->Heap->Prop):Prop where
 mem:it∈fp
 obj:∀ i h,tn i h->∀ b∈fp,∃ o,h.get? b=some o∧∀ v,o.data ≠ .cell v
 keep:∀ i h h',tn i h->(∀ b∈fp,∀ o,h.get? b=some o->h'.get? b=some o)->tn i h'
 item:∀ (X:Cx),X.prog=P->X.w=w->X.K=K->X.calm=true->∀ (i:Nat) (ah:List (Addr × Obj)) (s:Shared) (σ : St) (H:Hp) (E:Value->Shared->Prop),Inv X ah σ H s->(∀ b∈fp,pN X ah H b)->tn i s.heap->J.go i H ->
  wpAny (model P w) X.A (pyNext (.ref it)) (fun r s1=>∃ u,r=some u ∧
   wpAny (model P w) X.A (letOwnedTupleGo tg (.ref it) u) (fun _ s2=>∃ x H',Inv X ah σ H' s2∧RelV x u∧J.BX i H x H'∧tn (i+1) s2.heap∧∀ b∈fp,H' b=none) E s1) E s
 done:∀ (X:Cx),X.prog=P->X.w=w->X.K=K->X.calm=true->∀ (i:Nat) (ah:List (Addr × Obj)) (s:Shared) (σ : St) (H:Hp) (E:Value->Shared->Prop),Inv X ah σ H s->(∀ b∈fp,pN X ah H b)->tn i s.heap->J.stop i H ->
   wpAny (model P w) X.A (pyNext (.ref it)) (fun r s1=>r=none∧Inv X ah σ H s1) E s
 self:∀ (A:Around) (i:Nat) (s:Shared) (Q:Value->Shared->Prop) (E:Value->Shared->Prop),tn i s.heap->Q (.ref it) s->wpAny (model P w) A (pyIter (.ref it)) Q E s
abbrev TI:=St->Hp->(It->Hp->Prop)->Prop
def PIE (X:Cx) (ah:List (Addr × Obj)) (σ : St) (tg:Expr) (R:It->Hp->Prop) (Va:Value) (s2:Shared):Prop :=
 ∃ (it:Addr) (fp:List Addr) (tn:Nat->Heap->Prop) (J:It) (H':Hp),Va = .ref it∧Inv X ah σ H' s2∧Turn X.prog X.w X.K tg J fp it tn∧tn 0 s2.heap∧(∀ b∈fp,pN X ah H' b)∧R J H'
def PI (X:Cx) (tg c9:Expr) (wi:TI):Prop :=
 ∀ (ah:List (Addr × Obj)) (s:Shared) (σ : St) (H:Hp) (R:It->Hp->Prop),Inv X ah σ H s->wi σ H R ->
  wpAny (model X.prog X.w) X.A (eval c9 X.env) (fun v s1=>wpAny (model X.prog X.w) X.A (pyIter v) (PIE X ah σ tg R) X.xe s1) X.xe s
@[irreducible]
def QI (X:Cx) (tg c9:Expr) (wi:TI):Prop:=PI X tg c9 wi
theorem HW {M:Model}{A:Around}{E:Value->Shared->Prop}{s:Shared}{tg:Expr}{it:Addr}{u:Value}{o:Obj}{n:String}{vs:Array Value}{Q:Unit->Shared->Prop} (ho:s.heap.get? it=some o) (hc:o.cls = .type n) (hd:o.data = .fields vs)
  (hn : ["enumerate", "zip", "dict_itemiterator", "dict_reverseitemiterator", "odict_iterator", "itertools.zip_longest", "itertools.pairwise"].contains n=false) (hQ:Q () s):wpAny M A (letOwnedTupleGo tg (.ref it) u) Q E s:=by
 unfold letOwnedTupleGo
 cases tg <;> first
  | exact wpAny_pure hQ
  | (cases u <;> first
    | exact wpAny_pure hQ
    | (refine wpAny_bind (wpAny_load ho ?_)
       rw[hc,hd]
       show wpAny M A (if (["enumerate", "zip", "dict_itemiterator", "dict_reverseitemiterator", "odict_iterator", "itertools.zip_longest", "itertools.pairwise"].contains n && vs[0]? == some (rawInt _))=true then _ else _) Q E s
       rw[if_neg (by intro h;rw[hn,Bool.false_and]at h;cases h)]
       exact wpAny_pure hQ))
def M7 (K:aj) (a:Addr):It :=
 ⟨fun i H=>∃ xs x,b6 K H a xs∧xs[i]? = some x,fun i H x H'=>H'=H∧∀ xs,b6 K H a xs->xs[i]? = some x,fun i H=>∃ xs,b6 K H a xs∧xs.length<=i⟩
def M6 (K:aj) (a:Addr):It :=
 ⟨fun i H=>∃ xs x,aU K H a xs∧xs[i]? = some x,fun i H x H'=>H'=H∧∀ xs,aU K H a xs->xs[i]? = some x,fun i H=>∃ xs,aU K H a xs∧xs.length<=i⟩
def Hq (lo:Int) (n:Nat):It:=⟨fun i _=>i < n,fun i H x H'=>H'=H∧x = .int (lo+i),fun i _=>n<=i⟩
theorem OF {P:Program}{w:World}{K:aj}{tg:Expr} (a it:Addr):Turn P w K tg (M7 K a) [it] it (fun i h=>h.IsListIter it a i) where
 mem:=by simp
 obj:=fun i h st b hb=>by
  have e:b=it:=by simpa using hb
  subst e
  obtain⟨o,e,c,d⟩:=st
  exact⟨o,e,fun v z=>by rw[d]at z;cases z⟩
 keep:=fun i h h' st k=>st.at fun o e=>k it (by simp) o e
 item:=by
  intro X hP hw hK hc i ah s σ H E I hf st hg
  subst hP hw hK
  obtain⟨xs,x,hq,hx⟩:=hg
  obtain⟨its,rv,p,hz⟩:=I.list hq
  obtain⟨u,hu,ru⟩:=rv.get hx
  obtain⟨f0,f1,f2,f3,f4,f5⟩:=hf it (by simp)
  refine wpAny_pyNext_list_item st p.isList (x:=u) (by simpa using hu) fun h' oU sb => ?_
  have I1:Inv X ah σ H { s with heap:=h' }:=I.turned (t':=s.toks) (fun b o hb e=>(sb.2 b hb).trans e) f0 f1 f3 f4 f5
  obtain⟨o,e,c,d⟩:=id oU
  exact⟨u,rfl,HW (s := { s with heap:=h' }) e c d (by decide) ⟨x,H,I1,ru,⟨rfl,fun ys hy=>by rw[I.JG hy hq];exact hx⟩,oU,fun b hb=>(hf b hb).1⟩⟩
 done:=by
   intro X hP hw hK hc i ah s σ H E I hf st hg
   subst hP hw hK
   obtain⟨xs,hq,hx⟩:=hg
   obtain⟨its,rv,p,hz⟩:=I.list hq
   obtain⟨f0,f1,f2,f3,f4,f5⟩:=hf it (by simp)
   have hl:=rv.length
   exact wpAny_pyNext_list_end (I.ok.hd hc) st p.isList (by simp;omega) fun h' eb=>⟨rfl,I.turned (t':=s.toks) (fun b o hb e=>eb b o hb e) f0 f1 f3 f4 f5⟩
 self:=fun _ _ _ _ _ st h=>wpAny_pyIter_listiter st h
theorem Nc {P:Program}{w:World}{K:aj}{tg:Expr} (a it:Addr):Turn P w K tg (M6 K a) [it] it (fun i h=>h.IsTupleIter it a i) where
 mem:=by simp
 obj:=fun i h st b hb=>by
  have e:b=it:=by simpa using hb
  subst e
  obtain⟨o,e,c,d⟩:=st
  exact⟨o,e,fun v z=>by rw[d]at z;cases z⟩
 keep:=fun i h h' st k=>st.at fun o e=>k it (by simp) o e
 item:=by
  intro X hP hw hK hc i ah s σ H E I hf st hg
  subst hP hw hK
  obtain⟨xs,x,hq,hx⟩:=hg
  obtain⟨its,rv,p,hz⟩:=I.tuple hq
  obtain⟨u,hu,ru⟩:=rv.get hx
  obtain⟨f0,f1,f2,f3,f4,f5⟩:=hf it (by simp)
  refine wpAny_pyNext_tuple_item st (show s.heap.IsTuple a its.toArray from p) (x:=u) (by simpa using hu) fun h' oU sb => ?_
  have I1:Inv X ah σ H { s with heap:=h' }:=I.turned (t':=s.toks) (fun b o hb e=>(sb.2 b hb).trans e) f0 f1 f3 f4 f5
  obtain⟨o,e,c,d⟩:=id oU
  exact⟨u,rfl,HW (s := { s with heap:=h' }) e c d (by decide) ⟨x,H,I1,ru,⟨rfl,fun ys hy=>by rw[I.OG hy hq];exact hx⟩,oU,fun b hb=>(hf b hb).1⟩⟩
 done:=by
   intro X hP hw hK hc i ah s σ H E I hf st hg
   subst hP hw hK
   obtain⟨xs,hq,hx⟩:=hg
   obtain⟨its,rv,p,hz⟩:=I.tuple hq
   obtain⟨f0,f1,f2,f3,f4,f5⟩:=hf it (by simp)
   have hl:=rv.length
   exact wpAny_pyNext_tuple_end (I.ok.hd hc) st (show s.heap.IsTuple a its.toArray from p) (by simp;omega) fun h' eb=>⟨rfl,I.turned (t':=s.toks) (fun b o hb e=>eb b o hb e) f0 f1 f3 f4 f5⟩
 self:=fun _ _ _ _ _ st h=>wpAny_pyIter_tupleiter st h
theorem Nd {P:Program}{w:World}{K:aj}{tg:Expr} (it:Addr) (lo:Int) (n:Nat):Turn P w K tg (Hq lo n) [it] it (fun i h=>IsRangeIter h it (lo+(i:Nat) * 1) ((n:Int) - (i:Nat)) 1) where
 mem:=by simp
 obj:=fun i h st b hb=>by
  have e:b=it:=by simpa using hb
  subst e
  exact⟨_,st,fun v z=>by
   have z':Cp _=Hs v:=z
   cases z'⟩
 keep:=fun i h h' st k=>k it (by simp) _ st
 item:=by
  intro X hP hw hK hc i ah s σ H E I hf st hg
  subst hP hw hK
  obtain⟨f0,f1,f2,f3,f4,f5⟩:=hf it (by simp)
  have W:=Walks.range (prog:=X.prog) (w:=X.w) (I.ok.hd hc) it lo 1 n
  refine W.item i s _ _ hg st fun v h' tk hv oU kk => ?_
  obtain⟨t,rfl⟩:=hv
  have I1:Inv X ah σ H { s with heap:=h',toks:=tk }:=I.turned (fun b o hb e=>kk b o (by simpa using hb) e) f0 f1 f3 f4 f5
  refine⟨_,rfl,HW (s := { s with heap:=h',toks:=tk }) (n := "range_iterator") oU rfl rfl (by decide) ⟨.int (lo+i),H,I1,⟨t,?_⟩,⟨rfl,rfl⟩,oU,fun b hb=>(hf b hb).1⟩⟩
  rw[Int.mul_one]
 done:=by
   intro X hP hw hK hc i ah s σ H E I hf st hg
   subst hP hw hK
   obtain⟨f0,f1,f2,f3,f4,f5⟩:=hf it (by simp)
   exact wpAny_pyNext_range_end (I.ok.hd hc) st (by have:n<=i:=hg;omega) fun h' eb=>⟨rfl,I.turned (t':=s.toks) (fun b o hb e=>eb b o hb e) f0 f1 f3 f4 f5⟩
 self:=fun _ _ _ _ _ st h=>wpAny_pyIter_rangeiter st h
section
variable {X:Cx}{tg:Expr}
inductive M4 (K:aj) (R:It->Hp->Prop) (x:V) (H1:Hp):Prop
 | mk:∀ a,(x = .ref a)->((∃ xs,b6 K H1 a xs))->(R (M7 K a) H1)->M4 K R x H1
def Vd (K:aj) (tl:TE):TI:=fun σ H R=>tl σ H fun x H1=>M4 K R x H1
inductive RC (K:aj) (R:It->Hp->Prop) (x:V) (H1:Hp):Prop
 | mk:∀ a,(x = .ref a)->((∃ xs,aU K H1 a xs))->(R (M6 K a) H1)->RC K R x H1
def ZR (K:aj) (tl:TE):TI:=fun σ H R=>tl σ H fun x H1=>RC K R x H1
theorem WW {l:Expr}{tl:TE} (hl:PE X l tl):PI X tg l (Vd X.K tl):=by
 intro ah s σ H R I h
 refine cz (hl ah s σ H _ I h) fun v s1 ⟨x,H1,I1,r1,q1⟩ => ?_
 obtain⟨a,e,⟨xs,hq⟩,q⟩:=q1
 subst e
 cases r1
 obtain⟨its,rv,p,hz⟩:=I1.list hq
 refine wpAny_pyIter_list p.isList ?_
 refine⟨s1.heap.objs.size, [s1.heap.objs.size],_,_,H1,rfl,I1.kept (t':=s1.toks) fun b o e=>aN _ e,OF a _,⟨_,bW _ rfl,rfl,rfl⟩,fun b hb => ?_,q⟩
 have e:b=s1.heap.objs.size:=by simpa using hb
 subst e
 exact I1.As (aB _) (I1.br.fresh (aB _))
theorem k9 {l:Expr}{tl:TE} (hl:QE X l tl):QI X tg l (Vd X.K tl):=by
 delta QE QI at *
 exact WW hl
theorem YS {l:Expr}{tl:TE} (hl:PE X l tl):PI X tg l (ZR X.K tl):=by
 intro ah s σ H R I h
 refine cz (hl ah s σ H _ I h) fun v s1 ⟨x,H1,I1,r1,q1⟩ => ?_
 obtain⟨a,e,⟨xs,hq⟩,q⟩:=q1
 subst e
 cases r1
 obtain⟨its,rv,p,hz⟩:=I1.tuple hq
 refine wpAny_pyIter_tuple (show s1.heap.IsTuple a its.toArray from p) ?_
 refine⟨s1.heap.objs.size, [s1.heap.objs.size],_,_,H1,rfl,I1.kept (t':=s1.toks) fun b o e=>aN _ e,Nc a _,⟨_,bW _ rfl,rfl,rfl⟩,fun b hb => ?_,q⟩
 have e:b=s1.heap.objs.size:=by simpa using hb
 subst e
 exact I1.As (aB _) (I1.br.fresh (aB _))
theorem wz {l:Expr}{tl:TE} (hl:QE X l tl):QI X tg l (ZR X.K tl):=by
 delta QE QI at *
 exact YS hl
theorem Sa {ah:List (Addr × Obj)}{σ : St}{H:Hp}{s:Shared}{R:It->Hp->Prop}{E:Value->Shared->Prop}{lo hi:Int}{t u v:Tok}{tk:Nat} (I:Inv X ah σ H s) (h1 : -(2 ^ 62)<=lo) (h2:lo < 2 ^ 62) (h3 : -(2 ^ 62)<=hi) (h4:hi < 2 ^ 62)
  (q:R (Hq lo (hi - lo).toNat) H):wpAny (model X.prog X.w) X.A (pyIter (.ref s.heap.objs.size)) (PIE X ah σ tg R) E { s with heap:=s.heap.push { cls := .type "range",data := .fields #[.int lo t,.int hi u,.int 1 v] },toks:=tk }:=by
 refine wpAny_pyIter_range (IsRange.new ..) (small_one h1 h2 h3 h4) ?_
 have I1:Inv X ah σ H { s with heap:=s.heap.push { cls := .type "range",data := .fields #[.int lo t,.int hi u,.int 1 v] },toks:=tk }:=I.kept fun b o e=>aN _ e
 refine⟨(s.heap.push { cls := .type "range",data := .fields #[.int lo t,.int hi u,.int 1 v] }).objs.size, [(s.heap.push { cls := .type "range",data := .fields #[.int lo t,.int hi u,.int 1 v] }).objs.size],_,_,H,rfl,
  I1.kept (t':=tk) fun b o e=>aN _ e,Nd _ lo (hi - lo).toNat,?_,fun b hb => ?_,q⟩
 ·have e1:lo+((0:Nat):Int) * 1=lo:=by simp
  have e2:(((hi - lo).toNat:Nat):Int) - ((0:Nat):Int)=Builtin.Range.rangeSize lo hi 1:=by rw[rangeSize_one];split <;> omega
  show IsRangeIter _ _ (lo+((0:Nat):Int) * 1) ((((hi - lo).toNat:Nat):Int) - ((0:Nat):Int)) 1
  rw[e1,e2]
  exact bW _ rfl
 ·have e:b=(s.heap.push { cls := .type "range",data := .fields #[.int lo t,.int hi u,.int 1 v] }).objs.size:=by simpa using hb
  subst e
  exact I1.As (aB _) (I1.br.fresh (aB _))
inductive M3 (R:It->Hp->Prop) (vs:List V) (H1:Hp):Prop
 | mk:∀ (j:Int),(vs = [.int j])->(-(2 ^ 62)<=j)->(j < 2 ^ 62)->(R (Hq 0 j.toNat) H1)->M3 R vs H1
def Vc (ta:TA):TI:=fun σ H R=>ta σ H fun vs H1=>M3 R vs H1
theorem Pe {a:Expr}{ta:TA}{p pos:Pos} (hg:Gl X "range") (hm:X.mg "range" = none) (ha:PA X [a] ta) (hs:starEach [a] X.env = [(false,eval a X.env)]:=by rfl):PI X tg (.Call (.Name "range" p) [a] [] pos) (Vc ta):=by
 intro ah s σ H R I h
 refine Call_ (wI I hg hm boot_range (kZ (cz (ha pos ah s σ H _ I h) fun us s1 ⟨vs,H1,I1,r1,q1⟩ => ?_) hs rfl))
 obtain⟨j,e,q1,q2,q⟩:=q1
 subst e
 cases r1 with
 | cons r rr =>
  cases rr
  obtain⟨t,rfl⟩:=r
  exact call_range_1 (Sa I1 (by omega) (by omega) q1 q2 (by simpa using q))
theorem o7 {a:Expr}{ta:TA}{p pos:Pos} (hg:Gl X "range") (hm:X.mg "range" = none) (ha:QA X [a] ta) (hs:starEach [a] X.env = [(false,eval a X.env)]:=by rfl):QI X tg (.Call (.Name "range" p) [a] [] pos) (Vc ta):=by
 delta QA QI at *
 exact Pe hg hm ha hs
def Yl (wi:TI) (g:TG) (tb:TS):TS:=fun D σ H=>wi σ H fun J H1=>∃ W:Nat->Nat->St->Hp->Prop,(∃ m,W 0 m σ H1)∧∀ i m σ H,W i m σ H ->
 (J.stop i H∧D.nx σ H)∨(J.go i H∧∃ N:St->Hp->Prop,(∀ bC H',N bC H'->∃ m',m' < m∧W (i+1) m' bC H')∧∀ x H',J.BX i H x H'->g x σ H' fun lC H2=>tb { D with nx:=N,ct:=N,bk:=D.nx } lC H2)
def zN (fp:List Addr) (h:Heap):List (Addr × Obj):=fp.filterMap fun b=>(h.get? b).map fun o=>(b,o)
theorem mT {fp:List Addr}{h:Heap}{b:Addr}{o:Obj} (hb:b∈fp) (e:h.get? b=some o):(b,o)∈zN fp h:=eP.mpr ⟨b,hb,by rw[e];rfl⟩
theorem Py {fp:List Addr}{h:Heap}{p:Addr × Obj} (hp:p∈zN fp h):p.1∈fp∧h.get? p.1=some p.2:=by
 obtain⟨b,hb,e⟩:=eP.mp hp
 cases q:h.get? b with
 | none=>rw[q]at e;cases e
 | some o =>
  rw[q]at e
  have e':(b,o)=p:=bD e
  subst e'
  exact⟨hb,q⟩
theorem Inv.pinned {ah:List (Addr × Obj)}{σ : St}{H:Hp}{s:Shared}{fp:List Addr} (I:Inv X ah σ H s) (hf:∀ b∈fp,pN X ah H b) (ho:∀ b∈fp,∃ o,s.heap.get? b=some o∧∀ v,o.data ≠ .cell v):Inv X (ah ++ zN fp s.heap) σ H s :=
 I.LY fun p hp=>(aZ.mp hp).elim (fun z=>I.pin p (cg _ z)) fun z=>by
  obtain⟨hb,e⟩:=Py z
  obtain⟨f0,f1,f2,_⟩:=hf p.1 hb
  obtain⟨o,e',d⟩:=ho p.1 hb
  rw[e]at e';cases e'
  exact⟨e,f0,f1,f2,d⟩
theorem Inv.pZ {ah pl:List (Addr × Obj)}{σ : St}{H:Hp}{s:Shared} (I:Inv X (ah ++ pl) σ H s):Inv X ah σ H s:=I.LY fun p hp=>I.pin p (cg _ (lz _ hp))
theorem YM {c9:Expr}{body:List Stmt}{wi:TI}{g:TG}{tb:TS}{pos:Pos} (hp:PassesOwn (model X.prog X.w) X.A X.env X.xe) (hc:X.calm=true) (hi:PI X tg c9 wi) (hg:PG X tg g) (hb:k4 X body tb)
  (hs:∀ x,foldedSetIterable c9 X.env x=pure x:=by intro _;rfl):PS X (.For tg c9 body [] pos) (Yl wi g tb):=by
 intro ah s σ H D I h
 refine wpAny_For (cz (hi ah s σ H _ I h) fun v s1 h1=>cz h1 fun Va s2 h2 => ?_) hs
 obtain⟨it,fp,tn,J,H2,e,I2,T,IC,f2,W,⟨m0,w0⟩,sR⟩:=h2
 subst e
 -- ahB ahx true of Ls ab9 Xr through Ls loop
 have stat:∀ {H':Hp},(∀ b∈fp,H' b=none)->∀ b∈fp,pN X ah H' b:=fun hn b hb=>⟨hn b hb,(f2 b hb).2⟩
 refine codeAny_forLoop_any (fun n s'=>∃ i bC H',Inv X ah bC H' s'∧tn i s'.heap∧(∀ b∈fp,H' b=none)∧W i n bC H') ?_ m0 ⟨0, σ,H2,I2,IC,fun b hb=>(f2 b hb).1,w0⟩
 rintro n s3 ⟨i, zj,H3,I3,st3,VE,w3⟩
 rcases sR i n zj H3 w3 with⟨stop,qn⟩ | ⟨go,N,hN,step⟩
 ·refine wpAny_passesOwn hp (cz (T.done X rfl rfl rfl hc i ah s3 zj H3 X.xe I3 (stat VE) st3 stop) fun r s4 ⟨hr,I4⟩ => ?_)
  subst hr
  exact wpAny_execs_nil ⟨zj,H3,I4,qn⟩
 ·refine wpAny_passesOwn hp (cz (T.item X rfl rfl rfl hc i ah s3 zj H3 X.xe I3 (stat VE) st3 go) fun r s4 ⟨u,hr,h4⟩ => ?_)
  subst hr
  refine wpAny_passesOwn hp (cz h4 fun _ s5 ⟨x,H5,I5,r5,y5,zy,Qs⟩ => ?_)
  have I5':=I5.pinned (stat Qs) (T.obj _ _ zy)
  refine wpAny_passesOwn hp (cz (hg _ s5 zj H5 x u _ I5' r5 (step x H5 y5)) fun _ s6 ⟨σ6,H6,I6,q6⟩ => ?_)
  refine wpAny_passesOwn hp (cz (hb _ s6 σ6 H6 _ I6 q6) fun f s7 q7 => ?_)
  have again:∀ {zi:St}{H7:Hp},Inv X (ah ++ zN fp s5.heap) zi H7 s7->N zi H7->∃ m,m < n∧∃ i bC H',Inv X ah bC H' s7∧tn i s7.heap∧(∀ b∈fp,H' b=none)∧W i m bC H':=fun {zi H7} I7 n7=>by
   obtain⟨m',hm,w7⟩:=hN zi H7 n7
   refine⟨m',hm,i+1, zi,H7,I7.pZ,T.keep _ _ _ zy fun b hb o e=>(I7.pin (b,o) (cg _ (cg _ (mT hb e)))).1,fun b hb => ?_,w7⟩
   obtain⟨o,e,d⟩:=T.obj _ _ zy b hb
   exact(I7.pin (b,o) (cg _ (cg _ (mT hb e)))).2.1
  cases f with
  | next=>obtain⟨zi,H7,I7,n7⟩:=q7;exact again I7 n7
  | cont=>obtain⟨zi,H7,I7,n7⟩:=q7;exact again I7 n7
  | brk=>obtain⟨zi,H7,I7,q7⟩:=q7;exact⟨zi,H7,I7.pZ,q7⟩
  | ret v=>obtain⟨x7, zi,H7,I7,r7,q7⟩:=q7;exact⟨x7, zi,H7,I7.pZ,r7,q7⟩
theorem iz {c9:Expr}{body:List Stmt}{wi:TI}{g:TG}{tb:TS}{pos:Pos} (hp:PassesOwn (model X.prog X.w) X.A X.env X.xe) (hc:X.calm=true) (hi:QI X tg c9 wi) (hg:QG X tg g) (hb:iJ X body tb)
  (hs:∀ x,foldedSetIterable c9 X.env x=pure x:=by intro _;rfl):QS X (.For tg c9 body [] pos) (Yl wi g tb):=by
 delta QG QI QS iJ at *
 exact YM hp hc hi hg hb hs
end
theorem yl {K:aj}{a:Addr}{xs:List V}{g:TG}{tb:TS}{D:Ends}{σ : St}{H:Hp} (Pv:Nat->St->Hp->Prop) (h0:Pv 0 σ H) (hl:∀ i σ H,i<=xs.length->Pv i σ H->b6 K H a xs)
  (hs:∀ i x σ H,xs[i]? = some x->Pv i σ H->g x σ H fun lC H2=>tb { D with nx:=Pv (i+1),ct:=Pv (i+1),bk:=D.nx } lC H2) (hd:∀ σ H,Pv xs.length σ H->D.nx σ H) :
  ∃ W:Nat->Nat->St->Hp->Prop,(∃ m,W 0 m σ H)∧∀ i m σ H,W i m σ H ->
   ((M7 K a).stop i H∧D.nx σ H)∨((M7 K a).go i H∧∃ N:St->Hp->Prop,(∀ bC H',N bC H'->∃ m',m' < m∧W (i+1) m' bC H')∧∀ x H',(M7 K a).BX i H x H'->g x σ H' fun lC H2=>tb { D with nx:=N,ct:=N,bk:=D.nx } lC H2):=by
 refine⟨fun i m σ H=>m=xs.length - i∧i<=xs.length∧Pv i σ H,⟨xs.length,by simp,bA _,h0⟩,?_⟩
 rintro i m σ H ⟨rfl,hi,p⟩
 have q:=hl i σ H hi p
 by_cases e9:i < xs.length
 ·refine .inr ⟨⟨xs,xs[i],q,by simp[e9]⟩,Pv (i+1),fun bC H' p'=>⟨xs.length - (i+1),by omega,rfl,e9,p'⟩,fun x H' y => ?_⟩
  obtain⟨e,y⟩:=y
  subst e
  exact hs i x σ _ (y xs q) p
 ·have e:i=xs.length:=by omega
  subst e
  exact .inl ⟨⟨xs,q,aB _⟩,hd σ H p⟩
theorem By {K:aj}{a:Addr}{xs:List V}{g:TG}{tb:TS}{D:Ends}{σ : St}{H:Hp} (Pv:Nat->St->Hp->Prop) (h0:Pv 0 σ H) (hl:∀ i σ H,i<=xs.length->Pv i σ H->aU K H a xs)
  (hs:∀ i x σ H,xs[i]? = some x->Pv i σ H->g x σ H fun lC H2=>tb { D with nx:=Pv (i+1),ct:=Pv (i+1),bk:=D.nx } lC H2) (hd:∀ σ H,Pv xs.length σ H->D.nx σ H) :
  ∃ W:Nat->Nat->St->Hp->Prop,(∃ m,W 0 m σ H)∧∀ i m σ H,W i m σ H ->
   ((M6 K a).stop i H∧D.nx σ H)∨((M6 K a).go i H∧∃ N:St->Hp->Prop,(∀ bC H',N bC H'->∃ m',m' < m∧W (i+1) m' bC H')∧∀ x H',(M6 K a).BX i H x H'->g x σ H' fun lC H2=>tb { D with nx:=N,ct:=N,bk:=D.nx } lC H2):=by
 refine⟨fun i m σ H=>m=xs.length - i∧i<=xs.length∧Pv i σ H,⟨xs.length,by simp,bA _,h0⟩,?_⟩
 rintro i m σ H ⟨rfl,hi,p⟩
 have q:=hl i σ H hi p
 by_cases e9:i < xs.length
 ·refine .inr ⟨⟨xs,xs[i],q,by simp[e9]⟩,Pv (i+1),fun bC H' p'=>⟨xs.length - (i+1),by omega,rfl,e9,p'⟩,fun x H' y => ?_⟩
  obtain⟨e,y⟩:=y
  subst e
  exact hs i x σ _ (y xs q) p
 ·have e:i=xs.length:=by omega
  subst e
  exact .inl ⟨⟨xs,q,aB _⟩,hd σ H p⟩
theorem G3 {lo:Int}{n:Nat}{g:TG}{tb:TS}{D:Ends}{σ : St}{H:Hp} (Pv:Nat->St->Hp->Prop) (h0:Pv 0 σ H)
  (hs:∀ i σ H,i < n->Pv i σ H->g (.int (lo+i)) σ H fun lC H2=>tb { D with nx:=Pv (i+1),ct:=Pv (i+1),bk:=D.nx } lC H2) (hd:∀ σ H,Pv n σ H->D.nx σ H) :
  ∃ W:Nat->Nat->St->Hp->Prop,(∃ m,W 0 m σ H)∧∀ i m σ H,W i m σ H ->
   ((Hq lo n).stop i H∧D.nx σ H)∨((Hq lo n).go i H∧∃ N:St->Hp->Prop,(∀ bC H',N bC H'->∃ m',m' < m∧W (i+1) m' bC H')∧∀ x H',(Hq lo n).BX i H x H'->g x σ H' fun lC H2=>tb { D with nx:=N,ct:=N,bk:=D.nx } lC H2):=by
 refine⟨fun i m σ H=>m=n - i∧i<=n∧Pv i σ H,⟨n,by simp,bA _,h0⟩,?_⟩
 rintro i m σ H ⟨rfl,hi,p⟩
 by_cases e9:i < n
 ·refine .inr ⟨e9,Pv (i+1),fun bC H' p'=>⟨n - (i+1),by omega,rfl,e9,p'⟩,fun x H' y => ?_⟩
  obtain⟨e,y⟩:=y
  subst e y
  exact hs i σ _ e9 p
 ·have e:i=n:=by omega
  subst e
  exact .inl ⟨aB _,hd σ H p⟩
abbrev R2:=V->V->Hp->VK->Prop
def iw (X:Cx) (f:Value->Value->Sem Value) (r:R2):Prop :=
 ∀ (ah:List (Addr × Obj)) (s:Shared) (σ : St) (H:Hp) (x y:V) (v u:Value) (Q:VK),Inv X ah σ H s->RelV x v->RelV y u->r x y H Q ->
  wpAny (model X.prog X.w) X.A (f v u) (EP X ah σ Q) X.xe s
def VT (X:Cx) (f:Value->Sem Value) (r:V->Hp->VK->Prop):Prop :=
 ∀ (ah:List (Addr × Obj)) (s:Shared) (σ : St) (H:Hp) (x:V) (v:Value) (Q:VK),Inv X ah σ H s->RelV x v->r x H Q ->
  wpAny (model X.prog X.w) X.A (f v) (EP X ah σ Q) X.xe s
def jA (X:Cx) (f:Value) (r:List V->Hp->VK->Prop):Prop :=
 ∀ (ah:List (Addr × Obj)) (s:Shared) (σ : St) (H:Hp) (xs:List V) (us:List Value) (Q:VK),Inv X ah σ H s->Vals xs us->r xs H Q ->
  wpAny (model X.prog X.w) X.A (call f us) (EP X ah σ Q) X.xe s
def afm (X:Cx) (r:V->Hp->(Bool->Hp->Prop)->Prop):Prop :=
 ∀ (ah:List (Addr × Obj)) (s:Shared) (σ : St) (H:Hp) (x:V) (v:Value) (Q:Bool->Hp->Prop),Inv X ah σ H s->RelV x v->r x H Q ->
  wpAny (model X.prog X.w) X.A (truthy v) (TP X ah σ Q) X.xe s
def nF (r:R2) (ta tb:TE):TE:=fun σ H Q=>ta σ H fun x H1=>tb σ H1 fun y H2=>r x y H2 Q
def tUn (r:V->Hp->VK->Prop) (ta:TE):TE:=fun σ H Q=>ta σ H fun x H1=>r x H1 Q
inductive RI (C:Int->Int->Prop) (g:Int->Int->V) (x y:V) (H:Hp) (Q:VK):Prop
 | mk (i j:Int) (hx:x = .int i) (hy:y = .int j) (hc:C i j) (q:Q (g i j) H):RI C g x y H Q
def rI (C:Int->Int->Prop) (g:Int->Int->V):R2:=fun x y H Q=>RI C g x y H Q
inductive RI0 (g:Int->Int->V) (x y:V) (H:Hp) (Q:VK):Prop
 | mk (i j:Int) (hx:x = .int i) (hy:y = .int j) (q:Q (g i j) H):RI0 g x y H Q
def DR (g:Int->Int->V):R2:=fun x y H Q=>RI0 g x y H Q
inductive RU (g:Int->V) (x:V) (H:Hp) (Q:VK):Prop
 | mk (i:Int) (hx:x = .int i) (q:Q (g i) H):RU g x H Q
def rU (g:Int->V):V->Hp->VK->Prop:=fun x H Q=>RU g x H Q
section
variable {X:Cx}{a b c:Expr}{ta tb tc:TE}{pos:Pos}
theorem T7 (ha:PE X a ta) (hb:PE X b tb) {ah:List (Addr × Obj)}{s:Shared}{σ : St}{H:Hp}{R:V->V->Hp->Prop} (I:Inv X ah σ H s)
  (h:ta σ H fun x H1=>tb σ H1 fun y H2=>R x y H2) {Q:Value->Shared->Prop}{f:Value->Value->Sem Value}
  (hf:∀ v u s2 x y H2,Inv X ah σ H2 s2->RelV x v->RelV y u->R x y H2->wpAny (model X.prog X.w) X.A (f v u) Q X.xe s2) :
  wpAny (model X.prog X.w) X.A (eval a X.env) (fun v fg => wpAny (model X.prog X.w) X.A (eval b X.env) (fun u lV => wpAny (model X.prog X.w) X.A (f v u) Q X.xe lV) X.xe fg) X.xe s:=by
 refine cz (ha ah s σ H _ I h) fun v s1 ⟨x,H1,I1,r1,q1⟩ => ?_
 refine cz (hb ah s1 σ H1 _ I1 q1) fun u s2 ⟨y,H2,I2,r2,q2⟩ => ?_
 exact hf v u s2 x y H2 I2 r1 r2 q2
theorem abW {op:Operator}{r:R2} (ho:iw X (binaryOp op) r) (ha:PE X a ta) (hb:PE X b tb):PE X (.BinOp a op b pos) (nF r ta tb):=by
 intro ah s σ H Q I h
 exact wpAny_BinOp (T7 ha hb I h fun v u s2 x y H2 I2 rx ry q=>ho ah s2 σ H2 x y v u Q I2 rx ry q)
theorem aX {op:Operator}{r:R2} (ho:iw X (binaryOp op) r) (ha:QE X a ta) (hb:QE X b tb):QE X (.BinOp a op b pos) (nF r ta tb):=by
 delta QE at *
 exact abW ho ha hb
theorem abV {op:UnaryOp}{r:V->Hp->VK->Prop} (ho:VT X (unaryOp op) r) (ha:PE X a ta):PE X (.UnaryOp op a pos) (tUn r ta):=by
 intro ah s σ H Q I h
 exact UnaryOp_ (cz (ha ah s σ H _ I h) fun v s1 ⟨x,H1,I1,r1,q1⟩=>ho ah s1 σ H1 x v Q I1 r1 q1)
theorem YW {op:UnaryOp}{r:V->Hp->VK->Prop} (ho:VT X (unaryOp op) r) (ha:QE X a ta):QE X (.UnaryOp op a pos) (tUn r ta):=by
 delta QE at *
 exact abV ho ha
theorem Pt {f:Value->Value->Sem Value}{C:Int->Int->Prop}{g:Int->Int->Int}
  (rule:∀ (i j:Int) (t u:Tok) (s:Shared) (Q:Value->Shared->Prop) (E:Value->Shared->Prop),C i j->Q (.int (g i j) s.toks) { s with toks:=s.toks+1 }->wpAny (model X.prog X.w) X.A (f (.int i t) (.int j u)) Q E s) :
  iw X f (rI C fun i j => .int (g i j)):=by
 intro ah s σ H x y v u Q I rx ry h
 obtain⟨i,j,rfl,rfl,hc,q⟩:=h
 obtain⟨t,rfl⟩:=rx
 obtain⟨t',rfl⟩:=ry
 exact rule i j t t' s _ _ hc ⟨.int (g i j),H,I.tok _,⟨_,rfl⟩,q⟩
theorem NF {f:Value->Value->Sem Value}{g:Int->Int->Int}
  (rule:∀ (i j:Int) (t u:Tok) (s:Shared) (Q:Value->Shared->Prop) (E:Value->Shared->Prop),Q (.int (g i j) s.toks) { s with toks:=s.toks+1 }->wpAny (model X.prog X.w) X.A (f (.int i t) (.int j u)) Q E s) :
  iw X f (DR fun i j => .int (g i j)):=by
 intro ah s σ H x y v u Q I rx ry h
 obtain⟨i,j,rfl,rfl,q⟩:=h
 obtain⟨t,rfl⟩:=rx
 obtain⟨t',rfl⟩:=ry
 exact rule i j t t' s _ _ ⟨.int (g i j),H,I.tok _,⟨_,rfl⟩,q⟩
theorem SM {f:Value->Value->Sem Value}{g:Int->Int->Bool}
  (rule:∀ (i j:Int) (t u:Tok) (s:Shared) (Q:Value->Shared->Prop) (E:Value->Shared->Prop),Q (.bool (g i j)) s->wpAny (model X.prog X.w) X.A (f (.int i t) (.int j u)) Q E s) :
  iw X f (DR fun i j => .bl (g i j)):=by
 intro ah s σ H x y v u Q I rx ry h
 obtain⟨i,j,rfl,rfl,q⟩:=h
 obtain⟨t,rfl⟩:=rx
 obtain⟨t',rfl⟩:=ry
 exact rule i j t t' s _ _ ⟨.bl (g i j),H,I,rfl,q⟩
def abO (i j:Int):Prop:=0 < j∧j < 1073741824
def abN (i j:Int):Prop:=0<=j∧j<=1000000∧i.natAbs < 2 ^ 64
def Uq (i j:Int):Prop:=(-(2 ^ 64) < i∧i < 2 ^ 64)∨(-(2 ^ 64) < j∧j < 2 ^ 64)
theorem Uq.ok {i j:Int} (h:Uq i j):IntMulOk i j:=by
 rcases h with⟨h1,h2⟩ | ⟨h1,h2⟩
 ·exact .of_left (intBits_le_64 h1 h2)
 ·exact .of_right (intBits_le_64 h1 h2)
theorem js:iw X (binaryOp .Add) (DR fun i j => .int (i+j)):=NF fun _ _ _ _ _ _ _ q=>add_int q
theorem o9:iw X (binaryOp .Sub) (DR fun i j => .int (i - j)):=NF fun _ _ _ _ _ _ _ q=>sub_int q
theorem Jo:iw X (binaryOp .Mult) (rI Uq fun i j => .int (i * j)):=Pt fun _ _ _ _ _ _ _ hc q=>mul_int q hc.ok
theorem wD:iw X (binaryOp .FloorDiv) (rI abO fun i j => .int (i / j)):=Pt fun i j _ _ _ _ _ hc q=>by
 have h1:(0:Int) < j:=hc.1
 have h2:j < 1073741824:=hc.2
 exact floordiv_int (by omega) (by rw[Int.fdiv_eq_ediv_of_nonneg i (by omega)];exact q) (.inl (PyProof.noPylong_small (by omega)))
theorem h9:iw X (binaryOp .Mod) (rI (fun _ j=>0 < j) fun i j => .int (i % j)):=Pt fun i j _ _ _ _ _ hc q=>by
 have h1:(0:Int) < j:=hc
 exact mod_int' (by omega) (by rw[Int.fmod_eq_emod_of_nonneg i (by omega)];exact q)
theorem DV:iw X (binaryOp .Pow) (rI abN fun i j => .int (i ^ j.toNat)):=Pt fun _ _ _ _ _ _ _ hc q=>pow_int_small hc.1 hc.2.1 hc.2.2 q
theorem Pq:iw X (binaryOp .LShift) (rI abN fun i j => .int (i * 2 ^ j.toNat)):=Pt fun _ _ _ _ _ _ _ hc q=>lshift_int_small hc.1 hc.2.1 hc.2.2 q
theorem Y9:iw X (binaryOp .BitAnd) (DR fun i j => .int (xn i j)):=NF fun _ _ _ _ _ _ _ q=>and_int q
theorem ab2:iw X (binaryOp .BitOr) (DR fun i j => .int (za i j)):=NF fun _ _ _ _ _ _ _ q=>or_int q
theorem unI {f:Value->Sem Value}{g:Int->Int}
  (rule:∀ (i:Int) (t:Tok) (s:Shared) (Q:Value->Shared->Prop) (E:Value->Shared->Prop),Q (.int (g i) s.toks) { s with toks:=s.toks+1 }->wpAny (model X.prog X.w) X.A (f (.int i t)) Q E s) :
  VT X f (rU fun i => .int (g i)):=by
 intro ah s σ H x v Q I rx h
 obtain⟨i,rfl,q⟩:=h
 obtain⟨t,rfl⟩:=rx
 exact rule i t s _ _ ⟨.int (g i),H,I.tok _,⟨_,rfl⟩,q⟩
theorem X8:VT X (unaryOp .USub) (rU fun i => .int (-i)):=unI fun _ _ _ _ _ q=>neg_int q
end
def Yw:V->V->Bool
 | .b9,.b9=>true | .b9,.int _=>true | .int _,.b9=>true | .b9,.bl _=>true | .bl _,.b9=>true | .b9,.str _=>true | .str _,.b9=>true
 | .int _,.int _=>true | .bl _,.bl _=>true | .str _,.str _=>true | .vg _,.vg _=>true
 | .int _,.str _=>true | .str _,.int _=>true | .bl _,.str _=>true | .str _,.bl _=>true
 | _,_=>false
def rEq:R2:=fun x y H Q=>Yw x y=true∧Q (.bl (decide (x=y))) H
def rNe:R2:=fun x y H Q=>Yw x y=true∧Q (.bl (!decide (x=y))) H
theorem MD {i j:Int}:decide (V.int i=V.int j)=(i == j):=by
 rw[j0]
 simp
theorem QM {i j:Bool}:decide (V.bl i=V.bl j)=(i == j):=by
 rw[j0]
 simp
theorem MC {i j:Str}:decide (V.str i=V.str j)=(i == j):=by
 rw[j0]
 simp
theorem ME {i j:Array UInt8}:decide (V.vg i=V.vg j)=(i.toList == j.toList):=by
 rw[j0]
 cases i
 cases j
 simp
section
variable {X:Cx}{a b c:Expr}{ta tb tc:TE}{pos:Pos}
theorem d7 {ah:List (Addr × Obj)}{σ : St}{H:Hp}{s:Shared}{Q:VK} {k k':Bool} (I:Inv X ah σ H s) (q:Q (.bl k) H) (e:k=k'):EP X ah σ Q (.bool k') s:=by
 subst e
 exact⟨.bl k,H,I,rfl,q⟩
theorem cb:iw X (compareOp .Eq) rEq:=by
 intro ah s σ H x y v u Q I rx ry h
 obtain⟨hs,q⟩:=h
 cases x with
 | b9 =>
  cases rx
  cases y with
  | b9=>cases ry;exact PySem.EqNone.eq_none_none (d7 I q (by simp))
  | bl j=>cases ry;exact PySem.EqNone.eq_none_bool (d7 I q (by simp))
  | int j=>obtain⟨t',rfl⟩:=ry;exact PySem.EqNone.eq_none_int (d7 I q (by simp))
  | str j=>obtain⟨t',rfl⟩:=ry;exact PySem.EqNone.eq_none_str (d7 I q (by simp))
  | _=>exact absurd (show false=true from hs) bM
 | bl i =>
  cases rx
  cases y with
  | b9=>cases ry;exact PySem.EqNone.eq_bool_none (d7 I q (by simp))
  | bl j=>cases ry;exact eq_bool (d7 I q QM)
  | str j=>obtain⟨t',rfl⟩:=ry;exact PySem.EqMixed.eq_bool_str (d7 I q (by simp))
  | _=>exact absurd (show false=true from hs) bM
 | int i =>
  obtain⟨t,rfl⟩:=rx
  cases y with
  | b9=>cases ry;exact PySem.EqNone.eq_int_none (d7 I q (by simp))
  | int j=>obtain⟨t',rfl⟩:=ry;exact eq_int (d7 I q MD)
  | str j=>obtain⟨t',rfl⟩:=ry;exact PySem.EqMixed.eq_int_str (d7 I q (by simp))
  | _=>exact absurd (show false=true from hs) bM
 | str i =>
  obtain⟨t,rfl⟩:=rx
  cases y with
  | b9=>cases ry;exact PySem.EqNone.eq_str_none (d7 I q (by simp))
  | bl j=>cases ry;exact PySem.EqMixed.eq_str_bool (d7 I q (by simp))
  | int j=>obtain⟨t',rfl⟩:=ry;exact PySem.EqMixed.eq_str_int (d7 I q (by simp))
  | str j=>obtain⟨t',rfl⟩:=ry;exact eq_str (d7 I q MC)
  | _=>exact absurd (show false=true from hs) bM
 | vg i =>
  obtain⟨t,rfl⟩:=rx
  cases y with
  | vg j=>obtain⟨t',rfl⟩:=ry;exact PySem.W.eq_bytes (d7 I q ME)
  | _=>exact absurd (show false=true from hs) bM
 | _=>cases y <;> exact absurd (show false=true from hs) bM
theorem nV:iw X (compareOp .NotEq) rNe:=by
 intro ah s σ H x y v u Q I rx ry h
 obtain⟨hs,q⟩:=h
 cases x with
 | b9 =>
  cases rx
  cases y with
  | b9=>cases ry;exact PySem.EqNone.ne_none_none (d7 I q (by simp))
  | bl j=>cases ry;exact PySem.EqNone.ne_none_bool (d7 I q (by simp))
  | int j=>obtain⟨t',rfl⟩:=ry;exact PySem.EqNone.ne_none_int (d7 I q (by simp))
  | str j=>obtain⟨t',rfl⟩:=ry;exact PySem.EqNone.ne_none_str (d7 I q (by simp))
  | _=>exact absurd (show false=true from hs) bM
 | bl i =>
  cases rx
  cases y with
  | b9=>cases ry;exact PySem.EqNone.ne_bool_none (d7 I q (by simp))
  | bl j=>cases ry;exact ne_bool (d7 I q (congrArg not QM))
  | str j=>obtain⟨t',rfl⟩:=ry;exact PySem.EqMixed.ne_bool_str (d7 I q (by simp))
  | _=>exact absurd (show false=true from hs) bM
 | int i =>
  obtain⟨t,rfl⟩:=rx
  cases y with
  | b9=>cases ry;exact PySem.EqNone.ne_int_none (d7 I q (by simp))
  | int j=>obtain⟨t',rfl⟩:=ry;exact ne_int (d7 I q (congrArg not MD))
  | str j=>obtain⟨t',rfl⟩:=ry;exact PySem.EqMixed.ne_int_str (d7 I q (by simp))
  | _=>exact absurd (show false=true from hs) bM
 | str i =>
  obtain⟨t,rfl⟩:=rx
  cases y with
  | b9=>cases ry;exact PySem.EqNone.ne_str_none (d7 I q (by simp))
  | bl j=>cases ry;exact PySem.EqMixed.ne_str_bool (d7 I q (by simp))
  | int j=>obtain⟨t',rfl⟩:=ry;exact PySem.EqMixed.ne_str_int (d7 I q (by simp))
  | str j=>obtain⟨t',rfl⟩:=ry;exact ne_str (d7 I q (congrArg not MC))
  | _=>exact absurd (show false=true from hs) bM
 | vg i =>
  obtain⟨t,rfl⟩:=rx
  cases y with
  | vg j=>obtain⟨t',rfl⟩:=ry;exact PySem.W.ne_bytes (d7 I q (congrArg not ME))
  | _=>exact absurd (show false=true from hs) bM
 | _=>cases y <;> exact absurd (show false=true from hs) bM
theorem ll:iw X (compareOp .Lt) (DR fun i j => .bl (decide (i < j))):=SM fun _ _ _ _ _ _ _ q=>lt_int q
theorem ab3:iw X (compareOp .LtE) (DR fun i j => .bl (decide (i<=j))):=SM fun _ _ _ _ _ _ _ q=>le_int q
theorem lp:iw X (compareOp .Gt) (DR fun i j => .bl (decide (j < i))):=SM fun _ _ _ _ _ _ _ q=>gt_int q
inductive Cm (x:V) (y:V) (H:Hp) (Q:VK):Prop
 | mk:∀ i j,(x = .str i)->(y = .str j)->(Q (.bl (!(dE j i 0 j.length 1).isEmpty)) H)->Cm x y H Q
theorem zR:iw X (compareOp .In) (fun x y H Q=>Cm x y H Q):=by
 intro ah s σ H x y v u Q I rx ry h
 obtain⟨i,j,rfl,rfl,q⟩:=h
 obtain⟨t,rfl⟩:=rx
 obtain⟨t',rfl⟩:=ry
 exact in_str (d7 I q rfl)
theorem wC:iw X (compareOp .Is) (fun x y H Q=>y = .b9∧Q (.bl (decide (x = .b9))) H):=by
 intro ah s σ H x y v u Q I rx ry h
 obtain⟨rfl,q⟩:=h
 cases ry
 refine is_none_gen (d7 I q ?_)
 cases x <;> first
  | (cases rx;rfl)
  | (obtain⟨t,rfl⟩:=rx;rfl)
theorem Xc:iw X (compareOp .IsNot) (fun x y H Q=>y = .b9∧Q (.bl (!decide (x = .b9))) H):=by
 intro ah s σ H x y v u Q I rx ry h
 obtain⟨rfl,q⟩:=h
 cases ry
 refine isnot_none_gen (d7 I q ?_)
 cases x <;> first
  | (cases rx;rfl)
  | (obtain⟨t,rfl⟩:=rx;rfl)
theorem aQ (b:Expr) {op:CmpOp} (h:op ≠ .In:=by decide) (h2:op ≠ .NotIn:=by decide):behindInMarks op b=false:=by
 have e1:(op == CmpOp.In)=false:=by cases op <;> first | rfl | exact absurd rfl h
 have e2:(op == CmpOp.NotIn)=false:=by cases op <;> first | rfl | exact absurd rfl h2
 cases b <;> simp[behindInMarks,e1,e2]
theorem W6 {op:CmpOp}{r:R2} (ho:iw X (compareOp op) r) (ha:PE X a ta) (hb:PE X b tb) (hm:behindInMarks op b=false):PE X (.Compare a [op] [b] pos) (nF r ta tb):=by
 intro ah s σ H Q I h
 exact wpAny_Compare1 (T7 ha hb I h fun v u s2 x y H2 I2 rx ry q=>ho ah s2 σ H2 x y v u Q I2 rx ry q) hm
theorem Jl {op:CmpOp}{r:R2} (ho:iw X (compareOp op) r) (ha:QE X a ta) (hb:QE X b tb) (hm:behindInMarks op b=false):QE X (.Compare a [op] [b] pos) (nF r ta tb):=by
 delta QE at *
 exact W6 ho ha hb hm
inductive V3 (x:V) (H:Hp) (Q:Bool->Hp->Prop):Prop
 | mk (k:Bool) (hx:x = .bl k) (q:Q k H):V3 x H Q
def HN (t:TE):TT:=fun σ H Q=>t σ H fun x H'=>V3 x H' Q
theorem WG {op:CmpOp}{r:R2} (ho:iw X (compareOp op) r) (ha:PE X a ta) (hb:PE X b tb) (hm:behindInMarks op b=false):PT X (.Compare a [op] [b] pos) (HN (nF r ta tb)):=by
 intro ah s σ H Q I h
 refine wpAny_isTrue_Compare1 (cz (ha ah s σ H _ I h) fun v s1 ⟨x,H1,I1,r1,q1⟩=>cz (hb ah s1 σ H1 _ I1 q1) fun u s2 ⟨y,H2,I2,r2,q2⟩ =>
  cz (ho ah s2 σ H2 x y v u _ I2 r1 r2 q2) fun c s3 ⟨z,H3,I3,r3,k,e,q3⟩ => ?_) hm
 subst e
 cases r3
 exact wpAny_truthy_bool ⟨H3,I3,q3⟩
theorem aC {op:CmpOp}{r:R2} (ho:iw X (compareOp op) r) (ha:QE X a ta) (hb:QE X b tb) (hm:behindInMarks op b=false):QT X (.Compare a [op] [b] pos) (HN (nF r ta tb)):=by
 delta QE QT at *
 exact WG ho ha hb hm
def Uk (K:aj) (x:V) (H:Hp) (k:Bool):Prop :=
 match x with
 | .b9=>k=false
 | .bl b=>k=b
 | .int i=>k=(i != 0)
 | .str y=>y.length<=sizeLine∧k=((y.length:Int) != 0)
 | .vg y=>y.size<=sizeLine∧k=((y.size:Int) != 0)
 | .ref p=>(∃ xs,b6 K H p xs∧k = !xs.isEmpty)∨(∃ xs,aU K H p xs∧k = !xs.isEmpty)∨∃ kvs,H p=some (.dK kvs)∧k = !kvs.isEmpty
 | _=>False
theorem NP {κ : Type}{kvs:List (κ × V)}{vs:List (κ × Value)} (r:KV kvs vs):(!vs.isEmpty) = !kvs.isEmpty:=by
 cases r <;> rfl
theorem Eb {xs:List V}{its:List Value} (r:Vals xs its):(!its.toArray.isEmpty) = !xs.isEmpty:=by
 cases r <;> simp
theorem wH:(sizeLine:Nat) < 2 ^ 63:=by rw[sizeLine_eq];decide
theorem Ye:afm X (fun x H Q=>∃ k,Uk X.K x H k∧Q k H):=by
 intro ah s σ H x v Q I rx h
 obtain⟨k,e,q⟩:=h
 have hl:=wH
 have hs:sizeLine=16777216:=sizeLine_eq
 cases x with
 | b9 =>
  cases rx
  have e':k=false:=e
  subst e'
  exact truthy_none ⟨H,I,q⟩
 | bl b =>
  cases rx
  have e':k=b:=e
  subst e'
  exact wpAny_truthy_bool ⟨H,I,q⟩
 | int i =>
  obtain⟨t,rfl⟩:=rx
  have e':k=(i != 0):=e
  subst e'
  exact PySem.P.truthy_int ⟨H,I,q⟩
 | str y =>
  obtain⟨t,rfl⟩:=rx
  obtain⟨hy,e'⟩:y.length<=sizeLine∧k=((y.length:Int) != 0):=e
  subst e'
  exact PySem.P.truthy_str (by omega) ⟨H,I.tok _,q⟩
 | vg y =>
  obtain⟨t,rfl⟩:=rx
  obtain⟨hy,e'⟩:y.size<=sizeLine∧k=((y.size:Int) != 0):=e
  subst e'
  exact PySem.W.truthy_bytes (by omega) ⟨H,I.tok _,q⟩
 | ref p =>
  cases rx
  have e':(∃ xs,b6 X.K H p xs∧k = !xs.isEmpty)∨(∃ xs,aU X.K H p xs∧k = !xs.isEmpty)∨∃ kvs,H p=some (.dK kvs)∧k = !kvs.isEmpty:=e
  rcases e' with⟨xs,hx,e'⟩ | ⟨xs,hx,e'⟩ | ⟨kvs,hx,e'⟩
  ·subst e'
   obtain⟨its,r,pl,hz⟩:=I.list hx
   have dX:=r.length
   exact wpAny_truthy_list pl.isList (by simp only[bo];omega) ⟨H,I.tok _,by rw[Eb r];exact q⟩
  ·subst e'
   obtain⟨its,r,pl,hz⟩:=I.tuple hx
   have dX:=r.length
   exact truthy_tuple pl (by simp only[bo];omega) ⟨H,I.tok _,by rw[Eb r];exact q⟩
  ·subst e'
   obtain⟨hz,hS,vs,r,m⟩:kvs.length<=sizeLine∧(p == sysModules)=false∧∃ vs,KV kvs vs∧s.heap.DictOf (iB X.prog X.w) p vs:=I.br p _ hx
   have dX:kvs.length=vs.length:=dw r
   exact wpAny_truthy_dict hS m (by omega) ⟨H,I.tok _,by rw[NP r];exact q⟩
 | _=>exact(show False from e).elim
theorem Sb (ha:PE X a ta) (he:∀ mL,isTrue a X.env mL=(do let v <- mL;standAt a.pos;holding [v] (truthy v))) :
  PT X a (fun σ H Q=>ta σ H fun x H'=>∃ k,Uk X.K x H' k∧Q k H'):=by
 intro ah s σ H Q I h
 exact isTrue_plain (cz (ha ah s σ H _ I h) fun v s1 ⟨x,H1,I1,r1,q1⟩=>Ye ah s1 σ H1 x v Q I1 r1 q1) (he _)
theorem O6 (ha:QE X a ta) (he:∀ mL,isTrue a X.env mL=(do let v <- mL;standAt a.pos;holding [v] (truthy v))) :
  QT X a (fun σ H Q=>ta σ H fun x H'=>∃ k,Uk X.K x H' k∧Q k H'):=by
 delta QE QT at *
 exact Sb ha he
inductive Bb (x:V) (y:V) (H:Hp) (Q:VK):Prop
 | mk:∀ i j,(x = .str i)->(y = .str j)->(i.length+j.length<=sizeLine)->(Q (.str (i ++ j)) H)->Bb x y H Q
theorem bX:iw X (binaryOp .Add) (fun x y H Q=>Bb x y H Q):=by
 intro ah s σ H x y v u Q I rx ry h
 obtain⟨i,j,rfl,rfl,hz,q⟩:=h
 obtain⟨t,rfl⟩:=rx
 obtain⟨t',rfl⟩:=ry
 exact add_str (fun t' tk=>⟨.str (i ++ j),H,I.tok _,⟨_,rfl⟩,q⟩) hz
inductive rY (x:V) (y:V) (H:Hp) (Q:VK):Prop
 | mk:∀ i j,(x = .str i)->(y = .str j)->(i.length+j.length<=sizeLine)->(Q (.str (i ++ j)) H)->rY x y H Q
theorem Ll:iw X (inplaceOp .Add) (fun x y H Q=>rY x y H Q):=by
 intro ah s σ H x y v u Q I rx ry h
 obtain⟨i,j,rfl,rfl,hz,q⟩:=h
 obtain⟨t,rfl⟩:=rx
 obtain⟨t',rfl⟩:=ry
 exact iadd_str (fun t' tk=>⟨.str (i ++ j),H,I.tok _,⟨_,rfl⟩,q⟩) hz
theorem vals1 {x:V}{us:List Value} (r:Vals [x] us):∃ u,us = [u]∧RelV x u:=by
 cases r with
 | cons r1 r2=>cases r2;exact⟨_,rfl,r1⟩
theorem vals2 {x y:V}{us:List Value} (r:Vals [x,y] us):∃ u w',us = [u,w']∧RelV x u∧RelV y w':=by
 cases r with
 | cons r1 r2 =>
  cases r2 with
  | cons r3 r4=>cases r4;exact⟨_,_,rfl,r1,r3⟩
theorem mC:jA X (.type "str") (fun xs H Q=>∃ i,xs = [.int i]∧i.natAbs.log2 < 1920∧Q (.str (toString i)) H):=by
 intro ah s σ H xs us Q I r h
 obtain⟨i,rfl,hz,q⟩:=h
 obtain⟨u,rfl,t,rfl⟩:=vals1 r
 exact PySem.P.str_of_int hz ⟨.str _,H,I.tok _,⟨_,rfl⟩,q⟩
end
structure Dn (h:Heap) (x dx C:Addr) (mA:Str->Option Value):Prop where
 obj:h.get? x=some (ij C dx)
 ns:h.Ns1 dx mA
 ne:dx≠x
theorem GO {h:Heap}{dx:Addr}{mA:Str->Option Value} (n:h.Ns1 dx mA):∃ od,h.get? dx=some od∧∀ name,qC name od=some (mA name):=by
 obtain⟨o,es,ep,ho,hd,hk,_,hm⟩:=n
 refine⟨o,ho,fun name => ?_⟩
 have e:=hm name
 unfold nsFind findBy at e
 rw[<- Array.find?_toList]at e
 unfold qC
 rw[hd]
 dsimp only
 split
 ·rename_i y q
  rw[q]at e
  exact congrArg some e
 ·rename_i q
  rw[q]at e
  have a:es.toList.any (·.refKey)=false:=by
   rw[List.any_eq_false]
   intro y hy
   obtain⟨z,t,Tx⟩:=hk y (Array.mem_toList_iff.mp hy)
   simp[DictEntry.refKey,Tx]
  have a':¬ es.toList.any (·.refKey)=true:=by rw[a];exact bM
  rw[if_neg a']
  exact congrArg some e
theorem Dn.look {h:Heap}{x dx C:Addr}{mA:Str->Option Value} (I:Dn h x dx C mA):∃ od,xg h x (ij C dx) C (some od)∧∀ name,qC name od=some (mA name) :=
 let ⟨od,ho,hl⟩:=GO I.ns
 ⟨od,⟨I.obj,rfl,rfl,ho⟩,hl⟩
section
variable {prog:Program}{w:World}{A:Around}{E:Value->Shared->Prop}{s:Shared}{K:aj}{x dx C f:Addr}{mA:Str->Option Value}{name:Str}{v:Value}
theorem XI {yn:Bool}{Q:Value->Shared->Prop} (X:K.In s.heap) (I:Dn s.heap x dx C mA) (hg:jv K C name=true) (hh:iq K C=true)
  (ha:bj K (.ref C) name=some none) (hv:mA name=some v) (Z0:ux v=true) (h:Q v { s with toks:=s.toks+1 }) :
  wpAny (model prog w) A (getAttr (.ref x) name yn) Q E s:=by
 obtain⟨od,J,hl⟩:=I.look
 exact PySem.W.get_value X J (pW hg).1 (ze hh ha rfl (by rw[hl,hv])) Z0 h
theorem TQ {pl:Sem Bool}{Q:Value × List Value->Shared->Prop} (X:K.In s.heap) (I:Dn s.heap x dx C mA) (hg:jv K C name=true)
  (hf:bj K (.ref C) name=some (some (.ref f))) (ht:kM K (.ref f)=true) (hv:mA name=none) (h:Q (.ref f, [.ref x]) s) :
  wpAny (model prog w) A (getMethod (.ref x) name pl) Q E s:=by
 obtain⟨od,J,hl⟩:=I.look
 exact PySem.W.method_fn X J (pW hg).1 (pW hg).2 hf (beq_iff_eq.mp ht) (by show (qC name od).map (·.isSome)=some false;rw[hl,hv];rfl) h
theorem Wu {ns:List Str}{Q:Unit->Shared->Prop} (X:K.In s.heap) (I:Dn s.heap x dx C mA)
  (hs:bj K (.ref C) "__setattr__" = some (some (.builtin "object.__setattr__"))) (hp:nA K C=true) (ht:pE K C name=some none) (hh:iq K C=true)
  (hw:mE mA ns) (hsz:ns.length<=sizeLine)
  (h:∀ h',Dn h' x dx C (fun y=>if y=name then some v else mA y)->uE dx s.heap h'->Q () { s with heap:=h',toks:=s.toks+2 }) :
  wpAny (model prog w) A (setAttr (.ref x) name v) Q E s:=by
 obtain⟨od,J,hl⟩:=I.look
 refine BL X J hs (PySem.W.osa_open (s := { s with toks:=s.toks+1 }) (r:=none) X J hp ht fun b => ?_)
 obtain⟨cd,hc,Ah⟩:=oo hh
 have hx:s.heap.get? x=some ⟨.ref C,some dx,.plain, #[]⟩:=I.obj
 refine wpAny_bind (wpAny_pure (wpAny_bind (wpAny_bind (wpAny_loadPart hx (wpAny_bind (fw.here (s := { s with toks:=s.toks+1 }) (pX X hc) ?_))))))
 rw[Ah]
 refine wpAny_pure (a:=some dx) (wpAny_bind (wpAny_pure (wpAny_bind ?_)))
 refine wpAny_nsSet1 (s := { s with toks:=s.toks+1 }) I.ns fun h' GW B8 => ?_
 obtain⟨oD,esD,epD,hoD,hdD,hcD⟩:=GW.count (BK name v hw)
 refine wpAny_bind (wpAny_lookBehind hoD (by rw[hdD];exact pastItsLine_dict (a9 hcD (by rw[bg];omega))) ?_)
 exact wpAny_pure (h _ ⟨(B8.2 _ (cK I.ne)).trans I.obj,GW,I.ne⟩ B8)
theorem Tg {R:Result->Shared->Prop}{vs:List Value}{kw:List (Str × Value)} (X:K.In s.heap) (hm:pF K C=true)
  (hi:bj K (.ref C) "__init__" = some (some (.ref f))) (hf:qB K (.ref f)=some (.type "function"))
  (h:codeAny (model prog w) (A.under (.builtin "type.__call__" ⟨.ref C :: vs,kw⟩)) (.call (.ref f) ⟨.ref (s.heap.objs.size+1) :: vs,kw⟩) (PySem.W.InitBack (s.heap.objs.size+1) R)
   { s with heap:=(s.heap.push fK).push (ij C s.heap.objs.size) }) :
  codeAny (model prog w) A (.call (.ref C) ⟨vs,kw⟩) R s:=by
 obtain⟨hh,g,d,t,os⟩:=s
 exact PySem.W.make_core (PySem.W.makes_of X hm) (fi X hi) (fun self=>EA X self hf) (.inl rfl) h
end
def mm (f:Str) (v:V):List (Str × V)->List (Str × V)
 | [] => [(f,v)]
 | (g,x) :: r=>if g=f then (g,v) :: r else (g,x) :: mm f v r
theorem B4 (f g:Str) (v:V):∀ fs:List (Str × V),(mm f v fs).lookup g=if g=f then some v else fs.lookup g
 | []=>by
  show jo g [(f,v)]=_
  by_cases h:g=f
  ·have hb:(g == f)=true:=beq_iff_eq.mpr h
   simp only[jo,hb,if_pos h]
  ·have hb:(g == f)=false:=beq_eq_false_iff_ne.mpr h
   simp only[jo,hb,if_neg h]
 | (k,x) :: r=>by
  have ih:=B4 f g v r
  rw[show mm f v ((k,x) :: r)=(if k=f then (k,v) :: r else (k,x) :: mm f v r) from rfl]
  by_cases hk:k=f
  ·rw[if_pos hk]
   by_cases h:g=k
   ·have hb:(g == k)=true:=beq_iff_eq.mpr h
    simp only[jo,hb,if_pos (h.trans hk)]
   ·have hb:(g == k)=false:=beq_eq_false_iff_ne.mpr h
    simp only[jo,hb,if_neg (fun e:g=f=>h (e.trans hk.symm))]
  ·rw[if_neg hk]
   by_cases h:g=k
   ·have hb:(g == k)=true:=beq_iff_eq.mpr h
    simp only[jo,hb,if_neg (fun e:g=f=>hk (h.symm.trans e))]
   ·have hb:(g == k)=false:=beq_eq_false_iff_ne.mpr h
    simp only[jo,hb]
    exact ih
theorem zZ (f:Str) (v:V):∀ fs:List (Str × V),f∈(mm f v fs).map (·.1)∧∀ g,g∈fs.map (·.1)->g∈(mm f v fs).map (·.1)
 | []=>⟨by simp[mm],fun g h=>by simp at h⟩
 | (k,x) :: r=>by
  obtain⟨i1,i2⟩:=zZ f v r
  rw[show mm f v ((k,x) :: r)=(if k=f then (k,v) :: r else (k,x) :: mm f v r) from rfl]
  by_cases hk:k=f
  ·rw[if_pos hk]
   subst hk
   exact⟨by simp,fun g h=>by simpa using h⟩
  ·rw[if_neg hk]
   refine⟨?_,fun g h => ?_⟩
   ·rw[b0]
    exact aL _ i1
   ·rw[b0]at h ⊢
    rcases aK.mp h with e | e
    ·exact aK.mpr (.inl e)
    ·exact aL _ (i2 g e)
theorem B6 (f:Str) (v:V):∀ fs:List (Str × V),(mm f v fs).length<=fs.length+1
 | []=>by simp[mm]
 | (k,x) :: r=>by
  have ih:=B6 f v r
  rw[show mm f v ((k,x) :: r)=(if k=f then (k,v) :: r else (k,x) :: mm f v r) from rfl]
  by_cases hk:k=f
  ·rw[if_pos hk,bg,bg];omega
  ·rw[if_neg hk,bg,bg];omega
theorem ny.some_of {v:V}{o:Option Value} (r:ny (some v) o):∃ u,o=some u∧RelV v u:=by
 cases o with
 | none=>exact(show False from r).elim
 | some u=>exact⟨u,rfl,r⟩
theorem ny.none_of {o:Option Value} (r:ny none o):o=none:=by
 cases o with
 | none=>rfl
 | some u=>exact(show False from r).elim
theorem GY {v:V}{u:Value} (r:RelV v u):ux u=true:=by
 cases v with
 | b9=>cases (show u=ef from r);rfl
 | bl b=>cases (show u=iM b from r);rfl
 | int i=>obtain⟨t,e⟩:=(show ∃ t,u=kY i t from r);cases e;rfl
 | str x=>obtain⟨t,e⟩:=(show ∃ t,u=rk x t from r);cases e;rfl
 | vg b=>obtain⟨t,e⟩:=(show ∃ t,u=Value.bytes b t from r);cases e;rfl
 | Kd b=>obtain⟨t,e⟩:=(show ∃ t,u=Cj b t from r);cases e;rfl
 | ref a=>cases (show u=bf a from r);rfl
 | ty n=>cases (show u=je n from r);rfl
section
variable {P:Program}{w:World} {H H':Hp} {h h':Heap}{a C dx:Addr}{fs My:List (Str × V)}
theorem Bv (br:gh P w H h) (e:H a=some (.ins C dx fs)):∃ mA,Dn h a dx C mA∧(∀ f,ny (fs.lookup f) (mA f))∧mE mA (fs.map (·.1))∧fs.length<=1000∧H dx=some (.own a):=by
 obtain⟨d,z,ne,ob,mA,n,r,q⟩:=(show dD P w H h a (.ins C dx fs) from br a _ e)
 exact⟨mA,⟨ob,n,ne⟩,r,q,z,d⟩
end
structure pP (K:aj) (C:Addr):Prop where
 pg:jv K C cF=true
 hd:iq K C=true
 po:nA K C=true
 sa:bj K (.ref C) "__setattr__" = some (some (.builtin "object.__setattr__"))
theorem pP.get {K:aj}{C:Addr} (c:pP K C) (f:Str):jv K C f=true:=c.pg
def gD (K:aj) (C:Addr) (f:Str):Prop:=bj K (.ref C) f=some none
theorem gD.UD {K:aj}{C:Addr}{f:Str} (n:gD K C f):pE K C f=some none:=by
 unfold pE
 rw[show bj K (.ref C) f=some none from n]
 rfl
structure Meth (K:aj) (C:Addr) (m:Str) (f:Addr):Prop where
 at_:bj K (.ref C) m=some (some (.ref f))
 fn:kM K (.ref f)=true
 kp:cA K (.ref f)=true
section
variable {X:Cx}{ah:List (Addr × Obj)}{σ : St}{H:Hp}{s:Shared}{a C dx:Addr}{fs:List (Str × V)}{f:Str}{v:V}{A:Around}{E:Value->Shared->Prop}
theorem Ep {b:Bool}{Q:Value->Shared->Prop} (I:Inv X ah σ H s) (e:H a=some (.ins C dx fs)) (c:pP X.K C) (n:gD X.K C f) (l:fs.lookup f=some v)
  (h:∀ u s',Inv X ah σ H s'->RelV v u->Q u s'):wpAny (model X.prog X.w) A (getAttr (.ref a) f b) Q E s:=by
 obtain⟨mA,O,r,_,_,_⟩:=Bv I.br e
 obtain⟨u,hu,ru⟩:=ny.some_of (v:=v) (o:=mA f) (by rw[<- l];exact r f)
 exact XI I.gL O (c.get f) c.hd n hu (GY ru) (h u _ (I.tok _) ru)
theorem Eo {m:Str}{g:Addr}{pl:Sem Bool}{Q:Value × List Value->Shared->Prop} (I:Inv X ah σ H s) (e:H a=some (.ins C dx fs)) (c:pP X.K C) (k:Meth X.K C m g) (l:fs.lookup m=none)
  (h:Q (.ref g, [.ref a]) s):wpAny (model X.prog X.w) A (getMethod (.ref a) m pl) Q E s:=by
 obtain⟨mA,O,r,_,_,_⟩:=Bv I.br e
 have hn:mA m=none:=ny.none_of (by rw[<- l];exact r m)
 exact TQ I.gL O (c.get m) k.at_ k.fn hn h
theorem DN {y:V}{u:Value}{Q:Unit->Shared->Prop} (I:Inv X ah σ H s) (e:H a=some (.ins C dx fs)) (c:pP X.K C) (n:gD X.K C f) (hl:fs.length < 1000) (ry:RelV y u)
  (h:∀ s',Inv X ah σ (aO H a (.ins C dx (mm f y fs))) s'->Q () s'):wpAny (model X.prog X.w) A (setAttr (.ref a) f u) Q E s:=by
 obtain⟨mA,O,r,wi,_,ho⟩:=Bv I.br e
 have hz:(fs.map (·.1)).length<=sizeLine:=by rw[aA,sizeLine_eq];omega
 refine Wu I.gL O c.sa c.po n.UD c.hd wi hz fun h' O' sb=>h _ ?_
 have hd:∃ o,h'.get? dx=some o:=let ⟨o,_,_,e',_⟩:=O'.ns; ⟨o,e'⟩
 refine I.write (x:=a) (e:=dx) (by rw[e];exact ie) (.inr ho) (fun b q hb z=>(sb.2 b hb).trans z) hd ?_
 refine⟨by rw[bh O.ne];exact ho,?_,O.ne,O'.obj,_,O'.ns,fun g => ?_,fun g hg => ?_⟩
 ·have:=B6 f y fs;omega
 ·show ny ((mm f y fs).lookup g) (if g=f then some u else mA g)
  rw[B4]
  by_cases q:g=f
  ·rw[if_pos q,if_pos q];exact ry
  ·rw[if_neg q,if_neg q];exact r g
 ·by_cases q:g=f
  ·rw[q];exact(zZ f y fs).1
  ·refine(zZ f y fs).2 g (wi g fun z=>hg ?_)
   show (if g=f then some u else mA g)=none
   rw[if_neg q];exact z
theorem Inv.made (I:Inv X ah σ H s):Inv X ah σ (aO (aO H s.heap.objs.size (.own (s.heap.objs.size+1))) (s.heap.objs.size+1) (.ins C s.heap.objs.size []))
  { s with heap:=(s.heap.push fK).push (ij C s.heap.objs.size) }:=by
 have e1:(s.heap.push fK).get? s.heap.objs.size=some fK:=bW s.heap rfl
 have e2:((s.heap.push fK).push (ij C s.heap.objs.size)).get? (s.heap.objs.size+1)=some (ij C s.heap.objs.size):=by
  have:=bW (s.heap.push fK) (o:=ij C s.heap.objs.size) rfl
  rwa [kT]at this
 have e3:(s.heap.push fK).Ns s.heap.objs.size (fun _=>none):=⟨fK, #[],_,e1,rfl,(fun e he=>absurd he (by simp)),fun _=>rfl⟩
 have I1:=I.laid (a:=s.heap.objs.size) (o := .own (s.heap.objs.size+1)) (h':=s.heap.push fK) (t':=s.toks) (fun b u q=>aN _ q) (aB _) ⟨_,e1⟩
 refine I1.laid (a:=s.heap.objs.size+1) (o := .ins C s.heap.objs.size []) (t':=s.toks) (fun b u q=>aN _ q) (uC (kT _ _)) ?_
 have ne:s.heap.objs.size≠s.heap.objs.size+1:=b7 (uB _)
 refine⟨by rw[bh ne,av],bA _,ne,e2,fun _=>none,(BV e3).at fun o q=>aN _ q,fun _=>ie,fun y hy=>absurd rfl hy⟩
theorem MK {prog:Program}{w:World}{env:Env}{e:Expr}{f:Str}{pos:Pos}{s:Shared}{Q:Value->Shared->Prop} (hb:attributeBase e f env (eval e env)=eval e env)
  (h:wpAny (model prog w) A (eval e env) (fun o fg => wpAny (model prog w) A (getAttr o f true) Q E fg) E s):wpAny (model prog w) A (eval (.Attribute e f pos) env) Q E s :=
 Attribute_any_ h (by rw[arm_eval_Attribute,hb])
end
inductive abF (K:aj) (f:Str) (x:V) (H:Hp) (Q:VK):Prop
 | mk (a C dx:Addr) (fs:List (Str × V)) (v:V) (hx:x = .ref a) (h:H a=some (.ins C dx fs)) (c:pP K C) (n:gD K C f) (l:fs.lookup f=some v) (q:Q v H):abF K f x H Q
def Nl (K:aj) (ta:TE) (f:Str):TE:=fun σ H Q=>ta σ H fun x H1=>abF K f x H1 Q
inductive Rt (K:aj) (f:Str) (D:Ends) (σ : St) (y:V) (x:V) (H2:Hp):Prop
 | mk:∀ a C dx fs,(x = .ref a)->(H2 a=some (.ins C dx fs))->(pP K C)->(gD K C f)->(fs.length < 1000)->(D.nx σ (aO H2 a (.ins C dx (mm f y fs))))->Rt K f D σ y x H2
def Yy (K:aj) (ta tv:TE) (f:Str):TS:=fun D σ H=>tv σ H fun y H1=>ta σ H1 fun x H2=>Rt K f D σ y x H2
def Um (X:Cx) (op:Operator) (rd:V->V->Hp->VK->Prop):Prop :=
 ∀ (ah:List (Addr × Obj)) (s:Shared) (σ : St) (H:Hp) (x y:V) (u v:Value) (Q:VK),Inv X ah σ H s->RelV x u->RelV y v->rd x y H Q->wpAny (model X.prog X.w) X.A (inplaceOp op u v) (EP X ah σ Q) X.xe s
def LO (K:aj) (ta tv:TE) (rd:V->V->Hp->VK->Prop) (f:Str):TS:=fun D σ H=>ta σ H fun x H1=>∃ a C dx fs v,x = .ref a∧H1 a=some (.ins C dx fs)∧pP K C∧gD K C f∧fs.lookup f=some v ∧
 tv σ H1 fun y H2=>rd v y H2 fun z H3=>∃ dx' My,H3 a=some (.ins C dx' My)∧My.length < 1000∧D.nx σ (aO H3 a (.ins C dx' (mm f z My)))
section
variable {X:Cx}{o e value:Expr}{f:Str}{pos eu RQ:Pos}{ta tv:TE}
theorem Y3 (he:PE X e ta) (hb:attributeBase e f X.env (eval e X.env)=eval e X.env):PE X (.Attribute e f pos) (Nl X.K ta f):=by
 intro ah s σ H Q I h
 refine MK hb (cz (he ah s σ H _ I h) fun u s1 ⟨x,H1,I1,rx,a,C,dx,fs,v,ex,ea,c,n,l,q⟩ => ?_)
 subst ex
 obtain rfl:u=bf a:=rx
 exact Ep I1 ea c n l fun u' s2 I2 ru=>⟨v,H1,I2,ru,q⟩
theorem fQ (he:QE X e ta) (hb:attributeBase e f X.env (eval e X.env)=eval e X.env):QE X (.Attribute e f pos) (Nl X.K ta f):=by
 delta QE at *
 exact Y3 he hb
theorem YN (ha:PE X o ta) (hv:PE X value tv) (hs:swapsWith value (some (.Attribute o f eu)) pos.line X.env=pure false):PS X (.Assign [.Attribute o f eu] value pos) (Yy X.K ta tv f):=by
 intro ah s σ H D I h
 refine plainObj_wpAny_Assign_Attribute (cz (hv ah s σ H _ I h) fun u s1 ⟨y,H1,I1,ry,q⟩=>cz (ha ah s1 σ H1 _ I1 q) fun ov s2 ⟨x,H2,I2,rx,a,C,dx,fs,ex,ea,c,n,l,q2⟩ => ?_) hs
 subst ex
 obtain rfl:ov=bf a:=rx
 exact DN I2 ea c n l ry fun s3 I3=>⟨σ,_,I3,q2⟩
theorem mP (ha:QE X o ta) (hv:QE X value tv) (hs:swapsWith value (some (.Attribute o f eu)) pos.line X.env=pure false):QS X (.Assign [.Attribute o f eu] value pos) (Yy X.K ta tv f):=by
 delta QE QS at *
 exact YN ha hv hs
theorem Pb {op:Operator}{rd:V->V->Hp->VK->Prop} (ha:PE X o ta) (hv:PE X value tv) (hop:Um X op rd):PS X (.AugAssign (.Attribute o f RQ) op value pos) (LO X.K ta tv rd f):=by
 intro ah s σ H D I h
 refine wpAny_AugAssign_AttributeAny (cz (ha ah s σ H _ I h) fun ov s1 hh => ?_)
 obtain⟨x,H1,I1,rx,a,C,dx,fs,v,ex,ea,c,n,l,q⟩:=hh
 subst ex
 obtain rfl:ov=bf a:=rx
 refine Ep I1 ea c n l fun u s2 I2 ru=>cz (hv ah s2 σ H1 _ I2 q) fun w3 s3 ⟨y,H2,I3,ry,q3⟩=>cz (hop ah s3 σ H2 v y u w3 _ I3 ru ry q3) fun w4 s4 hh => ?_
 obtain⟨z,H3,I4,rz,dx',My,ea',l',q4⟩:=hh
 exact DN I4 ea' c n l' rz fun s5 I5=>⟨σ,_,I5,q4⟩
theorem DT {op:Operator}{rd:V->V->Hp->VK->Prop} (ha:QE X o ta) (hv:QE X value tv) (hop:Um X op rd):QS X (.AugAssign (.Attribute o f RQ) op value pos) (LO X.K ta tv rd f):=by
 delta QE QS at *
 exact Pb ha hv hop
inductive RA (x:V) (y:V) (H:Hp) (Q:VK):Prop
 | mk:∀ i j,(x = .int i)->(y = .int j)->(Q (.int (i+j)) H)->RA x y H Q
def ad3:V->V->Hp->VK->Prop:=fun x y H Q=>RA x y H Q
theorem PZ:Um X .Add ad3:=by
 rintro ah s σ H x y u v Q I rx ry ⟨i,j,rfl,rfl,q⟩
 obtain⟨t,rfl⟩:=(show ∃ t,u=kY i t from rx)
 obtain⟨t',rfl⟩:=(show ∃ t',v=kY j t' from ry)
 exact PyProof.Rows.iadd_int ⟨.int (i+j),H,I.tok _,⟨_,rfl⟩,q⟩
end
section
variable {X:Cx}{ah:List (Addr × Obj)}{σ : St}{H:Hp}{s:Shared}{A:Around}{E:Value->Shared->Prop}{Q:Value->Shared->Prop}{c:Value}{b:Bool}
inductive qy (K:aj) (H:Hp):V->Value->Prop where
 | b9:qy K H .b9 (.type "NoneType")
 | bl (x:Bool):qy K H (.bl x) (.type "bool")
 | int (i:Int):qy K H (.int i) (.type "int")
 | str (x:Str):qy K H (.str x) (.type "str")
 | Kd (x:UInt64):qy K H (.Kd x) (.type "float")
 | lst {a:Addr}{xs:List V} (e:H a=some (.lst xs)):qy K H (.ref a) (.type "list")
 | uf {a:Addr}{o:Obj}{xs:List V} (e:H a=some (.uf o (.lst xs))):qy K H (.ref a) (.type "list")
 | tup {a:Addr}{xs:List V} (e:H a=some (.tup xs)):qy K H (.ref a) (.type "tuple")
 | dK {a:Addr}{kvs:List (Key × V)} (e:H a=some (.dK kvs)):qy K H (.ref a) (.type "dict")
 | dT {a:Addr}{kvs:List (List Key × V)} (e:H a=some (.dT kvs)):qy K H (.ref a) (.type "dict")
 | ins {a C dx:Addr}{fs:List (Str × V)} (e:H a=some (.ins C dx fs)) (cl:pP K C) (ha:bj K (.ref C) "__class__" = some (some (.builtin "object.__class__")))
   (hn:PySem.W.specialIn K (.builtin "object.__class__") "__get__" = some (some (.builtin "getset_descriptor.__get__"))) (htk:PySem.W.takesIn K (.builtin "object.__class__")=some true)
   (hm:yZ K C (.type "object")=some true):qy K H (.ref a) (.ref C)
theorem PX {x:V}{u t:Value} (I:Inv X ah σ H s) (rx:RelV x u) (ty:qy X.K H x t) (e:bY X.K t c=some b) (h:∀ tk,Q (.bool b) { s with toks:=tk }) :
  wpAny (model X.prog X.w) A (call (.builtin "isinstance") [u,c]) Q E s:=by
 cases ty with
 | b9=>cases (show u=ef from rx);exact eN PySem.W.kitx_none I.gL ie e (fun z=>nomatch z) h
 | bl y=>cases (show u=iM y from rx);exact eN PySem.W.kitx_bool I.gL ie e (fun z=>nomatch z) h
 | int i=>obtain⟨t,q⟩:=(show ∃ t,u=kY i t from rx);cases q;exact eN PySem.W.kitx_int I.gL ie e (fun z=>nomatch z) h
 | str y=>obtain⟨t,q⟩:=(show ∃ t,u=rk y t from rx);cases q;exact eN PySem.W.kitx_str I.gL ie e (fun z=>nomatch z) h
 | Kd y=>obtain⟨t,q⟩:=(show ∃ t,u=Cj y t from rx);cases q;exact eN PySem.W.kitx_float I.gL ie e (fun z=>nomatch z) h
 | @lst a xs ea =>
  cases (show u=bf a from rx)
  obtain⟨_,_,n,_,h1⟩:=(show dD X.prog X.w H s.heap a (.lst xs) from I.br a _ ea)
  exact eN BM I.gL ⟨_,h1,rfl⟩ e (fun z=>nomatch z) h
 | @uf a ob xs ea =>
  cases (show u=bf a from rx)
  obtain⟨_,_,_,n,_,h1⟩:=(show dD X.prog X.w H s.heap a (.uf ob (.lst xs)) from I.br a _ ea)
  exact eN BM I.gL ⟨_,h1,rfl⟩ e (fun z=>nomatch z) h
 | @tup a xs ea =>
  cases (show u=bf a from rx)
  obtain⟨_,_,_,p⟩:=(show dD X.prog X.w H s.heap a (.tup xs) from I.br a _ ea)
  obtain⟨o,h1,h2,_⟩:=p
  exact eN PySem.W.kitx_tuple I.gL ⟨o,h1,h2⟩ e (fun z=>nomatch z) h
 | @dK a kvs ea =>
  cases (show u=bf a from rx)
  obtain⟨_,_,vs,_,p⟩:=(show dD X.prog X.w H s.heap a (.dK kvs) from I.br a _ ea)
  obtain⟨o,es,ep,h1,h2,_⟩:=p
  exact eN BN I.gL ⟨o,h1,h2.1⟩ e (fun z=>nomatch z) h
 | @dT a kvs ea =>
  cases (show u=bf a from rx)
  obtain⟨_,_,xs,_,o,es,ep,h1,h2,_⟩:=(show dD X.prog X.w H s.heap a (.dT kvs) from I.br a _ ea)
  exact eN BN I.gL ⟨o,h1,h2.1⟩ e (fun z=>nomatch z) h
 | @ins a C dx fs ea cl ha hn htk hm =>
  cases (show u=bf a from rx)
  obtain⟨mA,O,_⟩:=Bv I.br ea
  obtain⟨od,J,_⟩:=O.look
  exact eN (PySem.W.kitx_own (cl.get _) cl.hd ha hn htk hm) I.gL J e (fun z=>nomatch z) h
end
structure dq (k:Nat) (A:Around):Prop where
 hd:A.handled=none
 dp:A.depth+3 * k+5 < recursionLimit
 un:A.units+16 * k+200 < cLine
theorem dq.mono {j k:Nat}{A:Around} (r:dq k A) (h:j<=k):dq j A:=⟨r.hd,by have:=r.dp;omega,by have:=r.un;omega⟩
theorem dq.deeper {k:Nat}{A:Around} (r:dq (k+1) A) (env:Env):dq k (A.deeper env) :=
 ⟨r.hd,by have:=r.dp;show A.depth+1+3 * k+5 < _;omega,by have:=r.un;show A.units+3+16 * k+200 < _;omega⟩
theorem D6 {A:Around}{C:Addr}{us:List Value}{kw:List (Str × Value)}:(A.under (.builtin "type.__call__" ⟨.ref C :: us,kw⟩)).depth=A.depth+1:=by
 first | rfl | simp[Bj,Code.weight,Code.isCreation,Code.isGuard,Code.isCaller,Code.frames,Bh,guardIds]
theorem D5 {A:Around}{C:Addr}{us:List Value}{kw:List (Str × Value)}:(A.under (.builtin "type.__call__" ⟨.ref C :: us,kw⟩)).units=A.units+1:=by
 first | rfl | simp[Bj,Code.cUnits,Code.frames,Bh]
theorem dq.make {k:Nat}{A:Around} (r:dq (k+1) A) (C:Addr) (us:List Value) (kw:List (Str × Value)):dq k (A.under (.builtin "type.__call__" ⟨.ref C :: us,kw⟩)) :=
 ⟨r.hd,by have:=r.dp;rw[D6];omega,by have:=r.un;rw[D5];omega⟩
theorem dq.depth {k:Nat}{A:Around} (r:dq k A):A.depth < recursionLimit:=by have:=r.dp;omega
theorem dq.units {k:Nat}{A:Around} (r:dq k A):A.units+64 < cLine:=by have:=r.un;omega
theorem dq.OB {k:Nat}{A:Around} (r:dq k A):A.units < cLine:=by have:=r.un;omega
def sT:TA:=fun _ H Q=>Q [] H
def sx (ta:TE) (tr:TA):TA:=fun σ H Q=>ta σ H fun x H1=>tr σ H1 fun xs H2=>Q (x :: xs) H2
section
variable {X:Cx}{e:Expr}{es:List Expr}{te:TE}{t:TA}{pos:Pos}
theorem Pp:PA X [] sT:=fun _ _ _ _ H Q I h=>BW ⟨[],H,I,.nil,h⟩
theorem ag:QA X [] sT:=by
 delta QA at *
 exact Pp 
theorem L5 (ha:PE X e te) (hr:PA X es t) (hs:starEach (e :: es) X.env=(false,eval e X.env) :: starEach es X.env:=by rfl):PA X (e :: es) (sx te t):=by
 intro pos ah s σ H Q I h
 rw[hs]
 show wpAny _ _ (spliced ((false,eval e X.env) :: backTo pos (starEach es X.env))) _ _ s
 refine rq (cz (ha ah s σ H _ I h) fun u s1 ⟨x,H1,I1,r1,q1⟩ => ?_)
 exact cz (hr pos ah s1 σ H1 _ I1 q1) fun us s2 ⟨xs,H2,I2,r2,q2⟩=>⟨x :: xs,H2,I2,.cons r1 r2,q2⟩
theorem ae (ha:QE X e te) (hr:QA X es t) (hs:starEach (e :: es) X.env=(false,eval e X.env) :: starEach es X.env:=by rfl):QA X (e :: es) (sx te t):=by
 delta QA QE at *
 exact L5 ha hr hs
def Yh (t:TA):TE:=fun σ H Q=>t σ H fun xs H1=>xs.length<=sizeLine∧∀ p,H1 p=none->Q (.ref p) (aO H1 p (.tup xs))
def Nk (t:TA):TE:=fun σ H Q=>t σ H fun xs H1=>xs.length<=sizeLine∧∀ p,H1 p=none->Q (.ref p) (aO H1 p (.lst xs))
theorem YX {x1} (h:PA X es t):PE X (.Tuple es x1 pos) (Yh t):=by
 intro ah s σ H Q I hq
 refine wpAny_Tuple_spliced (cz (h pos ah s σ H _ I hq) fun us s1 ⟨xs,H1,I1,r,z,q⟩=>⟨by rw[<- r.length];exact z,?_⟩)
 have hf:H1 s1.heap.objs.size=none:=I1.br.fresh (aB _)
 refine⟨.ref s1.heap.objs.size,aO H1 s1.heap.objs.size (.tup xs),I1.laid (t':=s1.toks) (fun b u e=>aN _ e) (aB _) ?_,rfl,q _ hf⟩
 exact⟨z,us,r,⟨_,bW _ rfl,rfl,_,rfl,rfl⟩⟩
theorem aS {x1} (h:QA X es t):QE X (.Tuple es x1 pos) (Yh t):=by
 delta QA QE at *
 exact YX h
theorem Y1 (h:PA X es t):PE X (.List es pos) (Nk t):=by
 intro ah s σ H Q I hq
 refine wpAny_List_spliced (cz (h pos ah s σ H _ I hq) fun us s1 ⟨xs,H1,I1,r,z,q⟩=>⟨by rw[<- r.length];exact z,?_⟩)
 have hf:H1 s1.heap.objs.size=none:=I1.br.fresh (aB _)
 refine⟨.ref s1.heap.objs.size,aO H1 s1.heap.objs.size (.lst xs),I1.laid (t':=s1.toks) (fun b u e=>aN _ e) (aB _) ?_,rfl,q _ hf⟩
 exact⟨z,us,0,r,bW _ rfl⟩
theorem gi (h:QA X es t):QE X (.List es pos) (Nk t):=by
 delta QA QE at *
 exact Y1 h
end
abbrev Sp:=List V->Hp->VK->XK->Prop
abbrev uN:=List Env->Hp->Shared->XK->Value->Shared->Prop
structure yB (P:Program) (w:World) (K:aj) (mg:Str->Option Value) (base:Heap) (A:Around) (outer:List Env) (s:Shared) (H:Hp):Prop where
 frames:A.frames=some outer
 mod:Mod K mg base
 bs:∀ b o,base.get? b=some o->s.heap.get? b=some o∧H b=none
 wW:base.objs.size<=s.heap.objs.size
 nu:s.heap.FunFrames base outer
 Ar:∀ b∈dU outer,H b=none
 br:gh P w H s.heap
 bare:AllBare s.gens
def CE (outer:List Env) (P:Program) (w:World) (H:Hp) (s:Shared) (Q:VK) (u:Value) (s':Shared):Prop :=
 ∃ v H',s'.os=s.os∧AllBare s'.gens∧Un (dU outer) [] H H' s.heap s'.heap∧gh P w H' s'.heap∧RelV v u∧Q v H'
def CR (CX:uN) (outer:List Env) (P:Program) (w:World) (H:Hp) (s:Shared) (Q:VK) (E:XK) (r:Result) (s':Shared):Prop :=
 match r with
 | .ok (.ret u)=>CE outer P w H s Q u s'
 | .ok _=>False
 | .error e=>CX outer H s E e s'
structure jF (P:Program) (w:World) (K:aj) (mg:Str->Option Value) (base:Heap) (CX:uN) (k:Nat) (f:Addr) (fd:FuncData) (ps:List Str) (sp:Sp):Prop where
 len:∀ vs H Q E,sp vs H Q E->vs.length=ps.length
 run:∀ (A:Around) (outer:List Env) (s:Shared) (H:Hp) (args:Args) (us:List Value) (vs:List V) (Q:VK) (E:XK),dq k A->yB P w K mg base A outer s H->BindsTo s fd args (ps.zip us)->Vals vs us->sp vs H Q E ->
  codeAny (model P w) A (.call (.ref f) args) (CR CX outer P w H s Q E) s
theorem yB.make {P:Program}{w:World}{K:aj}{mg:Str->Option Value}{base:Heap}{A:Around}{outer:List Env}{s:Shared}{H:Hp} (e:yB P w K mg base A outer s H) (C:Addr) (us:List Value) (kw:List (Str × Value)) :
  yB P w K mg base (A.under (.builtin "type.__call__" ⟨.ref C :: us,kw⟩)) outer s H:=⟨by first | exact e.frames | (simpa [Bj,Code.envs,Bh,pushEnvs] using e.frames),e.mod,e.bs,e.wW,e.nu,e.Ar,e.br,e.bare⟩
section
variable {X:Cx}{ah:List (Addr × Obj)}{σ : St}{H:Hp} {s s':Shared}
theorem Inv.Kf (I:Inv X ah σ H s):yB X.prog X.w X.K X.mg X.base X.A X.stack s H :=
 ⟨I.ok.frames,I.ok.mod,I.bs,a9 I.ok.wW I.sz,I.stack,I.wm,I.br,I.bare⟩
theorem Inv.after {Q:VK}{u:Value} (I:Inv X ah σ H s) (h:CE X.stack X.prog X.w H s Q u s'):EP X ah σ Q u s':=by
 obtain⟨v,H',os,bare,un,br,r,q⟩:=h
 obtain⟨hh,g,d,t,os'⟩:=s'
 obtain rfl:os'=s.os:=os
 exact⟨v,H',I.call (h':=hh) (g':=g) (d':=d) (t':=t) (ch := []) un br bare (fun b z=>absurd z (by simp)),r,q⟩
end
def k7 (sp:Sp) (gb:List V) (E:XK) (t:TA):TE:=fun σ H Q=>t σ H fun vs H1=>sp (vs ++ gb) H1 Q E
inductive MY (C:Addr) (m:Str) (sp:Sp) (gb:List V) (E:XK) (t:TA) (σ : St) (Q:VK) (x:V) (H1:Hp):Prop
 | mk:∀ a dx fs,(x = .ref a)->(H1 a=some (.ins C dx fs))->(fs.lookup m=none)->(t σ H1 fun vs H2=>sp (x :: (vs ++ gb)) H2 Q E)->MY C m sp gb E t σ Q x H1
def xv (C:Addr) (m:Str) (sp:Sp) (gb:List V) (E:XK) (ta:TE) (t:TA):TE:=fun σ H Q=>ta σ H fun x H1=>MY C m sp gb E t σ Q x H1
def Nj (C:Addr) (sp:Sp) (gb:List V) (E:XK) (t:TA):TE:=fun σ H Q=>t σ H fun vs H1=>∀ x dx,H1 x=none->H1 dx=none->dx≠x ->
 sp (.ref x :: (vs ++ gb)) (aO (aO H1 dx (.own x)) x (.ins C dx [])) (fun v H2=>v = .b9∧Q (.ref x) H2) E
def Binds (K:aj) (fd:FuncData) (ps:List Str) (ds:List Value):Prop :=
 ∀ (s:Shared) (us:List Value),K.In s.heap->(us ++ ds).length=ps.length->BindsTo s fd ⟨us, []⟩ (ps.zip (us ++ ds))
theorem Binds.all {K:aj}{fd:FuncData}{ps:List Str} (h:∀ us:List Value,us.length=ps.length->bindArgs fd ⟨us, []⟩=pure (ps.zip us)):Binds K fd ps []:=fun s us _ hl=>by
 rw[dh]at hl ⊢
 exact .of_eq (h us hl)
def Passes (CX:uN) (X:Cx) (E:XK):Prop := ∀ (ah:List (Addr × Obj)) (σ : St) (H:Hp) (s:Shared) (e:Value) (s':Shared),Inv X ah σ H s->CX X.stack H s E e s'->X.xe e s'
section
variable {X:Cx}{CX:uN}{k:Nat}{f C:Addr}{fd:FuncData}{ps:List Str}{sp:Sp}{gb:List V}{ds:List Value}{E:XK}{x m:Str}{p pos fS:Pos}{e o:Expr}{es:List Expr}{ta:TE}{t:TA}
theorem IZ {ah:List (Addr × Obj)}{σ : St}{H:Hp}{s:Shared}{Q:VK}{us:List Value}{vs:List V} (F:jF X.prog X.w X.K X.mg X.base CX k f fd ps sp) (hr:dq k X.A) (hb:Binds X.K fd ps ds) (hd:Vals gb ds) (hx:Passes CX X E)
  (I:Inv X ah σ H s) (r:Vals vs us) (h:sp (vs ++ gb) H Q E):wpAny (model X.prog X.w) X.A (call (.ref f) us) (EP X ah σ Q) X.xe s:=by
 have r2:Vals (vs ++ gb) (us ++ ds):=r.append hd
 have hl:(us ++ ds).length=ps.length:=by rw[<- r2.length];exact F.len _ _ _ _ h
 refine wpAny_call (codeAny_mono (F.run X.A X.stack s H ⟨us, []⟩ (us ++ ds) (vs ++ gb) Q E hr I.Kf (hb s us I.gL hl) r2 h) fun r s' hq => ?_)
 cases r with
 | error e=>exact hx ah σ H s e s' I hq
 | ok fl =>
  cases fl with
  | ret u=>exact I.after hq
  | next=>exact cj hq
  | brk=>exact cj hq
  | cont=>exact cj hq
theorem L4 (F:jF X.prog X.w X.K X.mg X.base CX k f fd ps sp) (hr:dq k X.A) (hg:Gl X x) (hm:X.mg x=some (.ref f)) (hk:cA X.K (.ref f)=true) (hb:Binds X.K fd ps ds) (hd:Vals gb ds) (hx:Passes CX X E)
  (ha:PA X (e :: es) t) (iR:(x == ("__debug__" : Str))=false:=by decide) (he:starEach (e :: es) X.env=(false,eval e X.env) :: starEach es X.env:=by rfl) (fu:(backTo pos (starEach es X.env)).any (·.1)=false:=by rfl) :
  PE X (.Call (.Name x p) (e :: es) [] pos) (k7 sp gb E t):=by
 intro ah s σ H Q I h
 refine wpAny_Call_Name_kw (jq I hg hm ?_ iR)
 refine jV (h₀ := X.base) I.ok.mod.zY hk (cz (ha pos ah s σ H _ I h) fun us s1 ⟨vs,H1,I1,r,q⟩=>⟨I1.gL,?_⟩) he fu
 exact IZ F hr hb hd hx I1 r q
theorem WZ {pl:Sem Bool} (he:PE X o ta) (c:pP X.K C) (hm:Meth X.K C m f) (F:jF X.prog X.w X.K X.mg X.base CX k f fd ps sp) (hr:dq k X.A) (hb:Binds X.K fd ps ds) (hd:Vals gb ds) (hx:Passes CX X E) (ha:PA X (e :: es) t)
  (kE:starEach (e :: es) X.env=(false,eval e X.env) :: starEach es X.env:=by rfl) (fu:(backTo pos (starEach es X.env)).any (·.1)=false:=by rfl)
  (ht:eval (.Call (.Attribute o m fS) (e :: es) [] pos) X.env=(do
   let ov <- eval o X.env
   standAt fS.atName
   let (f,first) <- holding [ov] (getMethod ov m pl)
   callWith pos f first (backTo pos (starEach (e :: es) X.env)) (backToKw pos (keywordEach [] X.env))):=by rfl) :
  PE X (.Call (.Attribute o m fS) (e :: es) [] pos) (xv C m sp gb E ta t):=by
 intro ah s σ H Q I h
 refine xf (pl:=pl) (cz (he ah s σ H _ I h) fun u s1 ⟨x,H1,I1,rx,a,dx,fs,ex,ea,l,q⟩ => ?_) ht
 subst ex
 obtain rfl:u=bf a:=rx
 refine Eo I1 ea c hm l ?_
 refine jV (first := [.ref a]) (h₀ := X.base) I.ok.mod.zY hm.kp (cz (ha pos ah s1 σ H1 _ I1 q) fun us s2 ⟨vs,H2,I2,r,q2⟩=>⟨I2.gL,?_⟩) kE fu
 exact IZ (us := .ref a :: us) (vs := .ref a :: vs) F hr hb hd hx I2 (.cons rfl r) q2
theorem Sv {pl:Sem Bool} (he:PE X o ta) (c:pP X.K C) (hm:Meth X.K C m f) (F:jF X.prog X.w X.K X.mg X.base CX k f fd ps sp) (hr:dq k X.A) (hb:Binds X.K fd ps ds) (hd:Vals gb ds) (hx:Passes CX X E)
  (ht:eval (.Call (.Attribute o m fS) [] [] pos) X.env=(do
   let ov <- eval o X.env
   standAt fS.atName
   let (f,first) <- holding [ov] (getMethod ov m pl)
   callWith pos f first (backTo pos (starEach [] X.env)) (backToKw pos (keywordEach [] X.env))):=by rfl) :
  PE X (.Call (.Attribute o m fS) [] [] pos) (xv C m sp gb E ta sT):=by
 intro ah s σ H Q I h
 refine xf (pl:=pl) (cz (he ah s σ H _ I h) fun u s1 ⟨x,H1,I1,rx,a,dx,fs,ex,ea,l,q⟩ => ?_) ht
 subst ex
 obtain rfl:u=bf a:=rx
 refine Eo I1 ea c hm l ?_
 exact PySem.W.callWith_K0 (first := [.ref a]) I1.gL hm.kp (IZ (us := [.ref a]) (vs := [.ref a]) F hr hb hd hx I1 (.cons rfl .nil) q)
structure Mk (K:aj) (C f:Addr):Prop where
 makes:pF K C=true
 init:bj K (.ref C) "__init__" = some (some (.ref f))
 fn:kM K (.ref f)=true
 kp:cA K (.ref C)=true
theorem R6 {ah:List (Addr × Obj)}{σ : St}{H:Hp}{s:Shared}{Q:VK}{us:List Value}{vs:List V} (M:Mk X.K C f) (F:jF X.prog X.w X.K X.mg X.base CX k f fd ps sp) (hr:dq (k+1) X.A) (hb:Binds X.K fd ps ds) (hd:Vals gb ds)
  (hx:Passes CX X E) (I:Inv X ah σ H s) (r:Vals vs us)
  (h:∀ x dx,H x=none->H dx=none->dx≠x->sp (.ref x :: (vs ++ gb)) (aO (aO H dx (.own x)) x (.ins C dx [])) (fun v H2=>v = .b9∧Q (.ref x) H2) E) :
  wpAny (model X.prog X.w) X.A (call (.ref C) us) (EP X ah σ Q) X.xe s:=by
 have hq:=h (s.heap.objs.size+1) s.heap.objs.size (I.br.fresh (lU _)) (I.br.fresh (aB _)) (b7 (uB _))
 have I2:=Inv.made (C:=C) I
 have r2:Vals (V.ref (s.heap.objs.size+1) :: (vs ++ gb)) (bf (s.heap.objs.size+1) :: (us ++ ds)) := .cons rfl (r.append hd)
 have hl:(bf (s.heap.objs.size+1) :: us ++ ds).length=ps.length:=by
  have e:=r2.length
  rw[F.len _ _ _ _ hq]at e
  exact e.symm
 refine wpAny_call (Tg (f:=f) I.gL M.makes M.init (beq_iff_eq.mp M.fn) (codeAny_mono (F.run _ X.stack _ _ ⟨bf (s.heap.objs.size+1) :: us, []⟩ (bf (s.heap.objs.size+1) :: (us ++ ds)) _ _ E (hr.make C us [])
  (I2.Kf.make C us []) (hb _ (bf (s.heap.objs.size+1) :: us) I2.gL hl) r2 hq) fun r s' Ae => ?_))
 cases r with
 | error e=>exact hx ah σ _ _ e s' I2 Ae
 | ok fl =>
  cases fl with
  | ret u =>
   obtain⟨v,H',I3,rv,ev,q3⟩:=I2.after Ae
   subst ev
   exact⟨rv,⟨V.ref (s.heap.objs.size+1),H',I3,rfl,q3⟩⟩
  | next=>exact cj Ae
  | brk=>exact cj Ae
  | cont=>exact cj Ae
theorem W0 (M:Mk X.K C f) (F:jF X.prog X.w X.K X.mg X.base CX k f fd ps sp) (hr:dq (k+1) X.A) (hg:Gl X x) (hm:X.mg x=some (.ref C)) (hb:Binds X.K fd ps ds) (hd:Vals gb ds) (hx:Passes CX X E)
  (ha:PA X (e :: es) t) (iR:(x == ("__debug__" : Str))=false:=by decide) (he:starEach (e :: es) X.env=(false,eval e X.env) :: starEach es X.env:=by rfl) (fu:(backTo pos (starEach es X.env)).any (·.1)=false:=by rfl) :
  PE X (.Call (.Name x p) (e :: es) [] pos) (Nj C sp gb E t):=by
 intro ah s σ H Q I h
 refine wpAny_Call_Name_kw (jq I hg hm ?_ iR)
 refine jV (h₀ := X.base) I.ok.mod.zY M.kp (cz (ha pos ah s σ H _ I h) fun us s1 ⟨vs,H1,I1,r,q⟩=>⟨I1.gL,?_⟩) he fu
 exact R6 M F hr hb hd hx I1 r q
end
section
variable {X:Cx}{CX:uN}{k:Nat}{f C:Addr}{fd:FuncData}{ps ks:List Str}{sp:Sp}{E:XK}{x m:Str}{p pos fS ahG:Pos}{e o:Expr}{es:List Expr}{Mc:List Keyword}{te ta:TE}{t tk:TA}{nm:Option Str}
variable {g:List Value->List Value->List Value}{gV:List V->List V->List V}
end
structure bx (N P:List Str) (sc:Scope):Prop where
 kind:sc.kind = .function
 co:sc.isCoroutine=false
 gen:sc.isGenerator=false
 nd:N.Nodup
 pre:N.take P.length=P
 par:∀ x∈P,sc.names.lookup x=some .local∨sc.names.lookup x=some .cell
 Zi:∀ y∈sc.names,y.2 ≠ .free
theorem Hh {kindOf:Str->Option NameKind}{x:Str}:∀ {binds:List (Str × Value)}{m:Str->Option Value},(∀ v,(x,v) ∉ binds)->bindL kindOf binds m x=m x
 | [],_,_=>rfl
 | (n,v) :: r,m,h=>by
  unfold bindL
  rw[Hh fun w hw=>h w (aL _ hw)]
  split
  ·have:x≠n:=by rintro rfl;exact h v aV
   simp[this]
  ·rfl
theorem Hj {kindOf:Str->Option NameKind}{x:Str}:∀ {binds:List (Str × Value)}{m:Str->Option Value},(∀ v,(x,v) ∉ binds)->bindC kindOf binds m x=m x
 | [],_,_=>rfl
 | (n,v) :: r,m,h=>by
  unfold bindC
  rw[Hj fun w hw=>h w (aL _ hw)]
  split
  ·rfl
  ·have:x≠n:=by rintro rfl;exact h v aV
   simp[this]
theorem Hi {kindOf:Str->Option NameKind}{x:Str}{v:Value}:∀ {P:List Str}{vs:List Value}{i:Nat}{m:Str->Option Value},P.Nodup->P[i]? = some x->vs[i]? = some v->kindOf x=some .local ->
  bindL kindOf (P.zip vs) m x=some v
 | [],_,_,_,_,h,_,_=>by simp at h
 | _ :: _, [],_,_,_,_,h,_=>by simp at h
 | p :: P,w :: vs,0,m,nd,h1,h2,hk=>by
  simp at h1 h2;subst h1;subst h2
  show bindL kindOf ((p,w) :: P.zip vs) m p=_
  unfold bindL
  rw[Hh fun v hv=>(pJ.mp nd).1 (pI hv).1,if_pos hk]
  simp
 | p :: P,w :: vs,i+1,m,nd,h1,h2,hk=>by
  show bindL kindOf ((p,w) :: P.zip vs) m x=_
  unfold bindL
  exact Hi (i:=i) (pJ.mp nd).2 (by simpa using h1) (by simpa using h2) hk
theorem Hk {kindOf:Str->Option NameKind}{x:Str}{v:Value}:∀ {P:List Str}{vs:List Value}{i:Nat}{m:Str->Option Value},P.Nodup->P[i]? = some x->vs[i]? = some v->kindOf x≠some .local ->
  bindC kindOf (P.zip vs) m x=some v
 | [],_,_,_,_,h,_,_=>by simp at h
 | _ :: _, [],_,_,_,_,h,_=>by simp at h
 | p :: P,w :: vs,0,m,nd,h1,h2,hk=>by
  simp at h1 h2;subst h1;subst h2
  show bindC kindOf ((p,w) :: P.zip vs) m p=_
  unfold bindC
  rw[Hj fun v hv=>(pJ.mp nd).1 (pI hv).1,if_neg hk]
  simp
 | p :: P,w :: vs,i+1,m,nd,h1,h2,hk=>by
  show bindC kindOf ((p,w) :: P.zip vs) m x=_
  unfold bindC
  exact Hk (i:=i) (pJ.mp nd).2 (by simpa using h1) (by simpa using h2) hk
def start (N:List Str) (vs:List V):St:=vs.map some ++ dM (N.length - vs.length) none
def bZ (CX:uN) (P:Program) (w:World) (K:aj) (mg:Str->Option Value) (base:Heap) (N:List Str) (bu:Str) (scope:Scope) (f:Addr) (cd:Value) (A:Around) (outer:List Env) (s:Shared) (H:Hp) (E:XK):Cx where
 prog:=P
 w:=w
 K:=K
 mg:=mg
 base:=base
 A:=A.deeper (envOfC bu scope s.heap.objs.size f cd)
 N:=N
 ky := s
 Bc := H
 env:=envOfC bu scope s.heap.objs.size f cd
 outer:=outer
 stack:=envOfC bu scope s.heap.objs.size f cd :: outer
 ex := []
 calm:=true
 fn:=fun _=>true
 pn := []
 xe:=fun e s'=>wpAny (model P w) (A.deeper (envOfC bu scope s.heap.objs.size f cd)) (leaving (envOfC bu scope s.heap.objs.size f cd) e) (fun _ zJ=>CX outer H s E e zJ) (fun e' zJ=>CX outer H s E e' zJ) s'
theorem Ko {sc:Scope}{n:Nat}{x:Str} (h:sc.names.lookup x=some .cell):∃ c,(cellsFrom n sc.names []).lookup x=some c:=by
 have q:=nN sc.names n [] (.inl h)
 exact mF.mp q
theorem GS {CX:uN}{P:Program}{w:World}{K:aj}{mg:Str->Option Value}{base:Heap}{N ps:List Str}{bu:Str}{scope:Scope}{f:Addr}{cd:Value}{A:Around}{outer:List Env}{s s1:Shared}{H:Hp}{E:XK}{us:List Value}{vs:List V}
  (S:bx N ps scope) (hd:A.handled=none) (e0:yB P w K mg base A outer s H) (hl:vs.length=ps.length) (r:Vals vs us)
  (x:InCallC s s.heap.objs.size (bindL (envOfC bu scope s.heap.objs.size f cd).kindOf (ps.zip us) fun _=>none) (cellsFrom (s.heap.objs.size+1) scope.names []) (bindC (envOfC bu scope s.heap.objs.size f cd).kindOf (ps.zip us) fun _=>none) s1) :
  Inv (bZ CX P w K mg base N bu scope f cd A outer s H E) [] (start N vs) H s1:=by
 have fu:ps.length<=N.length:=by have:=congrArg qR S.pre;rw[eA]at this;omega
 obtain⟨h1,tk,rfl,hk⟩:=x.done
 have PF:∀ b:Addr,b ∉ (bZ CX P w K mg base N bu scope f cd A outer s H E).ex:=fun b z=>absurd (show b∈([]:List Addr) from z) (by simp)
 refine⟨⟨e0.mod,S.kind,rfl,rfl,aB _,fun y z c h1 h2 => ?_,fun y hy => ?_,fun y c _ h => ?_,fun _=>hd,Around.frames_deeper e0.frames,.inr ⟨rfl,rfl⟩,fun b z=>absurd z (PF b),e0.bs,e0.wW,fun b _ _=>PF b,fun b z=>absurd z (PF b),e0.nu,e0.Ar⟩,
  rfl,e0.bare,Un.kept hk,⟨_,x.toInCall.ns,fun i y v h1 h2 h3 => ?_⟩,fun y c h=>⟨_,x.cell y c h⟩,e0.br.fresh (aB _),fun y c h => ?_,fun p hp=>absurd (show p∈([]:List (Addr × Obj)) from hp) (by simp),e0.br.kept hk,?_⟩
 ·exact name_of_addr x.apart (jy h1) (jy h2)
 ·have hy:scope.names.lookup y=some .cell∨scope.names.lookup y=some .free:=hy
  rcases hy with hy | hy
  ·exact Ko hy
  ·exact absurd rfl (S.Zi _ (jy hy))
 ·exact AZ (x.above y c (jy h))
 ·have hi:i < vs.length:=by
   unfold start at h2
   by_cases hi:i < vs.length
   ·exact hi
   ·rw[dy (by simpa using hi)]at h2
    rw[uQ]at h2
    split at h2 <;> cases h2
  have ha:vs[i]? = some v:=by
   unfold start at h2
   rw[cI (by simpa using hi),cf]at h2
   cases e:vs[i]? with
   | none=>rw[e]at h2;cases h2
   | some a=>rw[e]at h2;cases h2;rfl
  obtain⟨u,hu,rv⟩:=r.get ha
  have hp:ps[i]? = some y:=by
   rw[<- S.pre,mI (by omega)];exact h1
  have ndP:ps.Nodup:=by rw[<- S.pre];exact S.nd.sublist (BS _ _)
  refine⟨u,rv,?_⟩
  rcases S.par y (bB hp) with k | k
  ·exact .inl ⟨k,Hi ndP hp hu k⟩
  ·obtain⟨c,e⟩:=Ko (n:=s.heap.objs.size+1) k
   refine .inr ⟨.inl k,c,e,?_⟩
   have q:=x.cell y c e
   rw[Hk ndP hp hu (by show scope.names.lookup y≠_;rw[k];decide)]at q
   exact q
 ·exact e0.br.fresh (AZ (x.above y c (jy h)))
 ·unfold start
  show _=N.length
  rw[aM,aA,gX]
  omega
theorem N4 {CX:uN}{P:Program}{w:World}{K:aj}{mg:Str->Option Value}{base:Heap}{k:Nat}{f:Addr}{name bu:Str}{params:Arguments}{body:List Stmt}{scope:Scope}{dV kV doc pm a8 ct oc:Value}{an od:Option Addr}
  {tD:Array (Option Value)}{N ps:List Str}{sp:Sp} (lk:K.lookup f=some ⟨oc,od,.func (d8 name bu params body scope dV kV doc pm an a8 ct),tD⟩) (ni:fH K a8 bu=true) (S:bx N ps scope)
  (len:∀ vs H Q E,sp vs H Q E->vs.length=ps.length)
  (eD:∀ (A:Around) (outer:List Env) (s:Shared) (H:Hp) (vs:List V) (Q:VK) (E:XK),dq k (A.deeper (envOfC bu scope s.heap.objs.size f a8))->sp vs H Q E ->
   ∃ t,k4 (bZ CX P w K mg base N bu scope f a8 A outer s H E) body t∧t { nx:=fun _ H'=>Q .b9 H',rt:=Q } (start N vs) H) :
  jF P w K mg base CX (k+1) f (d8 name bu params body scope dV kV doc pm an a8 ct) ps sp:=by
 refine⟨len,fun A outer s H args us vs Q E hr e0 hb r tR => ?_⟩
 have hl:=len _ _ _ _ tR
 have KX:K.In s.heap:=e0.mod.zY.keeps fun b o e=>(e0.bs b o e).1
 have Zs:s.heap.NoLimit:=e0.mod.nolimit.keeps fun b o e=>(e0.bs b o e).1
 have yd:∀ y∈ps.zip us,scope.names.lookup y.1=some .local∨(scope.names.lookup y.1=some .cell∧((cellsFrom (s.heap.objs.size+1) scope.names []).lookup y.1).isSome=true):=fun ⟨n,v⟩ hy=>by
  rcases S.par n (pI hy).1 with q | q
  ·exact .inl q
  ·exact .inr ⟨q,nN _ _ _ (.inl q)⟩
 refine codeAny_call_function hr.depth (KX _ _ lk) rfl S.co S.gen rfl (AW KX ni) (hb _ _ _ _ ?_)
 refine wpAny_newFunctionEnv_cells S.kind yd fun env he s1 x => ?_
 subst he
 refine⟨Zs.keeps x.toInCall.keep,codeAny_func ?_⟩
 obtain⟨t,ht,hq⟩:=eD A outer s H vs Q E (hr.deeper _) tR
 have I:Inv (bZ CX P w K mg base N bu scope f a8 A outer s H E) [] (start N vs) H s1:=GS S hr.hd e0 hl r x
 refine wpAny_mono (ht [] s1 (start N vs) H _ I hq) (fun fl s' hs => ?_) fun e s' hs=>hs
 have eZ:∀ {bC:St} {H':Hp}{v:V}{u:Value},Inv (bZ CX P w K mg base N bu scope f a8 A outer s H E) [] bC H' s'->RelV v u->Q v H'->CE outer P w H s Q u s' :=
  fun {bC H' v u} J rv q=>⟨v,H',J.os,J.bare,J.base,J.br,rv,q⟩
 cases fl with
 | ret u =>
  obtain⟨v, bC,H',J,rv,q⟩:=hs
  exact eZ J rv q
 | next =>
  obtain⟨bC,H',J,q⟩:=hs
  exact eZ (v:=V.b9) (u:=ef) J rfl q
 | brk =>
  obtain⟨_,_,_,q⟩:=hs
  exact cj q
 | cont =>
  obtain⟨_,_,_,q⟩:=hs
  exact cj q
section
variable {X:Cx}{x:Str}{p pos:Pos}{e:Expr}{es:List Expr}{t:TA}{id T:String}{r:List V->Hp->VK->Prop}
def ON (r:List V->Hp->VK->Prop) (t:TA):TE:=fun σ H Q=>t σ H fun vs H1=>r vs H1 Q
theorem SI (hc:jA X (.builtin id) r) (hg:Gl X x) (hm:X.mg x=none) (hv:bootBuiltins x=some (.builtin id)) (ha:PA X (e :: es) t) (hn:x ≠ "__name__" := by decide) (iR:(x == ("__debug__" : Str))=false:=by decide)
  (he:starEach (e :: es) X.env=(false,eval e X.env) :: starEach es X.env:=by rfl) (fu:(backTo pos (starEach es X.env)).any (·.1)=false:=by rfl):PE X (.Call (.Name x p) (e :: es) [] pos) (ON r t):=by
 intro ah s σ H Q I h
 refine wpAny_Call_Name_kw (wI I hg hm hv ?_ hn iR)
 exact PyProof.Rows.callWith_builtin1 (cz (ha pos ah s σ H _ I h) fun us s1 ⟨vs,H1,I1,r1,q1⟩=>hc ah s1 σ H1 vs us Q I1 r1 q1) he fu
theorem b8 (hc:jA X (.builtin id) r) (hg:Gl X x) (hm:X.mg x=none) (hv:bootBuiltins x=some (.builtin id)) (ha:QA X (e :: es) t) (hn:x ≠ "__name__" := by decide) (iR:(x == ("__debug__" : Str))=false:=by decide)
  (he:starEach (e :: es) X.env=(false,eval e X.env) :: starEach es X.env:=by rfl) (fu:(backTo pos (starEach es X.env)).any (·.1)=false:=by rfl):QE X (.Call (.Name x p) (e :: es) [] pos) (ON r t):=by
 delta QA QE at *
 exact SI hc hg hm hv ha hn iR he fu
theorem Pl (hc:jA X (.type T) r) (hg:Gl X x) (hm:X.mg x=none) (hv:bootBuiltins x=some (.type T)) (ha:PA X (e :: es) t) (hn:x ≠ "__name__" := by decide) (iR:(x == ("__debug__" : Str))=false:=by decide)
  (he:starEach (e :: es) X.env=(false,eval e X.env) :: starEach es X.env:=by rfl) (fu:(backTo pos (starEach es X.env)).any (·.1)=false:=by rfl):PE X (.Call (.Name x p) (e :: es) [] pos) (ON r t):=by
 intro ah s σ H Q I h
 refine wpAny_Call_Name_kw (wI I hg hm hv ?_ hn iR)
 exact kZ (cz (ha pos ah s σ H _ I h) fun us s1 ⟨vs,H1,I1,r1,q1⟩=>hc ah s1 σ H1 vs us Q I1 r1 q1) he fu
theorem gG (hc:jA X (.type T) r) (hg:Gl X x) (hm:X.mg x=none) (hv:bootBuiltins x=some (.type T)) (ha:QA X (e :: es) t) (hn:x ≠ "__name__" := by decide) (iR:(x == ("__debug__" : Str))=false:=by decide)
  (he:starEach (e :: es) X.env=(false,eval e X.env) :: starEach es X.env:=by rfl) (fu:(backTo pos (starEach es X.env)).any (·.1)=false:=by rfl):QE X (.Call (.Name x p) (e :: es) [] pos) (ON r t):=by
 delta QA QE at *
 exact Pl hc hg hm hv ha hn iR he fu
end
end L2
namespace HT
open PySem PyProof.Rows
section
open PySem.SeqAt
open PySem.AutoSeq1 (wpAny_loadPart')
open PySem.MeetsSeq PySem.MeetsSeq2 PySem.MeetsSeq3
end
section
variable {prog:Program}{w:World}{A:Around}{E:Value->Shared->Prop}{s:Shared}
def dG (n d:Nat):Option Int->Nat
 | none=>d
 | some v=>if v < 0 then (v+(n:Int)).toNat else min v.toNat n
theorem Cy (n d:Nat):dG n d none=d:=rfl
theorem wu (n d k:Nat):dG n d (some (k:Int))=min k n:=by
 show (if (k:Int) < 0 then ((k:Int)+(n:Int)).toNat else min (k:Int).toNat n)=min k n
 rw[if_neg (by omega),fZ]
theorem IY (n d:Nat) (hd:d<=n) (o:Option Int):dG n d o<=n:=by
 cases o with
 | none=>exact hd
 | some v =>
  show (if v < 0 then (v+(n:Int)).toNat else min v.toNat n)<=n
  by_cases hv:v < 0
  ·rw[if_pos hv];omega
  ·rw[if_neg hv];exact Nat.min_le_right _ _
theorem MI (v:Int) (n d:Nat):(if v < 0 then max (v+(n:Int)) 0 else min v (n:Int))=((dG n d (some v):Nat):Int):=by
 show (if v < 0 then max (v+(n:Int)) 0 else min v (n:Int))=(((if v < 0 then (v+(n:Int)).toNat else min v.toNat n):Nat):Int)
 by_cases hv:v < 0
 ·simp only[if_pos hv];omega
 ·simp only[if_neg hv];omega
theorem Oj (lo hi:Option Int) (n:Nat):mf lo hi 1 (n:Int)=(((dG n 0 lo:Nat):Int),((dG n n hi:Nat):Int)):=by
 have h1:¬ ((1:Int) < 0):=by omega
 unfold mf
 simp only[h1,if_false]
 refine Prod.ext ?_ ?_
 ·cases lo with
  | none=>rfl
  | some v=>exact MI v n 0
 ·cases hi with
  | none=>rfl
  | some v=>exact MI v n n
theorem Nz (i j:Nat):jg (i:Int) (j:Int) 1=j - i:=by
 unfold jg
 have h1:(1:Int) > 0:=by omega
 simp only[h1,if_true,Int.ediv_one]
 split <;> omega
theorem DK {v:Value}{o:Option Int}{Q:Option Int->Shared->Prop} (p:IsPart v o) (h:Q o s):wpAny (model prog w) A (Builtin.Slice.slicePartIndex v) Q E s:=by
 cases p with
 | none=>exact slicePart_none h
 | int i t=>exact slicePart_int h
theorem Cw {sl:Addr}{vl vu:Value}{lo hi:Option Int}{n:Nat}{Q:Int × Int × Nat->Shared->Prop} (hs:s.heap.IsSliceOf sl vl vu .none) (pl:IsPart vl lo) (pu:IsPart vu hi)
  (h:Q (((dG n 0 lo:Nat):Int),1,dG n n hi - dG n 0 lo) s):wpAny (model prog w) A (se (.ref sl) (pure (n:Int))) Q E s:=by
 obtain⟨os,Qa,hcs,Vs⟩:=id hs
 unfold se Builtin.Slice.sliceFields
 refine wpAny_bind (wpAny_bind (wpAny_field Qa Vs (x:=vl) rfl (wpAny_bind (wpAny_field Qa Vs (x:=vu) rfl (wpAny_bind (wpAny_field Qa Vs (x := .none) rfl (wpAny_pure ?_)))))))
 refine wpAny_bind (slicePart_none ?_)
 show wpAny _ _ (if ((1:Int) == 0)=true then _ else _) _ _ s
 rw[if_neg (by decide)]
 refine wpAny_bind (DK pl (wpAny_bind (DK pu (wpAny_bind (wpAny_pure ?_)))))
 show wpAny _ _ (match mf lo hi 1 (n:Int) with | (lo,hi)=>pure (lo,(1:Int),jg lo hi 1)) _ _ s
 rw[Oj lo hi n]
 show wpAny _ _ (pure (((dG n 0 lo:Nat):Int),(1:Int),jg ((dG n 0 lo:Nat):Int) ((dG n n hi:Nat):Int) 1)) _ _ s
 rw[Nz]
 exact wpAny_pure h
theorem Sn (xs:Array Value) (i k:Nat):((fU k).filterMap fun (m:Nat)=>xs[((i:Int)+(m:Int) * 1).toNat]?).toArray=((xs.toList.drop i).take k).toArray:=by
 have e:(fun (m:Nat)=>xs[((i:Int)+(m:Int) * 1).toNat]?)=fun m=>xs[i+m]? := by
  funext m
  have:((i:Int)+(m:Int) * 1).toNat=i+m:=by omega
  rw[this]
 rw[e]
 have:=pick_run xs i k
 rw[List.filterMap_map]at this
 have e2:((fun x=>xs[x]?) ∘ fun x=>i+x)=fun m=>xs[i+m]? := rfl
 rw[e2]at this
 rw[this]
theorem BI {t sl:Addr}{items:Array Value}{vl vu:Value}{lo hi:Option Int}{Q:Value->Shared->Prop} (ht:IsTup s.heap t items) (hs:s.heap.IsSliceOf sl vl vu .none) (pl:IsPart vl lo) (pu:IsPart vu hi)
  (hw:¬ (dG items.size 0 lo=0∧dG items.size items.size hi=items.size))
  (h:Q (.ref s.heap.objs.size) { s with heap:=s.heap.push { cls := .type "tuple",data := .seq ((items.toList.drop (dG items.size 0 lo)).take (dG items.size items.size hi - dG items.size 0 lo)).toArray } })
  (hsz:items.size<=sizeLine):wpAny (model prog w) A (getItem (.ref t) (.ref sl)) Q E s:=by
 have HU:sizeOk (.seq ((items.toList.drop (dG items.size 0 lo)).take (dG items.size items.size hi - dG items.size 0 lo)).toArray):=by
  show ((items.toList.drop (dG items.size 0 lo)).take (dG items.size items.size hi - dG items.size 0 lo)).toArray.size<=sizeLine
  rw[bo,eA,dN,l9]
  omega
 have hj:dG items.size items.size hi<=items.size:=IY _ _ (aB _) hi
 obtain⟨os,Qa,hcs,Vs⟩:=id hs
 have J2:s.TypeIs (.ref sl) "slice" := ⟨os,Qa,hcs⟩
 unfold getItem
 try with_reducible refine wpAny_holding ?_
 first | refine wpAny_bind (wpAny_pure ?_) | skip
 refine wpAny_bind (wpAny_sequenceKey ht.typeIs (by decide) ?_)
 refine wpAny_bind (wpAny_callSpecial?_slot (name:=aI "__getitem__") ht.typeIs jC
  (wpAny_call_entry jC ht.typeIs entry_tuple_getitem ?_ (args_tuple_getitem _ _)))
 show wpAny _ _ (Builtin.Tuple.tupleItemsOf (.ref t) >>= _) _ _ s
 refine wpAny_bind (tupleItemsOf_ ht ?_)
 refine wpAny_bind (wpAny_typeOf J2 ?_)
 rw[if_pos (by decide)]
 refine wpAny_bind (Cw hs pl pu ?_)
 have hno:¬ ((((dG items.size 0 lo:Nat):Int) == 0 && (1:Int) == 1 && (dG items.size items.size hi - dG items.size 0 lo) == items.size)=true):=by
  intro q
  rw[eC,eC]at q
  have q1:((dG items.size 0 lo:Nat):Int)=0:=eq_of_beq q.1.1
  have q2:dG items.size items.size hi - dG items.size 0 lo=items.size:=eq_of_beq q.2
  exact hw ⟨by omega,by omega⟩
 show wpAny _ _ (if (((dG items.size 0 lo:Nat):Int) == 0 && (1:Int) == 1 && (dG items.size items.size hi - dG items.size 0 lo) == items.size)=true then _ else _) _ _ s
 rw[if_neg hno,Sn]
 first
  | exact wpAny_bind (m:=jw _) (wpAny_newObj_type (wpAny_pure ⟨_,rfl,wpAny_pure h⟩) HU)
  | exact wpAny_bind (m:=jw _) (wpAny_newObj_type (wpAny_bind (wpAny_pure (wpAny_pure ⟨_,rfl,wpAny_pure h⟩))) HU)
  | exact wpAny_bind (wpAny_bind (m:=jw _) (wpAny_newObj_type (wpAny_pure (wpAny_pure ⟨_,rfl,wpAny_pure h⟩)) HU))
  | exact wpAny_bind (wpAny_bind (m:=jw _) (wpAny_newObj_type (wpAny_pure ⟨_,rfl,wpAny_pure h⟩) HU))
end
end HT
namespace L2
open PySem PySem.Spec PyProof.Rows
abbrev TO:=St->Hp->(Option Int->Hp->Prop)->Prop
def PO (X:Cx) (e:Option Expr) (t:TO):Prop :=
 ∀ (ah:List (Addr × Obj)) (s:Shared) (σ : St) (H:Hp) (Q:Option Int->Hp->Prop),Inv X ah σ H s->t σ H Q ->
  wpAny (model X.prog X.w) X.A (evalPart e X.env) (fun u s'=>∃ o H',Inv X ah σ H' s'∧IsPart u o∧Q o H') X.xe s
def Wn:TO:=fun _ H Q=>Q none H
inductive MX (Q:Option Int->Hp->Prop) (x:V) (H1:Hp):Prop
 | mk:∀ i,(x = .int i)->(Q (some i) H1)->MX Q x H1
def HP (t:TE):TO:=fun σ H Q=>t σ H fun x H1=>MX Q x H1
theorem intsAre_of {ns:List Int}:∀ {us:List Value},Vals (ns.map V.int) us->IntsAre us ns:=by
 induction ns with
 | nil=>intro us r;rw[mG]at r;cases r;exact .nil
 | cons n ns ih =>
  intro us r
  rw[b0]at r
  cases r with
  | cons r1 r2 =>
   obtain⟨t,e⟩:=r1
   subst e
   exact .cons n t (ih r2)
section
variable {X:Cx}{e:Expr}{te:TE}{lo hi:Option Expr}{tl th:TO}{pos p2:Pos}
theorem sO:PO X none Wn:=by
 intro ah s σ H Q I h
 rw[evalPart_none]
 exact wpAny_pure ⟨none,H,I,.none,h⟩
theorem WS (h:PE X e te):PO X (some e) (HP te):=by
 intro ah s σ H Q I hw
 rw[evalPart_some]
 refine cz (h ah s σ H _ I hw) fun u s1 ⟨x,H1,I1,r1,q1⟩ => ?_
 obtain⟨i,rfl,q⟩:=q1
 obtain⟨t,rfl⟩:=r1
 exact⟨some i,H1,I1,.int i t,q⟩
theorem hZ (h:QE X e te):PO X (some e) (HP te):=by
 delta QE at *
 exact WS h
def Ri (X:Cx) (r:V->Option Int->Option Int->Hp->VK->Prop):Prop :=
 ∀ (ah:List (Addr × Obj)) (s:Shared) (σ : St) (H:Hp) (x:V) (v vl vu:Value) (lo hi:Option Int) (sl:Addr) (Q:VK),Inv X ah σ H s->RelV x v->s.heap.IsSliceOf sl vl vu .none->IsPart vl lo->IsPart vu hi->r x lo hi H Q ->
  ∃ T id,typeLookup (.type T) "__getitem__" = pure (some (.builtin id))∧s.TypeIs v T∧wpAny (model X.prog X.w) X.A (getItem v (.ref sl)) (EP X ah σ Q) X.xe s
def Yi (r:V->Option Int->Option Int->Hp->VK->Prop) (te:TE) (tl th:TO):TE:=fun σ H Q=>te σ H fun x H1=>tl σ H1 fun l H2=>th σ H2 fun u H3=>r x l u H3 Q
theorem Su {r:V->Option Int->Option Int->Hp->VK->Prop} (hr:Ri X r) (he:PE X e te) (hl:PO X lo tl) (hu:PO X hi th):PE X (.Subscript e (.Slice lo hi none p2) pos) (Yi r te tl th):=by
 intro ah s σ H Q I h
 refine Subscript_ (cz (he ah s σ H _ I h) fun v s1 ⟨x,H1,I1,r1,q1⟩ => ?_)
 refine wpAny_Slice (cz (hl ah s1 σ H1 _ I1 q1) fun vl s2 ⟨l,H2,I2,pl,q2⟩=>cz (hu ah s2 σ H2 _ I2 q2) fun vu s3 ⟨u,H3,I3,pu,q3⟩ => ?_)
 rw[evalPart_none]
 refine wpAny_pure ?_
 have I4:Inv X ah σ H3 { s3 with heap:=s3.heap.push { cls := .type "slice",data := .fields #[vl,vu,.none] } }:=I3.kept (t':=s3.toks) fun b ob q=>aN _ q
 obtain⟨T,id,hT,ht,hg⟩:=hr ah { s3 with heap:=s3.heap.push { cls := .type "slice",data := .fields #[vl,vu,.none] } } σ H3 x v vl vu l u s3.heap.objs.size Q I4 r1 (Heap.IsSliceOf.new ..) pl pu q3
 show wpAny (model X.prog X.w) X.A (subscriptTail e (.Slice lo hi none p2) v (.ref s3.heap.objs.size)) (EP X ah σ Q) X.xe { s3 with heap:=s3.heap.push { cls := .type "slice",data := .fields #[vl,vu,.none] } }
 exact tail_any (ops := [.ref s3.heap.objs.size,v]) ht hT hg (by with_unfolding_all rfl)
theorem jj {r:V->Option Int->Option Int->Hp->VK->Prop} (hr:Ri X r) (he:QE X e te) (hl:PO X lo tl) (hu:PO X hi th):QE X (.Subscript e (.Slice lo hi none p2) pos) (Yi r te tl th):=by
 delta QE at *
 exact Su hr he hl hu
def rR (xs:List V) (lo hi:Option Int):List V:=(xs.drop (HT.dG xs.length 0 lo)).take (HT.dG xs.length xs.length hi - HT.dG xs.length 0 lo)
theorem Ce (xs:List V) (lo hi:Option Int):(rR xs lo hi).length<=xs.length:=by
 unfold rR
 rw[eA,dN]
 omega
inductive Ru (K:aj) (x:V) (lo:Option Int) (hi:Option Int) (H:Hp) (Q:VK):Prop
 | mk:∀ a xs,(x = .ref a)->(aU K H a xs)->(¬ (HT.dG xs.length 0 lo=0∧HT.dG xs.length xs.length hi=xs.length))->(∀ p,H p=none->Q (.ref p) (aO H p (.tup (rR xs lo hi))))->Ru K x lo hi H Q
def adY (K:aj):V->Option Int->Option Int->Hp->VK->Prop:=fun x lo hi H Q=>Ru K x lo hi H Q
theorem Yq:Ri X (adY X.K):=by
 intro ah s σ H x v vl vu lo hi sl Q I rx hs pl pu h
 obtain⟨a,xs,rfl,hx,hw,q⟩:=h
 cases rx
 obtain⟨its,r,ht,hz⟩:=I.tuple hx
 have dX:its.toArray.size=xs.length:=by rw[bo];exact r.length.symm
 refine⟨"tuple",_,jC.lookup,ht.typeIs,?_⟩
 refine HT.BI ht hs pl pu (by rw[dX];exact hw) ?_ (by rw[dX];exact hz)
 rw[dX]
 refine⟨.ref s.heap.objs.size,_,I.laid (t':=s.toks) (o := .tup (rR xs lo hi)) (fun b ob q=>aN _ q) (aB _) ?_,rfl,q _ (I.br.fresh (aB _))⟩
 exact⟨a9 (Ce xs lo hi) hz,_,(r.drop (HT.dG xs.length 0 lo)).take (HT.dG xs.length xs.length hi - HT.dG xs.length 0 lo),pM.new _ _⟩
end
def GQ (n:Nat) (i:Int):Option Nat:=if 0<=i then (if i < n then some i.toNat else none) else if -(n:Int)<=i then some (i+n).toNat else none
def nK {α : Type} (xs:List α) (i:Int):Option α := (GQ xs.length i).bind fun j=>xs[j]?
theorem XA {n:Nat}{i:Int}{j:Nat} (h:GQ n i=some j):seqIndex? i n=some j∧j < n ∧ -(n:Int)<=i∧i < n:=by
 unfold GQ at h
 by_cases h0:0<=i
 ·rw[if_pos h0]at h
  by_cases h1:i < n
  ·rw[if_pos h1]at h
   have e:i.toNat=j:=bD h
   exact⟨by rw[seqIndex_of h0 h1,e],by omega,by omega,h1⟩
  ·rw[if_neg h1]at h;cases h
 ·rw[if_neg h0]at h
  by_cases h1 : -(n:Int)<=i
  ·rw[if_pos h1]at h
   have e:(i+n).toNat=j:=bD h
   exact⟨by rw[seqIndex_neg (by omega) h1,e],by omega,h1,by omega⟩
  ·rw[if_neg h1]at h;cases h
theorem FW {α : Type}{xs:List α}{i:Int}{v : α} (h:nK xs i=some v):∃ j,seqIndex? i xs.length=some j∧xs[j]? = some v∧j < xs.length ∧ -(xs.length:Int)<=i∧i < xs.length:=by
 unfold nK at h
 cases e:GQ xs.length i with
 | none=>rw[e]at h;cases h
 | some j =>
  rw[e]at h
  obtain⟨h1,h2,h3,h4⟩:=XA e
  exact⟨j,h1,h,h2,h3,h4⟩
theorem ax {α : Type}{xs:List α}{j:Nat}{v : α} (h:xs[j]? = some v):nK xs (j:Int)=some v:=by
 have hj:j < xs.length:=(bt.mp h).1
 have e:GQ xs.length (j:Int)=some j:=by
  unfold GQ
  rw[if_pos (by omega),if_pos (by omega)];simp
 unfold nK;rw[e];exact h
theorem Uj {α : Type} (xs:List α) (v : α):nK (xs ++ [v]) (-1)=some v:=by
 have hl:(xs ++ [v]).length=xs.length+1:=by simp
 have e:GQ (xs ++ [v]).length (-1)=some xs.length:=by
  unfold GQ
  rw[hl,if_neg (by decide),if_pos (by omega)]
  congr 1
  omega
 unfold nK
 rw[e]
 show (xs ++ [v])[xs.length]? = some v
 simp
def MV (b:Expr):Prop := ∀ o i,subscripted b false o i=operate [o,i] (getItem o i)
def RE (X:Cx) (r:R2):Prop :=
 ∀ (value slice:Expr) (ah:List (Addr × Obj)) (s:Shared) (σ : St) (H:Hp) (x y:V) (v u:Value) (Q:VK),Inv X ah σ H s->RelV x v->RelV y u->r x y H Q ->
  subscripted slice false v u=operate [v,u] (getItem v u)->wpAny (model X.prog X.w) X.A (subscriptTail value slice v u) (EP X ah σ Q) X.xe s
def KG (X:Cx) (id:String) (r:V->List V->Hp->VK->Prop):Prop :=
 ∀ (ah:List (Addr × Obj)) (s:Shared) (σ : St) (H:Hp) (x:V) (xs:List V) (v:Value) (us:List Value) (Q:VK),Inv X ah σ H s->RelV x v->Vals xs us->r x xs H Q ->
  wpAny (model X.prog X.w) X.A (call (.builtin id) (v :: us)) (EP X ah σ Q) X.xe s
section
variable {X:Cx}{a b:Expr}{ta tb:TE}{pos:Pos}
theorem abY {r:R2} (hr:RE X r) (ha:PE X a ta) (hb:PE X b tb) (hs:MV b):PE X (.Subscript a b pos) (nF r ta tb):=by
 intro ah s σ H Q I h
 exact Subscript_ (T7 ha hb I h fun v u s2 x y H2 I2 rx ry q=>hr a b ah s2 σ H2 x y v u Q I2 rx ry q (hs _ _))
theorem aP {r:R2} (hr:RE X r) (ha:QE X a ta) (hb:QE X b tb) (hs:MV b):QE X (.Subscript a b pos) (nF r ta tb):=by
 delta QE at *
 exact abY hr ha hb hs
inductive abE (K:aj) (x y:V) (H:Hp) (Q:VK):Prop
 | mk (p:Addr) (xs:List V) (i:Int) (v:V) (hx:x = .ref p) (hy:y = .int i) (hS:b6 K H p xs) (he:nK xs i=some v) (q:Q v H):abE K x y H Q
def Nv (K:aj):R2:=fun x y H Q=>abE K x y H Q
inductive abD (K:aj) (x y:V) (H:Hp) (Q:VK):Prop
 | mk (p:Addr) (xs:List V) (i:Int) (v:V) (hx:x = .ref p) (hy:y = .int i) (hS:aU K H p xs) (he:nK xs i=some v) (q:Q v H):abD K x y H Q
def Nu (K:aj):R2:=fun x y H Q=>abD K x y H Q
inductive Ry (x:V) (y:V) (H:Hp) (Q:VK):Prop
 | mk:∀ z i c,(x = .str z)->(y = .int i)->(z.length<=sizeLine)->(nK z.cps.toList i=some c)->(Q (.str ⟨#[c]⟩) H)->Ry x y H Q
def ad2:R2:=fun x y H Q=>Ry x y H Q
theorem gj:RE X (Nv X.K):=by
 intro value slice ah s σ H x y v u Q I rx ry h hs
 obtain⟨p,xs,i,z,rfl,rfl,hq,he,q⟩:=h
 cases rx
 obtain⟨t,rfl⟩:=ry
 obtain⟨its,r,pl,hz⟩:=I.list hq
 obtain⟨j,h1,h2,h3,h4,h5⟩:=FW he
 obtain⟨w,ew,YA⟩:=r.get h2
 have hl:=r.length
 have hn:=wH
 have eZ:EP X ah σ Q w s:=⟨z,H,I,YA,q⟩
 by_cases h0:0<=i
 ·have hj:i.toNat=j:=by
   rw[seqIndex_of h0 h5]at h1
   exact bD h1
  exact item_listR pl.isList h0 (by omega) (by rw[hj];simpa using ew) eZ hs
 ·have hj:(i+(its.toArray.size:Int)).toNat=j:=by
   rw[seqIndex_neg (by omega) h4]at h1
   rw[bo, <- hl]
   exact bD h1
  exact subscriptTail_builtinR (x:=w) pl.isList.typeIs slot_list_getitem.lookup
   (wpAny_getItem_list_neg (Q:=fun r s'=>r=w∧EP X ah σ Q r s') pl.isList (by omega) (by rw[bo] <;> omega) (by omega) (by rw[hj];simpa using ew) ⟨rfl,eZ⟩) hs
theorem a7:RE X (Nu X.K):=by
 intro value slice ah s σ H x y v u Q I rx ry h hs
 obtain⟨p,xs,i,z,rfl,rfl,hq,he,q⟩:=h
 cases rx
 obtain⟨t,rfl⟩:=ry
 obtain⟨its,r,pl,hz⟩:=I.tuple hq
 obtain⟨j,h1,h2,h3,h4,h5⟩:=FW he
 obtain⟨w,ew,YA⟩:=r.get h2
 have hl:=r.length
 have hn:=wH
 have eZ:EP X ah σ Q w s:=⟨z,H,I,YA,q⟩
 exact subscriptTail_builtinR (x:=w) pl.typeIs slot_tuple_getitem.lookup
  (getItem_tuple (j:=j) (Q:=fun r s'=>r=w∧EP X ah σ Q r s') pl (by omega) (by omega) (by rw[bo, <- hl];exact h1) (by simpa using ew) ⟨rfl,eZ⟩) hs
theorem wJ:RE X ad2:=by
 intro value slice ah s σ H x y v u Q I rx ry h hs
 obtain⟨z,i,c,rfl,rfl,hz,he,q⟩:=h
 obtain⟨t,rfl⟩:=rx
 obtain⟨t',rfl⟩:=ry
 obtain⟨j,h1,h2,h3,h4,h5⟩:=FW he
 have hl:z.cps.toList.length=z.length:=by simp[sI]
 rw[hl]at h1 h4 h5
 have hn:=wH
 exact tail_any (typeIs_str s z t) slot_str_getitem.lookup (getItem_str (c:=c) (by
  have e1:decide (i < -(2 ^ 63:Int))=false:=decide_eq_false (by omega)
  have e2:decide (i ≥ 2 ^ 63)=false:=decide_eq_false (by omega)
  rw[e1,e2,zb]) (by rw[h1];simpa using h2) ⟨.str ⟨#[c]⟩,H,I.tok _,⟨_,rfl⟩,q⟩) hs
theorem zA (lo hi:Option Int) (n:Nat):(sliceBounds lo hi none n).1=((HT.dG n 0 lo:Nat):Int)∧(sliceBounds lo hi none n).2.1=((HT.dG n n hi:Nat):Int)∧(sliceBounds lo hi none n).2.2=1:=by
 refine⟨?_,?_,rfl⟩
 ·cases lo with
  | none=>simp[sliceBounds,HT.dG]
  | some i =>
   simp only[sliceBounds,HT.dG,Dj,show (1:Int) > 0 by decide,if_true]
   by_cases h:i < 0
   ·simp only[h,if_true] <;> omega
   ·simp only[h,if_false] <;> omega
 ·cases hi with
  | none=>simp[sliceBounds,HT.dG]
  | some i =>
   simp only[sliceBounds,HT.dG,Dj,show (1:Int) > 0 by decide,if_true]
   by_cases h:i < 0
   ·simp only[h,if_true] <;> omega
   ·simp only[h,if_false] <;> omega
theorem HF (its:List Value) (lo hi:Option Int):slicePick its.toArray lo hi none=((its.drop (HT.dG its.length 0 lo)).take (HT.dG its.length its.length hi - HT.dG its.length 0 lo)).toArray:=by
 obtain⟨h1,h2,h3⟩:=zA lo hi its.toArray.size
 unfold slicePick
 rw[h1,h2,h3]
 simp only[sliceRange_one,pick_run,bo] <;> rfl
inductive Rw (K:aj) (x:V) (lo:Option Int) (hi:Option Int) (H:Hp) (Q:VK):Prop
 | mk:∀ a xs,(x = .ref a)->(b6 K H a xs)->(∀ p,H p=none->Q (.ref p) (aO H p (.lst (rR xs lo hi))))->Rw K x lo hi H Q
def adZ (K:aj):V->Option Int->Option Int->Hp->VK->Prop:=fun x lo hi H Q=>Rw K x lo hi H Q
theorem Bo:Ri X (adZ X.K):=by
 intro ah s σ H x v vl vu lo hi sl Q I rx hs pl pu h
 obtain⟨a,xs,rfl,hx,q⟩:=h
 cases rx
 obtain⟨its,r,ht,hz⟩:=I.list hx
 have dX:=r.length
 refine⟨"list",_,slot_list_getitem.lookup,ht.isList.typeIs,?_⟩
 refine wpAny_getItem_list_slice ht.isList hs pl pu .none (by simp) ?_ (by rw[bo] <;> omega)
 rw[HF, <- dX]
 refine⟨.ref s.heap.objs.size,_,I.laid (t':=s.toks) (o := .lst (rR xs lo hi)) (fun b ob q=>aN _ q) (aB _) ?_,rfl,q _ (I.br.fresh (aB _))⟩
 exact⟨a9 (Ce xs lo hi) hz,_,0,(r.drop (HT.dG xs.length 0 lo)).take (HT.dG xs.length xs.length hi - HT.dG xs.length 0 lo),bW _ rfl⟩
def mZ:V->Bool
 | .b9=>true
 | .bl _=>true
 | .int _=>true
 | .str _=>true
 | _=>false
def Av:V->V->Bool
 | .b9,.b9=>true
 | .bl a,.bl b=>a == b
 | .bl a,.int b=>(if a then 1 else 0) == b
 | .int a,.bl b=>a == (if b then 1 else 0)
 | .int a,.int b=>a == b
 | .str a,.str b=>a == b
 | _,_=>false
theorem QD {A:Around}{s:Shared}{y x:V}{u v:Value} (ry:RelV y u) (rx:RelV x v) (fy:mZ y=true) (fx:mZ x=true):dZ A s u v (Av y x):=by
 cases y with
 | b9 =>
  cases ry
  cases x with
  | b9=>cases rx;exact dZ.same _
  | bl b=>cases rx;exact dZ.none_bool b
  | int b=>obtain⟨t,rfl⟩:=rx;exact dZ.none_int b t
  | str b=>obtain⟨t,rfl⟩:=rx;exact dZ.none_str b t
  | _=>exact absurd (show false=true from fx) bM
 | bl a =>
  cases ry
  cases x with
  | b9=>cases rx;exact dZ.bool_none a
  | bl b=>cases rx;exact dZ.bool_bool a b
  | int b=>obtain⟨t,rfl⟩:=rx;exact dZ.bool_int a b t
  | str b=>obtain⟨t,rfl⟩:=rx;exact dZ.bool_str a b t
  | _=>exact absurd (show false=true from fx) bM
 | int a =>
  obtain⟨t',rfl⟩:=ry
  cases x with
  | b9=>cases rx;exact dZ.int_none a t'
  | bl b=>cases rx;exact dZ.int_bool a t' b
  | int b=>obtain⟨t,rfl⟩:=rx;exact dZ.int_int a t' b t
  | str b=>obtain⟨t,rfl⟩:=rx;exact AS a t' b t
  | _=>exact absurd (show false=true from fx) bM
 | str a =>
  obtain⟨t',rfl⟩:=ry
  cases x with
  | b9=>cases rx;exact dZ.str_none a t'
  | bl b=>cases rx;exact dZ.str_bool a t' b
  | int b=>obtain⟨t,rfl⟩:=rx;exact AR a t' b t
  | str b=>obtain⟨t,rfl⟩:=rx;exact dZ.str_str a t' b t
  | _=>exact absurd (show false=true from fx) bM
 | _=>exact absurd (show false=true from fy) bM
def uh (x:V) (u:Value):Bool:=match u with
 | .none=>Av .b9 x
 | .bool b=>Av (.bl b) x
 | .int i _=>Av (.int i) x
 | .str z _=>Av (.str z) x
 | _=>false
theorem QB {x y:V}{u:Value} (r:RelV y u) (f:mZ y=true):uh x u=Av y x:=by
 cases y with
 | b9=>cases r;rfl
 | bl b=>cases r;rfl
 | int i=>obtain⟨t,rfl⟩:=r;rfl
 | str z=>obtain⟨t,rfl⟩:=r;rfl
 | _=>exact absurd (show false=true from f) bM
theorem wX {x:V}:∀ {xs:List V}{us:List Value},Vals xs us->xs.all mZ=true->us.any (uh x)=xs.any fun y=>Av y x
 | _,_,.nil,_=>rfl
 | y :: xs,u :: us,.cons r t,f=>by
  rw[List.all_cons,eC]at f
  rw[jK,jK,QB r f.1,wX t f.2]
theorem tL {A:Around}{s:Shared}{x:V}{v:Value} (rx:RelV x v) (fx:mZ x=true):∀ {xs:List V}{us:List Value},Vals xs us->xs.all mZ=true->∀ u∈us,dZ A s u v (uh x u)
 | _,_,.nil,_=>fun u hu=>by cases hu
 | y :: xs,u :: us,.cons r t,f=>fun u' hu=>by
  rw[List.all_cons,eC]at f
  rcases aK.mp hu with rfl | hu
  ·rw[QB r f.1];exact QD r rx f.1 fx
  ·exact tL rx fx t f.2 u' hu
def Vb (x:V) (xs:List V):Bool:=xs.any fun y=>Av y x
inductive V8 (K:aj) (neg:Bool) (x:V) (y:V) (H:Hp) (Q:VK):Prop
 | mk:∀ p xs,(y = .ref p)->((b6 K H p xs∨aU K H p xs))->(mZ x=true)->(xs.all mZ=true)->(Q (.bl (if neg then !Vb x xs else Vb x xs)) H)->V8 K neg x y H Q
def rIn (K:aj) (neg:Bool):R2:=fun x y H Q=>V8 K neg x y H Q
theorem zS:iw X (compareOp .In) (rIn X.K false):=by
 intro ah s σ H x y v u Q I rx ry h
 obtain⟨p,xs,rfl,hq,fx,fs,q⟩:=h
 cases ry
 rcases hq with hq | hq
 ·obtain⟨its,r,pl,hz⟩:=I.list hq
  refine SeqAt.in_listAt (uh x) pl.isList (fun w hw=>tL rx fx r fs w (by simpa using hw)) ⟨.bl _,H,I,rfl,?_⟩
  rw[show its.toArray.any (uh x)=its.any (uh x) by simp,wX r fs]
  exact q
 ·obtain⟨its,r,pl,hz⟩:=I.tuple hq
  refine SeqAt.in_tupleAt (uh x) pl (fun w hw=>tL rx fx r fs w (by simpa using hw)) ⟨.bl _,H,I,rfl,?_⟩
  rw[show its.toArray.any (uh x)=its.any (uh x) by simp,wX r fs]
  exact q
theorem zQ:iw X (compareOp .NotIn) (rIn X.K true):=by
 intro ah s σ H x y v u Q I rx ry h
 obtain⟨p,xs,rfl,hq,fx,fs,q⟩:=h
 cases ry
 rcases hq with hq | hq
 ·obtain⟨its,r,pl,hz⟩:=I.list hq
  refine SeqAt.notIn_listAt (uh x) pl.isList (fun w hw=>tL rx fx r fs w (by simpa using hw)) ⟨.bl _,H,I,rfl,?_⟩
  rw[show its.toArray.any (uh x)=its.any (uh x) by simp,wX r fs]
  exact q
 ·obtain⟨its,r,pl,hz⟩:=I.tuple hq
  refine SeqAt.notIn_tupleAt (uh x) pl (fun w hw=>tL rx fx r fs w (by simpa using hw)) ⟨.bl _,H,I,rfl,?_⟩
  rw[show its.toArray.any (uh x)=its.any (uh x) by simp,wX r fs]
  exact q
inductive xj (x:V) (y:V) (H:Hp) (Q:VK):Prop
 | mk:∀ i j,(x = .str i)->(y = .str j)->(Q (.bl (!(!(dE j i 0 j.length 1).isEmpty))) H)->xj x y H Q
theorem zP:iw X (compareOp .NotIn) (fun x y H Q=>xj x y H Q):=by
 intro ah s σ H x y v u Q I rx ry h
 obtain⟨i,j,rfl,rfl,q⟩:=h
 obtain⟨t,rfl⟩:=rx
 obtain⟨t',rfl⟩:=ry
 exact notIn_str ⟨.bl _,H,I,rfl,q⟩
inductive Oo (K:aj) (xs:List V) (H:Hp) (Q:VK):Prop
 | mk:∀ p ys,(xs = [.ref p])->(b6 K H p ys∨aU K H p ys)->(Q (.int ys.length) H)->Oo K xs H Q
theorem cO:jA X (.builtin "len") (fun xs H Q=>Oo X.K xs H Q):=by
 intro ah s σ H xs us Q I r h
 obtain⟨p,ys,rfl,hq,q⟩:=h
 obtain⟨u,rfl,rx⟩:=vals1 r
 cases rx
 have hn:=wH
 rcases hq with hq | hq
 ·obtain⟨its,r',pl,hz⟩:=I.list hq
  have dX:=r'.length
  exact Calls.call_len_list pl.isList (by simp only[bo] <;> omega) ⟨.int ys.length,H,I.tok _,⟨s.toks+1,by rw[bo,dX]⟩,q⟩
 ·obtain⟨its,r',pl,hz⟩:=I.tuple hq
  have dX:=r'.length
  exact len_tuple pl (by simp only[bo] <;> omega) ⟨.int ys.length,H,I.tok _,⟨s.toks+1,by rw[bo,dX]⟩,q⟩
inductive xm (xs:List V) (H:Hp) (Q:VK):Prop
 | mk:∀ z,(xs = [.str z])->(z.length<=sizeLine)->(Q (.int z.length) H)->xm xs H Q
theorem kJ:jA X (.builtin "len") (fun xs H Q=>xm xs H Q):=by
 intro ah s σ H xs us Q I r h
 obtain⟨z,rfl,hz,q⟩:=h
 obtain⟨u,rfl,t,rfl⟩:=vals1 r
 have hn:=wH
 exact len_str (by omega) ⟨.int z.length,H,I.tok _,⟨_,rfl⟩,q⟩
inductive xk (kK:aj) (xs:List V) (H:Hp) (Q:VK):Prop
 | mk:∀ p ys,(xs = [.ref p])->((b6 kK H p ys∨aU kK H p ys))->(∀ l,H l=none->Q (.ref l) (aO H l (.lst ys)))->xk kK xs H Q
theorem Kp:jA X (.type "list") (fun xs H Q=>xk X.K xs H Q):=by
 intro ah s σ H xs us Q I r h
 obtain⟨p,ys,rfl,hq,q⟩:=h
 obtain⟨u,rfl,rx⟩:=vals1 r
 cases rx
 have eZ:∀ (its:List Value),Vals ys its->ys.length<=sizeLine->∀ (h':Heap) (c':Nat),(∀ b o',s.heap.get? b=some o'->h'.get? b=some o') ->
   h'.get? s.heap.objs.size=some { cls := .type "list",dict:=none,data := .seq its.toArray c',slots := #[] }->EP X ah σ Q (.ref s.heap.objs.size) { s with heap:=h' }:=fun its r' hz h' c' kp e =>
  ⟨.ref s.heap.objs.size,_,I.laid (t':=s.toks) kp (aB _) (show dD X.prog X.w _ h' _ (.lst ys) from ⟨hz,its,c',r',e⟩),rfl,q _ (I.br.fresh (aB _))⟩
 rcases hq with hq | hq
 ·obtain⟨its,r',pl,hz⟩:=I.list hq
  have dX:=r'.length
  obtain⟨o,ho,hc,n,hd⟩:=pl.isList
  exact call_list_seq p (.inl rfl) ho hc hd (fun h' c' kp e=>eZ its r' hz h' c' kp e) (by simp only[bo] <;> omega)
 ·obtain⟨its,r',pl,hz⟩:=I.tuple hq
  have dX:=r'.length
  obtain⟨o,ho,hc,n,hd⟩:=pl
  exact call_list_seq p (.inr rfl) ho hc hd (fun h' c' kp e=>eZ its r' hz h' c' kp e) (by simp only[bo] <;> omega)
inductive vv (kK:aj) (xs:List V) (H:Hp) (Q:VK):Prop
 | mk:∀ p ys,(xs = [.ref p])->(((b6 kK H p ys∧∀ l,H l=none->Q (.ref l) (aO H l (.tup ys)))∨(aU kK H p ys∧Q (.ref p) H)))->vv kK xs H Q
theorem yX:jA X (.type "tuple") (fun xs H Q=>vv X.K xs H Q):=by
 intro ah s σ H xs us Q I r h
 obtain⟨p,ys,rfl,h⟩:=h
 obtain⟨u,rfl,rx⟩:=vals1 r
 cases rx
 rcases h with⟨hq,q⟩ | ⟨hq,q⟩
 ·obtain⟨its,r',pl,hz⟩:=I.list hq
  have dX:=r'.length
  refine call_tuple_list pl.isList (fun h' kp => ?_) (by simp only[bo] <;> omega)
  have I1:Inv X ah σ H { s with heap:=h' }:=I.kept (t':=s.toks) kp
  have I2:Inv X ah σ (aO H h'.objs.size (.tup ys)) { s with heap:=h'.push { cls := .type "tuple",data := .seq its.toArray } } :=
   I1.laid (t':=s.toks) (fun b o e=>aN _ e) (aB _) (show dD X.prog X.w _ _ _ (.tup ys) from ⟨hz,its,r',pM.new _ _⟩)
  exact⟨.ref h'.objs.size,_,I2,rfl,q _ (I1.br.fresh (aB _))⟩
 ·obtain⟨its,r',pl,hz⟩:=I.tuple hq
  exact call_tuple_same pl ⟨.ref p,H,I,rfl,q⟩
def tyV (K:aj) (T:String) (x:V) (H:Hp):Prop:=match x with
 | .str _=>T = "str"
 | .int _=>T = "int"
 | .ref p=>(T = "list" ∧ ∃ xs,b6 K H p xs)∨(T = "tuple" ∧ ((∃ o,K.lookup p=some o∧o.cls = .type "tuple" ∧ o.dict=none)∨∃ xs,H p=some (.tup xs))) ∨
   (T = "dict" ∧ ((∃ kvs,H p=some (.dK kvs))∨∃ kvs,H p=some (.dT kvs)))∨(T = "set" ∧ ∃ S n,H p=some (.set S n))
 | _=>False
theorem Yc {ah:List (Addr × Obj)}{σ : St}{H:Hp}{s:Shared}{T:String}{x:V}{v:Value} (I:Inv X ah σ H s) (r:RelV x v) (ty:tyV X.K T x H) :
  s.TypeIs v T∧∀ a,v = .ref a->∃ ob,s.heap.get? a=some ob∧ob.dict=none:=by
 cases x with
 | str z =>
  obtain⟨t,rfl⟩:=r
  cases (show T = "str" from ty)
  exact⟨typeIs_str s z t,fun _ e=>nomatch e⟩
 | int i =>
  obtain⟨t,rfl⟩:=r
  cases (show T = "int" from ty)
  exact⟨typeIs_int s i t,fun _ e=>nomatch e⟩
 | ref p =>
  cases r
  rcases ty with⟨rfl,xs,hq⟩ | ⟨rfl,⟨o,hk,hc,hd⟩ | ⟨xs,hk⟩⟩ | ⟨rfl,hk⟩ | ⟨rfl,S,n,hk⟩
  ·obtain⟨its,_,pl,_⟩:=I.list hq
   refine⟨pl.isList.typeIs,fun a e => ?_⟩
   cases e
   obtain⟨o,n,e,c,hd,_⟩:=pl
   exact⟨o,e,hd⟩
  ·refine⟨⟨o,I.gL p o hk,hc⟩,fun a e => ?_⟩
   cases e
   exact⟨o,I.gL _ o hk,hd⟩
  ·obtain⟨_,_,_,o,e,c,n,d,hd⟩:=I.br p _ hk
   refine⟨⟨o,e,c⟩,fun a e2 => ?_⟩
   cases e2
   exact⟨o,e,hd⟩
  ·have z:∃ o,s.heap.get? p=some o∧o.ExactDict:=by
    rcases hk with⟨kvs,hk⟩ | ⟨kvs,hk⟩
    ·obtain⟨_,_,_,_,o,_,_,e,ex,_⟩:=I.br p _ hk
     exact⟨o,e,ex⟩
    ·obtain⟨_,_,_,_,o,_,_,e,ex,_⟩:=I.br p _ hk
     exact⟨o,e,ex⟩
   obtain⟨o,e,ex⟩:=z
   refine⟨⟨o,e,ex.1⟩,fun a e2 => ?_⟩
   cases e2
   exact⟨o,e,ex.2.1⟩
  ·obtain⟨o,_,_,_,e,ex,_⟩:=I.br p _ hk
   refine⟨⟨o,e,ex.1⟩,fun a e2 => ?_⟩
   cases e2
   exact⟨o,e,ex.2.1⟩
 | _=>exact cj ty
def tBM (K:aj) (T:String) (r:V->List V->Hp->VK->Prop) (to:TE) (t:TA):TE:=fun σ H Q=>to σ H fun x H1=>tyV K T x H1∧t σ H1 fun xs H2=>r x xs H2 Q
variable {o e:Expr}{es:List Expr}{to:TE}{t:TA}{name:Str}{fS dJ:Pos}{T id:String}{r:V->List V->Hp->VK->Prop}
theorem abZ (pa:PlainAttrs T) (slot:Slot T name id) (Z2:typeOf (.builtin id)=pure (.type "method_descriptor")) (hm:KG X id r) (ho:PE X o to) (ha:PA X (e :: es) t)
  (sE:attributeBase o name X.env (eval o X.env)=eval o X.env:=by rfl)
  (TB:((backTo dJ (starEach (e :: es) X.env)).all (fun x => !x.1) && (backToKw dJ (keywordEach [] X.env)).all (fun x=>x.1.isSome)
   && decide ((e :: es).length+([]:List Keyword).length+(if ([]:List Keyword).isEmpty then 0 else 1) < 30))=true:=by rfl)
  (NU:(fS.endLine == dJ.line)=true:=by rfl) (hs:starEach (e :: es) X.env=(false,eval e X.env) :: starEach es X.env:=by rfl) (mv:(backTo dJ (starEach es X.env)).any (·.1)=false:=by rfl) :
  PE X (.Call (.Attribute o name fS) (e :: es) [] dJ) (tBM X.K T r to t):=by
 intro ah s σ H Q I h
 refine wpAny_Call_method_late sE TB NU rfl (cz (ho ah s σ H _ I h) fun v s1 ⟨x,H1,I1,r1,ty,q1⟩ => ?_)
 obtain⟨h1,h2⟩:=Yc I1 r1 ty
 refine⟨T,id,pa,slot,Z2,h1,h2,?_⟩
 have hA:=ha dJ ah s1 σ H1 _ I1 q1
 rw[hs]at hA ⊢
 refine Calls.callWith_builtin (by show (false || (backTo dJ (starEach es X.env)).any (·.1))=false;rw[mv] <;> rfl) (jf ?_)
 exact cz hA fun us s2 ⟨vs,H2,I2,r2,q2⟩=>hm ah s2 σ H2 x vs v us Q I2 r1 r2 q2
theorem fq (pa:PlainAttrs T) (slot:Slot T name id) (Z2:typeOf (.builtin id)=pure (.type "method_descriptor")) (hm:KG X id r) (ho:QE X o to) (ha:QA X (e :: es) t)
  (sE:attributeBase o name X.env (eval o X.env)=eval o X.env:=by rfl)
  (TB:((backTo dJ (starEach (e :: es) X.env)).all (fun x => !x.1) && (backToKw dJ (keywordEach [] X.env)).all (fun x=>x.1.isSome)
   && decide ((e :: es).length+([]:List Keyword).length+(if ([]:List Keyword).isEmpty then 0 else 1) < 30))=true:=by rfl)
  (NU:(fS.endLine == dJ.line)=true:=by rfl) (hs:starEach (e :: es) X.env=(false,eval e X.env) :: starEach es X.env:=by rfl) (mv:(backTo dJ (starEach es X.env)).any (·.1)=false:=by rfl) :
  QE X (.Call (.Attribute o name fS) (e :: es) [] dJ) (tBM X.K T r to t):=by
 delta QA QE at *
 exact abZ pa slot Z2 hm ho ha sE TB NU hs mv
/- xs.append(e),list.index on a Tc tuple .. are KG ahz of 06m -/
end
def MtM (X:Cx) (id:String) (r:V->List V->Hp->VK->Prop):Prop :=
 ∀ (ah:List (Addr × Obj)) (s:Shared) (σ : St) (H:Hp) (x:V) (xs:List V) (v:Value) (us:List Value) (Q:VK),Inv X ah σ H s->RelV x v->Vals xs us->r x xs H Q ->
  wpAny (model X.prog X.w) X.A (call (.builtin id) (v :: us)) (EP X ah σ Q) X.xe s
theorem Vals.one:∀ {x:V}{us:List Value},Vals [x] us->∃ u,us = [u]∧RelV x u
 | _,_,.cons r .nil=>⟨_,rfl,r⟩
section
variable {X:Cx}{ah:List (Addr × Obj)}{σ : St}{H:Hp}{s:Shared}{l b:Addr}{xs ys zs:List V}
theorem Inv.ael {its its':List Value}{n:Nat}{f:Array Value->Array Value} {t':Nat} (I:Inv X ah σ H s) (hH:H l=some (.lst xs))
  (e:s.heap.get? l=some { cls := .type "list",data := .seq its.toArray n }) (hf:f its.toArray=its'.toArray) (hv:Vals ys its') (hz:ys.length<=sizeLine) :
  Inv X ah σ (aO H l (.lst ys)) { s with heap:=s.heap.update l (Obj.mapSeq f),toks:=t' }:=by
 have q:=PySem.IsL.update e f
 rw[hf]at q
 refine I.write (x:=l) (e:=l) (by rw[hH];exact trivial) (.inl rfl) (fun b' u hb hu=>(cH s.heap (Obj.mapSeq f) (cK hb)).trans hu) ⟨_,q⟩ ?_
 exact⟨hz,its',_,hv,q⟩
theorem Inv.Ti {its:List Value} {t':Nat} (I:Inv X ah σ H s) (hv:Vals ys its) (hz:ys.length<=sizeLine) :
  Inv X ah σ (aO H s.heap.objs.size (.lst ys)) { s with heap:=s.heap.push { cls := .type "list",data := .seq its.toArray },toks:=t' } :=
 I.laid (fun _ _ q=>aN _ q) (aB _) ⟨hz,its,0,hv,bW _ rfl⟩
theorem Inv.fresh (I:Inv X ah σ H s):H s.heap.objs.size=none:=I.br.fresh (aB _)
theorem Inv.Th (I:Inv X ah σ H s) (hH:H l=some (.lst xs)):xs.length<=sizeLine∧∃ (its:List Value) (n:Nat),Vals xs its∧xs.length=its.length∧s.heap.get? l=some { cls := .type "list",data := .seq its.toArray n }:=by
 obtain⟨z,its,n,r,e⟩:=I.br l _ hH
 exact⟨z,its,n,r,r.length,e⟩
end
section
variable {X:Cx}
inductive Ho (x:V) (vs:List V) (H:Hp) (Q:VK):Prop
 | mk:∀ l xs y,(x = .ref l)->(vs = [y])->(H l=some (.lst xs))->(xs.length < sizeLine)->(Q .b9 (aO H l (.lst (xs ++ [y]))))->Ho x vs H Q
def WD:V->List V->Hp->VK->Prop:=fun x vs H Q=>Ho x vs H Q
theorem gQ:MtM X "list.append" WD:=by
 intro ah s σ H x vs v us Q I rx rv h
 obtain⟨l,xs,y,rfl,rfl,hH,hz,q⟩:=h
 cases rx
 obtain⟨u,rfl,ru⟩:=rv.one
 obtain⟨z,its,n,r,hl,e⟩:=I.Th hH
 refine call_meets F.slot_list_append ⟨_,e,rfl⟩ F.entry_list_append (F.args_list_append_2 _ _) (PySem.list_append l its.toArray n u (by rw[bo];omega)) ⟨e,?_⟩
 refine⟨.b9,_,I.ael (its':=its ++ [u]) hH e (by simp) (r.append (.cons ru .nil)) ?_,rfl,q⟩
 rw[aM,i7]
 omega
inductive Rz (x:V) (y:V) (H:Hp) (Q:VK):Prop
 | mk:∀ l b xs zs,(x = .ref l)->(y = .ref b)->(H l=some (.lst xs))->(H b=some (.lst zs))->(xs.length+zs.length<=sizeLine)->(∀ p,H p=none->Q (.ref p) (aO H p (.lst (xs ++ zs))))->Rz x y H Q
def YE:R2:=fun x y H Q=>Rz x y H Q
theorem tE:iw X (binaryOp .Add) YE:=by
 intro ah s σ H x y v u Q I rx ry h
 obtain⟨l,b,xs,zs,rfl,rfl,hH,hB,hz,q⟩:=h
 cases rx
 cases ry
 obtain⟨z,its,n,r,hl,e⟩:=I.Th hH
 obtain⟨z2,JL,n2,r2,Ca,e2⟩:=I.Th hB
 refine PySem.P.add_list e e2 ?_ (by rw[bo,bo];omega)
 have ea:its.toArray ++ JL.toArray=(its ++ JL).toArray:=by simp
 rw[ea]
 exact⟨.ref _,_,I.Ti (t':=s.toks) (r.append r2) (by rw[aM];omega),rfl,q _ I.fresh⟩
end
section
variable {prog:Program}{w:World}{A:Around}{E:Value->Shared->Prop}{s:Shared}
end
section
variable {X:Cx}
end
end L2
namespace Att
open PySem PySem.W PySem.Calls PyProof.Rows
theorem Ec {P:Params}{h:Heap}:∀ (ns:List Int) (vs:List Value),WellAll P h vs (ns.map vj)->IntsAre vs ns:=by
 intro ns
 induction ns with
 | nil =>
  intro vs w
  rw[mG]at w
  cases w
  exact .nil
 | cons n ns ih =>
  intro vs w
  rw[b0]at w
  cases w with
  | cons a b =>
   cases a
   exact .cons _ _ (ih _ b)
theorem OX {l:OpenLaw}{n:Nat} (hn:l.most=some n) {P:Params}{h:Heap}{args:List WData}{RN:List Value}
  (x9:l.row.toRowW.claim.pre args=true) (Vf:WellAll P h RN args) :
  ∃ a vs ns,RN = [bf a]∧args = [Eu (ns.map vj)]∧h.get? a=some { cls := .type "list",data := .seq vs.toArray }∧IntsAre vs ns∧ns.length<=n:=by
 have hsh:WShape.hasAll [] args [.list .int]=true:=(pre_splitW x9).1
 have hc:l.pre.holds [] { args:=args }=true:=(pre_splitW x9).2
 obtain⟨d,r,rfl,h1,h2⟩:=hasAllW_cons hsh
 obtain rfl:=hasAllW_nil h2
 obtain⟨xs,rfl,h3⟩:=hasW_list h1
 obtain⟨ns,rfl⟩:=items_int h3
 have dX:ns.length<=n:=by
  unfold OpenLaw.pre at hc
  have h4:(WTm.not (.lt (.lit (.int (n:Int))) (.len (.arg 0)))).holds [] { args := [.list (ns.map .int)] }=true:=by
   have h4:=(holds_andW hc).1
   rw[hn]at h4
   exact h4
  have h5:=condW_of h4 (w_not (w_lt w_lit (w_len_list (w_arg rfl))))
  rw[aA]at h5
  refine ou fun q => ?_
  have q':(n:Int) < ((ns.length:Nat):Int):=by omega
  first
   | (rw[decide_eq_true q']at h5;exact absurd h5 (by decide))
   | (simp at h5;omega)
 cases Vf with
 | cons w1 w2 =>
  cases w2
  cases w1 with
  | list ho aeP=>exact⟨_,_,ns,rfl,rfl,ho,Ec ns _ aeP,dX⟩
theorem Pc (l:OpenLaw) (args:List WData):l.row.toRowW.claim.post args (.bool true) args=true :=
 postW_of (r:=l.row.toRowW) (X:=(true == true))
  (show WShape.has [] (.bool true) .bool=true by first | rfl | decide | simp[WShape.has,WShape.arms,WShape.armsAll])
  (show (WTm.eq .res (.lit (.bool true))).value [] { args:=args,res:=some (.bool true),after:=args }=some (.bool (true == true)) from w_eq_bool (w_res rfl) w_lit) rfl
section
variable {prog:Program}{w:World}{A:Around}{E:Value->Shared->Prop}{s:Shared}{K:Frag}
end
end Att
namespace L2
open PySem PySem.Spec PyProof.Rows
theorem Gv:∀ {vs:List Value}{ns:List Int},IntsAre vs ns->Vals (ns.map V.int) vs
 | _,_,.nil => .nil
 | _,_,.cons n t h => .cons ⟨t,rfl⟩ (Gv h)
def abG (H:Hp):Prop := ∀ b,H b=none∨∃ o xs,H b=some (.uf o (.lst xs))
theorem To {P:Program}{w:World}{K:aj}{mg mb:Str->Option Value}{CX:uN}{k:Nat}{fa a:Addr}{fd:FuncData}{x:Str}{sp:Sp}{fg : Shared}{vs:List Value}{ns:List Int}
  (KX:K.In fg.heap) (hns:fg.heap.Ns mainGlobals mg) (hb:fg.heap.Ns builtinsNs mb) (hbb:∀ x:Str,x ≠ "__name__" -> mb x=bootBuiltins x) (aeD:fg.heap.NoLimit) (hg:fg.gens = #[])
  (ha:fg.heap.get? a=some { cls := .type "list",data := .seq vs.toArray }) (hi:IntsAre vs ns) (hl:ns.length<=sizeLine) (hr:dq k callerA)
  (F:∀ base:Heap,K.In base->base.Ns mainGlobals mg->jF P w K mg base CX k fa fd [x] sp) (aci:∀ (s:Shared) (u:Value),BindsTo s fd ⟨[u], []⟩ [(x,u)])
  (tR:∀ H:Hp,abG H->b6 K H a (ns.map V.int)->sp [.ref a] H (fun v _=>v = .bl true) fun _ _ _=>False)
  (hCX:∀ H e s',CX [] H fg (fun _ _ _=>False) e s'->False) :
  codeAny (model P w) callerA (.call (.ref fa) ⟨[.ref a], []⟩) (fun r s'=>r = .ok (.ret (.bool true))∧OldK fg.heap s'.heap∧s'.os=fg.os∧AllBare s'.gens) fg := by
 have rv:=Gv hi
 have aem:=hi.length
 -- from an afk heap in ahw afp but Ls Yv may be E2
 have core:∀ H:Hp,abG H->b6 K H a (ns.map V.int)->gh P w H fg.heap->(∀ b,H b≠none->b=a)->(H a≠none->K.lookup a=none) ->
   codeAny (model P w) callerA (.call (.ref fa) ⟨[.ref a], []⟩) (fun r s'=>r = .ok (.ret (.bool true))∧OldK fg.heap s'.heap∧s'.os=fg.os∧AllBare s'.gens) fg := by
  intro H hO hS br hA hK
  have MJ:∀ {b:Addr}{o:Obj},fg.heap.get? b=some o->H b=none->(ye fg.heap H).get? b=some o:=fun e n=>Tz e n
  have PF:∀ {b:Addr}{o:Obj}{es:Array DictEntry}{ep:Nat},fg.heap.get? b=some o->o.data = .dict es ep->H b=none:=fun {b o es ep} e d=>by
   cases q:H b with
   | none=>rfl
   | some u =>
    have e':b=a:=hA b (by rw[q];simp)
    subst e'
    rw[ha]at e;cases e
    have d':Data.seq vs.toArray _=Data.dict es ep:=d
    cases d'
  have U4:∀ {b:Addr}{m:Str->Option Value},fg.heap.Ns b m->(ye fg.heap H).Ns b m:=fun {b m} ⟨o,es,ep,e,d,r⟩=>⟨o,es,ep,MJ e (PF e d),d,r⟩
  have hKb:K.In (ye fg.heap H):=fun b o e=>MJ (KX b o e) (by
   cases q:H b with
   | none=>rfl
   | some u =>
    have e':b=a:=hA b (by rw[q];simp)
    subst e'
    rw[hK (by rw[q];simp)]at e;cases e)
  have hM:Mod K mg (ye fg.heap H):=⟨hKb,U4 hns,⟨mb,U4 hb,hbb⟩,let ⟨mc,h1,h2⟩:=aeD; ⟨mc,U4 h1,h2⟩⟩
  have e0:yB P w K mg (ye fg.heap H) callerA [] fg H:=⟨rfl,hM,fun b o e=>Xo e,uC (Qe _ _),trivial,fun b hb=>absurd (show b∈([]:List Addr) from hb) (by simp),br,.of_eq hg⟩
  refine codeAny_mono ((F _ hKb (U4 hns)).run callerA [] fg H ⟨[.ref a], []⟩ [.ref a] [.ref a] _ _ hr e0 (aci fg (.ref a)) (.cons rfl .nil) (tR H hO hS)) fun r s' h => ?_
  cases r with
  | error e=>exact(hCX H e s' h).elim
  | ok fl =>
   cases fl with
   | next=>exact cj h
   | brk=>exact cj h
   | cont=>exact cj h
   | ret u =>
    obtain⟨v,H',os,bare,un,aeA,r',q⟩:=h
    have q':v = .bl true:=q
    subst q'
    obtain rfl:u=iM true:=r'
    refine⟨rfl,OldK.of_keep fun b o e => ?_,os,bare⟩
    cases q:H b with
    | none=>exact un.keep b o e q (by intro z;exact absurd (show b∈([]:List Addr) from z) (by simp)) (by simp)
    | some u =>
     rcases hO b with z | ⟨ob,xs,z⟩
     ·rw[q]at z;cases z
     ·have z2:=un.oi b ob _ z
      obtain⟨e1,_⟩:=br b _ z
      obtain⟨e2,_⟩:=aeA b _ z2
      rw[e]at e1;cases e1
      exact e2
 cases hk:K.lookup a with
 | some o =>
  -- Ls Yv is one of Ls Tc own Xr
  have e:=KX a o hk
  rw[ha]at e
  cases e
  refine core (fun _=>none) (fun _ => .inl rfl) (.inr ⟨_,vs.toArray,_,hk,rfl,rfl,rfl,by rw[bo,aem];exact hl,by simpa using rv⟩) (fun b u z=>by have z':(none:Option HO)=some u:=z;cases z') (fun b z=>absurd rfl z) fun z=>absurd rfl z
 | none =>
  refine core (fun b=>if b=a then some (.uf { cls := .type "list",data := .seq vs.toArray } (.lst (ns.map V.int))) else none) (fun b => ?_) (.inl (.inr ⟨{ cls := .type "list",data := .seq vs.toArray },if_pos rfl⟩)) (fun b u z => ?_) (fun b z => ?_) fun _=>hk
  ·by_cases hb:b=a
   ·exact .inr ⟨_,_,if_pos hb⟩
   ·exact .inl (if_neg hb)
  ·by_cases hb:b=a
   ·have z':=(if_pos hb).symm.trans z
    cases z'
    subst hb
    exact⟨ha,by rw[aA];exact hl,vs,_,rv,ha⟩
   ·have z':=(if_neg hb).symm.trans z
    cases z'
  ·by_cases hb:b=a
   ·exact hb
   ·exact absurd (if_neg hb) z
def lN (s:Stmt) (j:Nat):Stmt:=match s with
 | .ClassDef _ _ _ body _ _ _ _ _ _ _=>body.getD j (.Pass ⟨0,0,0,0⟩)
 | _ => .Pass ⟨0,0,0,0⟩
def iF (s:Stmt):Arguments:=match s with
 | .FunctionDef _ a _ _ _ _ _ _ _ _=>a
 | _=>{ posonlyargs := [],args := [],vararg:=none,kwonlyargs := [],kw_defaults := [],kwarg:=none,defaults := [] }
def dk (s:Stmt):List Stmt:=match s with
 | .FunctionDef _ _ b _ _ _ _ _ _ _=>b
 | _ => []
def az (s:Stmt):Scope:=match s with
 | .FunctionDef _ _ _ _ _ _ sc _ _ _=>sc
 | _=>{ kind := .function,names := [],isGenerator:=false,isCoroutine:=false }
abbrev oM:uN:=fun _ _ _ _ _ _=>False
abbrev E0:XK:=fun _ _ _=>False
theorem ab1 {X:Cx}:Passes oM X E0:=fun _ _ _ _ _ _ _ h=>h.elim
structure sq (K:aj) (x bu:Str) (st:Stmt) (f:Addr) (fd:FuncData):Prop where
 ex:∃ (oc:Value) (od:Option Addr) (kV doc pm:Value) (an:Option Addr) (a8 ct:Value) (tD:Array (Option Value)),
  fd=d8 x bu (iF st) (dk st) (az st) .none kV doc pm an a8 ct∧K.lookup f=some ⟨oc,od,.func fd,tD⟩∧fH K a8 bu=true
 kp:cA K (.ref f)=true
section
variable {P:Program}{w:World}{K:aj}{mg:Str->Option Value}{base:Heap}{CB CF CH CS CN CE CM CR tB:Addr}
theorem sq.ok {x bu:Str}{st:Stmt}{f:Addr}{fd:FuncData}{N ps:List Str}{k:Nat}{sp:Sp} (F:sq K x bu st f fd) (S:bx N ps (az st)) (len:∀ vs H Q E,sp vs H Q E->vs.length=ps.length)
  (eD:∀ (a8:Value) (A:Around) (outer:List Env) (s:Shared) (H:Hp) (vs:List V) (Q:VK) (E:XK),dq k (A.deeper (envOfC bu (az st) s.heap.objs.size f a8))->sp vs H Q E ->
   ∃ t,k4 (bZ oM P w K mg base N bu (az st) f a8 A outer s H E).yR (dk st) t∧t { nx:=fun _ H'=>Q .b9 H',rt:=Q } (start N vs) H):jF P w K mg base oM (k+1) f fd ps sp:=by
 obtain⟨oc,od,kV,doc,pm,an,a8,ct,tD,rfl,lk,ni⟩:=F.ex
 refine N4 lk ni S len fun A outer s H vs Q E hr tR => ?_
 obtain⟨t,h,q⟩:=eD a8 A outer s H vs Q E hr tR
 exact⟨t,h.yR,q⟩
theorem sq.okQ {x bu:Str}{st:Stmt}{f:Addr}{fd:FuncData}{N ps:List Str}{k:Nat}{sp:Sp} (F:sq K x bu st f fd) (S:bx N ps (az st)) (len:∀ vs H Q E,sp vs H Q E->vs.length=ps.length)
  (eD:∀ (a8:Value) (A:Around) (outer:List Env) (s:Shared) (H:Hp) (vs:List V) (Q:VK) (E:XK),dq k (A.deeper (envOfC bu (az st) s.heap.objs.size f a8))->sp vs H Q E ->
   ∃ t,iJ (bZ oM P w K mg base N bu (az st) f a8 A outer s H E).yR (dk st) t∧t { nx:=fun _ H'=>Q .b9 H',rt:=Q } (start N vs) H):jF P w K mg base oM (k+1) f fd ps sp:=by
 delta iJ at *
 exact sq.ok F S len eD
theorem sq.binds {x bu:Str}{st:Stmt}{f:Addr}{fd:FuncData}{ps:List Str} (F:sq K x bu st f fd)
  (h:∀ (kV doc pm:Value) (an:Option Addr) (a8 ct:Value) (us:List Value),us.length=ps.length->bindArgs (d8 x bu (iF st) (dk st) (az st) .none kV doc pm an a8 ct) ⟨us, []⟩=pure (ps.zip us)):Binds K fd ps []:=by
 obtain⟨oc,od,kV,doc,pm,an,a8,ct,tD,rfl,lk,ni⟩:=F.ex
 exact .all (h kV doc pm an a8 ct)
theorem rb {x bu:Str}{st:Stmt}{f:Addr}{oc:Value}{od an:Option Addr}{tD:Array (Option Value)}{kV doc pm a8 ct:Value} (l:K.lookup f=some ⟨oc,od,.func (d8 x bu (iF st) (dk st) (az st) .none kV doc pm an a8 ct),tD⟩)
  (c:fH K a8 bu=true) (k:cA K (.ref f)=true):sq K x bu st f (d8 x bu (iF st) (dk st) (az st) .none kV doc pm an a8 ct):=⟨⟨oc,od,kV,doc,pm,an,a8,ct,tD,rfl,l,c⟩,k⟩
end
theorem NS {A:Around}{k:Nat} (hr:dq k A):A.units+1 < cLine:=gW (Nat.add_le_add_left (by decide:1<=64) _) hr.units
theorem gP {n:Nat} (h:n<=1000):n < sizeLine:=gW h (by decide)
section
variable {X:Cx}
theorem pv (i:Nat) {x:Str}{pos:Pos} (hN:X.N[i]? = some x:=by rfl) (hv:Q6 X.env.scope x:=by first | exact aH rfl | exact uy (aH rfl) | exact uy (uy rfl)) (hd:(x == ("__debug__" : Str))=false:=by decide)
  (ni:(x == ("__classdict__" : Str))=false:=by decide):PE X (.Name x pos) (zt i):=YV hN hv hd ni
theorem aq (i:Nat) {x:Str}{pos:Pos} (hN:X.N[i]? = some x:=by rfl) (hv:Q6 X.env.scope x:=by first | exact aH rfl | exact uy (aH rfl) | exact uy (uy rfl)) (hd:(x == ("__debug__" : Str))=false:=by decide)
  (ni:(x == ("__classdict__" : Str))=false:=by decide):QE X (.Name x pos) (zt i):=by
 delta QE at *
 exact pv i hN hv hd ni
end
theorem eW {A B:Prop} (h:B):if false=true then A else B:=by
 rw[if_neg bM]
 exact h
theorem gB {A B:Prop} (h:A):if true=true then A else B:=by
 rw[if_pos rfl]
 exact h
def aT (H H':Hp):Prop := ∀ b o,H b=some o->H' b=some o
theorem aT.refl (H:Hp):aT H H:=fun _ _ h=>h
theorem aT.trans {H H1 H2:Hp} (a:aT H H1) (b:aT H1 H2):aT H H2:=fun c o h=>b c o (a c o h)
theorem aT.free {H H':Hp} (e:aT H H') {l:Addr} (h:H' l=Option.none):H l=Option.none:=by
 cases q:H l with
 | none=>rfl
 | some o =>
  rw[e l o q]at h
  cases h
theorem aT.seq {K:aj} {H H':Hp}{a:Addr}{xs:List V} (e:aT H H') (h:b6 K H a xs):b6 K H' a xs:=by
 rcases h with(h | ⟨o,h⟩) | h
 ·exact .inl (.inl (e _ _ h))
 ·exact .inl (.inr ⟨o,e _ _ h⟩)
 ·exact .inr h
section
variable {X:Cx}{ah:List (Addr × Obj)}{σ : St}{H:Hp}{s:Shared} {h':Heap}
theorem Inv.DD {ch:List Addr}{a:Addr}{o:HO} {t':Nat} (I:Inv X ah σ H s) (k:∀ b u,b ∉ ch->s.heap.get? b=some u->h'.get? b=some u)
  (sj:∀ b∈ch,pN X ah H b) (hp:s.heap.objs.size<=a) (new:dD X.prog X.w (aO H a o) h' a o):Inv X ah σ (aO H a o) { s with heap:=h',toks:=t' }:=by
 have JU:H a=none:=I.br.fresh hp
 have nH:∀ b ob,s.heap.get? b=some ob->b≠a:=fun b ob e z=>by subst z;exact absurd (bS (bq e) hp) (fB _)
 have tr:∀ b u,H b=some u->b≠a:=fun b u e z=>by rw[z,JU]at e;cases e
 have trc:∀ b u,H b=some u->b ∉ ch:=fun b u e z=>by rw[(sj b z).1]at e;cases e
 refine I.step (g':=s.gens) (d':=s.drawn) (ch:=ch) (fun b hb => ?_) (fun b ob _ _ hc e _=>k b ob hc e) (fun b ob _ _ hc e _=>⟨ob.slots,k b ob hc e⟩) (fun b ob _ e n => ?_)
  (fun b ob hc e=>⟨ob,k b ob hc e⟩) (fun b xs e => ?_) (fun b ob u e => ?_) (fun b ps e=>⟨#[],?_⟩) (fun m hm => ?_) (fun b u e => ?_) I.bare
 ·obtain⟨_,f1,_,f3,f4,f5⟩:=sj b hb
  exact⟨f3,f1,f4,f5⟩
 ·rw[bh (nH b ob e)];exact n
 ·rw[bh (tr b _ e)];exact e
 ·rw[bh (tr b _ e)];exact e
 ·rw[bh (tr b _ e),e];simp
 ·obtain⟨ob,es,ep,ho,r⟩:=hm
  exact⟨ob,es,ep,k _ ob (fun z=>(sj _ z).2.1 rfl) ho,r⟩
 ·by_cases hb:b=a
  ·subst hb
   rw[av]at e;cases e
   exact new
  ·rw[bh hb]at e
   refine(I.br b u e).sV (fun c v hc q=>k c v ?_ q) (fun c q=>by rw[bh (tr c _ q)];exact q) fun c xs q=>by rw[bh (tr c _ q)];exact q
   rcases hc with z | z
   ·rw[z];exact trc b u e
   ·exact trc c _ z
end
theorem Hg:bootBuiltins "enumerate" = some (.type "enumerate"):=by decide +kernel
section
variable {X:Cx}
theorem G5 (a:Array Nat):∀ (k:Nat) (acc:Array Nat),((dM k a).foldl (· ++ ·) acc).toList=acc.toList ++ (dM k a.toList).flatten
 | 0,acc=>by simp
 | k+1,acc=>by
  rw[zf,vq,G5 a k,zf,List.flatten_cons,zh,bH]
def hV (z:Str) (n:Nat):Str:=⟨(dM n z.cps.toList).flatten.toArray⟩
theorem DF (z:Str) (n:Nat):(hV z n).length=n * z.length:=by
 unfold hV sI
 simp[List.length_flatten]
inductive Ba (x:V) (y:V) (H:Hp) (Q:VK):Prop
 | mk:∀ z n,(x = .str z)->(y = .int n)->(1<=n)->(n<=1000)->(z.length<=1000)->(Q (.str (hV z n.toNat)) H)->Ba x y H Q
theorem ND:iw X (binaryOp .Mult) (fun x y H Q=>Ba x y H Q):=by
 intro ah s σ H x y v u Q I rx ry h
 obtain⟨z,n,rfl,rfl,h1,h2,h3,q⟩:=h
 obtain⟨t,rfl⟩:=rx
 obtain⟨t',rfl⟩:=ry
 have e0:(⟨(dM n.toNat z.cps).foldl (· ++ ·) #[]⟩:Str)=hV z n.toNat:=by
  unfold hV
  congr 1
  apply Dx.mp
  rw[G5]
  simp
 have dX:(hV z n.toNat).length<=sizeLine:=by
  rw[DF]
  have:n.toNat<=1000:=by omega
  have:=Nat.mul_le_mul this h3
  exact a9 this (by decide)
 have e1:(n == 1 || z.length == 0)=true->hV z n.toNat=z:=fun hc=>by
  unfold hV
  rcases Bool.or_eq_true_iff.mp hc with hc | hc
  ·have:n=1:=by simpa using hc
   subst this
   simp
  ·have hz:z.length=0:=by simpa using hc
   have P2:z.cps = #[]:=Array.eq_empty_of_size_eq_zero hz
   cases z with
   | mk c =>
    simp only at P2
    subst P2
    simp
 refine PySem.P.mul_str (by
   have En:¬ n < -(2 ^ 63:Int):=by omega
   have Em:¬ n ≥ 2 ^ 63:=by omega
   rw[decide_eq_false En,decide_eq_false Em];rfl) (fun _ _ => ?_) (fun _ _ => ?_) ?_
 ·have e:((2:Int) ^ 63 - 1)=9223372036854775807:=by decide
  rw[e]
  have h4:(1000:Int)<=(9223372036854775807:Int) / n:=by
   refine(Int.le_ediv_iff_mul_le (by omega)).mpr ?_
   omega
  omega
 ·unfold Builtin.Str.tooLong
  rw[DF]at dX
  exact decide_eq_false (by rw[Nat.mul_comm];omega)
 ·rw[if_neg (by omega)]
  by_cases hc:(n == 1 || z.length == 0)=true
  ·rw[if_pos hc]
   exact⟨.str z,H,I,⟨_,rfl⟩,by rw[e1 hc]at q;exact q⟩
  ·rw[if_neg hc]
   exact⟨by rw[e0];exact dX,⟨.str _,H,I.tok _,⟨_,rfl⟩,by rw[e0];exact q⟩⟩
inductive Rv (x:V) (lo:Option Int) (hi:Option Int) (H:Hp) (Q:VK):Prop
 | mk:∀ z,(x = .str z)->(z.length<=sizeLine)->(Q (.str (oI z lo hi)) H)->Rv x lo hi H Q
def YC:V->Option Int->Option Int->Hp->VK->Prop:=fun x lo hi H Q=>Rv x lo hi H Q
theorem zB:Ri X YC:=by
 intro ah s σ H x v vl vu lo hi sl Q I rx hs pl pu h
 obtain⟨z,rfl,hz,q⟩:=h
 obtain⟨t,rfl⟩:=rx
 refine⟨"str",_,F.slot_str_getitem.lookup,typeIs_str _ _ _,?_⟩
 obtain⟨o,ho,hc,hd⟩:=hs
 have eZ:∀ t' k,EP X ah σ Q (.str (oI z lo hi) t') { s with toks:=k }:=fun t' k=>⟨.str _,H,I.tok _,⟨_,rfl⟩,q⟩
 cases pl with
 | none =>
  cases pu with
  | none=>exact wpAny_getItem_str_slice (l:=none) (u:=none) (st:=none) ⟨o,ho,hc,hd⟩ rfl (post_val_or_str ⟨a9 (uo z _ _) hz,eZ⟩)
  | int j uj=>exact wpAny_getItem_str_slice (l:=none) (u:=some (j,uj)) (st:=none) ⟨o,ho,hc,hd⟩ rfl (post_val_or_str ⟨a9 (uo z _ _) hz,eZ⟩)
 | int i ui =>
  cases pu with
  | none=>exact wpAny_getItem_str_slice (l:=some (i,ui)) (u:=none) (st:=none) ⟨o,ho,hc,hd⟩ rfl (post_val_or_str ⟨a9 (uo z _ _) hz,eZ⟩)
  | int j uj=>exact wpAny_getItem_str_slice (l:=some (i,ui)) (u:=some (j,uj)) (st:=none) ⟨o,ho,hc,hd⟩ rfl (post_val_or_str ⟨a9 (uo z _ _) hz,eZ⟩)
inductive Cn (kK:aj) (xs:List V) (H:Hp) (Q:VK):Prop
 | mk:∀ (p:Addr) (ns:List Int),(xs = [.ref p])->(b6 kK H p (ns.map V.int))->(Q (.int ns.sum) H)->Cn kK xs H Q
theorem QV (hc:X.calm=true):jA X (.builtin "sum") (fun xs H Q=>Cn X.K xs H Q):=by
 intro ah s σ H xs us Q I r h
 obtain⟨p,ns,rfl,hq,q⟩:=h
 obtain⟨u,rfl,ru⟩:=vals1 r
 cases ru
 obtain⟨its,rv,pl,hz⟩:=I.list hq
 have hi:IntsAre its ns:=intsAre_of rv
 obtain⟨ys,hx⟩:=hi.allInts.items
 have hl':s.heap.IsList p (intItems ys):=hx ▸ pl.isList
 refine sum_intListG (I.ok.hd hc) hl' fun h' tk t' hk => ?_
 have e1:ns=ys.toList.map (·.1):=by
  rw[<- nums_intItems, <- hx]
  exact(show numsOf its.toArray.toList=ns from hi.numsOf).symm
 have e2:preSum (numAt ys) ys.size=ns.sum:=by
  rw[preSum_eq,eS (by simp),e1]
 exact⟨.int ns.sum,H,I.kept hk,⟨t',by rw[e2]⟩,q⟩
inductive EG (kK:aj) (xs:List V) (H:Hp) (Q:VK):Prop
 | mk:∀ x T t b,(xs = [x,.ty T])->(qy kK H x t)->(bY kK t (.type T)=some b)->(Q (.bl b) H)->EG kK xs H Q
theorem yt:jA X (.builtin "isinstance") (fun xs H Q=>EG X.K xs H Q):=by
 intro ah s σ H xs us Q I r h
 obtain⟨x,T,t,b,rfl,ty,e,q⟩:=h
 obtain⟨u,w',rfl,rx,ry⟩:=vals2 r
 cases ry
 exact PX I rx ty e fun tk=>⟨.bl b,H,I.tok _,rfl,q⟩
theorem Nn {ys:List Str}:∀ {us:List Value},Vals (ys.map V.str) us->StrsAre us ys:=by
 induction ys with
 | nil=>intro us r;rw[mG]at r;cases r;exact .nil
 | cons y ys ih =>
  intro us r
  rw[b0]at r
  cases r with
  | cons r1 r2 =>
   obtain⟨t,e⟩:=r1
   subst e
   exact .cons y t (ih r2)
inductive M1 (K:aj) (x:V) (vs:List V) (H:Hp) (Q:VK):Prop
 | mk:∀ (z:Str) (l:Addr) (ys:List Str),(x = .str z)->(vs = [.ref l])->(b6 K H l (ys.map V.str))->((ys.map (·.length)).sum+ys.length * z.length<=16777216)->(Q (.str (uq z ys)) H)->M1 K x vs H Q
def abS (K:aj):V->List V->Hp->VK->Prop:=fun x vs H Q=>M1 K x vs H Q
theorem Bu:KG X "str.join" (abS X.K):=by
 intro ah s σ H x vs v us Q I rx rv h
 obtain⟨z,l,ys,rfl,rfl,hq,hb,q⟩:=h
 obtain⟨t,rfl⟩:=rx
 obtain⟨u,rfl,ru⟩:=vals1 rv
 cases ru
 obtain⟨its,rv,pl,hz⟩:=I.list hq
 exact join_list pl.isList (Nn rv) hb fun t' k=>⟨.str _,H,I.tok _,⟨_,rfl⟩,q⟩
end
def iV (cells:List (Str × Addr)):List (Str × NameKind)->List (Str × Addr)->List (Str × Addr)
 | [],acc=>acc
 | (n,k) :: r,acc=>if k == .free then (match cells.lookup n with | some c=>iV cells r ((n,c) :: acc) | none=>iV cells r acc) else iV cells r acc
theorem px {cells:List (Str × Addr)}:∀ {names:List (Str × NameKind)}{acc:List (Str × Addr)}{x:Str}{c:Addr},(∀ x c,acc.lookup x=some c->cells.lookup x=some c)->(iV cells names acc).lookup x=some c->cells.lookup x=some c
 | [],_,x,c,ha,h=>ha x c h
 | (n,k) :: r,acc,x,c,ha,h=>by
  unfold iV at h
  by_cases hk:(k == fC)=true
  ·rw[if_pos hk]at h
   cases e:cells.lookup n with
   | none =>
    rw[e]at h
    exact px ha h
   | some d =>
    rw[e]at h
    refine px (fun y z hy => ?_) h
    rw[gM]at hy
    cases q:y == n with
    | true =>
     rw[q]at hy
     have:y=n:=by simpa using q
     rw[this,e];exact hy
    | false =>
     rw[q]at hy
     exact ha y z hy
  ·rw[if_neg hk]at h
   exact px ha h
theorem sH {cells:List (Str × Addr)}:∀ {names:List (Str × NameKind)}{acc:List (Str × Addr)}{x:Str},(acc.lookup x).isSome=true->((iV cells names acc).lookup x).isSome=true
 | [],_,_,h=>h
 | (n,k) :: r,acc,x,h=>by
  unfold iV
  by_cases hk:(k == fC)=true
  ·rw[if_pos hk]
   cases e:cells.lookup n with
   | none=>exact sH h
   | some d =>
    refine sH ?_
    rw[gM]
    cases q:x == n with
    | true=>rfl
    | false=>exact h
  ·rw[if_neg hk];exact sH h
theorem pw {cells:List (Str × Addr)}:∀ {names:List (Str × NameKind)}{acc:List (Str × Addr)}{x:Str},(x,fC)∈names->(cells.lookup x).isSome=true->((iV cells names acc).lookup x).isSome=true
 | [],_,_,h,_=>nomatch h
 | (n,k) :: r,acc,x,h,hc=>by
  unfold iV
  rcases aK.mp h with e | h
  ·cases e
   rw[if_pos (show (fC == fC)=true from rfl)]
   cases e:cells.lookup n with
   | none=>rw[e]at hc;cases hc
   | some d =>
    refine sH ?_
    rw[gM]
    simp
  ·by_cases hk:(k == fC)=true
   ·rw[if_pos hk]
    cases e:cells.lookup n with
    | none=>exact pw h hc
    | some d=>exact pw h hc
   ·rw[if_neg hk];exact pw h hc
theorem jT {cells:List (Str × Addr)}{names:List (Str × NameKind)}{x:Str}{c:Addr} (h:(iV cells names []).lookup x=some c):cells.lookup x=some c :=
 px (fun _ _ z=>by simp at z) h
theorem ym {env:Env}:∀ (names:List (Str × NameKind)) (acc:List (Str × Addr)),(∀ y∈names,y.2 = .free->∃ c,env.cells.lookup y.1=some c) ->
  (forIn names acc fun x r=>match x with
   | (name,kind)=>if (kind == fC)=true then (do let c <- cellOf env name;pure (pO ((name,c) :: r))) else pure (pO r):Sem (List (Str × Addr)))=pure (iV env.cells names acc)
 | [],acc,_=>rfl
 | (n,k) :: r,acc,h=>by
  have hr:∀ y∈r,y.2 = .free->∃ c,env.cells.lookup y.1=some c:=fun y hy=>h y (aL _ hy)
  rw[List.forIn_cons]
  by_cases hk:(k == fC)=true
  ·have ek:k = .free:=by simpa using hk
   obtain⟨c,hc⟩:=h (n,k) aV ek
   have e1:cellOf env n=pure c:=by
    have u9:env.cells.lookup n=some c:=hc
    unfold cellOf
    rw[u9]
   unfold iV
   rw[if_pos hk]
   have u9:env.cells.lookup n=some c:=hc
   rw[u9]
   simp only[hk,if_true,e1]
   exact ym r ((n,c) :: acc) hr
  ·unfold iV
   rw[if_neg hk]
   simp only[hk]
   exact ym r acc hr
theorem AB {scope:Scope}{env:Env} (h:∀ y∈scope.names,y.2 = .free->∃ c,env.cells.lookup y.1=some c):closureFor scope env=pure (iV env.cells scope.names []):=by
 have e:=ym scope.names [] h
 unfold closureFor
 show (Bind.bind (forIn scope.names [] fun x r=>match x with
   | (name,kind)=>if (kind == fC)=true then (do let c <- cellOf env name;pure (pO ((name,c) :: r))) else pure (pO r):Sem (List (Str × Addr))) fun r=>pure r)=_
 rw[e]
 rfl
theorem zK {scope:Scope}{env:Env}{x:Str} (hc:∀ y∈scope.names,y.2 ≠ .cell) (h:(relabel scope env).names.lookup x=some .cell∨(relabel scope env).names.lookup x=some .free):(x,fC)∈scope.names:=by
 unfold relabel at h
 simp only at h
 generalize scope.names=names at h hc
 induction names with
 | nil=>rcases h with h | h <;> cases h
 | cons y r ih =>
  obtain⟨n,k⟩:=y
  have hr:∀ y∈r,y.2≠NameKind.cell:=fun y hy=>hc y (aL _ hy)
  rw[b0]at h
  by_cases hk:(k == fC && env.scope.kind == .function && env.kindOf n == some .cell)=true
  ·simp only[hk,if_true,gM]at h
   cases q:x == n with
   | true =>
    have e:x=n:=by simpa using q
    have ek:k = .free:=by
     have:=(fk.mp (fk.mp hk).1).1
     simpa using this
    rw[e,ek];exact aV
   | false =>
    rw[q]at h
    exact aL _ (ih h hr)
  ·simp only[hk,gZ,if_false,gM]at h
   cases q:x == n with
   | true =>
    rw[q]at h
    have e:x=n:=by simpa using q
    have hk0:k ≠ .cell:=hc (n,k) aV
    rcases h with h | h
    ·exact absurd (bD h) hk0
    ·rw[e,bD h];exact aV
   | false =>
    rw[q]at h
    exact aL _ (ih h hr)
theorem u3 {scope:Scope}{env:Env}{x:Str} (h:scope.names.lookup x=some .free):(relabel scope env).names.lookup x=some .cell∨(relabel scope env).names.lookup x=some .free:=by
 unfold relabel
 simp only
 generalize scope.names=names at h
 induction names with
 | nil=>cases h
 | cons y r ih =>
  obtain⟨n,k⟩:=y
  rw[b0]
  rw[gM]at h
  by_cases hk:(k == fC && env.scope.kind == .function && env.kindOf n == some .cell)=true
  ·simp only[hk,if_true,gM]
   cases q:x == n with
   | true=>exact .inl rfl
   | false=>rw[q]at h;exact ih h
  ·simp only[hk,gZ,if_false,gM]
   cases q:x == n with
   | true=>rw[q]at h;exact .inr h
   | false=>rw[q]at h;exact ih h
def dQ (X:Cx) (scope:Scope) (N:List Str) (fp:List Addr) (s:Shared) (H:Hp):Cx :=
 { X with N:=N,ky := s,Bc := H,env:=compEnvC scope (iV X.env.cells scope.names []) s.heap.objs.size X.env,outer:=X.stack,ex:=fp,fn:=fun _=>false,pn := [],xe:=fun _ _=>False }
structure iX (X:Cx) (scope:Scope) (own:List Str) (caps:List (Str × Nat)):Prop where
 kind:scope.kind = .function
 D3:∀ y∈scope.names,y.2 ≠ .cell
 locs:∀ y∈scope.names,y.2 = .local->scope.names.lookup y.1=some .local
 frees:∀ y∈scope.names,y.2 = .free->X.env.kindOf y.1=some .cell
 own:∀ x∈own,scope.names.lookup x=some .local
 caps:∀ p∈caps,X.N[p.2]? = some p.1∧X.env.kindOf p.1=some .cell∧scope.names.lookup p.1=some .free
def jD (σ : St) (caps:List (Str × Nat)):St:=caps.map fun p=>(σ[p.2]?).join
section
variable {X:Cx}{scope:Scope}{own:List Str}{caps:List (Str × Nat)}{ah:List (Addr × Obj)}{σ : St}{H:Hp}{s:Shared}{fp:List Addr}
theorem XS (S:iX X scope own caps) (I:Inv X ah σ H s) (hf:∀ b∈fp,pN X ah H b) (hl:∀ b∈fp,b < s.heap.objs.size):(dQ X scope (own ++ caps.map (·.1)) fp s H).Ok where
 mod:=I.ok.mod
 kind:=S.kind
 glob:=I.ok.glob
 blt:=I.ok.blt
 above:=aB _
 inj:=fun x y c h1 h2=>I.ok.inj x y c (jT h1) (jT h2)
 has:=fun x h=>by
  have hm:=zK S.D3 h
  obtain⟨c,hc⟩:=I.ok.has x (.inl (S.frees _ hm rfl))
  exact mF.mp (pw hm (by rw[hc];rfl))
 He:=fun x c h _=>nomatch h
 hd:=I.ok.hd
 frames:=I.ok.frames
 IB := .inl rfl
 Qz:=fun b hb=>⟨b7 (hl b hb),fun x c h=>(hf b hb).2.2.2.2.1 x c (jT h)⟩
 bs:=I.bs
 wW:=a9 I.ok.wW I.sz
 zV:=fun b o e hb=>by
  rcases(hf b hb).2.2.2.1 with z | z
  ·exact I.ok.zV b o e z
  ·exact absurd (bS (bS (bq e) I.ok.wW) z) (fB _)
 C7:=fun b hb z=>by
  rcases aK.mp (I.zx b z) with e | e
  ·exact(hf b hb).2.1 e
  ·exact(hf b hb).2.2.1 e
 nu:=I.stack
 Ar:=I.wm
theorem Es (S:iX X scope own caps) (I:Inv X ah σ H s) (hf:∀ b∈fp,pN X ah H b) (hl:∀ b∈fp,b < s.heap.objs.size) {h1:Heap}{m:Str->Option Value}{t:Nat} (hn:h1.Ns s.heap.objs.size m)
  (hk:∀ b o,s.heap.get? b=some o->h1.get? b=some o):Inv (dQ X scope (own ++ caps.map (·.1)) fp s H) [] (dM own.length none ++ jD σ caps) H { s with heap:=h1,toks:=t }:=by
 refine⟨XS S I hf hl,rfl,I.bare,Un.kept hk,⟨m,hn,fun i y v e1 e2 e3 => ?_⟩,fun x c e => ?_,I.br.fresh (aB _),fun x c e=>I.mY x c (jT e),(fun p hp=>by cases hp),I.br.kept hk,?_⟩
 ·have hi:own.length<=i:=by
   by_cases hi:i < own.length
   ·rw[cI (by simpa using hi),uQ,if_pos hi]at e2
    cases e2
   ·omega
  rw[dy (by simpa using hi),gX]at e2
  unfold jD at e2
  rw[cf]at e2
  have QJ:(own ++ caps.map (·.1))[i]? = some y:=e1
  rw[dy hi,cf]at QJ
  cases q:caps[i - own.length]? with
  | none=>rw[q]at e2;cases e2
  | some p =>
   rw[q]at QJ e2
   have ey:p.1=y:=bD QJ
   have ev:(σ[p.2]?).join=some v:=bD e2
   have eσ : σ[p.2]? = some (some v):=by
    cases z : σ[p.2]? with
    | none=>rw[z]at ev;cases ev
    | some w'=>rw[z]at ev;rw[show w'=some v from ev]
   obtain⟨hN,yd,Bw⟩:=S.caps p (bB q)
   rw[ey]at hN yd Bw
   obtain⟨mX,hnX,hlX⟩:=I.loc
   obtain⟨u,ru,lk⟩:=hlX p.2 y v hN eσ (.inr (.inl yd))
   refine⟨u,ru,?_⟩
   rcases lk with⟨k1,_⟩ | ⟨_,c,hc,mV⟩
   ·rw[yd]at k1;cases k1
   ·have hm:=zK S.D3 (u3 (env:=X.env) Bw)
    obtain⟨c',u9⟩:=mF.mp (pw (acc := []) hm (by rw[hc];rfl))
    have:=jT u9
    rw[hc]at this;cases this
    obtain⟨o,ho,hd⟩:=mV
    exact .inr ⟨u3 (env:=X.env) Bw,c,u9,⟨o,hk _ _ ho,hd⟩⟩
 ·obtain⟨v,o,ho,hd⟩:=I.cell x c (jT e)
  exact⟨v,o,hk _ _ ho,hd⟩
 ·show _=(own ++ caps.map (·.1)).length
  simp[jD]
theorem Ha {N:List Str}{τ : St} {H':Hp} {s':Shared} (I:Inv X ah σ H s) (J:Inv (dQ X scope N fp s H) [] τ H' s') (hf:∀ b∈fp,pN X ah H b):Inv X ah σ H' s' :=
 I.Of (ch:=fp) J.os J.base J.br J.bare fun b hb=>by
  obtain⟨_,f1,_,f3,f4,f5⟩:=hf b hb
  exact⟨f3,f1,f4,f5⟩
theorem XT {prog:Program}{w:World}{A:Around}{R:Result->Shared->Prop}{iI ku c9:Expr}{pos:Pos}{it acc:Value}{env:Env} (Iv:Nat->Shared->Prop)
  (sR:∀ n s,Iv n s->wpAny (model prog w) A (pyNext it) (fun r fg => match r with
   | none=>R (.ok .next) fg
   | some v=>wpAny (model prog w) A (letOwnedTupleGo ku it v) (fun _ lV => wpAny (model prog w) A (assign ku env v) (fun _ n5 => wpAny (model prog w) A (eval iI env) (fun x Iw =>
       wpAny (model prog w) A (call (.builtin "list.append") [acc,x]) (fun _ Iu => ∃ m,m < n∧Iv m Iu) (fun _ _=>False) Iw) (fun _ _=>False) n5) (fun _ _=>False) lV) (fun _ _=>False) fg) (fun _ _=>False) s)
  (n:Nat) (h:Iv n s):codeAny (model prog w) A (.compLoop (.ListComp iI [⟨ku,c9, [],0⟩] scope pos) 0 it acc env) R s:=by
 refine codeAny_loop rfl Iv (fun n s hI => ?_) n h
 show wpAny _ A ((compTurn (.ListComp iI [⟨ku,c9, [],0⟩] scope pos) 0 it acc env).onRaise (fun x=>do noteFrame x env;theTreesLotGoes x)) _ _ s
 refine wpAny_noted ?_
 rw[compTurn_list]
 refine wpAny_bind (wpAny_standAt (wpAny_bind (wpAny_mono (sR n s hI) (fun r fg oh => ?_) fun _ _ z=>z.elim)))
 cases r with
 | none=>exact wpAny_pure oh
 | some v =>
  refine wpAny_bind (wpAny_mono oh (fun _ lV xZ => wpAny_bind (wpAny_mono xZ (fun _ n5 Tu => wpAny_bind (wpAny_tests_nil ?_)) fun _ _ z=>z.elim)) fun _ _ z=>z.elim)
  exact wpAny_bind (wpAny_bind (wpAny_mono Tu (fun x Iw xY => wpAny_bind (wpAny_mono xY (fun _ Iu iD => wpAny_pure (wpAny_pure ⟨rfl,iD⟩)) fun _ _ z=>z.elim)) fun _ _ z=>z.elim))
def yJ (J:It) (g:TG) (te:TE) (X0:St) (H1:Hp) (Q:VK):Prop := ∀ D,H1 D=none->∃ W:Nat->Nat->St->List V->Hp->Prop,
 (∃ m,W 0 m X0 [] (aO H1 D (.lst []))) ∧
 ∀ i m τ ys H,W i m τ ys H->H D=some (.lst ys)∧((J.stop i H∧Q (.ref D) H)∨(J.go i H∧ys.length < sizeLine∧∀ x H',J.BX i H x H'->g x τ H' fun Ia H2=>te Ia H2 fun y H3 =>
  H3 D=some (.lst ys)∧∃ m',m' < m∧W (i+1) m' Ia (ys ++ [y]) (aO H3 D (.lst (ys ++ [y])))))
def DG (wi:TI) (g:TG) (te:TE) (k:Nat) (caps:List (Str × Nat)):TE:=fun σ H Q=>wi σ H fun J H1=>yJ J g te (dM k none ++ jD σ caps) H1 Q
theorem G9 {tg iI c9:Expr}{wi:TI}{g:TG}{te:TE}{pos p2:Pos}{use:Option (Value->Sem Unit)}{Q:VK} {Q':Value->Shared->Prop} (S:iX X scope own caps) (hi:PI X tg c9 wi) (hc:X.calm=true)
  (hg:∀ fp s H,PG (dQ X scope (own ++ caps.map (·.1)) fp s H) tg g) (he:∀ fp s H,PE (dQ X scope (own ++ caps.map (·.1)) fp s H) iI te)
  (I:Inv X ah σ H s) (h:DG wi g te own.length caps σ H Q)
  (eZ:∀ D C H5 s5,Inv X ah σ H5 s5->Q (.ref D) H5->(∃ m,s5.heap.Ns C m)->H5 C=none->C≠X.env.locals->X.ky.heap.objs.size<=C->(∀ x c,X.env.cells.lookup x=some c->c≠C)->(∀ p∈X.pn ++ ah,p.1≠C) ->
   compPost (model X.prog X.w) X.A X.xe use Q' (.ref D) C (.ok .next) s5)
  (hs:∀ x,foldedSetIterable c9 X.env x=pure x:=by intro _;rfl) :
  wpAny (model X.prog X.w) X.A (comprehension (.ListComp iI [⟨tg,c9, [],0⟩] scope pos) scope X.env p2 (newList []) false (eval c9 X.env) use) Q' X.xe s:=by
 have NZ:closureFor scope X.env=pure (iV X.env.cells scope.names []):=AB fun y hy hk=>I.ok.has y.1 (.inl (S.frees y hy hk))
 refine wpAny_comprehension_free (g:=⟨tg,c9, [],0⟩) (gs := []) rfl hs NZ S.kind S.locs (cz (hi ah s σ H _ I h) fun v s1 h1=>cz h1 fun Va s2 h2 => ?_)
 obtain⟨it,fp,tn,J,H2,e,I2,T,IC,f2,R⟩:=h2
 subst e
 refine wpAny_newObj_type (wpAny_newFunctionEnv S.D3 (by intro y hy;simp at hy) (fun oh JQ JM => ?_) S.kind)
 have Mz:H2 s2.heap.objs.size=none:=I2.br.fresh (aB _)
 obtain⟨W,⟨m0,w0⟩,sR⟩:=R s2.heap.objs.size Mz
 have I3:Inv X ah σ (aO H2 s2.heap.objs.size (.lst [])) { s2 with heap:=s2.heap.push { cls := .type "list",dict:=none,data := .seq ([]:List Value).toArray } }:=I2.Ti (its := []) (t':=s2.toks) .nil (bA _)
 have PQ:∀ b∈fp,b < s2.heap.objs.size:=fun b hb=>by
  obtain⟨o,ho,_⟩:=T.obj _ _ IC b hb
  exact bq ho
 have f3:∀ b∈fp,pN X ah (aO H2 s2.heap.objs.size (.lst [])) b:=fun b hb=>⟨by rw[bh (b7 (PQ b hb))];exact(f2 b hb).1,(f2 b hb).2⟩
 generalize Ad:({ s2 with heap:=s2.heap.push { cls := .type "list",dict:=none,data := .seq ([]:List Value).toArray } }:Shared)=s3 at I3
 have ZT:s3.heap.objs.size=s2.heap.objs.size+1:=by rw[<- Ad];exact kT _ _
 have Tp:∀ b o,s2.heap.get? b=some o->s3.heap.get? b=some o:=fun b o e=>by rw[<- Ad];exact aN _ e
 have PN:∀ b∈fp,b < s3.heap.objs.size:=fun b hb=>by rw[ZT];exact BR (PQ b hb)
 have FF:oh.Ns s3.heap.objs.size (fun x=>([]:List (Str × Value)).reverse.lookup x):=by rw[<- Ad];exact JQ
 have JH:∀ b o,s3.heap.get? b=some o->oh.get? b=some o:=fun b o e=>by
  have hb:b≠s3.heap.objs.size:=b7 (bq e)
  rw[<- Ad]at e hb
  exact JM.extBut b o hb (aN _ e)
 have J1:=Es S I3 f3 PN (t:=s2.toks+([]:List (Str × Value)).length) FF JH
 have OO:tn 0 oh := T.keep _ _ _ IC fun b hb o e=>JH b o (Tp b o e)
 -- Ls loop
 have loop:∀ n5 : Shared,n5 = { s3 with heap:=oh,toks:=s2.toks+([]:List (Str × Value)).length } ->
   codeAny (model X.prog X.w) X.A (.compLoop (.ListComp iI [⟨tg,c9, [],0⟩] scope pos) 0 (.ref it) (.ref s2.heap.objs.size) (dQ X scope (own ++ caps.map (·.1)) fp s3 (aO H2 s2.heap.objs.size (.lst []))).env)
    (compPost (model X.prog X.w) X.A X.xe use Q' (.ref s2.heap.objs.size) s3.heap.objs.size) n5 := by
  rintro n5 rfl
  refine XT (fun n s'=>∃ i τ ys H',Inv (dQ X scope (own ++ caps.map (·.1)) fp s3 (aO H2 s2.heap.objs.size (.lst []))) [] τ H' s'∧tn i s'.heap∧(∀ b∈fp,H' b=none)∧W i n τ ys H') ?_ m0
   ⟨0,_, [],_,J1,OO,fun b hb=>(f3 b hb).1,w0⟩
  rintro n s' ⟨i, τ,ys,H',J',oU,Qt,w'⟩
  have fY:∀ {dF:Hp},(∀ b∈fp,dF b=none)->∀ b∈fp,pN (dQ X scope (own ++ caps.map (·.1)) fp s3 (aO H2 s2.heap.objs.size (.lst []))) [] dF b:=fun hn b hb =>
   ⟨hn b hb,b7 (PN b hb),fun z=>by
     rcases aK.mp (I3.zx b z) with e | e
     ·exact(f3 b hb).2.1 e
     ·exact(f3 b hb).2.2.1 e,.inl hb,fun x c e=>(f3 b hb).2.2.2.2.1 x c (jT e),(fun p hp=>by cases hp)⟩
  obtain⟨hD,tt⟩:=sR i n τ ys H' w'
  rcases tt with⟨stop,qn⟩ | ⟨go,dX,step⟩
  ·refine cz (T.done (dQ X scope (own ++ caps.map (·.1)) fp s3 (aO H2 s2.heap.objs.size (.lst []))) rfl rfl rfl hc i [] s' τ H' (fun _ _=>False) J' (fY Qt) oU stop) fun r s4 ⟨hr,J4⟩ => ?_
   subst hr
   obtain⟨m4,hn4,_⟩:=J4.loc
   have I5:=Ha I3 J4 f3
   refine eZ _ _ _ s4 I5 qn ⟨m4,hn4⟩ J4.free ?_ ?_ (fun x c e z => ?_) fun p hp z => ?_
   ·exact kR I3.lt
   ·exact I3.sz
   ·obtain⟨v,q⟩:=I3.cell x c e
    rw[z]at q
    exact absurd q.lt (fB _)
   ·have q:=(I3.pin p hp).1
    rw[z]at q
    exact absurd (bq q) (fB _)
  ·refine cz (T.item (dQ X scope (own ++ caps.map (·.1)) fp s3 (aO H2 s2.heap.objs.size (.lst []))) rfl rfl rfl hc i [] s' τ H' (fun _ _=>False) J' (fY Qt) oU go) fun r s4 ⟨u,hr,h4⟩ => ?_
   subst hr
   refine cz h4 fun _ s5 ⟨x,H5,J5,r5,y5,zy,Qs⟩ => ?_
   have J5':=J5.pinned (fY Qs) (T.obj _ _ zy)
   refine cz (hg fp s3 _ _ s5 τ H5 x u _ J5' r5 (step x H5 y5)) fun _ s6 ⟨we,H6,J6,q6⟩ => ?_
   refine cz (he fp s3 _ _ s6 we H6 _ J6 q6) fun yv s7 ⟨y,H7,J7,r7,hD7,m',Qd,w7⟩ => ?_
   refine cz (gQ (X:=dQ X scope (own ++ caps.map (·.1)) fp s3 (aO H2 s2.heap.objs.size (.lst []))) _ s7 we H7 (.ref s2.heap.objs.size) [y] _ [yv] (fun _ H8=>H8=aO H7 s2.heap.objs.size (.lst (ys ++ [y]))) J7 rfl (.cons r7 .nil) ⟨_,ys,y,rfl,rfl,hD7,dX,rfl⟩) fun _ s8 ⟨_,H8,J8,_,e8⟩ => ?_
   subst e8
   refine⟨m',Qd,i+1, we,ys ++ [y],_,J8.pZ,T.keep _ _ _ zy fun b hb o e=>(J8.pin (b,o) (cg _ (cg _ (mT hb e)))).1,fun b hb => ?_,w7⟩
   obtain⟨o,e,d⟩:=T.obj _ _ zy b hb
   exact(J8.pin (b,o) (cg _ (cg _ (mT hb e)))).2.1
 have Eg:=loop _ rfl
 subst Ad
 exact codeAny_compStart_list Eg (T.self _ 0 _ _ _ OO Eg)
theorem W5 {tg iI c9:Expr}{wi:TI}{g:TG}{te:TE}{pos:Pos} (S:iX X scope own caps) (hi:PI X tg c9 wi) (hc:X.calm=true)
  (hg:∀ fp s H,PG (dQ X scope (own ++ caps.map (·.1)) fp s H) tg g) (he:∀ fp s H,PE (dQ X scope (own ++ caps.map (·.1)) fp s H) iI te)
  (hs:∀ x,foldedSetIterable c9 X.env x=pure x:=by intro _;rfl):PE X (.ListComp iI [⟨tg,c9, [],0⟩] scope pos) (DG wi g te own.length caps):=by
 intro ah s σ H Q I h
 rw[eval_ListComp]
 refine G9 (use:=none) (Q:=Q) S hi hc hg he I h (fun D C H5 s5 I5 q ⟨m,hn⟩ hC hL hz mV JN => ?_) hs
 refine⟨m,hn,fun h' P9 => ?_⟩
 exact⟨.ref D,H5,I5.turned (t':=s5.toks) (fun b o hb e=>(P9.2 b hb).trans e) hC hL (.inr hz) mV JN,rfl,q⟩
theorem tu {tg iI c9:Expr}{wi:TI}{g:TG}{te:TE}{pos:Pos} (S:iX X scope own caps) (hi:QI X tg c9 wi) (hc:X.calm=true)
  (hg:∀ fp s H,QG (dQ X scope (own ++ caps.map (·.1)) fp s H) tg g) (he:∀ fp s H,QE (dQ X scope (own ++ caps.map (·.1)) fp s H) iI te)
  (hs:∀ x,foldedSetIterable c9 X.env x=pure x:=by intro _;rfl):QE X (.ListComp iI [⟨tg,c9, [],0⟩] scope pos) (DG wi g te own.length caps):=by
 delta QE QG QI at *
 exact W5 S hi hc hg he hs
theorem Nw {i:Nat}{y:Str}{tg iI c9:Expr}{wi:TI}{g:TG}{te:TE}{pos ID py:Pos} (hN:X.N.Nodup) (hiN:X.N[i]? = some y) (hy:X.env.scope.names.lookup y=some .local) (S:iX X scope own caps) (hi:PI X tg c9 wi) (hc:X.calm=true)
  (hg:∀ fp s H,PG (dQ X scope (own ++ caps.map (·.1)) fp s H) tg g) (he:∀ fp s H,PE (dQ X scope (own ++ caps.map (·.1)) fp s H) iI te)
  (Z3:swapsWith (.ListComp iI [⟨tg,c9, [],0⟩] scope pos) (some (.Name y py)) ID.line X.env=pure true)
  (hs:∀ x,foldedSetIterable c9 X.env x=pure x:=by intro _;rfl):PS X (.Assign [.Name y py] (.ListComp iI [⟨tg,c9, [],0⟩] scope pos) ID) (zw (DG wi g te own.length caps) (bc i)):=by
 intro ah s σ H D I h
 rw[exec_Assign_Name_used _ _ _ _ Z3]
 refine wpAny_bind (wpAny_standAt (wpAny_bind ?_))
 show wpAny _ X.A (do let _ <- comprehension (.ListComp iI [⟨tg,c9, [],0⟩] scope pos) scope X.env _ (newList []) false (eval c9 X.env) (some (assign (.Name y py) X.env))) _ _ s
 refine wpAny_bind (wpAny_mono (G9 (use:=some (assign (.Name y py) X.env)) (Q:=fun x H1=>D.nx (σ.set i (some x)) H1) (Q':=fun _ s'=>SP X ah D .next s') S hi hc hg he I h (fun A C H5 s5 I5 q ⟨m,hn⟩ hC hL hz mV JN => ?_) hs)
  (fun _ s' hq=>wpAny_pure (wpAny_pure hq)) fun _ _ e=>e)
 show wpAny _ X.A (assign (.Name y py) X.env (.ref A)) _ _ _
 refine wpAny_assign_Name (GB I5 hN hiN (.inl hy) (v := .ref A) rfl (fun s6 I6 ⟨a,hsb,ha⟩ => ?_) (.inr hy))
 have haC:C≠a:=by
  rcases ha with ha | ha
  ·rw[ha];exact hL
  ·exact fun z=>mV y a ha z.symm
 refine⟨m,hn.sameBut hsb haC,fun h' P9 => ?_⟩
 exact⟨_,H5,I6.turned (t':=s6.toks) (fun b o hb e=>(P9.2 b hb).trans e) hC hL (.inr hz) mV JN,q⟩
theorem B2 {i:Nat}{y:Str}{tg iI c9:Expr}{wi:TI}{g:TG}{te:TE}{pos ID py:Pos} (hN:X.N.Nodup) (hiN:X.N[i]? = some y) (hy:X.env.scope.names.lookup y=some .local) (S:iX X scope own caps) (hi:QI X tg c9 wi) (hc:X.calm=true)
  (hg:∀ fp s H,QG (dQ X scope (own ++ caps.map (·.1)) fp s H) tg g) (he:∀ fp s H,QE (dQ X scope (own ++ caps.map (·.1)) fp s H) iI te)
  (Z3:swapsWith (.ListComp iI [⟨tg,c9, [],0⟩] scope pos) (some (.Name y py)) ID.line X.env=pure true)
  (hs:∀ x,foldedSetIterable c9 X.env x=pure x:=by intro _;rfl):QS X (.Assign [.Name y py] (.ListComp iI [⟨tg,c9, [],0⟩] scope pos) ID) (zw (DG wi g te own.length caps) (bc i)):=by
 delta QE QG QI QS at *
 exact Nw hN hiN hy S hi hc hg he Z3 hs
end
structure cS (P:Program) (w:World) (K:aj) (mg:Str->Option Value) (base:Heap) (k:Nat) (x:Str) (ps:List Str) (sp:Sp):Prop where
 ex:∃ f fd,jF P w K mg base oM k f fd ps sp∧mg x=some (.ref f)∧cA K (.ref f)=true∧Binds K fd ps []
section
variable {X:Cx} {k k':Nat}{x:Str}{ps:List Str}{sp:Sp}{p pos:Pos}{e:Expr}{es:List Expr}{t:TA}
theorem SG (h:cS X.prog X.w X.K X.mg X.base k x ps sp) (hr:dq k' X.A) (hk:k<=k') (hg:Gl X x) (ha:PA X (e :: es) t) (iR:(x == ("__debug__" : Str))=false:=by decide)
  (he:starEach (e :: es) X.env=(false,eval e X.env) :: starEach es X.env:=by rfl) (fu:(backTo pos (starEach es X.env)).any (·.1)=false:=by rfl) :
  PE X (.Call (.Name x p) (e :: es) [] pos) (k7 sp [] E0 t):=by
 obtain⟨f,fd,F,hm,Eh,hb⟩:=h.ex
 exact L4 F (hr.mono hk) hg hm Eh hb .nil ab1 ha iR he fu
theorem aG (h:cS X.prog X.w X.K X.mg X.base k x ps sp) (hr:dq k' X.A) (hk:k<=k') (hg:Gl X x) (ha:QA X (e :: es) t) (iR:(x == ("__debug__" : Str))=false:=by decide)
  (he:starEach (e :: es) X.env=(false,eval e X.env) :: starEach es X.env:=by rfl) (fu:(backTo pos (starEach es X.env)).any (·.1)=false:=by rfl) :
  QE X (.Call (.Name x p) (e :: es) [] pos) (k7 sp [] E0 t):=by
 delta QA QE at *
 exact SG h hr hk hg ha iR he fu
end
structure Def (K:aj) (mg:Str->Option Value) (x:Str) (st:Stmt) (ps:List Str):Prop where
 ex:∃ f fd,sq K x x st f fd∧mg x=some (.ref f)∧Binds K fd ps []
theorem Def.has {P:Program}{w:World}{K:aj}{mg:Str->Option Value}{base:Heap}{x:Str}{st:Stmt}{N ps:List Str}{k:Nat}{sp:Sp} (D:Def K mg x st ps) (S:bx N ps (az st)) (len:∀ vs H Q E,sp vs H Q E->vs.length=ps.length)
  (eD:∀ (f:Addr) (a8:Value) (A:Around) (outer:List Env) (s:Shared) (H:Hp) (vs:List V) (Q:VK) (E:XK),dq k (A.deeper (envOfC x (az st) s.heap.objs.size f a8))->sp vs H Q E ->
   ∃ t,k4 (bZ oM P w K mg base N x (az st) f a8 A outer s H E).yR (dk st) t∧t { nx:=fun _ H'=>Q .b9 H',rt:=Q } (start N vs) H):cS P w K mg base (k+1) x ps sp:=by
 obtain⟨f,fd,F,hm,hb⟩:=D.ex
 exact⟨f,fd,F.ok S len (eD f),hm,F.kp,hb⟩
theorem Def.eL {P:Program}{w:World}{K:aj}{mg:Str->Option Value}{base:Heap}{x:Str}{st:Stmt}{N ps:List Str}{k:Nat}{sp:Sp} (D:Def K mg x st ps) (S:bx N ps (az st)) (len:∀ vs H Q E,sp vs H Q E->vs.length=ps.length)
  (eD:∀ (f:Addr) (a8:Value) (A:Around) (outer:List Env) (s:Shared) (H:Hp) (vs:List V) (Q:VK) (E:XK),dq k (A.deeper (envOfC x (az st) s.heap.objs.size f a8))->sp vs H Q E ->
   ∃ t,iJ (bZ oM P w K mg base N x (az st) f a8 A outer s H E).yR (dk st) t∧t { nx:=fun _ H'=>Q .b9 H',rt:=Q } (start N vs) H):cS P w K mg base (k+1) x ps sp:=by
 delta iJ at *
 exact Def.has D S len eD
theorem aD {H:Hp}{p:Addr} (h:H p=none) (o:HO):aT H (aO H p o):=fun b u q=>by rw[bh (dC q h)];exact q
theorem aT.tup {K:aj} {H H':Hp}{a:Addr}{xs:List V} (e:aT H H') (h:aU K H a xs):aU K H' a xs:=by
 rcases h with(h | ⟨o,h⟩) | h
 ·exact .inl (.inl (e _ _ h))
 ·exact .inl (.inr ⟨o,e _ _ h⟩)
 ·exact .inr h
theorem aT.put {H0 H:Hp}{p:Addr}{o:HO} (e:aT H0 H) (h:H0 p=none):aT H0 (aO H p o):=fun b u q=>by rw[bh (dC q h)];exact e b u q
def Hb (Ow:Scope) (xN:List Str) (scope:Scope) (own:List Str) (caps:List (Str × Nat)):Bool :=
 scope.names.all (fun y=>y.2 != .cell) && scope.names.all (fun y=>y.2 != .local || scope.names.lookup y.1 == some .local) && scope.names.all (fun y=>y.2 != .free || Ow.names.lookup y.1 == some .cell)
  && own.all (fun x=>scope.names.lookup x == some .local) && caps.all (fun p=>xN[p.2]? == some p.1 && Ow.names.lookup p.1 == some .cell && scope.names.lookup p.1 == some .free)
theorem jd {X:Cx}{scope:Scope}{own:List Str}{caps:List (Str × Nat)} (Ow:Scope) (xN:List Str) (hx:X.env.scope=Ow) (hN:X.N=xN) (hk:scope.kind = .function) (c:Hb Ow xN scope own caps=true):iX X scope own caps:=by
 unfold Hb at c
 simp only[eC,eU,pR,bne_iff_ne,beq_iff_eq,ne_eq]at c
 obtain⟨⟨⟨⟨c1,c2⟩,c3⟩,c4⟩,c5⟩:=c
 refine⟨hk,c1,fun y hy e => ?_,fun y hy e => ?_,c4,fun p hp => ?_⟩
 ·rcases c2 y hy with z | z
  ·exact absurd e z
  ·exact z
 ·rcases c3 y hy with z | z
  ·exact absurd e z
  ·show X.env.scope.names.lookup y.1=_
   rw[hx];exact z
 ·obtain⟨⟨z1,z2⟩,z3⟩:=c5 p hp
  refine⟨by rw[hN];exact z1,?_,z3⟩
  show X.env.scope.names.lookup p.1=_
  rw[hx];exact z2
structure hJ (mg:Str->Option Value):Prop where
 iC:mg "len" = none
 ahE:mg "min" = none
 ahF:mg "max" = none
 adQ:mg "sum" = none
 zL:mg "range" = none
 yo:mg "enumerate" = none
 jl:mg "isinstance" = none
 Ij:mg "tuple" = none
 NQ:mg "int" = none
 acp:mg "bool" = none
 Iz:mg "str" = none
 NL:mg "list" = none
theorem QZ:bootBuiltins "sum" = some (.builtin "sum"):=by decide +kernel
theorem fP:bootBuiltins "isinstance" = some (.builtin "isinstance"):=by decide +kernel
theorem vS:bootBuiltins "tuple" = some (.type "tuple"):=by decide +kernel
theorem vh:bootBuiltins "int" = some (.type "int"):=by decide +kernel
theorem Og:bootBuiltins "bool" = some (.type "bool"):=by decide +kernel
theorem rg:bootBuiltins "str" = some (.type "str"):=by decide +kernel
theorem yu:bootBuiltins "list" = some (.type "list"):=by decide +kernel
theorem eu {j:Int} (h:decide (0 < j)=true:=by decide):0 < j:=of_decide_eq_true h
theorem N9 {i j:Int} (h:(decide (0 < j) && decide (j < 1073741824))=true:=by decide):abO i j :=
 ⟨of_decide_eq_true (fk.mp h).1,of_decide_eq_true (fk.mp h).2⟩
theorem aY {c A B:Prop} [Decidable c] (h1:c->A) (h2:¬ c->B):if decide c=true then A else B:=by
 by_cases h:c
 ·rw[decide_eq_true h];exact gB (h1 h)
 ·rw[decide_eq_false h];exact eW (h2 h)
theorem i0 {c A B:Prop} [Decidable c] (h1:¬ c->A) (h2:c->B):if (!decide c)=true then A else B:=by
 by_cases h:c
 ·rw[decide_eq_true h];exact eW (h2 h)
 ·rw[decide_eq_false h];exact gB (h1 h)
inductive FV where
 | v (x:Value)
 | d (a:Addr)
abbrev FV.none:FV := .v .none
abbrev FV.ref (a:Addr):FV := .v (.ref a)
instance:Coe Value FV:=⟨.v⟩
def FV.at (o:Obj) (vs:Array Value):FV->Prop
 | .v x=>vs[2]? = some x
 | .d a=>o.dict=some a
def F2 (h:Heap) (e:Addr) (x:FV):Prop := ∃ o vs,h.get? e=some o∧o.data = .fields vs∧x.at o vs
theorem FV.abt {o:Obj}{vs:Array Value}{v:Value} (x:FV) (gd:o.data = .fields vs) (h:x.at o vs):x.at (o.mapFields (·.setIfInBounds 1 v)) (vs.setIfInBounds 1 v):=by
 obtain⟨c,dd,da,sl⟩:=o
 cases gd
 cases x with
 | v x=>show (vs.setIfInBounds 1 v)[2]? = some x;rw[oO (by decide)];exact h
 | d a=>exact h
def abM (h:Heap) (e:Addr):Prop:=F2 h e .none
def lY:Option Addr->Value
 | none => .none
 | some a => .ref a
def zk (C d:Addr):Value := .int (C:Int) d
inductive Ci (h:Heap) (ea C:Addr) (m:Option Addr):Value->Prop
 | pl (c0:F2 h ea (lY m)):Ci h ea C m (.ref C)
 | di (d:Addr) (c0:F2 h ea (lY m)) (d0:F2 h ea (.d d)):Ci h ea C m (zk C d)
theorem Ci.keep {h h':Heap}{ea C:Addr}{m:Option Addr}{c:Value} (x:Ci h ea C m c) (k:∀ y,F2 h ea y->F2 h' ea y):Ci h' ea C m c:=by
 cases x with
 | pl c0=>exact .pl (k _ c0)
 | di d c0 d0=>exact .di d (k _ c0) (k _ d0)
theorem Ci.ref {h:Heap} {ea C C':Addr}{m:Option Addr}{c:Value} (x:Ci h ea C m c) (e:c = .ref C'):C=C'∧F2 h ea (lY m):=by
 cases x with
 | pl c0=>cases e;exact⟨rfl,c0⟩
 | di d c0 d0=>cases e
def Hu (h:Heap) (e:Addr):Prop:=abM h e∨∃ a,a≠e∧F2 h e (.ref a)∧abM h a
theorem F2.other {h:Heap}{e b:Addr}{x:FV}{f:Obj->Obj} (c:F2 h e x) (n:b≠e):F2 (h.update b f) e x:=by
 obtain⟨o,vs,a,d,i⟩:=c
 exact⟨o,vs,(cH _ _ n).trans a,d,i⟩
section
variable {M:Model}{A:Around}{E:Value->Shared->Prop}{s:Shared}
inductive sP (l:List Env) (e:Addr) (oe:Obj) (L:Addr) (h h':Heap):Prop
 | mk (T:Addr) (oT:Obj) (ts:Array Value) (nH:∀ b o,b≠e->b ∉ l.filterMap (·.frame)->h.get? b=some o->h'.get? b=some o) (slots:∀ b o,b≠e->h.get? b=some o->∃ sl,h'.get? b=some { o with slots:=sl })
  (own:h'.get? e=some (oe.mapFields (·.setIfInBounds 1 (.ref T)))) (new:h.get? T=none) (ne:T≠e) (size:h.objs.size<=T) (there:h'.get? T=some oT) (data:oT.data = .fields ts) (fl:ts[3]? = some (rawInt L)):sP l e oe L h h'
theorem Kg {base:Heap}{env:Env}{outer:List Env}{L e:Addr}{oe:Obj}{vs:Array Value}{hd:Value}{nx:Bool}{Q:Unit->Shared->Prop}
  (af:A.frames=some (env :: outer)) (ff:s.heap.FunFrames base (env :: outer)) (fL:env.frame=some L) (ge:s.heap.get? e=some oe) (gd:oe.data = .fields vs) (gz:1 < vs.size)
  (k:∀ h',sP (env :: outer) e oe L s.heap h'->Q () { s with heap:=h' }) :
  wpAny M A (do let a <- frameOf env;let pl <- entryPlaceOf L nx;let b <- zg hd a .none (rawInt L) .none pl;setField (.ref e) 1 b) Q E s:=by
 have fo:e ∉ (env :: outer).filterMap (·.frame):=fun m=>by
  obtain⟨_,o,q,nf⟩:=ff.mem m
  rw[ge]at q
  cases q
  exact nf vs gd
 refine wpAny_bind (wpAny_frameOf_fun af ff fL fun h1 sl => ?_)
 refine wpAny_bind (wpAny_entryPlaceOf fun pl hp => ?_)
 unfold zg newFields
 refine wpAny_bind (wpAny_newObj_type ?_ (hp.sizeOk5 _ _ _ _ _))
 have g1:h1.get? e=some oe:=(sl.2.1 e fo).trans ge
 generalize hO:({ cls := .type "traceback",dict:=none,data := .fields ([hd,.ref L,.none,rawInt L,.none] ++ (if pl.isEmpty then dM 6 ef else pl)).toArray }:Obj)=oT
 have g2:=aN (h:=h1) oT g1
 refine wpAny_setField g2 gd gz (k _ ?_)
 have nT:h1.objs.size≠e:=kR (bq g1)
 have dd:=gU gd (·.setIfInBounds 1 (bf h1.objs.size))
 have up:∀ b o,b≠e->h1.get? b=some o->((h1.push oT).update e (d6 (·.setIfInBounds 1 (bf h1.objs.size)))).get? b=some o:=fun b o n q=>by
  rw[cH _ _ (cK n)]
  exact aN _ q
 refine⟨h1.objs.size,oT,_,fun b o n m q=>up b o n ((sl.2.1 b m).trans q),fun b o n q => ?_,eY _ g2 (oJ dd),dj (uC sl.1.symm),nT,uC sl.1.symm,?_,(by rw[<- hO]),?_⟩
 ·obtain⟨x,q'⟩:=sl.2.2 b o q
  exact⟨x,up b _ n q'⟩
 ·rw[cH _ _ (cK nT)]
  exact bW h1 (by rw[<- hO];rfl)
 ·first
   | (simp;done)
   | (rcases hp with rfl | ⟨_,_,_,_,_,_,_,rfl⟩ <;> simp)
theorem sP.U5 {base:Heap}{l:List Env}{e L:Addr}{oe:Obj}{vs:Array Value}{a0:Value} {h h':Heap} (x:sP l e oe L h h') (kb:base.StaysIn h) (be:base.get? e=none) (ff:h.FunFrames base l) (gd:oe.data = .fields vs) (gz:1 < vs.size) (g0:vs[0]? = some a0) (ge:h.get? e=some oe) :
  Heap.NotedW base l e oe.cls a0 (rawInt L) h h':=by
 obtain⟨T,oT,ts,nH,slots,own,new,ne,size,there,data,fl⟩:=x
 have nr:∀ b o,h.get? b=some o->(∀ ws,o.data ≠ .fields ws)->b≠e:=fun b o q nf z=>by
  rw[z,ge]at q
  cases q
  exact nf vs gd
 refine⟨fun b o q=>nH b o (fun z=>by rw[z,be]at q;cases q) (fun m=>by rw[(ff.mem m).1]at q;cases q) (kb b o q),ff.of_keeps fun b o q nf => ?_,?_,fun b o q nf=>slots b o (nr b o q nf) q⟩
 ·obtain⟨sl,q'⟩:=slots b o (nr b o q nf) q
  exact⟨_,q',rfl⟩
 ·refine⟨_,_,T,oT,ts,own,⟨Obj.cls_mapFields _ _,?_⟩,gU gd _,by simp[gz],?_,ne,there,data,fl⟩
  ·rw[oO (by decide)];exact g0
  ·cases q:base.get? T with
   | none=>rfl
   | some o=>have:=kb _ _ q;rw[new]at this;cases this
theorem sP.ctx {l:List Env}{e L:Addr}{oe:Obj}{vs:Array Value} {h h':Heap}{y:FV} (x:sP l e oe L h h') (gd:oe.data = .fields vs) (ge:h.get? e=some oe) (c:F2 h e y):F2 h' e y:=by
 obtain⟨T,oT,ts,nH,slots,own,new,ne,size,there,data,fl⟩:=x
 obtain⟨o,ws,q1,q2,q3⟩:=c
 rw[ge]at q1
 cases q1
 rw[gd]at q2
 cases q2
 exact⟨_,_,own,gU gd _,y.abt gd q3⟩
theorem CT {base:Heap}{env:Env}{outer:List Env}{L e:Addr}{oe:Obj}{vs:Array Value}{a0:Value}{Q:Unit->Shared->Prop} (af:A.frames=some (env :: outer)) (ff:s.heap.FunFrames base (env :: outer)) (fL:env.frame=some L)
  (ge:s.heap.get? e=some oe) (kb:base.StaysIn s.heap) (be:base.get? e=none) (gd:oe.data = .fields vs) (g1:vs[1]? = some .none) (g0:vs[0]? = some a0)
  (k:∀ h',nc base (env :: outer) e oe.cls a0 L h'->s.heap.UpToSlots h'->(∀ y,F2 s.heap e y->F2 h' e y)->Q () { s with heap:=h' }):wpAny M A (noteFrame (.ref e) env) Q E s:=by
 have gz:=(gK.mp g1).1
 unfold noteFrame
 simp only[fL]
 refine wpAny_bind (wpAny_field ge gd g1 ?_)
 rw[if_neg (by decide)]
 refine Kg af ff fL ge gd gz fun h' x => ?_
 obtain⟨n1,n2,n3,n4⟩:=x.U5 kb be ff gd gz g0 ge
 exact k h' ⟨n1,be,n2,n3⟩ n4 fun y c=>x.ctx gd ge c
theorem Bt {base:Heap}{env:Env}{outer:List Env}{L e:Addr}{cls a0:Value}{Q:Unit->Shared->Prop} (af:A.frames=some (env :: outer)) (fL:env.frame=some L) (fl:eB base (env :: outer) e cls a0 s.heap)
  (k:∀ h',nc base (env :: outer) e cls a0 L h'->s.heap.UpToSlots h'->(∀ y,F2 s.heap e y->F2 h' e y)->Q () { s with heap:=h' }):wpAny M A (noteFrame (.ref e) env) Q E s:=by
 obtain⟨kb,be,ff,oe,vs,Tr,oT,ts,ge,⟨gc,g0⟩,gd,g1,bT,yS,gT,dT,g3⟩:=fl
 subst gc
 have gz:=(gK.mp g1).1
 unfold noteFrame
 simp only[fL]
 refine wpAny_bind (wpAny_field ge gd g1 ?_)
 rw[if_pos (show (bf Tr != ef)=true by simp)]
 refine wpAny_bind (wpAny_field gT dT g3 ?_)
 rw[if_neg (show ¬ ((ef == rawInt L)=true) by simp[rawInt])]
 refine wpAny_bind (wpAny_setField gT dT (gK.mp g3).1 ?_)
 have ot:∀ b,b≠Tr->(s.heap.update Tr (d6 (·.setIfInBounds 3 ef))).get? b=s.heap.get? b:=fun b n=>cH _ _ (cK n)
 have nr:∀ b o,s.heap.get? b=some o->(∀ ws,o.data ≠ .fields ws)->b≠Tr:=fun b o q nf z=>by
  rw[z,gT]at q
  cases q
  exact nf ts dT
 have ff1:=ff.of_keeps (h':=s.heap.update Tr (d6 (·.setIfInBounds 3 ef))) fun b o q nf=>⟨o,(ot b (nr b o q nf)).trans q,rfl⟩
 have GP:base.StaysIn (s.heap.update Tr (d6 (·.setIfInBounds 3 ef))):=fun b o q=>(ot b fun z=>by rw[z,bT]at q;cases q).trans (kb b o q)
 have ge1:=(ot e (cK yS)).trans ge
 refine Kg (s := { s with heap:=_ }) af ff1 fL ge1 gd gz fun h' x => ?_
 obtain⟨n1,n2,n3,n4⟩:=x.U5 GP be ff1 gd gz g0 ge1
 exact k h' ⟨n1,be,n2,n3⟩ (fun b o q nf=>n4 b o ((ot b (nr b o q nf)).trans q) nf) fun y c=>x.ctx gd ge1 (c.other yS)
theorem jb {base:Heap}{l:List Env}{e:Addr}{cls a0 m:Value}{Q:Unit->Shared->Prop} (kb:base.StaysIn s.heap) (be:base.get? e=none) (ff:s.heap.FunFrames base l) (tr:s.heap.TracedAtW base e cls a0 m)
  (k:∀ h',eB base l e cls a0 h'->s.heap.UpToSlots h'->(∀ y,F2 s.heap e y->F2 h' e y)->Q () { s with heap:=h' }):wpAny M A (setFlight (.ref e) none) Q E s:=by
 obtain⟨oe,vs,Tr,oT,ts,ge,gc,gd,g1,bT,yS,gT,dT,g3⟩:=tr
 have z3:=(gK.mp g3).1
 have ot:∀ b,b≠Tr->(s.heap.update Tr (d6 (·.setIfInBounds 3 ((none:Option Addr).elim ef fun f=>rawInt f)))).get? b=s.heap.get? b:=fun b n=>cH _ _ (cK n)
 have nr:∀ b o,s.heap.get? b=some o->(∀ ws,o.data ≠ .fields ws)->b≠Tr:=fun b o q nf z=>by
  rw[z,gT]at q
  cases q
  exact nf ts dT
 unfold setFlight
 refine wpAny_bind (wpAny_field ge gd g1 ?_)
 rw[if_pos (show (bf Tr != ef)=true by simp)]
 refine wpAny_setField gT dT z3 (k _ ⟨fun b o q=>(ot b fun z=>by rw[z,bT]at q;cases q).trans (kb b o q),be,ff.of_keeps fun b o q nf=>⟨o,(ot b (nr b o q nf)).trans q,rfl⟩,?_⟩ (fun b o q nf=>⟨o.slots,(ot b (nr b o q nf)).trans q⟩) fun y c=>c.other yS)
 exact⟨oe,vs,Tr,_,_,(ot e (cK yS)).trans ge,gc,gd,g1,bT,yS,eY _ gT (oJ (gU dT _)),gU dT _,by simp[z3]⟩
theorem Tn {base:Heap}{env:Env}{outer:List Env}{L e:Addr}{cls a0:Value}{Q:Unit->Shared->Prop} (af:A.frames=some (env :: outer)) (fL:env.frame=some L) (fl:eB base (env :: outer) e cls a0 s.heap)
  (k:∀ h',eB base outer e cls a0 h'->s.heap.UpToSlots h'->(∀ y,F2 s.heap e y->F2 h' e y)->Q () { s with heap:=h' }):wpAny M A (leaving env (.ref e)) Q E s:=by
 unfold leaving
 refine wpAny_bind (Bt af fL fl fun h1 hh sl c1 => ?_)
 obtain⟨n1,n2,n3,n4⟩:=hh
 refine jb (s := { s with heap:=h1 }) n1 n2 n3 n4 fun h2 f2 DL c2 => ?_
 obtain⟨m1,m2,⟨_,_,m3⟩,m4⟩:=f2
 exact k h2 ⟨m1,m2,m3,m4⟩ (sl.trans DL) fun y c=>c2 y (c1 y c)
theorem leave_new {base:Heap}{env:Env}{outer:List Env}{L e:Addr}{oe:Obj}{vs:Array Value}{a0:Value}{Q:Unit->Shared->Prop} (af:A.frames=some (env :: outer)) (ff:s.heap.FunFrames base (env :: outer)) (fL:env.frame=some L)
  (ge:s.heap.get? e=some oe) (kb:base.StaysIn s.heap) (be:base.get? e=none) (gd:oe.data = .fields vs) (g1:vs[1]? = some .none) (g0:vs[0]? = some a0)
  (k:∀ h',eB base outer e oe.cls a0 h'->s.heap.UpToSlots h'->(∀ y,F2 s.heap e y->F2 h' e y)->Q () { s with heap:=h' }):wpAny M A (leaving env (.ref e)) Q E s:=by
 unfold leaving
 refine wpAny_bind (CT af ff fL ge kb be gd g1 g0 fun h1 hh sl c1 => ?_)
 obtain⟨n1,n2,n3,n4⟩:=hh
 refine jb (s := { s with heap:=h1 }) n1 n2 n3 n4 fun h2 f2 DL c2 => ?_
 obtain⟨m1,m2,⟨_,_,m3⟩,m4⟩:=f2
 exact k h2 ⟨m1,m2,m3,m4⟩ (sl.trans DL) fun y c=>c2 y (c1 y c)
end
section
variable {P:Program}{w:World} {H H':Hp} {h h':Heap}{a:Addr}{o:HO}
theorem dD.there (x:dD P w H h a o):∃ ob,h.get? a=some ob:=by
 cases o with
 | lst xs=>obtain⟨_,_,_,_,e⟩:=x;exact⟨_,e⟩
 | tup xs=>obtain⟨_,_,_,_,e,_⟩:=x;exact⟨_,e⟩
 | dK kvs=>obtain⟨_,_,_,_,o,_,_,e,_⟩:=x;exact⟨_,e⟩
 | dT kvs=>obtain⟨_,_,_,_,o,_,_,e,_⟩:=x;exact⟨_,e⟩
 | set S n=>obtain⟨o,_,_,_,e,_⟩:=x;exact⟨_,e⟩
 | ins C dx fs=>obtain⟨_,_,_,e,_⟩:=x;exact⟨_,e⟩
 | own y=>exact x
 | xd fs=>obtain⟨_,⟨_,_,_,e,_⟩,_⟩:=x;exact⟨_,e⟩
 | UW lo hi=>obtain⟨_,_,_,e⟩:=x;exact⟨_,e⟩
 | uf ob u=>obtain⟨e,_⟩:=x;exact⟨_,e⟩
 | Gy ps=>exact⟨_,(show h.get? a=some _ from x)⟩
 | met f y=>exact⟨_,(show h.get? a=some _ from x)⟩
 | ext φ => obtain⟨_,e,_⟩:=x;exact e
theorem gh.Jz (x:gh P w H h) (e:h.get? a=none):H a=none:=by
 cases q:H a with
 | none=>rfl
 | some u=>obtain⟨ob,z⟩:=(x a u q).there;rw[e]at z;cases z
theorem gh.part (x:gh P w H h) (k:∀ b u v,H b=some u->h.get? b=some v->h'.get? b=some v):gh P w H h':=fun a o e =>
 (x a o e).sV (fun b u hb q=>by
  rcases hb with z | z
  ·subst z;exact k _ _ _ e q
  ·exact k _ _ _ z q) (fun _ q=>q) fun _ _ q=>q
end
theorem Un.VF {fs:List Addr}{L:Addr} {Bc H H':Hp}{h0 h h1 h2 B:Heap} (U1:Un fs [] Bc H h0 h) (U2:Un (L :: fs) [] H H' h h1) (hL:h0.get? L=none)
  (kj:∀ b o,h.get? b=some o->b ∉ L :: fs->∃ o',B.get? b=some o') (k1:∀ b o,B.get? b=some o->h1.get? b=some o) (k2:∀ b o,B.get? b=some o->h2.get? b=some o)
  (sl:h1.UpToSlots h2) (nf:∀ b∈fs,∃ o,h1.get? b=some o∧∀ vs,o.data ≠ .fields vs):Un fs [] Bc H' h0 h2:=by
 have nL:∀ b o,h0.get? b=some o->b ∉ fs->b ∉ L :: fs:=fun b o q hb z=>by
  rcases aK.mp z with z | z
  ·rw[z,hL]at q;cases q
  ·exact hb z
 refine⟨fun b o q n hb hx => ?_,fun b o q n hb hx => ?_,fun b o q n hx => ?_,fun b o q hx => ?_,fun b xs q=>U2.nj _ _ (U1.nj _ _ q),fun b o u q=>U2.oi _ _ _ (U1.oi _ _ _ q),fun b ps q => ?_⟩
 ·have q1:=U1.keep b o q n hb hx
  have q2:=U2.keep b o q1 (U1.free b o q n hx) (nL b o q hb) hx
  obtain⟨o',e⟩:=kj b o q1 (nL b o q hb)
  have e1:=k1 _ _ e
  rw[q2]at e1
  cases e1
  exact k2 _ _ e
 ·obtain⟨s1,q1⟩:=U1.slot b o q n hb hx
  obtain⟨s2,q2⟩:=U2.slot b _ q1 (U1.free b o q n hx) (aL _ hb) hx
  obtain⟨ob,q3,d⟩:=nf b hb
  rw[q2]at q3
  cases q3
  obtain⟨s4,q4⟩:=sl b _ q2 d
  exact⟨s4,q4⟩
 ·obtain⟨o1,q1⟩:=U1.there b o q hx
  exact U2.free b o1 q1 (U1.free b o q n hx) hx
 ·by_cases hb:b∈fs
  ·obtain⟨ob,q3,d⟩:=nf b hb
   obtain⟨s4,q4⟩:=sl b _ q3 d
   exact⟨_,q4⟩
  ·obtain⟨o1,q1⟩:=U1.there b o q hx
   obtain⟨o',e⟩:=kj b o1 q1 (nL b o q hb)
   exact⟨_,k2 _ _ e⟩
 ·obtain⟨m1,e1⟩:=U1.oQ b ps q
  obtain⟨m2,e2⟩:=U2.oQ b _ e1
  exact⟨m1 ++ m2,by rw[e2,Bi]⟩
def iY (P:Program) (w:World):uN:=fun outer H s E e s'=>∃ (ea C:Addr) (a0:Value) (B:Heap) (H':Hp),e = .ref ea∧eB B outer ea (.ref C) a0 s'.heap∧s'.os=s.os∧AllBare s'.gens ∧
 gh P w H' B∧Un (dU outer) [] H H' s.heap s'.heap∧(∀ b o,s.heap.get? b=some o->b ∉ dU outer->∃ o',B.get? b=some o')∧∃ (m:Option Addr) (c:Value),Ci s'.heap ea C m c∧E c m H'
section
variable {P:Program}{w:World}{K:aj}{mg:Str->Option Value}{base:Heap}{N:List Str}{bu:Str}{scope:Scope}{f:Addr}{a8:Value}{A:Around}{outer:List Env}{s0 s:Shared}{H0 H:Hp} {E E':XK}
 {ah:List (Addr × Obj)}{σ : St}{CX:uN}
theorem uT {e:Env}{L:Addr}{l:List Env} (h:e.frame=some L):dU (e :: l)=L :: dU l:=by
 unfold dU
 rw[eE,h]
theorem iK {h':Heap}{e C:Addr}{args:List Value} (I:Inv (bZ (iY P w) P w K mg base N bu scope f a8 A outer s0 H0 E) ah σ H s) (hx:qF s.heap h' e (.ref C) args) (q:E (.ref C) none H) :
  (bZ (iY P w) P w K mg base N bu scope f a8 A outer s0 H0 E).xe (.ref e) { s with heap:=h' }:=by
 have fr:s.heap.FunFrames base (envOfC bu scope s0.heap.objs.size f a8 :: outer):=I.stack
 have sf:∀ b∈dU (envOfC bu scope s0.heap.objs.size f a8 :: outer),H b=none:=I.wm
 have GX:∀ env∈(envOfC bu scope s0.heap.objs.size f a8 :: outer),∀ b,env.frame=some b->b∈dU (envOfC bu scope s0.heap.objs.size f a8 :: outer):=fun env he b hb=>eP.mpr ⟨env,he,hb⟩
 have es:dU (envOfC bu scope s0.heap.objs.size f a8 :: outer)=s0.heap.objs.size :: dU outer:=uT rfl
 show wpAny _ _ (leaving _ _) _ _ _
 obtain⟨t,gt,_,_⟩:=hx.there
 have ff:=(nM fr GX).of_keeps (h':=h') fun b o z _=>⟨o,hx.keeps b o z,rfl⟩
 have kb:(cx s.heap (dU (envOfC bu scope s0.heap.objs.size f a8 :: outer))).StaysIn h':=fun b o z=>hx.keeps b o (eM _ z)
 have be:(cx s.heap (dU (envOfC bu scope s0.heap.objs.size f a8 :: outer))).get? e=none:=by
  cases z:(cx s.heap (dU (envOfC bu scope s0.heap.objs.size f a8 :: outer))).get? e with
  | none=>rfl
  | some o=>have:=eM _ z;rw[hx.new]at this;cases this
 refine leave_new (s := { s with heap:=h' }) (a0 := .ref t) I.ok.frames ff rfl gt kb be rfl rfl rfl ?_
 intro h'' x1 x4 x5
 have kj:∀ b o,s.heap.get? b=some o->b ∉ s0.heap.objs.size :: dU outer->(cx s.heap (dU (envOfC bu scope s0.heap.objs.size f a8 :: outer))).get? b=some o:=fun b o z hb=>gq _ z (by rw[es];exact hb)
 have Ib:Un (dU outer) [] H0 H s0.heap s.heap:=I.base
 refine⟨e,C,.ref t,_,H,rfl,x1,I.os,I.bare,gh.part I.br fun b u v z1 z2=>gq _ z2 fun hm => ?_,?_,?_,none,_,.pl (x5 _ ⟨_,_,gt,rfl,rfl⟩),q⟩
 ·rw[sf b hm]at z1;cases z1
 ·refine Un.VF (h:=s.heap) (h1:=h') (L:=s0.heap.objs.size) Ib (Un.kept hx.keeps) (dj (aB _)) (fun b o z hb=>⟨o,kj b o z hb⟩) (fun b o z=>hx.keeps _ _ (eM _ z)) x1.1 x4 fun b hb => ?_
  obtain⟨_,o,z,d⟩:=fr.mem (b:=b) (by show b∈dU _;rw[es];exact aL _ hb)
  exact⟨o,hx.keeps _ _ z,d⟩
 ·intro b o z hb
  obtain⟨o1,z1⟩:=Ib.there b o z (by simp)
  refine⟨o1,kj b o1 z1 fun hm => ?_⟩
  rcases aK.mp hm with y | y
  ·rw[y,dj (aB _)]at z;cases z
  ·exact hb y
theorem eG (hE:∀ c m H',E' c m H'->E c m H'):Passes (iY P w) (bZ (iY P w) P w K mg base N bu scope f a8 A outer s0 H0 E) E':=by
 intro ah σ H s e s' I h
 obtain⟨ea,C,a0,B,H',rfl,fl,os,bare,br,un,kj,m,c,hm,q⟩:=h
 have es:dU (envOfC bu scope s0.heap.objs.size f a8 :: outer)=s0.heap.objs.size :: dU outer:=uT rfl
 have Ib:Un (dU outer) [] H0 H s0.heap s.heap:=I.base
 have un':Un (s0.heap.objs.size :: dU outer) [] H H' s.heap s'.heap:=by rw[<- es];exact un
 have abd:∀ b o,s.heap.get? b=some o->b ∉ s0.heap.objs.size :: dU outer->∃ o',B.get? b=some o':=fun b o z hb=>kj b o z (by show b ∉ dU (envOfC bu scope s0.heap.objs.size f a8 :: outer);rw[es];exact hb)
 show wpAny _ _ (leaving _ _) _ _ _
 refine Tn I.ok.frames rfl fl fun h'' x1 x2 x3 => ?_
 refine⟨ea,C,a0,B,H',rfl,x1,os.trans I.os,bare,br,?_,?_,m,c,hm.keep x3,hE _ _ _ q⟩
 ·refine Un.VF Ib un' (dj (aB _)) abd fl.1 x1.1 x2 fun b hb => ?_
  obtain⟨_,o,z,d⟩:=fl.2.2.1.mem (b:=b) (by show b∈dU (envOfC bu scope s0.heap.objs.size f a8 :: outer);rw[es];exact aL _ hb)
  exact⟨o,z,d⟩
 ·intro b o z hb
  obtain⟨o1,z1⟩:=Ib.there b o z (by simp)
  refine abd b o1 z1 fun hm => ?_
  rcases aK.mp hm with y | y
  ·rw[y,dj (aB _)]at z;cases z
  ·exact hb y
end
structure Exc (K:aj) (mg:Str->Option Value) (x:Str) (C:Addr):Prop where
 glob:mg x=some (.ref C)
 here:rW K C [.type "ValueError",.type "Exception",.type "BaseException",.type "object"] "ValueError.__new__" = true
theorem Exc.own {K:aj}{mg:Str->Option Value}{x:Str}{C:Addr}{h:Heap} (e:Exc K mg x C) (X:K.In h):OwnCls x C [.type "ValueError",.type "Exception",.type "BaseException",.type "object"] "ValueError.__new__" mg h:=by
 refine⟨e.glob,?_⟩
 have q:=e.here
 unfold rW at q
 split at q
 ·rename_i dd cd sl ho
  split at q
  ·rename_i C' bm k0 k1 k2 k3 n k5 hm hs
   simp only[eC,beq_iff_eq,su]at q
   obtain⟨⟨⟨⟨⟨rfl,rfl⟩,JV⟩,ht⟩,br⟩,GV⟩:=q
   obtain⟨nm,bs,mro,ns,qn,hd,sn,sub,ab,col,del⟩:=cd
   dsimp only at hm JV br GV
   subst hm JV
   have hsl:sl = #[k0,k1,k2,k3,some (.builtin "ValueError.__new__"),k5]:=by
    obtain⟨l⟩:=sl
    simp only at hs
    rw[hs]
   subst hsl
   exact⟨bm,ns,nm,qn,bs,hd,sn,sub,ab,col,dd,k0,k1,k2,k3,k5,_,X _ _ ho,.of_isNs (PySem.W.isNs_of_in X br),PySem.W.nsMap_none_of_in X br GV,AV X ht⟩
  ·cases q
 ·cases q
def Wd (X:Cx) (C:Addr) (E:XK):Prop := ∀ (ah:List (Addr × Obj)) (σ : St) (H:Hp) (s:Shared) (h':Heap) (e:Addr) (args:List Value),Inv X ah σ H s->qF s.heap h' e (.ref C) args->E (.ref C) none H->X.xe (.ref e) { s with heap:=h' }
def OK (C:Addr) (E:XK) (t:TA):TS:=fun _ σ H=>t σ H fun vs H1=>vs.length<=sizeLine∧E (.ref C) none H1
theorem Sj {X:Cx}{x:Str}{C:Addr}{E:XK}{ka : Expr}{rest:List Expr}{t:TA}{np dJ pos:Pos} (O:Exc X.K X.mg x C) (hc:X.calm=true) (F:Wd X C E) (ha:PA X (ka :: rest) t) (hg:Gl X x)
  (he:starEach (ka :: rest) X.env=(false,eval ka X.env) :: starEach rest X.env:=by rfl) (mv:(backTo dJ (starEach rest X.env)).any (·.1)=false:=by rfl) (hd:(x == ("__debug__" : Str))=false:=by decide) :
  PS X (.Raise (some (.Call (.Name x np) (ka :: rest) [] dJ)) none pos) (OK C E t):=by
 intro ah s σ H D I h
 obtain⟨tl,N,nm,q,bs,hdct,sn,sub,ab,col,dd,k0,k1,k2,k3,k5,mN,hC,hN,GV,T⟩:=(O.own I.ok.mod.zY).obj
 refine wpAny_Raise_call_subT (C:=C) (nm:=nm) (q:=q) (N:=N) (bs:=bs) (bm:=tl) (hdct:=hdct) (sn:=sn) (sub:=sub) (ab:=ab) (col:=col) (dd:=dd) (k0:=k0) (k1:=k1) (k2:=k2) (k3:=k3) (k5:=k5)
  gJ (mN:=mN) (T.hasType gJ.hasBase) (I.ok.hd hc) (by rw[he];show (false || (backTo dJ (starEach rest X.env)).any (·.1))=false;rw[mv];rfl) GV (jq I hg O.glob ⟨rfl,?_⟩ hd)
 have xZ := ha dJ ah s σ H _ I h
 rw[he]at xZ ⊢
 exact jf (wpAny_mono xZ (fun vs lV ⟨xs,H1,I1,r,hl,hq⟩=>⟨rfl,by rw[<- r.length];exact hl,I1.bk _ _ hC,hN.keeps I1.bk,T.keeps I1.bk,fun h' e hm=>F ah σ H1 lV h' e vs I1 hm hq⟩) fun _ _ y=>y)
theorem eg {X:Cx}{x:Str}{C:Addr}{E:XK}{ka : Expr}{rest:List Expr}{t:TA}{np dJ pos:Pos} (O:Exc X.K X.mg x C) (hc:X.calm=true) (F:Wd X C E) (ha:QA X (ka :: rest) t) (hg:Gl X x)
  (he:starEach (ka :: rest) X.env=(false,eval ka X.env) :: starEach rest X.env:=by rfl) (mv:(backTo dJ (starEach rest X.env)).any (·.1)=false:=by rfl) (hd:(x == ("__debug__" : Str))=false:=by decide) :
  QS X (.Raise (some (.Call (.Name x np) (ka :: rest) [] dJ)) none pos) (OK C E t):=by
 delta QA QS at *
 exact Sj O hc F ha hg he mv hd
end L2
namespace L2
open PySem PySem.Spec PyProof.Rows PySem.W
section
variable {prog:Program}{w:World}{A:Around}{E:Value->Shared->Prop}{h:Heap}{g:Array GenState}{d:Drawn}{t:Nat}{os:OsState}{a:Addr}{o:Obj}
 {nm q:Str}{C N:Addr}{bs bm:List Value}{hdct:Bool}{sn:List Str}{sub:List Value}{ab:Bool}{col:Option Bool}{dd:Option Addr}{k0 k1 k2 k3 k5:Option Value}{newId:String}
theorem X6 {R:Result->Shared->Prop} (hC:h.get? C=some (excClassObj nm q C N bs bm hdct sn sub ab col dd k0 k1 k2 k3 k5 newId)) (hb:bm.contains (.type "object")=true)
  (hx:h.get? a=some o) (hc:o.cls = .ref C) (hq:R (.ok (.ret (.ref C))) ⟨h,g,d,t,os⟩) :
  codeAny (model prog w) A (.call (.builtin "getset_descriptor.__get__") ⟨[.builtin "object.__class__",.ref a,.ref C], []⟩) R ⟨h,g,d,t,os⟩:=by
 have hT5:(⟨h,g,d,t,os⟩:Shared).TypeIs (.builtin "object.__class__") "getset_descriptor" := oK
 have Qj:(bf C :: bm).contains (.type (".".intercalate ("object.__class__".cutAt '.').dropLast))=true:=by
  rw[F.owner_object_class,jZ,hb];rfl
 refine codeAny_call_builtin y9.plain F.entry_gs_get (y9.check _ _ _ _ _ _ _ _ hT5 (F.args_gs_get _ _ _) ?_)
 repeat (any_goals (first | assumption | (with_reducible refine wpAny_loadPart_at hx ?_;rw[hc]) | (with_reducible refine wpAny_isSubtype_exc hC ?_;rw[Qj]) | wp_step))
 refine⟨mJ _ (by decide +kernel),codeAny_builtin F.entry_object_class ?_⟩
 repeat (any_goals (first | assumption | (with_reducible refine wpAny_loadPart_at hx ?_;rw[hc]) | wp_step))
theorem RL {M:Model}{U7:Value}{Q:Unit->Shared->Prop} (hC:h.get? C=some (excClassObj nm q C N bs bm hdct sn sub ab col dd k0 k1 k2 k3 k5 newId)) (hb:bm.contains (.type "BaseException")=true)
  (hx:h.get? a=some o) (hc:o.cls = .ref C) (hq:Q () ⟨h,g,d,t,os⟩):wpAny M A (checkBuiltinCall "BaseException.__getattribute__" ⟨[.ref a,U7], []⟩) Q E ⟨h,g,d,t,os⟩:=by
 have hk:builtinKind "BaseException.__getattribute__" = some .slot:=by decide +kernel
 have Z5:splitId "BaseException.__getattribute__" = some ("BaseException", "__getattribute__"):=by decide +kernel
 have Qj:(bf C :: bm).contains (.type "BaseException")=true:=by rw[jZ,hb];rfl
 have ha:=F.args_bexc_ga (.ref a) U7
 simp only[checkBuiltinCall,hk,Z5]
 refine wpAny_bind ?_
 ·unfold isInstance
  repeat (first | (with_reducible refine wpAny_loadPart_at hx ?_;rw[hc]) | (with_reducible refine wpAny_isSubtype_exc hC ?_;rw[Qj]) | wp_step)
  exact hq
theorem RK {tk:Tok}{Q:Fin->Shared->Prop} (hC:h.get? C=some (excClassObj nm q C N bs bm hdct sn sub ab col dd k0 k1 k2 k3 k5 newId)) (hb:bm.contains (.type "object")=true)
  (lk:Looks (model prog w) h (typeLookup (.ref C) "__class__") (some (.builtin "object.__class__"))) (hx:h.get? a=some o) (hc:o.cls = .ref C) (hq:Q (.done (.ret (.ref C))) ⟨h,g,d,t,os⟩) :
  wpAny (model prog w) A (Builtin.«object.__getattribute__» ⟨[.ref a,.str "__class__" tk], []⟩) Q E ⟨h,g,d,t,os⟩:=by
 have hT5:(⟨h,g,d,t,os⟩:Shared).TypeIs (.builtin "object.__class__") "getset_descriptor" := oK
 have f5:=oK
 have f6:=y9.lookup
 have f7:=F.slot_gs_set.lookup
 repeat (any_goals (first | assumption | (with_reducible refine wpAny_loadPart_at hx ?_;rw[hc]) | with_reducible refine lk.at ?_ | wp_step))
 refine X6 hC hb hx hc ?_
 repeat (any_goals (first | assumption | wp_step))
theorem abQ {tk:Tok}{fill yn:Bool}{Q:Value->Shared->Prop} (hC:h.get? C=some (excClassObj nm q C N bs bm hdct sn sub ab col dd k0 k1 k2 k3 k5 newId)) (hb:bm.contains (.type "object")=true) (qZ:bm.contains (.type "BaseException")=true)
  (lk:Looks (model prog w) h (typeLookup (.ref C) "__class__") (some (.builtin "object.__class__"))) (lg:Looks (model prog w) h (typeLookup (.ref C) "__getattribute__") (some (.builtin "BaseException.__getattribute__")))
  (ln:Looks (model prog w) h (typeLookup (.ref C) "__getattr__") none) (hx:h.get? a=some o) (hc:o.cls = .ref C) (hq:Q (.ref C) ⟨h,g,d,t,os⟩) :
  wpAny (model prog w) A (getAttrBy (.ref a) (.str "__class__" tk) fill yn) Q E ⟨h,g,d,t,os⟩:=by
 have FB:=F.attrBase_ValueError
 have f3:=FB.ga.bind (.ref a)
 have GU:(yn && onTheHeap (gH "BaseException.__getattribute__"))=false:=by cases yn <;> rfl
 have tQ:(gH "BaseException.__getattribute__" == gH "object.__getattribute__")=false:=by decide +kernel
 have hx1:(onTheHeap (bf C) && gH "BaseException.__getattribute__" == gH "object.__getattribute__")=false:=by rw[tQ];rfl
 repeat (any_goals (first | assumption | (with_reducible refine wpAny_loadPart_at hx ?_;rw[hc]) | with_reducible refine lg.at ?_ | with_reducible refine ln.at ?_ | wp_step))
 refine codeAny_call_builtin FB.ga.plain F.entry_bexc_ga (RL hC qZ hx hc (RK hC hb lk hx hc ?_))
 repeat (any_goals (first | assumption | wp_step))
theorem Wf {Q:Option Value->Shared->Prop} (hC:h.get? C=some (excClassObj nm q C N bs bm hdct sn sub ab col dd k0 k1 k2 k3 k5 newId)) (hb:bm.contains (.type "object")=true) (qZ:bm.contains (.type "BaseException")=true)
  (lk:Looks (model prog w) h (typeLookup (.ref C) "__class__") (some (.builtin "object.__class__"))) (lg:Looks (model prog w) h (typeLookup (.ref C) "__getattribute__") (some (.builtin "BaseException.__getattribute__")))
  (ln:Looks (model prog w) h (typeLookup (.ref C) "__getattr__") none) (hx:h.get? a=some o) (hc:o.cls = .ref C) (hq:Q (some (.ref C)) ⟨h,g,d,t+1,os⟩) :
  wpAny (model prog w) A (getAttr? (.ref a) "__class__") Q E ⟨h,g,d,t,os⟩:=by
 unfold getAttr? getAttrBy?
 repeat (any_goals (first | assumption | with_reducible apply abQ hC hb qZ lk lg ln hx hc | wp_step))
end
end L2
namespace L2
open PySem PySem.Spec PyProof.Rows
abbrev Cx.gy (X:Cx) (A:Around) (xe:Value->Shared->Prop):Cx := { X with A:=A,calm:=false,xe:=xe }
section
variable {X:Cx}{ah:List (Addr × Obj)}{σ : St}{H:Hp}{s:Shared}{xe:Value->Shared->Prop}{A:Around}
theorem Inv.gy (I:Inv X ah σ H s) (hf:A.frames=X.A.frames):Inv (X.gy A xe) ah σ H s :=
 ⟨⟨I.ok.mod,I.ok.kind,I.ok.glob,I.ok.blt,I.ok.above,I.ok.inj,I.ok.has,I.ok.He,(fun h=>absurd (show false=true from h) (by decide)),hf.trans I.ok.frames,I.ok.IB,I.ok.Qz,I.ok.bs,I.ok.wW,I.ok.zV,I.ok.C7,I.ok.nu,I.ok.Ar⟩,
   I.os,I.bare,I.base,I.loc,I.cell,I.free,I.mY,I.pin,I.br,I.len⟩
theorem Inv.Jb (I:Inv (X.gy A xe) ah σ H s) (hd:X.calm=true->X.A.handled=none) (hf:X.A.frames=A.frames):Inv X ah σ H s :=
 ⟨⟨I.ok.mod,I.ok.kind,I.ok.glob,I.ok.blt,I.ok.above,I.ok.inj,I.ok.has,I.ok.He,hd,hf.trans I.ok.frames,I.ok.IB,I.ok.Qz,I.ok.bs,I.ok.wW,I.ok.zV,I.ok.C7,I.ok.nu,I.ok.Ar⟩,
   I.os,I.bare,I.base,I.loc,I.cell,I.free,I.mY,I.pin,I.br,I.len⟩
end
theorem Un.on {fs:List Addr} {H H':Hp}{h h1 h2 B:Heap} (U:Un fs [] H H' h h1) (kj:∀ b o,h.get? b=some o->b ∉ fs->∃ o',B.get? b=some o') (k1:∀ b o,B.get? b=some o->h1.get? b=some o) (k2:∀ b o,B.get? b=some o->h2.get? b=some o)
  (sl:h1.UpToSlots h2) (nf:∀ b∈fs,∃ o,h1.get? b=some o∧∀ vs,o.data ≠ .fields vs):Un fs [] H H' h h2:=by
 refine⟨fun b o q n hb hx => ?_,fun b o q n hb hx => ?_,U.free,fun b o q hx => ?_,U.nj,U.oi,U.oQ⟩
 ·have q2:=U.keep b o q n hb hx
  obtain⟨o',e⟩:=kj b o q hb
  have e1:=k1 _ _ e
  rw[q2]at e1
  cases e1
  exact k2 _ _ e
 ·obtain⟨s1,q1⟩:=U.slot b o q n hb hx
  obtain⟨ob,q3,d⟩:=nf b hb
  rw[q1]at q3
  cases q3
  obtain⟨s4,q4⟩:=sl b _ q1 d
  exact⟨s4,q4⟩
 ·by_cases hb:b∈fs
  ·obtain⟨ob,q3,d⟩:=nf b hb
   obtain⟨s4,q4⟩:=sl b _ q3 d
   exact⟨_,q4⟩
  ·obtain⟨o',e⟩:=kj b o q hb
   exact⟨_,k2 _ _ e⟩
theorem Un.more {fs:List Addr} {H H':Hp}{h h2:Heap}{a:Addr}{o:HO} (U:Un fs [] H H' h h2) (hn:h.get? a=none) (hH:H' a=none):Un fs [] H (aO H' a o) h h2:=by
 have ne:∀ b u,h.get? b=some u->b≠a:=fun b u q z=>by rw[z,hn]at q;cases q
 refine⟨U.keep,U.slot,fun b u q n hx=>by rw[bh (ne b u q)];exact U.free b u q n hx,U.there,fun b xs q => ?_,fun b u xs q => ?_,fun b ps q => ?_⟩
 ·have e:=U.nj b xs q
  rw[bh (dC e hH)];exact e
 ·have e:=U.oi b u xs q
  rw[bh (dC e hH)];exact e
 ·obtain⟨m,e⟩:=U.oQ b ps q
  exact⟨m,by rw[bh (dC e hH)];exact e⟩
section
variable {X:Cx}{ah:List (Addr × Obj)}{σ : St} {H0 H':Hp} {s0 s':Shared}{ea C:Addr}{a0:Value}{B h5:Heap}{env:Env}{outer:List Env}
end
theorem Bx {X:Cx}{ah:List (Addr × Obj)}{σ : St}{H:Hp}{s:Shared}{M:Model}{A:Around}{E:Value->Shared->Prop}{i:Nat}{n:Str}{pos:Pos}{Q:Unit->Shared->Prop} (I:Inv X ah σ H s) (hN:X.N.Nodup) (hi:X.N[i]? = some n)
  (hk:X.env.scope.names.lookup n=some .local) (h:∀ s',Inv X ah (σ.set i none) H s'->Q () s'):wpAny M A (do bindName X.env n .none;unbindBehindTheSuite X.env n pos) Q E s:=by
 obtain⟨m,hn,hl⟩:=id I.loc
 have TH:(X.env.scope.kind == .class || (X.env.scope.kind == .module && X.env.locals != X.env.globals))=false:=by rw[I.ok.kind];rfl
 have NV : i < σ.length:=by rw[I.len];exact(bt.mp hi).1
 have AA:=I.AA
 obtain⟨oL,_,_,hoL,_⟩:=id hn
 refine wpAny_nameGoes_keeps hk hn TH fun h' v wM hs => ?_
 refine h _ ⟨I.ok,I.os,I.bare,⟨fun b o e n hb hx => ?_,fun b o e n hb hx => ?_,I.base.free,fun b o e hx => ?_,I.base.nj,I.base.oi,I.base.oQ⟩,⟨_,wM,fun j y v' e1 e2 e3 => ?_⟩,fun y c e => ?_,I.free,I.mY,fun p hp => ?_,fun b ob e => ?_,by simpa using I.len⟩
 ·exact(hs.2 b (b7 (bS (bq e) I.ok.above))).trans (I.base.keep b o e n hb hx)
 ·obtain⟨sl,e1⟩:=I.base.slot b o e n hb hx
  exact⟨sl,(hs.2 b (b7 (bS (bq e) I.ok.above))).trans e1⟩
 ·obtain⟨o',e1⟩:=I.base.there b o e hx
  exact⟨o',(hs.2 b (b7 (bS (bq e) I.ok.above))).trans e1⟩
 ·by_cases hj:j=i
  ·subst hj
   rw[nR NV]at e2
   cases e2
  ·rw[pK (cK hj)]at e2
   obtain⟨u',r',q⟩:=hl j y v' e1 e2 e3
   refine⟨u',r',?_⟩
   rcases q with⟨k,e⟩ | ⟨k,c,e,z⟩
   ·refine .inl ⟨k,?_⟩
    have:y≠n:=fun e=>hj (CV hN e1 (e ▸ hi))
    simp[this,e]
   ·exact .inr ⟨k,c,e,z.sameBut hs (AA y c e)⟩
 ·obtain⟨w',z⟩:=I.cell y c e
  exact⟨w',z.sameBut hs (AA y c e)⟩
 ·obtain⟨e,n,ne,nf,d⟩:=I.pin p hp
  exact⟨(hs.2 p.1 ne).trans e,n,ne,nf,d⟩
 ·refine(I.br b ob e).sV (fun c w' hc q=>(hs.2 c ?_).trans q) (fun _ q=>q) fun _ _ q=>q
  rintro rfl
  rcases hc with rfl | hc
  ·rw[I.free]at e;cases e
  ·rw[I.free]at hc;cases hc
def abz (X:Cx) (ah:List (Addr × Obj)) (σ : St) (E:XK) (xe:Value->Shared->Prop):Prop := ∀ (H0:Hp) (s0:Shared) (e:Value) (s':Shared),Inv X ah σ H0 s0->iY X.prog X.w X.stack H0 s0 E e s'->xe e s'
def Rn (X:Cx) (e:Expr) (t:XK->TE):Prop := ∀ (E:XK) (ah:List (Addr × Obj)) (s:Shared) (σ : St) (H:Hp) (Q:VK) (xe:Value->Shared->Prop),abz X ah σ E xe->Inv X ah σ H s->t E σ H Q ->
 wpAny (model X.prog X.w) X.A (eval e X.env) (EP X ah σ Q) xe s
def vm (X:Cx) (st:List Stmt) (t:XK->TS):Prop := ∀ (E:XK) (ah:List (Addr × Obj)) (s:Shared) (σ : St) (H:Hp) (D:Ends) (xe:Value->Shared->Prop),abz X ah σ E xe->Inv X ah σ H s->t E D σ H ->
 wpAny (model X.prog X.w) X.A (execs st X.env) (SP X ah D) xe s
section
variable {X:Cx}{k:Nat}{f:Addr}{fd:FuncData}{ps:List Str}{sp:Sp}{gb:List V}{ds:List Value}{x:Str}{p pos:Pos}{e:Expr}{es:List Expr}{t:TA}
theorem WA {CX:uN}{E:XK}{xe:Value->Shared->Prop}{ah:List (Addr × Obj)}{σ : St}{H:Hp}{s:Shared}{Q:VK}{us:List Value}{vs:List V} (F:jF X.prog X.w X.K X.mg X.base CX k f fd ps sp) (hr:dq k X.A) (hb:Binds X.K fd ps ds) (hd:Vals gb ds)
  (I:Inv X ah σ H s) (hx:∀ e s',CX X.stack H s E e s'->xe e s') (r:Vals vs us) (h:sp (vs ++ gb) H Q E):wpAny (model X.prog X.w) X.A (call (.ref f) us) (EP X ah σ Q) xe s:=by
 have r2:Vals (vs ++ gb) (us ++ ds):=r.append hd
 have hl:(us ++ ds).length=ps.length:=by rw[<- r2.length];exact F.len _ _ _ _ h
 refine wpAny_call (codeAny_mono (F.run X.A X.stack s H ⟨us, []⟩ (us ++ ds) (vs ++ gb) Q E hr I.Kf (hb s us I.gL hl) r2 h) fun r s' hq => ?_)
 cases r with
 | error e=>exact hx e s' hq
 | ok fl =>
  cases fl with
  | ret u=>exact I.after hq
  | next=>exact cj hq
  | brk=>exact cj hq
  | cont=>exact cj hq
theorem Ss (F:jF X.prog X.w X.K X.mg X.base (iY X.prog X.w) k f fd ps sp) (hr:dq k X.A) (hg:Gl X x) (hm:X.mg x=some (.ref f)) (hk:cA X.K (.ref f)=true) (hb:Binds X.K fd ps ds) (hd:Vals gb ds)
  (ha:PA X.yR (e :: es) t) (iR:(x == ("__debug__" : Str))=false:=by decide) (he:starEach (e :: es) X.env=(false,eval e X.env) :: starEach es X.env:=by rfl) (fu:(backTo pos (starEach es X.env)).any (·.1)=false:=by rfl) :
  Rn X (.Call (.Name x p) (e :: es) [] pos) (fun E=>k7 sp gb E t):=by
 intro E ah s σ H Q xe W I h
 refine wpAny_Call_Name_kw (jq I hg hm ?_ iR)
 refine jV (h₀ := X.base) I.ok.mod.zY hk (wpAny_mono (ha pos ah s σ H _ (I.rB _) h) (fun us s1 ⟨vs,H1,I1,r,q⟩=>⟨I1.lD.gL,?_⟩) fun _ _ z=>cj z) he fu
 exact WA F hr hb hd I1.lD (fun e s' hq=>W H1 s1 e s' I1.lD hq) r q
theorem Fq {i:Nat}{y:Str}{te:XK->TE}{eu:Pos} (hN:X.N.Nodup) (hi:X.N[i]? = some y) (hx:Loc X.env.scope y) (he:Rn X e te) (hs:swapsWith e (some (.Name y eu)) pos.line X.env=pure false:=by rfl)
  (hf:X.fn y=true∨X.env.scope.names.lookup y=some .local:=by first | exact .inl rfl | exact .inr rfl | assumption):vm X [.Assign [.Name y eu] e pos] (fun E=>zw (te E) (bc i)):=by
 intro E ah s σ H D xe W I h
 refine wpAny_execs_cons (wpAny_Assign_Name (cz (he E ah s σ H _ xe W I h) fun v s1 ⟨z,H1,I1,r1,q1⟩ => ?_) hs)
 exact sU I1 hN hi hx r1 (fun s2 I2=>wpAny_execs_nil ⟨_,H1,I2,q1⟩) hf
theorem YJ {c:Expr}{a b:List Stmt}{tc:TT}{t u:XK->TS} (hc:PT X.yR c tc) (ha:vm X a t) (hb:vm X b u):vm X [.If c a b pos] (fun E=>E3 tc (t E) (u E)):=by
 intro E ah s σ H D xe W I h
 refine wpAny_execs_cons (wpAny_If (wpAny_mono (hc ah s σ H _ (I.rB _) h) (fun d s1 ⟨H1,I1,q1⟩ => ?_) fun _ _ z=>cj z))
 have I1:=I1.lD
 cases d with
 | true =>
  refine cz (ha E ah s1 σ H1 D xe W I1 q1) fun f s2 q => ?_
  cases f with
  | next=>exact wpAny_execs_nil q
  | brk=>exact q
  | cont=>exact q
  | ret u=>exact q
 | false =>
  refine cz (hb E ah s1 σ H1 D xe W I1 q1) fun f s2 q => ?_
  cases f with
  | next=>exact wpAny_execs_nil q
  | brk=>exact q
  | cont=>exact q
  | ret u=>exact q
theorem WJ {c:Expr}{a b:List Stmt}{tc:TT}{t u:XK->TS} (hc:QT X.yR c tc) (ha:vm X a t) (hb:vm X b u):vm X [.If c a b pos] (fun E=>E3 tc (t E) (u E)):=by
 delta QT at *
 exact YJ hc ha hb
end
structure gI (k:Nat) (A:Around):Prop where
 dp:A.depth+3 * k+5 < recursionLimit
 un:A.units+16 * k+200 < cLine
theorem dq.mark {k:Nat}{A:Around} (r:dq k A) (v:Option Value):gI k (A.mark v):=⟨r.dp,r.un⟩
theorem gI.mono {j k:Nat}{A:Around} (r:gI k A) (h:j<=k):gI j A:=⟨by have:=r.dp;omega,by have:=r.un;omega⟩
theorem gI.deeper {k:Nat}{A:Around} (r:gI (k+1) A) (env:Env):gI k (A.deeper env) :=
 ⟨by have:=r.dp;show A.depth+1+3 * k+5 < _;omega,by have:=r.un;show A.units+3+16 * k+200 < _;omega⟩
structure Wc (P:Program) (w:World) (K:aj) (mg:Str->Option Value) (base:Heap) (k:Nat) (f:Addr) (fd:FuncData) (ps:List Str) (sp:Sp):Prop where
 len:∀ vs H Q E,sp vs H Q E->vs.length=ps.length
 run:∀ (A:Around) (outer:List Env) (s:Shared) (H:Hp) (args:Args) (us:List Value) (vs:List V) (Q:VK),gI k A->yB P w K mg base A outer s H->BindsTo s fd args (ps.zip us)->Vals vs us->sp vs H Q E0 ->
  codeAny (model P w) A (.call (.ref f) args) (CR oM outer P w H s Q E0) s
theorem aaW {P:Program}{w:World}{K:aj}{mg:Str->Option Value}{base:Heap}{k:Nat}{f:Addr}{x bu:Str}{st:Stmt}{fd:FuncData}{N ps:List Str}{sp:Sp} (F:sq K x bu st f fd) (S:bx N ps (az st))
  (len:∀ vs H Q E,sp vs H Q E->vs.length=ps.length)
  (eD:∀ (a8:Value) (A:Around) (outer:List Env) (s:Shared) (H:Hp) (vs:List V) (Q:VK),gI k (A.deeper (envOfC bu (az st) s.heap.objs.size f a8))->sp vs H Q E0 ->
   ∃ t,k4 ((bZ oM P w K mg base N bu (az st) f a8 { A with handled:=none } outer s H E0).gy (A.deeper (envOfC bu (az st) s.heap.objs.size f a8)) fun _ _=>False) (dk st) t∧t { nx:=fun _ H'=>Q .b9 H',rt:=Q } (start N vs) H) :
  Wc P w K mg base (k+1) f fd ps sp:=by
 obtain⟨oc,od,kV,doc,pm,an,a8,ct,tD,rfl,lk,ni⟩:=F.ex
 refine⟨len,fun A outer s H args us vs Q hr e0 hb r tR => ?_⟩
 have hl:=len _ _ _ _ tR
 have KX:K.In s.heap:=e0.mod.zY.keeps fun b o e=>(e0.bs b o e).1
 have Zs:s.heap.NoLimit:=e0.mod.nolimit.keeps fun b o e=>(e0.bs b o e).1
 have yd:∀ y∈ps.zip us,(az st).names.lookup y.1=some .local∨((az st).names.lookup y.1=some .cell∧((cellsFrom (s.heap.objs.size+1) (az st).names []).lookup y.1).isSome=true):=fun ⟨n,v⟩ hy=>by
  rcases S.par n (pI hy).1 with q | q
  ·exact .inl q
  ·exact .inr ⟨q,nN _ _ _ (.inl q)⟩
 have aeI:A.depth < recursionLimit:=by have:=hr.dp;omega
 refine codeAny_call_function aeI (KX _ _ lk) rfl S.co S.gen rfl (AW KX ni) (hb _ _ _ _ ?_)
 refine wpAny_newFunctionEnv_cells S.kind yd fun env he s1 x => ?_
 subst he
 refine⟨Zs.keeps x.toInCall.keep,codeAny_func ?_⟩
 obtain⟨t,ht,hq⟩:=eD a8 A outer s H vs Q (hr.deeper _) tR
 have e0':yB P w K mg base { A with handled:=none } outer s H:=⟨e0.frames,e0.mod,e0.bs,e0.wW,e0.nu,e0.Ar,e0.br,e0.bare⟩
 have I0:Inv (bZ oM P w K mg base N bu (az st) f a8 { A with handled:=none } outer s H E0) [] (start N vs) H s1:=GS S rfl e0' hl r x
 have I:=I0.gy (A:=A.deeper (envOfC bu (az st) s.heap.objs.size f a8)) (xe:=fun _ _=>False) rfl
 refine wpAny_mono (ht [] s1 (start N vs) H _ I hq) (fun fl s' hs => ?_) fun e s' hs=>cj hs
 have eZ:∀ {bC:St} {H':Hp}{v:V}{u:Value},Inv ((bZ oM P w K mg base N bu (az st) f a8 { A with handled:=none } outer s H E0).gy (A.deeper (envOfC bu (az st) s.heap.objs.size f a8)) fun _ _=>False) [] bC H' s'->RelV v u->Q v H'->CE outer P w H s Q u s' :=
  fun {bC H' v u} J rv q=>⟨v,H',J.os,J.bare,J.base,J.br,rv,q⟩
 cases fl with
 | ret u =>
  obtain⟨v, bC,H',J,rv,q⟩:=hs
  exact eZ J rv q
 | next =>
  obtain⟨bC,H',J,q⟩:=hs
  exact eZ (v:=V.b9) (u:=ef) J rfl q
 | brk =>
  obtain⟨_,_,_,q⟩:=hs
  exact cj q
 | cont =>
  obtain⟨_,_,_,q⟩:=hs
  exact cj q
theorem SE {X:Cx} {k k':Nat}{f:Addr}{fd:FuncData}{ps:List Str}{sp:Sp}{x:Str}{p pos:Pos}{e:Expr}{es:List Expr}{t:TA} (F:Wc X.prog X.w X.K X.mg X.base k f fd ps sp) (hr:gI k' X.A) (hkk:k<=k') (hg:Gl X x) (hm:X.mg x=some (.ref f)) (hk:cA X.K (.ref f)=true) (hb:Binds X.K fd ps [])
  (ha:PA X (e :: es) t) (iR:(x == ("__debug__" : Str))=false:=by decide) (he:starEach (e :: es) X.env=(false,eval e X.env) :: starEach es X.env:=by rfl) (fu:(backTo pos (starEach es X.env)).any (·.1)=false:=by rfl) :
  PE X (.Call (.Name x p) (e :: es) [] pos) (k7 sp [] E0 t):=by
 intro ah s σ H Q I h
 refine wpAny_Call_Name_kw (jq I hg hm ?_ iR)
 refine jV (h₀ := X.base) I.ok.mod.zY hk (cz (ha pos ah s σ H _ I h) fun us s1 ⟨vs,H1,I1,r,q⟩=>⟨I1.gL,?_⟩) he fu
 have q:sp (vs ++ []) H1 Q E0:=q
 rw[dh]at q
 have hl:us.length=ps.length:=by rw[<- r.length];exact F.len _ _ _ _ q
 have oG:=hb s1 us I1.gL (by rw[dh];exact hl)
 rw[dh]at oG
 refine wpAny_call (codeAny_mono (F.run X.A X.stack s1 H1 ⟨us, []⟩ us vs Q (hr.mono hkk) I1.Kf oG r q) fun r s' hq => ?_)
 cases r with
 | error e=>exact cj hq
 | ok fl =>
  cases fl with
  | ret u=>exact I1.after hq
  | next=>exact cj hq
  | brk=>exact cj hq
  | cont=>exact cj hq
structure afo (K:aj) (C:Addr):Prop where
 cl:bj K (.ref C) "__class__" = some (some (.builtin "object.__class__"))
 ga:bj K (.ref C) "__getattribute__" = some (some (.builtin "BaseException.__getattribute__"))
 gn:bj K (.ref C) "__getattr__" = some none
theorem D9 {M:Model}{A:Around}{E:Value->Shared->Prop} {R R':Str->Shared->Prop} (h:∀ z s,R z s->R' z s):∀ {l:List (Sem Value)}{acc:Str}{s:Shared},Joins M A E l acc R s->Joins M A E l acc R' s
 | [],acc,s,q=>h _ _ q
 | x :: r,acc,s,q=>wpAny_mono q (fun v s1 ⟨y,t,e,hz,q1⟩=>⟨y,t,e,hz,D9 h q1⟩) fun _ _ z=>z
section
variable {X:Cx}
abbrev TJ:=St->Hp->(Hp->Prop)->Prop
def PJ (X:Cx) (es:List Expr) (t:TJ):Prop := ∀ (ah:List (Addr × Obj)) (s:Shared) (σ : St) (H:Hp) (acc:Str) (Q:Hp->Prop),Inv X ah σ H s->acc.length+1000 * es.length<=100000 ->
 t σ H Q->Joins (model X.prog X.w) X.A X.xe (evalEach es X.env) acc (fun out s1=>out.length<=100000∧∃ H1,Inv X ah σ H1 s1∧Q H1) s
def aes:TJ:=fun _ H Q=>Q H
def U9 (te:TE) (t:TJ):TJ:=fun σ H Q=>te σ H fun x H1=>∃ z,x = .str z∧z.length<=1000∧t σ H1 Q
theorem lE:PJ X [] aes:=fun ah s σ H acc R I hl h=>⟨by simpa using hl,H,I,h⟩
theorem WU {e:Expr}{es:List Expr}{te:TE}{t:TJ} (he:PE X e te) (hr:PJ X es t) (hs:evalEach (e :: es) X.env=eval e X.env :: evalEach es X.env:=by rfl):PJ X (e :: es) (U9 te t):=by
 intro ah s σ H acc R I hl h
 rw[hs]
 rw[bg]at hl
 refine cz (he ah s σ H _ I h) fun v s1 ⟨x,H1,I1,rx,z,ex,hz,q⟩ => ?_
 subst ex
 obtain⟨tk,rfl⟩:=rx
 have dX:(acc ++ z).length=acc.length+z.length:=au _ _
 refine⟨z,tk,rfl,by rw[dX];exact a9 (by omega:_<=100000) (by decide),hr ah s1 σ H1 (acc ++ z) R I1 (by rw[dX];omega) q⟩
theorem cN {e:Expr}{es:List Expr}{te:TE}{t:TJ} (he:QE X e te) (hr:PJ X es t) (hs:evalEach (e :: es) X.env=eval e X.env :: evalEach es X.env:=by rfl):PJ X (e :: es) (U9 te t):=by
 delta QE at *
 exact WU he hr hs
def Lw (n:Nat) (t:TJ):TE:=fun σ H Q=>n<=90∧t σ H fun H1=>∀ z:Str,Q (.str z) H1
theorem Pj {a b:Expr}{r:List Expr}{t:TJ}{pos:Pos} (h:PJ X (a :: b :: r) t):PE X (.JoinedStr (a :: b :: r) pos) (Lw (a :: b :: r).length t):=by
 intro ah s σ H Q I hw
 obtain⟨hn,hq⟩:=hw
 refine wpAny_JoinedStr (D9 (fun z s1 ⟨hz,H1,I1,q⟩=>⟨a9 hz (by decide),⟨.str z,H1,I1.tok _,⟨_,rfl⟩,q z⟩⟩) (h ah s σ H cF _ I ?_ hq))
 show 0+_<=_
 omega
theorem gF {a b:Expr}{r:List Expr}{t:TJ}{pos:Pos} (h:PJ X (a :: b :: r) t):QE X (.JoinedStr (a :: b :: r) pos) (Lw (a :: b :: r).length t):=by
 delta QE at *
 exact Pj h
def UJ (tv:TE):TE:=fun σ H Q=>tv σ H fun x H1=>∃ i,x = .int i∧i.natAbs.log2 < 1920∧Q (.str (toString i)) H1
theorem W4 {v:Expr}{tv:TE}{pos:Pos} (h:PE X v tv):PE X (.FormattedValue v (-1) none pos) (UJ tv):=by
 intro ah s σ H Q I hw
 refine FormattedValue_plain (cz (h ah s σ H _ I hw) fun u s1 ⟨x,H1,I1,rx,i,ex,hi,q⟩ => ?_)
 subst ex
 obtain⟨tk,rfl⟩:=rx
 exact formatField_int_small hi ⟨.str _,H1,I1.tok _,⟨_,rfl⟩,q⟩
theorem j5 {v:Expr}{tv:TE}{pos:Pos} (h:QE X v tv):QE X (.FormattedValue v (-1) none pos) (UJ tv):=by
 delta QE at *
 exact W4 h
def UI (tv:TE):TE:=fun σ H Q=>tv σ H fun x H1=>∃ z,x = .str z∧(reprText z).length<=1000∧Q (.str (reprText z)) H1
theorem W3 {v:Expr}{tv:TE}{pos:Pos} (h:PE X v tv):PE X (.FormattedValue v 114 none pos) (UI tv):=by
 intro ah s σ H Q I hw
 refine wpAny_FormattedValue_repr (cz (h ah s σ H _ I hw) fun u s1 ⟨x,H1,I1,rx,z,ex,hz,q⟩ => ?_)
 subst ex
 obtain⟨tk,rfl⟩:=rx
 have P2:(reprText z).length<=sizeLine:=a9 hz (by decide)
 refine wpAny_pyReprObj_str (hsz:=P2) ?_
 exact formatField_str (fun t' tk'=>⟨.str _,H1,I1.tok _,⟨_,rfl⟩,q⟩) P2
theorem Jk {v:Expr}{tv:TE}{pos:Pos} (h:QE X v tv):QE X (.FormattedValue v 114 none pos) (UI tv):=by
 delta QE at *
 exact W3 h
inductive vw (xs:List V) (H:Hp) (Q:VK):Prop
 | mk:∀ z n,(xs = [.str z])->(intText? z=some n)->(z.length<=640)->(Q (.int n) H)->vw xs H Q
theorem yY:jA X (.type "int") (fun xs H Q=>vw xs H Q):=by
 intro ah s σ H xs us Q I r h
 obtain⟨z,n,rfl,hn,hl,q⟩:=h
 obtain⟨u,rfl,rx⟩:=Vals.one r
 obtain⟨tk,rfl⟩:=rx
 exact PySem.W.KIN.call_text hn hl ⟨.int n,H,I.tok _,⟨_,rfl⟩,q⟩
theorem Sy {x z:Str}{pos:Pos} (h:∃ t,X.mg x=some (.str z t)) (hg:Gl X x) (hd:(x == ("__debug__" : Str))=false:=by decide):PE X (.Name x pos) (tC (.str z)) :=
 let ⟨t,e⟩:=h;Fv hg e ⟨t,rfl⟩ hd
theorem mq {x z:Str}{pos:Pos} (h:∃ t,X.mg x=some (.str z t)) (hg:Gl X x) (hd:(x == ("__debug__" : Str))=false:=by decide):QE X (.Name x pos) (tC (.str z)):=by
 delta QE at *
 exact Sy h hg hd
theorem Sz {x:Str}{i:Int}{pos:Pos} (h:∃ t,X.mg x=some (.int i t)) (hg:Gl X x) (hd:(x == ("__debug__" : Str))=false:=by decide):PE X (.Name x pos) (tC (.int i)) :=
 let ⟨t,e⟩:=h;Fv hg e ⟨t,rfl⟩ hd
theorem c8 {x:Str}{i:Int}{pos:Pos} (h:∃ t,X.mg x=some (.int i t)) (hg:Gl X x) (hd:(x == ("__debug__" : Str))=false:=by decide):QE X (.Name x pos) (tC (.int i)):=by
 delta QE at *
 exact Sz h hg hd
end
theorem sq.Ze {P:Program}{w:World}{K:aj}{mg:Str->Option Value}{base:Heap}{x bu:Str}{st:Stmt}{f:Addr}{fd:FuncData}{N ps:List Str}{k:Nat}{sp:Sp} (F:sq K x bu st f fd) (S:bx N ps (az st)) (len:∀ vs H Q E,sp vs H Q E->vs.length=ps.length)
  (eD:∀ (a8:Value) (A:Around) (outer:List Env) (s:Shared) (H:Hp) (vs:List V) (Q:VK) (E:XK),dq k (A.deeper (envOfC bu (az st) s.heap.objs.size f a8))->sp vs H Q E ->
   ∃ t,k4 (bZ (iY P w) P w K mg base N bu (az st) f a8 A outer s H E) (dk st) t∧t { nx:=fun _ H'=>Q .b9 H',rt:=Q } (start N vs) H):jF P w K mg base (iY P w) (k+1) f fd ps sp:=by
 obtain⟨oc,od,kV,doc,pm,an,a8,ct,tD,rfl,lk,ni⟩:=F.ex
 exact N4 lk ni S len fun A outer s H vs Q E hr tR=>eD a8 A outer s H vs Q E hr tR
structure f9 (P:Program) (w:World) (K:aj) (mg:Str->Option Value) (base:Heap) (k:Nat) (x:Str) (ps:List Str) (sp:Sp):Prop where
 ex:∃ f fd,jF P w K mg base (iY P w) k f fd ps sp∧mg x=some (.ref f)∧cA K (.ref f)=true∧Binds K fd ps []
structure gE (P:Program) (w:World) (K:aj) (mg:Str->Option Value) (base:Heap) (k:Nat) (C:Addr) (m:Str) (ps:List Str) (sp:Sp):Prop where
 ex:∃ f fd,jF P w K mg base (iY P w) k f fd ps sp∧Meth K C m f∧Binds K fd ps []
structure yA (P:Program) (w:World) (K:aj) (mg:Str->Option Value) (base:Heap) (k:Nat) (x:Str) (C:Addr) (ps:List Str) (sp:Sp):Prop where
 ex:∃ f fd,jF P w K mg base (iY P w) k f fd ps sp∧mg x=some (.ref C)∧Mk K C f∧Binds K fd ps []
structure jG (K:aj) (C:Addr) (m bu:Str) (st:Stmt) (ps:List Str):Prop where
 ex:∃ f fd,sq K m bu st f fd∧Meth K C m f∧Binds K fd ps []
structure yD (K:aj) (mg:Str->Option Value) (x:Str) (C:Addr) (bu:Str) (st:Stmt) (ps:List Str):Prop where
 ex:∃ f fd,sq K "__init__" bu st f fd∧mg x=some (.ref C)∧Mk K C f∧Binds K fd ps []
section
variable {P:Program}{w:World}{K:aj}{mg:Str->Option Value}{base:Heap}{x m bu:Str}{C:Addr}{st:Stmt}{N ps:List Str}{k:Nat}{sp:Sp}
theorem Def.aeO (D:Def K mg x st ps) (S:bx N ps (az st)) (len:∀ vs H Q E,sp vs H Q E->vs.length=ps.length)
  (eD:∀ (f:Addr) (a8:Value) (A:Around) (outer:List Env) (s:Shared) (H:Hp) (vs:List V) (Q:VK) (E:XK),dq k (A.deeper (envOfC x (az st) s.heap.objs.size f a8))->sp vs H Q E ->
   ∃ t,k4 (bZ (iY P w) P w K mg base N x (az st) f a8 A outer s H E) (dk st) t∧t { nx:=fun _ H'=>Q .b9 H',rt:=Q } (start N vs) H):f9 P w K mg base (k+1) x ps sp:=by
 obtain⟨f,fd,F,hm,hb⟩:=D.ex
 exact⟨f,fd,F.Ze S len (eD f),hm,F.kp,hb⟩
theorem Def.pe (D:Def K mg x st ps) (S:bx N ps (az st)) (len:∀ vs H Q E,sp vs H Q E->vs.length=ps.length)
  (eD:∀ (f:Addr) (a8:Value) (A:Around) (outer:List Env) (s:Shared) (H:Hp) (vs:List V) (Q:VK) (E:XK),dq k (A.deeper (envOfC x (az st) s.heap.objs.size f a8))->sp vs H Q E ->
   ∃ t,iJ (bZ (iY P w) P w K mg base N x (az st) f a8 A outer s H E) (dk st) t∧t { nx:=fun _ H'=>Q .b9 H',rt:=Q } (start N vs) H):f9 P w K mg base (k+1) x ps sp:=by
 delta iJ at *
 exact Def.aeO D S len eD
theorem jG.has (D:jG K C m bu st ps) (S:bx N ps (az st)) (len:∀ vs H Q E,sp vs H Q E->vs.length=ps.length)
  (eD:∀ (f:Addr) (a8:Value) (A:Around) (outer:List Env) (s:Shared) (H:Hp) (vs:List V) (Q:VK) (E:XK),dq k (A.deeper (envOfC bu (az st) s.heap.objs.size f a8))->sp vs H Q E ->
   ∃ t,k4 (bZ (iY P w) P w K mg base N bu (az st) f a8 A outer s H E) (dk st) t∧t { nx:=fun _ H'=>Q .b9 H',rt:=Q } (start N vs) H):gE P w K mg base (k+1) C m ps sp:=by
 obtain⟨f,fd,F,hm,hb⟩:=D.ex
 exact⟨f,fd,F.Ze S len (eD f),hm,hb⟩
theorem jG.eL (D:jG K C m bu st ps) (S:bx N ps (az st)) (len:∀ vs H Q E,sp vs H Q E->vs.length=ps.length)
  (eD:∀ (f:Addr) (a8:Value) (A:Around) (outer:List Env) (s:Shared) (H:Hp) (vs:List V) (Q:VK) (E:XK),dq k (A.deeper (envOfC bu (az st) s.heap.objs.size f a8))->sp vs H Q E ->
   ∃ t,iJ (bZ (iY P w) P w K mg base N bu (az st) f a8 A outer s H E) (dk st) t∧t { nx:=fun _ H'=>Q .b9 H',rt:=Q } (start N vs) H):gE P w K mg base (k+1) C m ps sp:=by
 delta iJ at *
 exact jG.has D S len eD
theorem yD.has (D:yD K mg x C bu st ps) (S:bx N ps (az st)) (len:∀ vs H Q E,sp vs H Q E->vs.length=ps.length)
  (eD:∀ (f:Addr) (a8:Value) (A:Around) (outer:List Env) (s:Shared) (H:Hp) (vs:List V) (Q:VK) (E:XK),dq k (A.deeper (envOfC bu (az st) s.heap.objs.size f a8))->sp vs H Q E ->
   ∃ t,k4 (bZ (iY P w) P w K mg base N bu (az st) f a8 A outer s H E) (dk st) t∧t { nx:=fun _ H'=>Q .b9 H',rt:=Q } (start N vs) H):yA P w K mg base (k+1) x C ps sp:=by
 obtain⟨f,fd,F,hm,hb⟩:=D.ex
 exact⟨f,fd,F.Ze S len (eD f),hm,hb⟩
theorem yD.eL (D:yD K mg x C bu st ps) (S:bx N ps (az st)) (len:∀ vs H Q E,sp vs H Q E->vs.length=ps.length)
  (eD:∀ (f:Addr) (a8:Value) (A:Around) (outer:List Env) (s:Shared) (H:Hp) (vs:List V) (Q:VK) (E:XK),dq k (A.deeper (envOfC bu (az st) s.heap.objs.size f a8))->sp vs H Q E ->
   ∃ t,iJ (bZ (iY P w) P w K mg base N bu (az st) f a8 A outer s H E) (dk st) t∧t { nx:=fun _ H'=>Q .b9 H',rt:=Q } (start N vs) H):yA P w K mg base (k+1) x C ps sp:=by
 delta iJ at *
 exact yD.has D S len eD
end
section
variable {X:Cx} {k k':Nat}{x m:Str}{C:Addr}{ps:List Str}{sp:Sp}{p pos fS:Pos}{e o:Expr}{es:List Expr}{ta:TE}{t:TA}{E:XK}
theorem SH (h:f9 X.prog X.w X.K X.mg X.base k x ps sp) (hr:dq k' X.A) (hk:k<=k') (hx:Passes (iY X.prog X.w) X E) (hg:Gl X x) (ha:PA X (e :: es) t) (iR:(x == ("__debug__" : Str))=false:=by decide)
  (he:starEach (e :: es) X.env=(false,eval e X.env) :: starEach es X.env:=by rfl) (fu:(backTo pos (starEach es X.env)).any (·.1)=false:=by rfl) :
  PE X (.Call (.Name x p) (e :: es) [] pos) (k7 sp [] E t):=by
 obtain⟨f,fd,F,hm,Eh,hb⟩:=h.ex
 exact L4 F (hr.mono hk) hg hm Eh hb .nil hx ha iR he fu
theorem fJ (h:f9 X.prog X.w X.K X.mg X.base k x ps sp) (hr:dq k' X.A) (hk:k<=k') (hx:Passes (iY X.prog X.w) X E) (hg:Gl X x) (ha:QA X (e :: es) t) (iR:(x == ("__debug__" : Str))=false:=by decide)
  (he:starEach (e :: es) X.env=(false,eval e X.env) :: starEach es X.env:=by rfl) (fu:(backTo pos (starEach es X.env)).any (·.1)=false:=by rfl) :
  QE X (.Call (.Name x p) (e :: es) [] pos) (k7 sp [] E t):=by
 delta QA QE at *
 exact SH h hr hk hx hg ha iR he fu
theorem Pg (h:f9 X.prog X.w X.K X.mg X.base k x ps sp) (hr:dq k' X.A) (hk:k<=k') (hg:Gl X x) (ha:PA X.yR (e :: es) t) (iR:(x == ("__debug__" : Str))=false:=by decide)
  (he:starEach (e :: es) X.env=(false,eval e X.env) :: starEach es X.env:=by rfl) (fu:(backTo pos (starEach es X.env)).any (·.1)=false:=by rfl) :
  Rn X (.Call (.Name x p) (e :: es) [] pos) (fun E=>k7 sp [] E t):=by
 obtain⟨f,fd,F,hm,Eh,hb⟩:=h.ex
 exact Ss F (hr.mono hk) hg hm Eh hb .nil ha iR he fu
theorem sC (h:f9 X.prog X.w X.K X.mg X.base k x ps sp) (hr:dq k' X.A) (hk:k<=k') (hg:Gl X x) (ha:QA X.yR (e :: es) t) (iR:(x == ("__debug__" : Str))=false:=by decide)
  (he:starEach (e :: es) X.env=(false,eval e X.env) :: starEach es X.env:=by rfl) (fu:(backTo pos (starEach es X.env)).any (·.1)=false:=by rfl) :
  Rn X (.Call (.Name x p) (e :: es) [] pos) (fun E=>k7 sp [] E t):=by
 delta QA at *
 exact Pg h hr hk hg ha iR he fu
theorem abX {pl:Sem Bool} (h:gE X.prog X.w X.K X.mg X.base k C m ps sp) (c:pP X.K C) (hr:dq k' X.A) (hk:k<=k') (hx:Passes (iY X.prog X.w) X E) (he:PE X o ta) (ha:PA X (e :: es) t)
  (kE:starEach (e :: es) X.env=(false,eval e X.env) :: starEach es X.env:=by rfl) (fu:(backTo pos (starEach es X.env)).any (·.1)=false:=by rfl)
  (ht:eval (.Call (.Attribute o m fS) (e :: es) [] pos) X.env=(do
   let ov <- eval o X.env
   standAt fS.atName
   let (f,first) <- holding [ov] (getMethod ov m pl)
   callWith pos f first (backTo pos (starEach (e :: es) X.env)) (backToKw pos (keywordEach [] X.env))):=by rfl) :
  PE X (.Call (.Attribute o m fS) (e :: es) [] pos) (xv C m sp [] E ta t):=by
 obtain⟨f,fd,F,hm,hb⟩:=h.ex
 exact WZ he c hm F (hr.mono hk) hb .nil hx ha kE fu ht
theorem nG {pl:Sem Bool} (h:gE X.prog X.w X.K X.mg X.base k C m ps sp) (c:pP X.K C) (hr:dq k' X.A) (hk:k<=k') (hx:Passes (iY X.prog X.w) X E) (he:QE X o ta) (ha:QA X (e :: es) t)
  (kE:starEach (e :: es) X.env=(false,eval e X.env) :: starEach es X.env:=by rfl) (fu:(backTo pos (starEach es X.env)).any (·.1)=false:=by rfl)
  (ht:eval (.Call (.Attribute o m fS) (e :: es) [] pos) X.env=(do
   let ov <- eval o X.env
   standAt fS.atName
   let (f,first) <- holding [ov] (getMethod ov m pl)
   callWith pos f first (backTo pos (starEach (e :: es) X.env)) (backToKw pos (keywordEach [] X.env))):=by rfl) :
  QE X (.Call (.Attribute o m fS) (e :: es) [] pos) (xv C m sp [] E ta t):=by
 delta QA QE at *
 exact abX h c hr hk hx he ha kE fu ht
theorem Y0 {pl:Sem Bool} (h:gE X.prog X.w X.K X.mg X.base k C m ps sp) (c:pP X.K C) (hr:dq k' X.A) (hk:k<=k') (hx:Passes (iY X.prog X.w) X E) (he:PE X o ta)
  (ht:eval (.Call (.Attribute o m fS) [] [] pos) X.env=(do
   let ov <- eval o X.env
   standAt fS.atName
   let (f,first) <- holding [ov] (getMethod ov m pl)
   callWith pos f first (backTo pos (starEach [] X.env)) (backToKw pos (keywordEach [] X.env))):=by rfl) :
  PE X (.Call (.Attribute o m fS) [] [] pos) (xv C m sp [] E ta sT):=by
 obtain⟨f,fd,F,hm,hb⟩:=h.ex
 exact Sv he c hm F (hr.mono hk) hb .nil hx ht
theorem oA {pl:Sem Bool} (h:gE X.prog X.w X.K X.mg X.base k C m ps sp) (c:pP X.K C) (hr:dq k' X.A) (hk:k<=k') (hx:Passes (iY X.prog X.w) X E) (he:QE X o ta)
  (ht:eval (.Call (.Attribute o m fS) [] [] pos) X.env=(do
   let ov <- eval o X.env
   standAt fS.atName
   let (f,first) <- holding [ov] (getMethod ov m pl)
   callWith pos f first (backTo pos (starEach [] X.env)) (backToKw pos (keywordEach [] X.env))):=by rfl) :
  QE X (.Call (.Attribute o m fS) [] [] pos) (xv C m sp [] E ta sT):=by
 delta QE at *
 exact Y0 h c hr hk hx he ht
theorem Sx (h:yA X.prog X.w X.K X.mg X.base k x C ps sp) (hr:dq k' X.A) (hk:k+1<=k') (hx:Passes (iY X.prog X.w) X E) (hg:Gl X x) (ha:PA X (e :: es) t) (iR:(x == ("__debug__" : Str))=false:=by decide)
  (he:starEach (e :: es) X.env=(false,eval e X.env) :: starEach es X.env:=by rfl) (fu:(backTo pos (starEach es X.env)).any (·.1)=false:=by rfl) :
  PE X (.Call (.Name x p) (e :: es) [] pos) (Nj C sp [] E t):=by
 obtain⟨f,fd,F,hm,M,hb⟩:=h.ex
 exact W0 M F (hr.mono hk) hg hm hb .nil hx ha iR he fu
theorem zO (h:yA X.prog X.w X.K X.mg X.base k x C ps sp) (hr:dq k' X.A) (hk:k+1<=k') (hx:Passes (iY X.prog X.w) X E) (hg:Gl X x) (ha:QA X (e :: es) t) (iR:(x == ("__debug__" : Str))=false:=by decide)
  (he:starEach (e :: es) X.env=(false,eval e X.env) :: starEach es X.env:=by rfl) (fu:(backTo pos (starEach es X.env)).any (·.1)=false:=by rfl) :
  QE X (.Call (.Name x p) (e :: es) [] pos) (Nj C sp [] E t):=by
 delta QA QE at *
 exact Sx h hr hk hx hg ha iR he fu
end
structure Gb (P:Program) (w:World) (K:aj) (mg:Str->Option Value) (base:Heap) (k:Nat) (x:Str) (ps:List Str) (sp:Sp):Prop where
 ex:∃ f fd,Wc P w K mg base k f fd ps sp∧mg x=some (.ref f)∧cA K (.ref f)=true∧Binds K fd ps []
theorem Def.aeN {P:Program}{w:World}{K:aj}{mg:Str->Option Value}{base:Heap}{x:Str}{st:Stmt}{N ps:List Str}{k:Nat}{sp:Sp} (D:Def K mg x st ps) (S:bx N ps (az st)) (len:∀ vs H Q E,sp vs H Q E->vs.length=ps.length)
  (eD:∀ (f:Addr) (a8:Value) (A:Around) (outer:List Env) (s:Shared) (H:Hp) (vs:List V) (Q:VK),gI k (A.deeper (envOfC x (az st) s.heap.objs.size f a8))->sp vs H Q E0 ->
   ∃ t,k4 ((bZ oM P w K mg base N x (az st) f a8 { A with handled:=none } outer s H E0).gy (A.deeper (envOfC x (az st) s.heap.objs.size f a8)) fun _ _=>False) (dk st) t∧t { nx:=fun _ H'=>Q .b9 H',rt:=Q } (start N vs) H):Gb P w K mg base (k+1) x ps sp:=by
 obtain⟨f,fd,F,hm,hb⟩:=D.ex
 exact⟨f,fd,aaW F S len (eD f),hm,F.kp,hb⟩
theorem Def.acj {P:Program}{w:World}{K:aj}{mg:Str->Option Value}{base:Heap}{x:Str}{st:Stmt}{N ps:List Str}{k:Nat}{sp:Sp} (D:Def K mg x st ps) (S:bx N ps (az st)) (len:∀ vs H Q E,sp vs H Q E->vs.length=ps.length)
  (eD:∀ (f:Addr) (a8:Value) (A:Around) (outer:List Env) (s:Shared) (H:Hp) (vs:List V) (Q:VK),gI k (A.deeper (envOfC x (az st) s.heap.objs.size f a8))->sp vs H Q E0 ->
   ∃ t,iJ ((bZ oM P w K mg base N x (az st) f a8 { A with handled:=none } outer s H E0).gy (A.deeper (envOfC x (az st) s.heap.objs.size f a8)) fun _ _=>False) (dk st) t∧t { nx:=fun _ H'=>Q .b9 H',rt:=Q } (start N vs) H):Gb P w K mg base (k+1) x ps sp:=by
 delta iJ at *
 exact Def.aeN D S len eD
theorem Pm {X:Cx} {k k':Nat}{x:Str}{ps:List Str}{sp:Sp}{p pos:Pos}{e:Expr}{es:List Expr}{t:TA} (h:Gb X.prog X.w X.K X.mg X.base k x ps sp) (hr:gI k' X.A) (hk:k<=k') (hg:Gl X x) (ha:PA X (e :: es) t) (iR:(x == ("__debug__" : Str))=false:=by decide)
  (he:starEach (e :: es) X.env=(false,eval e X.env) :: starEach es X.env:=by rfl) (fu:(backTo pos (starEach es X.env)).any (·.1)=false:=by rfl) :
  PE X (.Call (.Name x p) (e :: es) [] pos) (k7 sp [] E0 t):=by
 obtain⟨f,fd,F,hm,Eh,hb⟩:=h.ex
 exact SE F hr hk hg hm Eh hb ha iR he fu
theorem NA {X:Cx} {k k':Nat}{x:Str}{ps:List Str}{sp:Sp}{p pos:Pos}{e:Expr}{es:List Expr}{t:TA} (h:Gb X.prog X.w X.K X.mg X.base k x ps sp) (hr:gI k' X.A) (hk:k<=k') (hg:Gl X x) (ha:QA X (e :: es) t) (iR:(x == ("__debug__" : Str))=false:=by decide)
  (he:starEach (e :: es) X.env=(false,eval e X.env) :: starEach es X.env:=by rfl) (fu:(backTo pos (starEach es X.env)).any (·.1)=false:=by rfl) :
  QE X (.Call (.Name x p) (e :: es) [] pos) (k7 sp [] E0 t):=by
 delta QA QE at *
 exact Pm h hr hk hg ha iR he fu
theorem Df:bootBuiltins "ValueError" = some (.type "ValueError"):=by rfl
def eqT (xs ys:List V):Bool:=(fU (min xs.length ys.length)).all (fun j=>Av (xs.getD j .b9) (ys.getD j .b9)) && xs.length == ys.length
theorem Gw {xs:List V}{us:List Value} (r:Vals xs us) (j:Nat) (h:j < us.length):RelV (xs.getD j .b9) us[j]:=by
 have hx:j < xs.length:=by rw[r.length];exact h
 obtain⟨u,h1,h2⟩:=r.get (aF hx)
 rw[aF h]at h1
 cases h1
 rw[cG,aF hx]
 exact h2
theorem flat_getD {xs:List V} (f:xs.all mZ=true) (j:Nat) (h:j < xs.length):mZ (xs.getD j .b9)=true:=by
 rw[cG,aF h]
 exact eU.mp f _ (lA h)
def RF (x:Str):It:=⟨fun i _=>i < x.length,fun i H v H'=>H'=H∧∃ c,x.cps.toList[i]? = some c∧v = .str ⟨#[c]⟩,fun i _=>x.length<=i⟩
theorem RO {P:Program}{w:World}{K:aj}{tg:Expr} (x:Str) (t:Tok) (it:Addr):Turn P w K tg (RF x) [it] it (fun i h=>h.IsStrIter it "str_ascii_iterator" x t i) where
 mem:=by simp
 obj:=fun i h st b hb=>by
  have e:b=it:=by simpa using hb
  subst e
  obtain⟨o,e,c,d⟩:=st
  exact⟨o,e,fun v z=>by rw[d]at z;cases z⟩
 keep:=fun i h h' st k=>by
  obtain⟨o,e,c,d⟩:=st
  exact⟨o,k it (by simp) o e,c,d⟩
 item:=by
  intro X hP hw hK hc i ah s σ H E I hf st hg
  subst hP hw hK
  have hi:i < x.cps.size:=hg
  obtain⟨f0,f1,f2,f3,f4,f5⟩:=hf it (by simp)
  refine wpAny_pyNext_ascii_item st (c:=x.cps[i]) (by simp[hi]) fun h' oU sb => ?_
  have I1:Inv X ah σ H { s with heap:=h',toks:=s.toks+1 }:=I.turned (t':=s.toks+1) (fun b o hb e=>(sb.2 b hb).trans e) f0 f1 f3 f4 f5
  obtain⟨o,e,c,d⟩:=id oU
  exact⟨_,rfl,HW (s := { s with heap:=h',toks:=s.toks+1 }) e c d (by decide) ⟨.str ⟨#[x.cps[i]]⟩,H,I1,⟨_,rfl⟩,⟨rfl,x.cps[i],by simp[hi],rfl⟩,oU,fun b hb=>(hf b hb).1⟩⟩
 done:=by
   intro X hP hw hK hc i ah s σ H E I hf st hg
   subst hP hw hK
   have hi:x.cps.size<=i:=hg
   obtain⟨f0,f1,f2,f3,f4,f5⟩:=hf it (by simp)
   exact wpAny_pyNext_ascii_end (I.ok.hd hc) st (by simp[hi]) fun h' eb=>⟨rfl,I.turned (t':=s.toks) (fun b o hb e=>eb b o hb e) f0 f1 f3 f4 f5⟩
 self:=fun _ _ _ _ _ st h=>wpAny_pyIter_striter_ascii st h
def ZS (tl:TE):TI:=fun σ H R=>tl σ H fun x H1=>∃ z:Str,x = .str z∧z.cps.all (· < 128)=true∧R (RF z) H1
theorem YT {X:Cx}{tg l:Expr}{tl:TE} (hl:PE X l tl):PI X tg l (ZS tl):=by
 intro ah s σ H R I h
 refine cz (hl ah s σ H _ I h) fun v s1 ⟨x,H1,I1,r1,q1⟩ => ?_
 obtain⟨z,e,ha,q⟩:=q1
 subst e
 obtain⟨tk,rfl⟩:=r1
 refine wpAny_pyIter_ascii ha ?_
 refine⟨s1.heap.objs.size, [s1.heap.objs.size],_,_,H1,rfl,I1.kept (t':=s1.toks) fun b o e=>aN _ e,RO z tk _,⟨_,bW _ rfl,rfl,rfl⟩,fun b hb => ?_,q⟩
 have e:b=s1.heap.objs.size:=by simpa using hb
 subst e
 exact I1.As (aB _) (I1.br.fresh (aB _))
theorem LZ {X:Cx}{tg l:Expr}{tl:TE} (hl:QE X l tl):QI X tg l (ZS tl):=by
 delta QE QI at *
 exact YT hl
theorem MA {z:Str}{g:TG}{tb:TS}{D:Ends}{σ : St}{H:Hp} (Pv:Nat->St->Hp->Prop) (h0:Pv 0 σ H)
  (hs:∀ i c σ H,z.cps.toList[i]? = some c->Pv i σ H->g (.str ⟨#[c]⟩) σ H fun lC H2=>tb { D with nx:=Pv (i+1),ct:=Pv (i+1),bk:=D.nx } lC H2) (hd:∀ σ H,Pv z.length σ H->D.nx σ H) :
  ∃ W:Nat->Nat->St->Hp->Prop,(∃ m,W 0 m σ H)∧∀ i m σ H,W i m σ H ->
   ((RF z).stop i H∧D.nx σ H)∨((RF z).go i H∧∃ N:St->Hp->Prop,(∀ bC H',N bC H'->∃ m',m' < m∧W (i+1) m' bC H')∧∀ x H',(RF z).BX i H x H'->g x σ H' fun lC H2=>tb { D with nx:=N,ct:=N,bk:=D.nx } lC H2):=by
 refine⟨fun i m σ H=>m=z.length - i∧i<=z.length∧Pv i σ H,⟨z.length,by simp,bA _,h0⟩,?_⟩
 rintro i m σ H ⟨rfl,hi,p⟩
 by_cases e9:i < z.length
 ·refine .inr ⟨e9,Pv (i+1),fun bC H' p'=>⟨z.length - (i+1),by omega,rfl,e9,p'⟩,fun x H' y => ?_⟩
  obtain⟨e,c,hc,rfl⟩:=y
  subst e
  exact hs i c σ _ hc p
 ·have e:i=z.length:=by omega
  subst e
  exact .inl ⟨aB _,hd σ H p⟩
section
variable {X:Cx}
inductive Co (xs:List V) (H:Hp) (Q:VK):Prop
 | mk:∀ b,(xs = [.bl b])->(Q (.int (if b then 1 else 0)) H)->Co xs H Q
theorem QY:jA X (.type "int") (fun xs H Q=>Co xs H Q):=by
 intro ah s σ H xs us Q I r h
 obtain⟨b,rfl,q⟩:=h
 obtain⟨u,rfl,rx⟩:=Vals.one r
 cases (show u=iM b from rx)
 exact call_int_bool ⟨.int _,H,I.tok _,⟨_,rfl⟩,q⟩
def ad0 (K:aj):R2:=fun x y H Q=>∃ a b xs ys,x = .ref a∧y = .ref b∧aU K H a xs∧aU K H b ys∧xs.all mZ=true∧ys.all mZ=true∧Q (.bl (!eqT xs ys)) H
theorem Y8 (hu:X.A.units < cLine):iw X (compareOp .NotEq) (ad0 X.K):=by
 intro ah s σ H x y v u Q I rx ry h
 obtain⟨a,b,xs,ys,rfl,rfl,ha,hb,fx,fy,q⟩:=h
 cases (show v=bf a from rx)
 cases (show u=bf b from ry)
 obtain⟨its,r1,t1,_⟩:=I.tuple ha
 obtain⟨JL,r2,t2,_⟩:=I.tuple hb
 have e1:=r1.length
 have e2:=r2.length
 refine zc (e:=fun j=>Av (xs.getD j .b9) (ys.getD j .b9)) (items:=its.toArray) (items2:=JL.toArray) t1 t2 hu (fun j h1 h2 => ?_) _ _ _ _ ?_
 ·have En:j < its.length:=by simpa using h1
  have Em:j < JL.length:=by simpa using h2
  have z1:=Gw r1 j En
  have z2:=Gw r2 j Em
  have z:=QD (A:=X.A.in1) (s:=s) z1 z2 (flat_getD fx j (by omega)) (flat_getD fy j (by omega))
  simpa using z
 ·refine⟨.bl (!eqT xs ys),H,I,?_,q⟩
  show iM _=iM _
  unfold eqT
  simp only[bo,e1,e2]
end
theorem QQ {K:aj}{a:Addr}{xs ys:List V}{te:TE}{σ : St}{caps:List (Str × Nat)}{H:Hp}{Q:VK} (hS:aU K H a xs) (hz:xs.length<=1000) (hy:ys.length=xs.length)
  (wO:∀ (i:Nat) (x y:V),xs[i]? = some x->ys[i]? = some y->∀ H',aT H H'->∀ Q':VK,(∀ dF,aT H' dF->Q' y dF)->te (some x :: jD σ caps) H' Q') (hq:∀ D H',H D=none->aT H H'->H' D=some (.lst ys)->Q (.ref D) H') :
  yJ (M6 K a) (bc 0) te (dM 1 none ++ jD σ caps) H Q:=by
 intro D hD
 refine⟨fun i m τ zs H'=>m=xs.length - i∧i<=xs.length∧(∃ o, τ = o :: jD σ caps)∧zs=ys.take i∧aT H H'∧H' D=some (.lst zs),⟨xs.length,by simp,bA _,⟨none,rfl⟩,by simp,aD hD _,av⟩,?_⟩
 rintro i m τ zs H' ⟨rfl,hi,⟨o,rfl⟩,rfl,sm,jB⟩
 refine⟨jB,?_⟩
 by_cases e9:i < xs.length
 ·refine .inr ⟨⟨xs,xs[i],sm.tup hS,by simp[e9]⟩,?_,fun x dF y => ?_⟩
  ·rw[eA]
   exact gP (by omega)
  obtain⟨e,y⟩:=y
  subst e
  have hx:=y xs (sm.tup hS)
  have hyi:ys[i]? = some ys[i]:=aF (by omega)
  show te (some x :: jD σ caps) _ _
  refine wO i x ys[i] hx hyi _ sm _ (fun H2 s2 => ?_)
  refine⟨s2 _ _ jB,xs.length - (i+1),by omega,rfl,e9,⟨_,rfl⟩,?_,(sm.trans s2).put hD,?_⟩
  ·rw[fX,hyi];rfl
  ·rw[av]
 ·have e:i=xs.length:=by omega
  subst e
  refine .inl ⟨⟨xs,sm.tup hS,aB _⟩,?_⟩
  rw[<- hy,fj]at jB
  exact hq D H' hD sm jB
inductive Ew:List Expr->List Str->Prop where
 | nil:Ew [] []
 | cons {x:Str}{j:Nat}{p:Pos}{es:List Expr}{L:List Str} (h:Ew es L):Ew (.Constant (.str x) j p :: es) (x :: L)
def Ni (L:List Str):TA:=fun _ H Q=>Q (L.map V.str) H
theorem Xb {X:Cx}{es:List Expr}{L:List Str} (h:Ew es L):PA X es (Ni L):=by
 induction h with
 | nil=>exact Pp
 | cons h ih=>exact L5 Ph ih
inductive D where
 | b9 | int (i:Int) | str (x:Str) | tup (ds:List D) | lst (ds:List D)
instance:DecidableEq D:=fun _ _=>Classical.propDecidable _
mutual
def D.deep:D->Nat
 | .tup ds=>D.jx ds+1
 | .lst ds=>D.jx ds+1
 | .b9=>0
 | .int _=>0
 | .str _=>0
def D.jx:List D->Nat
 | []=>0
 | d :: ds=>max d.deep (D.jx ds)
end
theorem yq:∀ {ds:List D}{d:D},d∈ds->d.deep<=D.jx ds
 | e :: ds,d,h=>by
  rw[D.jx]
  rcases aK.mp h with rfl | h
  ·omega
  ·have:=yq h;omega
mutual
def cy (h:Heap):D->Value->Prop
 | .b9,u=>u=ef
 | .int i,u=>(∃ t,u=kY i t)∨∃ b,u=iM b∧i=(if b then 1 else 0)
 | .str x,u=>∃ t,u=rk x t
 | .tup ds,u=>∃ a us,u=bf a∧h.IsTuple a us.toArray∧iN h ds us
 | .lst ds,u=>∃ a us,u=bf a∧h.IsList a us.toArray∧iN h ds us
def iN (h:Heap):List D->List Value->Prop
 | [],us=>us = []
 | d :: ds,us=>∃ u i8,us=u :: i8∧cy h d u∧iN h ds i8
end
mutual
def Den (H:Hp):D->V->Prop
 | .b9,v=>v = .b9
 | .int i,v=>v = .int i∨∃ b,v = .bl b∧i=(if b then 1 else 0)
 | .str x,v=>v = .str x
 | .tup ds,v=>∃ a vs,v = .ref a∧H a=some (.tup vs)∧kg H ds vs
 | .lst ds,v=>∃ a vs,v = .ref a∧H a=some (.lst vs)∧kg H ds vs
def kg (H:Hp):List D->List V->Prop
 | [],vs=>vs = []
 | d :: ds,vs=>∃ v zp,vs=v :: zp∧Den H d v∧kg H ds zp
end
theorem gS {h:Heap}:∀ {ds:List D}{us:List Value},iN h ds us->us.length=ds.length
 | [],us,r=>by rw[iN]at r;subst r;rfl
 | d :: ds,us,r=>by
  rw[iN]at r
  obtain⟨u,i8,rfl,_,r⟩:=r
  rw[bg,bg,gS r]
theorem oj {h:Heap}:∀ {ds:List D}{us:List Value}{j:Nat}{d:D},iN h ds us->ds[j]? = some d->∃ u,us[j]? = some u∧cy h d u
 | [],us,j,d,r,e=>by simp at e
 | c :: ds,us,0,d,r,e=>by
  rw[iN]at r
  obtain⟨u,i8,rfl,r1,_⟩:=r
  simp at e;subst e
  exact⟨u,rfl,r1⟩
 | c :: ds,us,j+1,d,r,e=>by
  rw[iN]at r
  obtain⟨u,i8,rfl,_,r⟩:=r
  obtain⟨u',e',r'⟩:=oj (j:=j) (d:=d) r (by simpa using e)
  exact⟨u',by simpa using e',r'⟩
mutual
theorem wV {P:Program}{w:World}{H:Hp}{h:Heap} (ok:gh P w H h):∀ {d:D}{v:V}{u:Value},Den H d v->RelV v u->cy h d u
 | .b9,v,u,r,q=>by rw[Den]at r;subst r;rw[cy];exact q
 | .int i,v,u,r,q=>by
  rw[Den]at r
  rw[cy]
  rcases r with rfl | ⟨b,rfl,e⟩
  ·exact .inl q
  ·exact .inr ⟨b,q,e⟩
 | .str x,v,u,r,q=>by rw[Den]at r;subst r;rw[cy];exact q
 | .tup ds,v,u,r,q=>by
  rw[Den]at r
  obtain⟨a,vs,rfl,e,r⟩:=r
  rw[cy]
  obtain⟨_,its,rv,p⟩:=(show dD P w H h a (.tup vs) from ok a _ e)
  exact⟨a,its,q,p.tup,C8 ok r rv⟩
 | .lst ds,v,u,r,q=>by
  rw[Den]at r
  obtain⟨a,vs,rfl,e,r⟩:=r
  rw[cy]
  obtain⟨_,its,n,rv,p⟩:=(show dD P w H h a (.lst vs) from ok a _ e)
  exact⟨a,its,q,⟨_,p,rfl,n,rfl⟩,C8 ok r rv⟩
theorem C8 {P:Program}{w:World}{H:Hp}{h:Heap} (ok:gh P w H h):∀ {ds:List D}{vs:List V}{us:List Value},kg H ds vs->Vals vs us->iN h ds us
 | [],vs,us,r,q=>by rw[kg]at r;subst r;cases q;rw[iN]
 | d :: ds,vs,us,r,q=>by
  rw[kg]at r
  obtain⟨v,zp,rfl,r1,r⟩:=r
  cases q with
  | cons q1 q2 =>
   rw[iN]
   exact⟨_,_,rfl,wV ok r1 q1,C8 ok r q2⟩
end
theorem Wh {h:Heap}{a:Addr}{x y:Array Value} (p:h.IsTuple a x) (q:h.IsTuple a y):x=y:=by
 obtain⟨o,e,_,n,d⟩:=p
 obtain⟨o',e',_,n',d'⟩:=q
 rw[e]at e';cases e'
 rw[d]at d'
 injection d'
theorem Xz {h:Heap}{a:Addr}{x y:Array Value} (p:h.IsList a x) (q:h.IsList a y):x=y:=by
 obtain⟨o,e,_,n,d⟩:=p
 obtain⟨o',e',_,n',d'⟩:=q
 rw[e]at e';cases e'
 rw[d]at d'
 injection d'
theorem Mb {h:Heap}{a:Addr}{x y:Array Value} (p:h.IsList a x) (q:h.IsTuple a y):False:=by
 obtain⟨o,e,c,n,d⟩:=p
 obtain⟨o',e',c',n',d'⟩:=q
 rw[e]at e';cases e'
 rw[c]at c'
 exact absurd (m7 c') (by decide)
mutual
theorem C9 {h:Heap}:∀ {d e:D}{u:Value},cy h d u->cy h e u->d=e
 | .b9,e,u,r,q=>by
  rw[cy]at r;subst r
  cases e with
  | b9=>rfl
  | int i=>rw[cy]at q;rcases q with⟨t,z⟩ | ⟨b,z,_⟩ <;> cases z
  | str x=>rw[cy]at q;obtain⟨t,z⟩:=q;cases z
  | tup es=>rw[cy]at q;obtain⟨a,us,z,_⟩:=q;cases z
  | lst es=>rw[cy]at q;obtain⟨a,us,z,_⟩:=q;cases z
 | .int i,e,u,r,q=>by
  rw[cy]at r
  cases e with
  | b9=>rw[cy]at q;subst q;rcases r with⟨t,z⟩ | ⟨b,z,_⟩ <;> cases z
  | int j =>
   rw[cy]at q
   rcases r with⟨t,rfl⟩ | ⟨b,rfl,hb⟩ <;> rcases q with⟨t',z⟩ | ⟨b',z,oG⟩ <;> cases z
   ·rfl
   ·rw[hb,oG]
  | str x=>rw[cy]at q;obtain⟨t,rfl⟩:=q;rcases r with⟨t,z⟩ | ⟨b,z,_⟩ <;> cases z
  | tup es=>rw[cy]at q;obtain⟨a,us,rfl,_⟩:=q;rcases r with⟨t,z⟩ | ⟨b,z,_⟩ <;> cases z
  | lst es=>rw[cy]at q;obtain⟨a,us,rfl,_⟩:=q;rcases r with⟨t,z⟩ | ⟨b,z,_⟩ <;> cases z
 | .str x,e,u,r,q=>by
  rw[cy]at r
  obtain⟨t,rfl⟩:=r
  cases e with
  | b9=>rw[cy]at q;cases q
  | int i=>rw[cy]at q;rcases q with⟨t,z⟩ | ⟨b,z,_⟩ <;> cases z
  | str x=>rw[cy]at q;obtain⟨t,z⟩:=q;cases z;rfl
  | tup es=>rw[cy]at q;obtain⟨a,us,z,_⟩:=q;cases z
  | lst es=>rw[cy]at q;obtain⟨a,us,z,_⟩:=q;cases z
 | .tup ds,e,u,r,q=>by
  rw[cy]at r
  obtain⟨a,us,rfl,p,r⟩:=r
  cases e with
  | b9=>rw[cy]at q;cases q
  | int i=>rw[cy]at q;rcases q with⟨t,z⟩ | ⟨b,z,_⟩ <;> cases z
  | str x=>rw[cy]at q;obtain⟨t,z⟩:=q;cases z
  | tup es =>
   rw[cy]at q;obtain⟨a',i8,z,p',q⟩:=q;cases z
   have e:us=i8:=by have:=Wh p p';simpa using this
   subst e
   rw[Aw r q]
  | lst es=>rw[cy]at q;obtain⟨a',i8,z,p',_⟩:=q;cases z;exact absurd p (fun p=>Mb p' p)
 | .lst ds,e,u,r,q=>by
  rw[cy]at r
  obtain⟨a,us,rfl,p,r⟩:=r
  cases e with
  | b9=>rw[cy]at q;cases q
  | int i=>rw[cy]at q;rcases q with⟨t,z⟩ | ⟨b,z,_⟩ <;> cases z
  | str x=>rw[cy]at q;obtain⟨t,z⟩:=q;cases z
  | tup es=>rw[cy]at q;obtain⟨a',i8,z,p',_⟩:=q;cases z;exact absurd p (fun p=>Mb p p')
  | lst es =>
   rw[cy]at q;obtain⟨a',i8,z,p',q⟩:=q;cases z
   have e:us=i8:=by have:=Xz p p';simpa using this
   subst e
   rw[Aw r q]
theorem Aw {h:Heap}:∀ {ds es:List D}{us:List Value},iN h ds us->iN h es us->ds=es
 | [],es,us,r,q=>by
  rw[iN]at r;subst r
  cases es with
  | nil=>rfl
  | cons e es=>rw[iN]at q;obtain⟨u,i8,z,_⟩:=q;cases z
 | d :: ds,es,us,r,q=>by
  rw[iN]at r
  obtain⟨u,i8,rfl,r1,r⟩:=r
  cases es with
  | nil=>rw[iN]at q;cases q
  | cons e es =>
   rw[iN]at q;obtain⟨u',ahC,z,q1,q⟩:=q
   cases z
   rw[C9 r1 q1,Aw r q]
end
theorem Dd {p:Prop} [Decidable p] {b:Bool} (h:p↔b=true):b=decide p:=by
 cases b with
 | true=>exact(decide_eq_true (h.mpr rfl)).symm
 | false=>exact(decide_eq_false fun z=>bM (h.mp z)).symm
theorem Ku (ds es:List D):((fU (min ds.length es.length)).all (fun j=>decide (ds[j]? = es[j]?)) && ds.length == es.length)=decide (ds=es):=by
 refine Dd ⟨fun h=>by subst h;simp,fun h => ?_⟩
 rw[eC,eU]at h
 have hl:ds.length=es.length:=eq_of_beq h.2
 refine List.ext_getElem? fun j => ?_
 by_cases hj:j < ds.length
 ·exact of_decide_eq_true (h.1 j (qE.mpr (by omega)))
 ·rw[kS (by omega),kS (by omega)]
theorem ML (ds es:List D) (hl:ds.length=es.length):(fU ds.length).all (fun j=>decide (ds[j]? = es[j]?))=decide (ds=es):=by
 have:=Ku ds es
 rw[<- hl,Nat.min_self]at this
 simpa using this
section
open SeqAt
variable {A:Around}{s:Shared}
theorem bO {u v:Value}{b c:Bool} (h:EqAt A s u v b) (e:b=c):EqAt A s u v c:=e ▸ h
theorem aa0:∀ (n:Nat) {d e:D}{A:Around}{u v:Value},d.deep<=n->cy s.heap d u->cy s.heap e v->A.units+n < cLine->EqAt A s u v (decide (d=e)):=by
 intro n
 induction n with
 | zero => ?_
 | succ n ih => ?_
 all_goals intro d e A u v hn r q hu
 all_goals have lF:A.units < cLine:=by omega
 all_goals cases d with
  | b9 =>
   rw[cy]at r;subst r
   cases e with
   | b9=>rw[cy]at q;subst q;exact bO (Hr _) (decide_eq_true rfl).symm
   | int j =>
    rw[cy]at q
    rcases q with⟨t,rfl⟩ | ⟨b,rfl,_⟩
    ·exact bO (EqAt.none_int j t) (decide_eq_false (fun z=>nomatch z)).symm
    ·exact bO (EqAt.none_bool b) (decide_eq_false (fun z=>nomatch z)).symm
   | str y=>rw[cy]at q;obtain⟨t,rfl⟩:=q;exact bO (EqAt.none_str y t) (decide_eq_false (fun z=>nomatch z)).symm
   | tup es=>rw[cy]at q;obtain⟨a,us,rfl,p,_⟩:=q;exact bO (EqAt.none_tuple p lF) (decide_eq_false (fun z=>nomatch z)).symm
   | lst es=>rw[cy]at q;obtain⟨a,us,rfl,p,_⟩:=q;exact bO (EqAt.none_list p lF) (decide_eq_false (fun z=>nomatch z)).symm
  | int i =>
   rw[cy]at r
   cases e with
   | b9 =>
    rw[cy]at q;subst q
    rcases r with⟨t,rfl⟩ | ⟨b,rfl,_⟩
    ·exact bO (EqAt.int_none i t) (decide_eq_false (fun z=>nomatch z)).symm
    ·exact bO (EqAt.bool_none b) (decide_eq_false (fun z=>nomatch z)).symm
   | int j =>
    rw[cy]at q
    have key:∀ x y:Int,(x == y)=decide (D.int x=D.int y):=fun x y=>Dd ⟨fun z=>by cases z;simp,fun z=>by rw[eq_of_beq z]⟩
    rcases r with⟨t,rfl⟩ | ⟨b,rfl,hb⟩ <;> rcases q with⟨t',rfl⟩ | ⟨b',rfl,oG⟩
    ·exact bO (EqAt.int_int i t j t') (key i j)
    ·rw[oG];exact bO (EqAt.int_bool i t b') (key _ _)
    ·rw[hb];exact bO (EqAt.bool_int b j t') (key _ _)
    ·rw[hb,oG];exact bO (EqAt.bool_bool b b') (by rw[<- key];cases b <;> cases b' <;> rfl)
   | str y =>
    rw[cy]at q;obtain⟨t,rfl⟩:=q
    rcases r with⟨t',rfl⟩ | ⟨b,rfl,_⟩
    ·exact bO (EqAt.int_str i t' y t) (decide_eq_false (fun z=>nomatch z)).symm
    ·exact bO (EqAt.bool_str b y t) (decide_eq_false (fun z=>nomatch z)).symm
   | tup es =>
    rw[cy]at q;obtain⟨a,us,rfl,p,_⟩:=q
    rcases r with⟨t',rfl⟩ | ⟨b,rfl,_⟩
    ·exact bO (EqAt.int_tuple i t' p lF) (decide_eq_false (fun z=>nomatch z)).symm
    ·exact bO (EqAt.bool_tuple b p lF) (decide_eq_false (fun z=>nomatch z)).symm
   | lst es =>
    rw[cy]at q;obtain⟨a,us,rfl,p,_⟩:=q
    rcases r with⟨t',rfl⟩ | ⟨b,rfl,_⟩
    ·exact bO (EqAt.int_list i t' p lF) (decide_eq_false (fun z=>nomatch z)).symm
    ·exact bO (EqAt.bool_list b p lF) (decide_eq_false (fun z=>nomatch z)).symm
  | str x =>
   rw[cy]at r;obtain⟨t',rfl⟩:=r
   cases e with
   | b9=>rw[cy]at q;subst q;exact bO (EqAt.str_none x t') (decide_eq_false (fun z=>nomatch z)).symm
   | int j =>
    rw[cy]at q
    rcases q with⟨t,rfl⟩ | ⟨b,rfl,_⟩
    ·exact bO (EqAt.str_int x t' j t) (decide_eq_false (fun z=>nomatch z)).symm
    ·exact bO (EqAt.str_bool x t' b) (decide_eq_false (fun z=>nomatch z)).symm
   | str y =>
    rw[cy]at q;obtain⟨t,rfl⟩:=q
    exact bO (EqAt.str_str x t' y t) (Dd ⟨fun z=>by cases z;simp,fun z=>by rw[eq_of_beq z]⟩)
   | tup es=>rw[cy]at q;obtain⟨a,us,rfl,p,_⟩:=q;exact bO (EqAt.str_tuple x t' p lF) (decide_eq_false (fun z=>nomatch z)).symm
   | lst es=>rw[cy]at q;obtain⟨a,us,rfl,p,_⟩:=q;exact bO (EqAt.str_list x t' p lF) (decide_eq_false (fun z=>nomatch z)).symm
  | tup ds => ?_
  | lst ds => ?_
 ·rw[D.deep]at hn;omega
 ·rw[D.deep]at hn;omega
 ·rw[D.deep]at hn
  have r0:=r
  rw[cy]at r
  obtain⟨a,us,rfl,p,r⟩:=r
  cases e with
  | b9=>rw[cy]at q;subst q;exact bO (EqAt.tuple_none p lF) (decide_eq_false (fun z=>nomatch z)).symm
  | int j =>
   rw[cy]at q
   rcases q with⟨t,rfl⟩ | ⟨b,rfl,_⟩
   ·exact bO (EqAt.tuple_int j t p lF) (decide_eq_false (fun z=>nomatch z)).symm
   ·exact bO (EqAt.tuple_bool b p lF) (decide_eq_false (fun z=>nomatch z)).symm
  | str y=>rw[cy]at q;obtain⟨t,rfl⟩:=q;exact bO (EqAt.tuple_str y t p lF) (decide_eq_false (fun z=>nomatch z)).symm
  | tup es =>
   have q0:=q
   rw[cy]at q
   obtain⟨b,i8,rfl,p',q⟩:=q
   by_cases Ms:a=b
   ·subst Ms
    rw[C9 r0 q0]
    exact bO (Hr _) (decide_eq_true rfl).symm
   ·refine bO (Bd Ms (RcAt.tuples (e:=fun j=>decide (ds[j]? = es[j]?)) p p' lF fun j h1 h2 => ?_)) ?_
    ·have l1:=gS r
     have l2:=gS q
     have En:j < us.length:=by simpa using h1
     have Em:j < i8.length:=by simpa using h2
     have e1:=aF (l:=ds) (i:=j) (by omega)
     have e2:=aF (l:=es) (i:=j) (by omega)
     obtain⟨u,f1,g1⟩:=oj r e1
     obtain⟨v,f2,g2⟩:=oj q e2
     have z1:us.toArray[j]=u:=by rw[aF En]at f1;simpa using f1
     have z2:i8.toArray[j]=v:=by rw[aF Em]at f2;simpa using f2
     rw[z1,z2]
     have:=ih (d:=ds[j]) (e:=es[j]) (A:=A.in1) (by have:=yq (lA (l:=ds) (n:=j) (by omega));omega) g1 g2 (by show A.units+1+n < cLine;omega)
     refine bO this ?_
     rw[e1,e2]
     exact decide_eq_decide.mpr ⟨fun z=>by rw[z],fun z=>bD z⟩
    ·have:=Ku ds es
     simp only[bo,gS r,gS q]
     rw[this]
     exact decide_eq_decide.mpr ⟨fun z=>by rw[z],fun z=>by injection z⟩
  | lst es=>rw[cy]at q;obtain⟨b,i8,rfl,p',_⟩:=q;exact bO (EqAt.tuple_list p p' lF) (decide_eq_false (fun z=>nomatch z)).symm
 ·rw[D.deep]at hn
  have r0:=r
  rw[cy]at r
  obtain⟨a,us,rfl,p,r⟩:=r
  cases e with
  | b9=>rw[cy]at q;subst q;exact bO (EqAt.list_none p lF) (decide_eq_false (fun z=>nomatch z)).symm
  | int j =>
   rw[cy]at q
   rcases q with⟨t,rfl⟩ | ⟨b,rfl,_⟩
   ·exact bO (EqAt.list_int j t p lF) (decide_eq_false (fun z=>nomatch z)).symm
   ·exact bO (EqAt.list_bool b p lF) (decide_eq_false (fun z=>nomatch z)).symm
  | str y=>rw[cy]at q;obtain⟨t,rfl⟩:=q;exact bO (EqAt.list_str y t p lF) (decide_eq_false (fun z=>nomatch z)).symm
  | tup es=>rw[cy]at q;obtain⟨b,i8,rfl,p',_⟩:=q;exact bO (EqAt.list_tuple p p' lF) (decide_eq_false (fun z=>nomatch z)).symm
  | lst es =>
   have q0:=q
   rw[cy]at q
   obtain⟨b,i8,rfl,p',q⟩:=q
   have l1:=gS r
   have l2:=gS q
   by_cases Ms:a=b
   ·subst Ms
    rw[C9 r0 q0]
    exact bO (Hr _) (decide_eq_true rfl).symm
   by_cases hl:ds.length=es.length
   ·refine bO (Bd Ms (RcAt.lists (e:=fun j=>decide (ds[j]? = es[j]?)) p p' (by simp only[bo];omega) lF fun j h1 h2 => ?_)) ?_
    ·have En:j < us.length:=by simpa using h1
     have Em:j < i8.length:=by simpa using h2
     have e1:=aF (l:=ds) (i:=j) (by omega)
     have e2:=aF (l:=es) (i:=j) (by omega)
     obtain⟨u,f1,g1⟩:=oj r e1
     obtain⟨v,f2,g2⟩:=oj q e2
     have z1:us.toArray[j]=u:=by rw[aF En]at f1;simpa using f1
     have z2:i8.toArray[j]=v:=by rw[aF Em]at f2;simpa using f2
     rw[z1,z2]
     have:=ih (d:=ds[j]) (e:=es[j]) (A:=A.in1) (by have:=yq (lA (l:=ds) (n:=j) (by omega));omega) g1 g2 (by show A.units+1+n < cLine;omega)
     refine bO this ?_
     rw[e1,e2]
     exact decide_eq_decide.mpr ⟨fun z=>by rw[z],fun z=>bD z⟩
    ·have:=ML ds es hl
     simp only[bo,l1]
     rw[this]
     exact decide_eq_decide.mpr ⟨fun z=>by rw[z],fun z=>by injection z⟩
   ·refine bO (Bd Ms (RcAt.lists_lengths p p' (by simp only[bo];simp;omega) lF)) ?_
    exact(decide_eq_false (fun z=>hl (by injection z with z;rw[z]))).symm
end
section
variable {X:Cx}
inductive Rx (x:V) (y:V) (H:Hp) (Q:VK):Prop
 | mk:∀ ds es,(((Den H (.tup ds) x∧Den H (.tup es) y)∨(Den H (.lst ds) x∧Den H (.lst es) y)))->(D.jx ds<=150)->(Q (.bl (!decide (ds=es))) H)->Rx x y H Q
def ad1:R2:=fun x y H Q=>Rx x y H Q
theorem Er {A:Around}{s:Shared}{ds es:List D}{us i8:List Value} (hu:A.units+151 < cLine) (hd:D.jx ds<=150) (r:iN s.heap ds us) (q:iN s.heap es i8) (j:Nat) (h1:j < us.toArray.size) (h2:j < i8.toArray.size) :
  dZ A.in1 s us.toArray[j] i8.toArray[j] (decide (ds[j]? = es[j]?)):=by
 have l1:=gS r
 have l2:=gS q
 have En:j < us.length:=by simpa using h1
 have Em:j < i8.length:=by simpa using h2
 have e1:=aF (l:=ds) (i:=j) (by omega)
 have e2:=aF (l:=es) (i:=j) (by omega)
 obtain⟨u,f1,g1⟩:=oj r e1
 obtain⟨v,f2,g2⟩:=oj q e2
 have z1:us.toArray[j]=u:=by rw[aF En]at f1;simpa using f1
 have z2:i8.toArray[j]=v:=by rw[aF Em]at f2;simpa using f2
 rw[z1,z2]
 refine bO (aa0 150 (by have:=yq (lA (l:=ds) (n:=j) (by omega));omega) g1 g2 (by show A.units+1+150 < cLine;omega)) ?_
 rw[e1,e2]
 exact decide_eq_decide.mpr ⟨fun z=>by rw[z],fun z=>bD z⟩
theorem Pr (hu:X.A.units+151 < cLine):iw X (compareOp .NotEq) ad1:=by
 intro ah s σ H x y v u Q I rx ry h
 obtain⟨ds,es,hh,hd,q⟩:=h
 have lF:X.A.units < cLine:=by omega
 rcases hh with⟨h1,h2⟩ | ⟨h1,h2⟩
 ·have g1:=wV I.br h1 rx
  have g2:=wV I.br h2 ry
  rw[cy]at g1 g2
  obtain⟨a,us,rfl,p,r⟩:=g1
  obtain⟨b,i8,rfl,p',r'⟩:=g2
  refine zc (e:=fun j=>decide (ds[j]? = es[j]?)) p p' lF (Er hu hd r r') _ _ _ _ ?_
  refine⟨.bl (!decide (ds=es)),H,I,?_,q⟩
  have:=Ku ds es
  simp only[bo,gS r,gS r']
  rw[this]
  rfl
 ·have g1:=wV I.br h1 rx
  have g2:=wV I.br h2 ry
  rw[cy]at g1 g2
  obtain⟨a,us,rfl,p,r⟩:=g1
  obtain⟨b,i8,rfl,p',r'⟩:=g2
  have l1:=gS r
  have l2:=gS r'
  by_cases hl:ds.length=es.length
  ·refine uw.lists (e:=fun j=>decide (ds[j]? = es[j]?)) p p' (by simp only[bo];omega) lF (Er hu hd r r') _ _ _ _ ?_
   refine⟨.bl (!decide (ds=es)),H,I,?_,q⟩
   have:=ML ds es hl
   simp only[bo,l1]
   rw[this]
   rfl
  ·refine uw.lists_lengths p p' (by simp only[bo];simp;omega) lF _ _ _ _ ⟨.bl (!decide (ds=es)),H,I,?_,q⟩
   rw[decide_eq_false (fun z=>hl (by rw[z]))]
   rfl
end
section
variable {κ : Type} [DecidableEq κ]
def nY (kvs:List (κ × V)) (k : κ):Option V:=(kvs.find? fun kv=>decide (kv.1=k)).map (·.2)
def qk (kvs:List (κ × V)) (k : κ) (v:V):List (κ × V) :=
 if (kvs.any fun kv=>decide (kv.1=k))=true then kvs.map (fun kv=>if kv.1=k then (kv.1,v) else kv) else kvs ++ [(k,v)]
theorem xt {p : κ × V}{r:List (κ × V)}{k : κ} (e:p.1=k):nY (p :: r) k=some p.2:=by simp[nY,jY,e]
theorem sQ {p : κ × V}{r:List (κ × V)}{k : κ} (e:¬ p.1=k):nY (p :: r) k=nY r k:=by simp[nY,jY,e]
theorem Ie (k : κ):∀ kvs:List (κ × V),(kvs.any fun kv=>decide (kv.1=k))=(nY kvs k).isSome
 | []=>rfl
 | p :: r=>by
  rw[jK]
  by_cases e:p.1=k
  ·simp only[xt e,decide_eq_true e,Bool.true_or,Option.isSome_some]
  ·rw[sQ e,decide_eq_false e,Bool.false_or];exact Ie k r
theorem B5 (kvs:List (κ × V)) (k : κ) (v:V):(qk kvs k v).length<=kvs.length+1:=by
 unfold qk
 split
 ·rw[aA];omega
 ·rw[aM,bg,vp];omega
theorem ny.Aa {o:Option V}{u:Option Value} (r:ny o u):o.isSome=u.isSome:=by
 cases o with
 | none=>cases u with
  | none=>rfl
  | some _=>exact(show False from r).elim
 | some _=>cases u with
  | none=>exact(show False from r).elim
  | some _=>rfl
theorem KV.val {kvs:List (κ × V)}{vs:List (κ × Value)} (r:KV kvs vs) (k : κ):ny (nY kvs k) (valueAt vs k):=by
 unfold KV at r
 induction r with
 | nil=>exact ie
 | @cons p q ps qs h t ih =>
  obtain⟨h1,h2⟩:=h
  by_cases e:p.1=k
  ·have e':q.1=k:=h1.symm.trans e
   have b:valueAt (q :: qs) k=some q.2:=by simp[valueAt,jY,e']
   rw[xt e,b];exact h2
  ·have e':¬ q.1=k:=fun z=>e (h1.trans z)
   have b:valueAt (q :: qs) k=valueAt qs k:=by simp[valueAt,jY,e']
   rw[sQ e,b];exact ih
theorem KV.any {kvs:List (κ × V)}{vs:List (κ × Value)} (r:KV kvs vs) (k : κ):(kvs.any fun kv=>decide (kv.1=k))=vs.any fun kv=>decide (kv.1=k):=by
 unfold KV at r
 induction r with
 | nil=>rfl
 | cons h t ih=>rw[jK,jK,ih,h.1]
theorem KV.R8 {kvs:List (κ × V)}{vs:List (κ × Value)} (r:KV kvs vs) (k : κ) {y:V}{u:Value} (ry:RelV y u) :
  KV (kvs.map fun kv=>if kv.1=k then (kv.1,y) else kv) (vs.map fun kv=>if kv.1=k then (kv.1,u) else kv):=by
 unfold KV at r ⊢
 induction r with
 | nil=>exact .nil
 | @cons p q ps qs h t ih =>
  rw[b0,b0]
  refine .cons ?_ ih
  obtain⟨h1,h2⟩:=h
  by_cases e:p.1=k
  ·rw[if_pos e,if_pos (h1.symm.trans e)];exact⟨h1,ry⟩
  ·rw[if_neg e,if_neg (fun z=>e (h1.trans z))];exact⟨h1,h2⟩
theorem KV.put {kvs:List (κ × V)}{vs:List (κ × Value)} (r:KV kvs vs) (k : κ) {y:V}{u:Value} (ry:RelV y u):KV (qk kvs k y) (stored vs k u):=by
 unfold qk stored
 rw[r.any k]
 by_cases e:(vs.any fun kv=>decide (kv.1=k))=true
 ·rw[if_pos e,if_pos e];exact r.R8 k ry
 ·rw[if_neg e,if_neg e];exact ke r ⟨rfl,ry⟩
theorem KV.keys {kvs:List (κ × V)}{vs:List (κ × Value)} (r:KV kvs vs):kvs.map (·.1)=vs.map (·.1):=by
 unfold KV at r
 induction r with
 | nil=>rfl
 | cons h t ih=>rw[b0,b0,ih,h.1]
theorem KV.length {kvs:List (κ × V)}{vs:List (κ × Value)} (r:KV kvs vs):kvs.length=vs.length:=dw r
end
theorem NN {P:Program}{w:World}{k:Key}{u:Value} (r:RelV (kV k) u):(iB P w).is k u=true:=by
 cases k with
 | inl i=>obtain⟨t,e⟩:=(show ∃ t,u=kY i t from r);subst e;exact Lk P w i t
 | inr x=>obtain⟨t,e⟩:=(show ∃ t,u=rk x t from r);subst e;exact Lj P w x t
theorem GR {P:Program}{w:World}:∀ {ks:List Key}{us:List Value},Vals (ks.map kV) us->ItemsAre (iB P w) ks us
 | [],_,r=>by rw[mG]at r;cases r;exact .nil
 | k :: ks,_,r=>by
  rw[b0]at r
  cases r with
  | cons h t=>exact .cons (NN h) (GR t)
abbrev KT (H:Hp):List (List Key × V)->List (List Key × Addr × Value)->Prop:=Paired fun p q=>p.1=q.1∧H q.2.1=some (.tup (p.1.map kV))∧RelV p.2 q.2.2
theorem KT.val {H:Hp}{kvs:List (List Key × V)}{xs:List (List Key × Addr × Value)} (r:KT H kvs xs) (k:List Key):ny (nY kvs k) ((atKey xs k).map (·.2)):=by
 induction r with
 | nil=>exact ie
 | @cons p q ps qs h t ih =>
  obtain⟨h1,_,h2⟩:=h
  by_cases e:p.1=k
  ·have e':q.1=k:=h1.symm.trans e
   have b:atKey (q :: qs) k=some q.2:=by simp[atKey,jY,e']
   rw[xt e,b];exact h2
  ·have e':¬ q.1=k:=fun z=>e (h1.trans z)
   have b:atKey (q :: qs) k=atKey qs k:=by simp[atKey,jY,e']
   rw[sQ e,b];exact ih
theorem KT.R8 {H:Hp}{kvs:List (List Key × V)}{xs:List (List Key × Addr × Value)} (r:KT H kvs xs) (k:List Key) {y:V}{u:Value} (ry:RelV y u) :
  KT H (kvs.map fun kv=>if kv.1=k then (kv.1,y) else kv) (xs.map (putAt k u)):=by
 induction r with
 | nil=>exact .nil
 | @cons p q ps qs h t ih =>
  rw[b0,b0]
  refine .cons ?_ ih
  obtain⟨h1,h2,h3⟩:=h
  unfold putAt
  by_cases e:p.1=k
  ·rw[if_pos e,if_pos (h1.symm.trans e)];exact⟨h1,h2,ry⟩
  ·rw[if_neg e,if_neg (fun z=>e (h1.trans z))];exact⟨h1,h2,h3⟩
theorem KT.put {H:Hp}{kvs:List (List Key × V)}{xs:List (List Key × Addr × Value)} (r:KT H kvs xs) (k:List Key) {b:Addr}{y:V}{u:Value} (hb:H b=some (.tup (k.map kV))) (ry:RelV y u) :
  KT H (qk kvs k y) (storedH xs k b u):=by
 have e:(kvs.any fun kv=>decide (kv.1=k))=(atKey xs k).isSome:=by
  rw[Ie,(r.val k).Aa,BP]
 unfold qk storedH
 rw[e]
 by_cases q:(atKey xs k).isSome=true
 ·rw[if_pos q,if_pos q];exact r.R8 k ry
 ·rw[if_neg q,if_neg q];exact ke r ⟨rfl,hb,ry⟩
theorem KT.keeps {H H':Hp}{kvs:List (List Key × V)}{xs:List (List Key × Addr × Value)} (r:KT H kvs xs) (ht:∀ b ys,H b=some (.tup ys)->H' b=some (.tup ys)):KT H' kvs xs :=
 Paired.j7 r fun _ _ z=>⟨z.1,ht _ _ z.2.1,z.2.2⟩
section
variable {P:Program}{w:World}{H:Hp}{h:Heap}{a:Addr}
theorem UX {u:HO} (ok:gh P w H h) (e:Rd H a u):dD P w H h a u:=e.ok ok
theorem N8 {kvs:List (Key × V)} (ok:gh P w H h) (e:Rd H a (.dK kvs)):kvs.length<=sizeLine∧(a == sysModules)=false∧∃ vs,KV kvs vs∧h.DictOf (iB P w) a vs :=
 show dD P w H h a (.dK kvs) from UX ok e
theorem acn {kvs:List (Key × V)} (ok:gh P w H h) (e:H a=some (.dK kvs)):kvs.length<=sizeLine∧(a == sysModules)=false∧∃ vs,KV kvs vs∧h.DictOf (iB P w) a vs:=N8 ok (.inl e)
theorem JJ {ks:List Key} (ok:gh P w H h) (e:H a=some (.tup (ks.map kV))):(tupleKind (iB P w)).is h ks a:=by
 obtain⟨_,its,r,o,h1,h2,n,h3,_⟩:=(show dD P w H h a (.tup (ks.map kV)) from ok a _ e)
 exact⟨o,its.toArray,n,h1,h2,h3,by simpa using GR r⟩
theorem VO {kvs:List (List Key × V)} (ok:gh P w H h) (e:Rd H a (.dT kvs)):kvs.length<=sizeLine∧(a == sysModules)=false ∧
  ∃ xs,KT H kvs xs∧h.DictOfH (tupleKind (iB P w)) a xs:=by
 obtain⟨z,y,xs,r,o,es,ep,h1,h2,h3,h4,h5⟩:=(show dD P w H h a (.dT kvs) from UX ok e)
 refine⟨z,y,xs,r,o,es,ep,h1,h2,h3,h4,fun x hx => ?_,h5⟩
 have all:∀ {l:List (List Key × V)}{m:List (List Key × Addr × Value)},KT H l m->∀ x∈m,(tupleKind (iB P w)).is h x.1 x.2.1:=by
  intro l m q
  induction q with
  | nil=>intro x hx;exact nomatch hx
  | @cons p q ps qs hq t ih =>
   intro x hx
   rcases aK.mp hx with e | hx
   ·subst e
    exact JJ ok (by rw[<- hq.1];exact hq.2.1)
   ·exact ih x hx
 exact all r x hx
theorem acm {kvs:List (List Key × V)} (ok:gh P w H h) (e:H a=some (.dT kvs)):kvs.length<=sizeLine∧(a == sysModules)=false ∧
  ∃ xs,KT H kvs xs∧h.DictOfH (tupleKind (iB P w)) a xs:=VO ok (.inl e)
end
def Gp (H:Hp) (a:Addr) (y:V) (r:Option V):Prop :=
 (∃ kvs k,Rd H a (.dK kvs)∧y=kV k∧r=nY kvs k)∨∃ kvs k b,Rd H a (.dT kvs)∧y = .ref b∧H b=some (.tup (k.map kV))∧r=nY kvs k
def Gn (H:Hp) (a:Addr) (y v:V) (H':Hp):Prop :=
 (∃ kvs k,H a=some (.dK kvs)∧y=kV k∧kvs.length < sizeLine∧H'=aO H a (.dK (qk kvs k v))) ∨
 ∃ kvs k b,H a=some (.dT kvs)∧y = .ref b∧H b=some (.tup (k.map kV))∧kvs.length < sizeLine∧H'=aO H a (.dT (qk kvs k v))
theorem Gp.k {H:Hp}{a:Addr}{kvs:List (Key × V)}{k:Key} (e:H a=some (.dK kvs)):Gp H a (kV k) (nY kvs k) := .inl ⟨kvs,k,.inl e,rfl,rfl⟩
theorem Gn.k {H:Hp}{a:Addr}{kvs:List (Key × V)}{k:Key}{v:V} (e:H a=some (.dK kvs)) (hl:kvs.length < sizeLine):Gn H a (kV k) v (aO H a (.dK (qk kvs k v))) := .inl ⟨kvs,k,e,rfl,hl,rfl⟩
section
variable {X:Cx}{ah:List (Addr × Obj)}{σ : St}{H:Hp}{s:Shared}{a:Addr}{y v:V}{u r:Value}{o:Option V}{A:Around}{E:Value->Shared->Prop}
theorem Inv.big (I:Inv X ah σ H s):sysModules < s.heap.objs.size:=by
 have h:mainGlobals < s.heap.objs.size:=(I.mod.glob.keeps I.bk).lt
 exact Nat.lt_trans (by decide) h
theorem ae3 {Q:Value->Shared->Prop} (hu:A.units+1 < cLine) (I:Inv X ah σ H s) (g:Gp H a y o) (ry:RelV y u) (h:∀ s',Inv X ah σ H s'->Q (.bool o.isSome) s') :
  wpAny (model X.prog X.w) A (compareOp .In u (.ref a)) Q E s:=by
 rcases g with⟨kvs,k,e,ey,l⟩ | ⟨kvs,k,b,e,ey,eb,l⟩
 ·subst ey
  obtain⟨z,hd,vs,u4,dd⟩:=N8 I.br e
  refine wpAny_in_of (NN ry) hd dd.mapOf ?_
  rw[<- (u4.val k).Aa, <- l]
  exact h _ (I.tok _)
 ·subst ey
  cases (show u=bf b from ry)
  obtain⟨z,hd,xs,u4,dd⟩:=VO I.br e
  refine wpAny_in_heap (tupleKind_room_in1 hu) (JJ I.br eb) hd dd ?_
  have q:=(u4.val k).Aa
  rw[BP]at q
  rw[<- q, <- l]
  exact h _ (I.tok _)
theorem MF {h':Heap} {t':Nat}{ob:HO} (I:Inv X ah σ H s) (mu:Ro (H a)) (hs:uE a s.heap h') (he:∃ q,h'.get? a=some q) (new:dD X.prog X.w (aO H a ob) h' a ob) :
  Inv X ah σ (aO H a ob) { s with heap:=h',toks:=t' } :=
 I.write (x:=a) (e:=a) mu (.inl rfl) (fun b q hb z=>(hs.2 b hb).trans z) he new
theorem aa4 {P:Program}{w:World} {H':Hp} {h':Heap}{kvs:List (Key × V)}{vs:List (Key × Value)} (z:kvs.length<=sizeLine) (hd:(a == sysModules)=false) (u4:KV kvs vs) (dd:h'.DictOf (iB P w) a vs) :
  dD P w H' h' a (.dK kvs):=⟨z,hd,vs,u4,dd⟩
theorem QO {H':Hp}{Q:Unit->Shared->Prop} (hu:A.units+1 < cLine) (I:Inv X ah σ H s) (g:Gn H a y v H') (ry:RelV y u) (rv:RelV v r) (h:∀ s',Inv X ah σ H' s'->Q () s') :
  wpAny (model X.prog X.w) A (setItem (.ref a) u r) Q E s:=by
 rcases g with⟨kvs,k,e,ey,l,eH⟩ | ⟨kvs,k,b,e,ey,eb,l,eH⟩
 ·subst ey eH
  obtain⟨z,hd,vs,u4,dd⟩:=acn I.br e
  have hz:vs.length<=sizeLine:=by rw[<- u4.length];exact z
  have hl:(qk kvs k v).length<=sizeLine:=by have:=B5 kvs k v;omega
  refine wpAny_setItem_pairs (hsz:=hz) (NN ry) dd fun h' QN hs=>h _ ?_
  have he:∃ q,h'.get? a=some q:=let ⟨q,_,_,hq,_⟩:=QN; ⟨q,hq⟩
  exact MF I (by rw[e];exact ie) hs he (aa4 hl hd (u4.put k rv) QN)
 ·subst ey eH
  cases (show u=bf b from ry)
  obtain⟨z,hd,xs,u4,dd⟩:=acm I.br e
  have hz:xs.length<=sizeLine:=by rw[<- dw u4];exact z
  have hl:(qk kvs k v).length<=sizeLine:=by have:=B5 kvs k v;omega
  refine wpAny_setItem_heap (hsz:=hz) (tupleKind_room_in1 hu) (JJ I.br eb) dd fun h' QN hs=>h _ ?_
  obtain⟨q,es,ep,hq,h2,h3,h4,_,h5⟩:=QN
  refine MF I (by rw[e];exact ie) hs ⟨q,hq⟩ ⟨hl,hd,_,(u4.put k eb rv).keeps fun c ys ec => ?_,q,es,ep,hq,h2,h3,h4,h5⟩
  rw[bh (u5 ec e (fun z=>nomatch z))]
  exact ec
end
section
variable {X:Cx}{ah:List (Addr × Obj)}{σ : St}{H:Hp}{s:Shared}{a:Addr}{kvs:List (Key × V)}{k:Key}{u:Value}{A:Around}{E:Value->Shared->Prop}
end
inductive Rq (Q:VK) (y:V) (x:V) (H2:Hp):Prop
 | mk:∀ a o,(x = .ref a)->(Gp H2 a y o)->(Q (.bl o.isSome) H2)->Rq Q y x H2
def Ym (ty td:TE):TE:=fun σ H Q=>ty σ H fun y H1=>td σ H1 fun x H2=>Rq Q y x H2
inductive M0 (D:Ends) (σ : St) (v:V) (x:V) (y:V) (H3:Hp):Prop
 | mk:∀ a H4,(x = .ref a)->(Gn H3 a y v H4)->(D.nx σ H4)->M0 D σ v x y H3
def UT (td ty tv:TE):TS:=fun D σ H=>tv σ H fun v H1=>td σ H1 fun x H2=>ty σ H2 fun y H3=>M0 D σ v x y H3
section
variable {X:Cx}{o i e value:Expr}{pos eu RQ:Pos}{td ty tv:TE}
theorem Y5 (hu:X.A.units+1 < cLine) (hi:PE X i ty) (ho:PE X o td):PC X .In i o (Ym ty td):=by
 intro ah s σ H Q I h
 refine cz (hi ah s σ H _ I h) fun iv s1 ⟨y,H1,I1,ry,q1⟩=>cz (ho ah s1 σ H1 _ I1 q1) fun u s2 ⟨x,H2,I2,rx,a,ov,ex,g,q2⟩ => ?_
 subst ex
 obtain rfl:u=bf a:=rx
 exact ae3 hu I2 g ry fun s3 I3=>⟨.bl ov.isSome,H2,I3,rfl,q2⟩
theorem W9 (hu:X.A.units+1 < cLine) (hi:QE X i ty) (ho:QE X o td):QC X .In i o (Ym ty td):=by
 delta QC QE at *
 exact Y5 hu hi ho
theorem WR (hu:X.A.units+1 < cLine) (ho:PE X o td) (hi:PE X i ty) (hv:PE X value tv) (hs:swapsWith value (some (.Subscript o i eu)) pos.line X.env=pure false) :
  PS X (.Assign [.Subscript o i eu] value pos) (UT td ty tv):=by
 intro ah s σ H D I h
 refine wpAny_Assign_Subscript (cz (hv ah s σ H _ I h) fun r s1 ⟨v,H1,I1,rv,q1⟩=>cz (ho ah s1 σ H1 _ I1 q1) fun u s2 ⟨x,H2,I2,rx,q2⟩=>cz (hi ah s2 σ H2 _ I2 q2) fun iv s3 ⟨y,H3,I3,ry,a,H4,ex,g,q3⟩ => ?_) hs
 subst ex
 obtain rfl:u=bf a:=rx
 exact QO hu I3 g ry rv fun s4 I4=>⟨σ,H4,I4,q3⟩
theorem Jh (hu:X.A.units+1 < cLine) (ho:QE X o td) (hi:QE X i ty) (hv:QE X value tv) (hs:swapsWith value (some (.Subscript o i eu)) pos.line X.env=pure false) :
  QS X (.Assign [.Subscript o i eu] value pos) (UT td ty tv):=by
 delta QE QS at *
 exact WR hu ho hi hv hs
end
theorem TR {P:Program}{w:World}{H:Hp} (h:Heap) (hb:sysModules < h.objs.size):dD P w H (h.push { cls := .type "dict",data := .dict #[] }) h.objs.size (.dK []) :=
 ⟨bA _,beq_eq_false_iff_ne.mpr (cK (b7 hb)), [],.nil,Heap.DictOf.new h⟩
def OM:TE:=fun _ H Q=>∀ p,H p=none->Q (.ref p) (aO H p (.dK []))
section
variable {X:Cx}{pos:Pos}
theorem SA:PE X (.Dict [] [] pos) OM:=fun ah s σ H Q I h =>
 wpAny_Dict_empty ⟨.ref s.heap.objs.size,_,I.laid (a:=s.heap.objs.size) (o := .dK []) (t':=s.toks) (fun _ _ q=>aN _ q) (aB _) (TR s.heap I.big),rfl,h _ (I.br.fresh (aB _))⟩
theorem GK:QE X (.Dict [] [] pos) OM:=by
 delta QE at *
 exact SA 
end
section
variable {X:Cx}{ah:List (Addr × Obj)}{σ : St}{H:Hp}{s:Shared}{a:Addr}{y d:V}{u r:Value}{o:Option V}{A:Around}{E:Value->Shared->Prop}
end
section
variable {X:Cx}{o e f:Expr}{fS dJ:Pos}{td ty tx:TE}
end
section
variable {X:Cx}{ah:List (Addr × Obj)}{σ : St}{H:Hp}{s:Shared}{a:Addr}{kvs:List (Key × V)}{A:Around}{E:Value->Shared->Prop}
end
section
variable {X:Cx}{ah:List (Addr × Obj)}{σ : St}{H:Hp}{s:Shared}{a:Addr}{y:V}{u:Value}{A:Around}{E:Value->Shared->Prop}
end
section
variable (P:Program) (w:World)
end
section
variable {P:Program}{w:World} {h h':Heap}
end
section
variable {P:Program}{w:World}{A:Around}{E:Value->Shared->Prop}{s:Shared}
end
section
variable {prog:Program}{w:World}{K:Type} [DecidableEq K] {knd:HeapKind prog w K}{A:Around}{E:Value->Shared->Prop}{s:Shared}{d a:Addr}{k:K}{xs:List (K × Addr × Value)}
end
section
variable {prog:Program}{w:World}{K:Type} [DecidableEq K] (knd:HeapKind prog w K) (d a:Addr)
end
section
variable {X:Cx}{scope:Scope}{own:List Str}{caps:List (Str × Nat)}{ah:List (Addr × Obj)}{σ : St}{H:Hp}{s:Shared}{fp:List Addr}
theorem T2 {prog:Program}{w:World}{A:Around}{R:Result->Shared->Prop}{iI ku c9 sS:Expr}{pos:Pos}{it acc:Value}{env:Env} (Iv:Nat->Shared->Prop)
  (sR:∀ n s,Iv n s->wpAny (model prog w) A (pyNext it) (fun r fg => match r with
   | none=>R (.ok .next) fg
   | some v=>wpAny (model prog w) A (letOwnedTupleGo ku it v) (fun _ lV => wpAny (model prog w) A (assign ku env v) (fun _ n5 => wpAny (model prog w) A (isTrue sS env (eval sS env)) (fun ok Nm => if ok=true then wpAny (model prog w) A (eval iI env) (fun x Iw =>
       wpAny (model prog w) A (call (.builtin "list.append") [acc,x]) (fun _ Iu => ∃ m,m < n∧Iv m Iu) (fun _ _=>False) Iw) (fun _ _=>False) Nm else ∃ m,m < n∧Iv m Nm) (fun _ _=>False) n5) (fun _ _=>False) lV) (fun _ _=>False) fg) (fun _ _=>False) s)
  (n:Nat) (h:Iv n s):codeAny (model prog w) A (.compLoop (.ListComp iI [⟨ku,c9, [sS],0⟩] scope pos) 0 it acc env) R s:=by
 refine codeAny_loop rfl Iv (fun n s hI => ?_) n h
 show wpAny _ A ((compTurn (.ListComp iI [⟨ku,c9, [sS],0⟩] scope pos) 0 it acc env).onRaise (fun x=>do noteFrame x env;theTreesLotGoes x)) _ _ s
 refine wpAny_noted ?_
 rw[compTurn_list]
 refine wpAny_bind (wpAny_standAt (wpAny_bind (wpAny_mono (sR n s hI) (fun r fg oh => ?_) fun _ _ z=>z.elim)))
 cases r with
 | none=>exact wpAny_pure oh
 | some v =>
  refine wpAny_bind (wpAny_mono oh (fun _ lV xZ => wpAny_bind (wpAny_mono xZ (fun _ n5 Tu => wpAny_bind (wpAny_tests_one (wpAny_mono Tu (fun ok Nm Ac => ?_) fun _ _ z=>z.elim))) fun _ _ z=>z.elim)) fun _ _ z=>z.elim)
  cases ok with
  | true =>
   have NR:=(if_pos rfl:(if true=true then _ else _)=_) ▸ Ac
   exact wpAny_bind (wpAny_bind (wpAny_mono NR (fun x Iw xY => wpAny_bind (wpAny_mono xY (fun _ Iu iD => wpAny_pure (wpAny_pure ⟨rfl,iD⟩)) fun _ _ z=>z.elim)) fun _ _ z=>z.elim))
  | false =>
   have NR:∃ m,m < n∧Iv m Nm := Ac
   exact wpAny_bind (wpAny_pure (wpAny_pure ⟨rfl,NR⟩))
def Ht (J:It) (g:TG) (ct:TT) (te:TE) (X0:St) (H1:Hp) (Q:VK):Prop := ∀ D,H1 D=none->∃ W:Nat->Nat->St->List V->Hp->Prop,
 (∃ m,W 0 m X0 [] (aO H1 D (.lst []))) ∧
 ∀ i m τ ys H,W i m τ ys H->H D=some (.lst ys)∧((J.stop i H∧Q (.ref D) H)∨(J.go i H∧ys.length < sizeLine∧∀ x H',J.BX i H x H'->g x τ H' fun Ia H2=>ct Ia H2 fun b H4=>if b=true then te Ia H4 fun y H3 =>
  H3 D=some (.lst ys)∧∃ m',m' < m∧W (i+1) m' Ia (ys ++ [y]) (aO H3 D (.lst (ys ++ [y]))) else ∃ m',m' < m∧W (i+1) m' Ia ys H4))
def Ir (wi:TI) (g:TG) (ct:TT) (te:TE) (k:Nat) (caps:List (Str × Nat)):TE:=fun σ H Q=>wi σ H fun J H1=>Ht J g ct te (dM k none ++ jD σ caps) H1 Q
theorem Oa {tg iI c9 sS:Expr}{wi:TI}{g:TG}{ct:TT}{te:TE}{pos p2:Pos}{use:Option (Value->Sem Unit)}{Q:VK} {Q':Value->Shared->Prop} (S:iX X scope own caps) (hi:PI X tg c9 wi) (hc:X.calm=true)
  (hg:∀ fp s H,PG (dQ X scope (own ++ caps.map (·.1)) fp s H) tg g) (JW:∀ fp s H,PT (dQ X scope (own ++ caps.map (·.1)) fp s H) sS ct) (he:∀ fp s H,PE (dQ X scope (own ++ caps.map (·.1)) fp s H) iI te)
  (I:Inv X ah σ H s) (h:Ir wi g ct te own.length caps σ H Q)
  (eZ:∀ D C H5 s5,Inv X ah σ H5 s5->Q (.ref D) H5->(∃ m,s5.heap.Ns C m)->H5 C=none->C≠X.env.locals->X.ky.heap.objs.size<=C->(∀ x c,X.env.cells.lookup x=some c->c≠C)->(∀ p∈X.pn ++ ah,p.1≠C) ->
   compPost (model X.prog X.w) X.A X.xe use Q' (.ref D) C (.ok .next) s5)
  (hs:∀ x,foldedSetIterable c9 X.env x=pure x:=by intro _;rfl) :
  wpAny (model X.prog X.w) X.A (comprehension (.ListComp iI [⟨tg,c9, [sS],0⟩] scope pos) scope X.env p2 (newList []) false (eval c9 X.env) use) Q' X.xe s:=by
 have NZ:closureFor scope X.env=pure (iV X.env.cells scope.names []):=AB fun y hy hk=>I.ok.has y.1 (.inl (S.frees y hy hk))
 refine wpAny_comprehension_free (g:=⟨tg,c9, [sS],0⟩) (gs := []) rfl hs NZ S.kind S.locs (cz (hi ah s σ H _ I h) fun v s1 h1=>cz h1 fun Va s2 h2 => ?_)
 obtain⟨it,fp,tn,J,H2,e,I2,T,IC,f2,R⟩:=h2
 subst e
 refine wpAny_newObj_type (wpAny_newFunctionEnv S.D3 (by intro y hy;simp at hy) (fun oh JQ JM => ?_) S.kind)
 have Mz:H2 s2.heap.objs.size=none:=I2.br.fresh (aB _)
 obtain⟨W,⟨m0,w0⟩,sR⟩:=R s2.heap.objs.size Mz
 have I3:Inv X ah σ (aO H2 s2.heap.objs.size (.lst [])) { s2 with heap:=s2.heap.push { cls := .type "list",dict:=none,data := .seq ([]:List Value).toArray } }:=I2.Ti (its := []) (t':=s2.toks) .nil (bA _)
 have PQ:∀ b∈fp,b < s2.heap.objs.size:=fun b hb=>by
  obtain⟨o,ho,_⟩:=T.obj _ _ IC b hb
  exact bq ho
 have f3:∀ b∈fp,pN X ah (aO H2 s2.heap.objs.size (.lst [])) b:=fun b hb=>⟨by rw[bh (b7 (PQ b hb))];exact(f2 b hb).1,(f2 b hb).2⟩
 generalize Ad:({ s2 with heap:=s2.heap.push { cls := .type "list",dict:=none,data := .seq ([]:List Value).toArray } }:Shared)=s3 at I3
 have ZT:s3.heap.objs.size=s2.heap.objs.size+1:=by rw[<- Ad];exact kT _ _
 have Tp:∀ b o,s2.heap.get? b=some o->s3.heap.get? b=some o:=fun b o e=>by rw[<- Ad];exact aN _ e
 have PN:∀ b∈fp,b < s3.heap.objs.size:=fun b hb=>by rw[ZT];exact BR (PQ b hb)
 have FF:oh.Ns s3.heap.objs.size (fun x=>([]:List (Str × Value)).reverse.lookup x):=by rw[<- Ad];exact JQ
 have JH:∀ b o,s3.heap.get? b=some o->oh.get? b=some o:=fun b o e=>by
  have hb:b≠s3.heap.objs.size:=b7 (bq e)
  rw[<- Ad]at e hb
  exact JM.extBut b o hb (aN _ e)
 have J1:=Es S I3 f3 PN (t:=s2.toks+([]:List (Str × Value)).length) FF JH
 have OO:tn 0 oh := T.keep _ _ _ IC fun b hb o e=>JH b o (Tp b o e)
 -- Ls loop
 have loop:∀ n5 : Shared,n5 = { s3 with heap:=oh,toks:=s2.toks+([]:List (Str × Value)).length } ->
   codeAny (model X.prog X.w) X.A (.compLoop (.ListComp iI [⟨tg,c9, [sS],0⟩] scope pos) 0 (.ref it) (.ref s2.heap.objs.size) (dQ X scope (own ++ caps.map (·.1)) fp s3 (aO H2 s2.heap.objs.size (.lst []))).env)
    (compPost (model X.prog X.w) X.A X.xe use Q' (.ref s2.heap.objs.size) s3.heap.objs.size) n5 := by
  rintro n5 rfl
  refine T2 (fun n s'=>∃ i τ ys H',Inv (dQ X scope (own ++ caps.map (·.1)) fp s3 (aO H2 s2.heap.objs.size (.lst []))) [] τ H' s'∧tn i s'.heap∧(∀ b∈fp,H' b=none)∧W i n τ ys H') ?_ m0
   ⟨0,_, [],_,J1,OO,fun b hb=>(f3 b hb).1,w0⟩
  rintro n s' ⟨i, τ,ys,H',J',oU,Qt,w'⟩
  have fY:∀ {dF:Hp},(∀ b∈fp,dF b=none)->∀ b∈fp,pN (dQ X scope (own ++ caps.map (·.1)) fp s3 (aO H2 s2.heap.objs.size (.lst []))) [] dF b:=fun hn b hb =>
   ⟨hn b hb,b7 (PN b hb),fun z=>by
     rcases aK.mp (I3.zx b z) with e | e
     ·exact(f3 b hb).2.1 e
     ·exact(f3 b hb).2.2.1 e,.inl hb,fun x c e=>(f3 b hb).2.2.2.2.1 x c (jT e),(fun p hp=>by cases hp)⟩
  obtain⟨hD,tt⟩:=sR i n τ ys H' w'
  rcases tt with⟨stop,qn⟩ | ⟨go,dX,step⟩
  ·refine cz (T.done (dQ X scope (own ++ caps.map (·.1)) fp s3 (aO H2 s2.heap.objs.size (.lst []))) rfl rfl rfl hc i [] s' τ H' (fun _ _=>False) J' (fY Qt) oU stop) fun r s4 ⟨hr,J4⟩ => ?_
   subst hr
   obtain⟨m4,hn4,_⟩:=J4.loc
   have I5:=Ha I3 J4 f3
   refine eZ _ _ _ s4 I5 qn ⟨m4,hn4⟩ J4.free ?_ ?_ (fun x c e z => ?_) fun p hp z => ?_
   ·exact kR I3.lt
   ·exact I3.sz
   ·obtain⟨v,q⟩:=I3.cell x c e
    rw[z]at q
    exact absurd q.lt (fB _)
   ·have q:=(I3.pin p hp).1
    rw[z]at q
    exact absurd (bq q) (fB _)
  ·refine cz (T.item (dQ X scope (own ++ caps.map (·.1)) fp s3 (aO H2 s2.heap.objs.size (.lst []))) rfl rfl rfl hc i [] s' τ H' (fun _ _=>False) J' (fY Qt) oU go) fun r s4 ⟨u,hr,h4⟩ => ?_
   subst hr
   refine cz h4 fun _ s5 ⟨x,H5,J5,r5,y5,zy,Qs⟩ => ?_
   have J5':=J5.pinned (fY Qs) (T.obj _ _ zy)
   have D7:∀ {we:St}{H8:Hp}{s8:Shared},Inv (dQ X scope (own ++ caps.map (·.1)) fp s3 (aO H2 s2.heap.objs.size (.lst []))) ([] ++ zN fp s5.heap) we H8 s8->tn (i+1) s8.heap∧∀ b∈fp,H8 b=none:=fun {we H8 s8} J8=>by
    refine⟨T.keep _ _ _ zy fun b hb o e=>(J8.pin (b,o) (cg _ (cg _ (mT hb e)))).1,fun b hb => ?_⟩
    obtain⟨o,e,d⟩:=T.obj _ _ zy b hb
    exact(J8.pin (b,o) (cg _ (cg _ (mT hb e)))).2.1
   refine cz (hg fp s3 _ _ s5 τ H5 x u _ J5' r5 (step x H5 y5)) fun _ s6 ⟨we,H6,J6,q6⟩ => ?_
   refine cz (JW fp s3 _ _ s6 we H6 _ J6 q6) fun ok s9 ⟨H9,J9,q9⟩ => ?_
   cases ok with
   | false =>
    obtain⟨m',Qd,w9⟩:=(show ∃ m',m' < n∧W (i+1) m' we ys H9 from q9)
    exact⟨m',Qd,i+1, we,ys,_,J9.pZ,(D7 J9).1,(D7 J9).2,w9⟩
   | true =>
    refine cz (he fp s3 _ _ s9 we H9 _ J9 q9) fun yv s7 ⟨y,H7,J7,r7,hD7,m',Qd,w7⟩ => ?_
    refine cz (gQ (X:=dQ X scope (own ++ caps.map (·.1)) fp s3 (aO H2 s2.heap.objs.size (.lst []))) _ s7 we H7 (.ref s2.heap.objs.size) [y] _ [yv] (fun _ H8=>H8=aO H7 s2.heap.objs.size (.lst (ys ++ [y]))) J7 rfl (.cons r7 .nil) ⟨_,ys,y,rfl,rfl,hD7,dX,rfl⟩) fun _ s8 ⟨_,H8,J8,_,e8⟩ => ?_
    subst e8
    exact⟨m',Qd,i+1, we,ys ++ [y],_,J8.pZ,(D7 J8).1,(D7 J8).2,w7⟩
 have Eg:=loop _ rfl
 subst Ad
 exact codeAny_compStart_list Eg (T.self _ 0 _ _ _ OO Eg)
theorem SD {tg iI c9 sS:Expr}{wi:TI}{g:TG}{ct:TT}{te:TE}{pos:Pos} (S:iX X scope own caps) (hi:PI X tg c9 wi) (hc:X.calm=true)
  (hg:∀ fp s H,PG (dQ X scope (own ++ caps.map (·.1)) fp s H) tg g) (JW:∀ fp s H,PT (dQ X scope (own ++ caps.map (·.1)) fp s H) sS ct) (he:∀ fp s H,PE (dQ X scope (own ++ caps.map (·.1)) fp s H) iI te)
  (hs:∀ x,foldedSetIterable c9 X.env x=pure x:=by intro _;rfl):PE X (.ListComp iI [⟨tg,c9, [sS],0⟩] scope pos) (Ir wi g ct te own.length caps):=by
 intro ah s σ H Q I h
 rw[eval_ListComp]
 refine Oa (use:=none) (Q:=Q) S hi hc hg JW he I h (fun D C H5 s5 I5 q ⟨m,hn⟩ hC hL hz mV JN => ?_) hs
 refine⟨m,hn,fun h' P9 => ?_⟩
 exact⟨.ref D,H5,I5.turned (t':=s5.toks) (fun b o hb e=>(P9.2 b hb).trans e) hC hL (.inr hz) mV JN,rfl,q⟩
theorem GL {tg iI c9 sS:Expr}{wi:TI}{g:TG}{ct:TT}{te:TE}{pos:Pos} (S:iX X scope own caps) (hi:QI X tg c9 wi) (hc:X.calm=true)
  (hg:∀ fp s H,QG (dQ X scope (own ++ caps.map (·.1)) fp s H) tg g) (JW:∀ fp s H,QT (dQ X scope (own ++ caps.map (·.1)) fp s H) sS ct) (he:∀ fp s H,QE (dQ X scope (own ++ caps.map (·.1)) fp s H) iI te)
  (hs:∀ x,foldedSetIterable c9 X.env x=pure x:=by intro _;rfl):QE X (.ListComp iI [⟨tg,c9, [sS],0⟩] scope pos) (Ir wi g ct te own.length caps):=by
 delta QE QG QI QT at *
 exact SD S hi hc hg JW he hs
end
section
variable {P:Program}{w:World}{H:Hp}{h:Heap}
end
section
variable {X:Cx}{ah:List (Addr × Obj)}{σ : St}{H:Hp}{s:Shared}{a b:Addr}{kvs aen:List (NK × V)}{k:NK}{y v:V}{u r:Value}{A:Around}{E:Value->Shared->Prop}
end
section
variable {X:Cx}{o e f:Expr}{fS dJ:Pos}{td ty tx:TE}
end
end L2
namespace Sw
section
variable {S:Type}
end
end Sw
namespace L2
open PySem PySem.Spec PyProof.Rows
section
variable {X:Cx}
end
theorem Ux {k:Nat}{A:Around} (hr:dq k A):A.units+151 < cLine:=by have:=hr.un;omega
inductive y7 (x:V) (y:V) (H:Hp) (Q:VK):Prop
 | mk:∀ z n,(x = .str z)->(y = .int n)->(0<=n)->(n<=1000)->(z.length<=1000)->(Q (.str (hV z n.toNat)) H)->y7 x y H Q
theorem B3 {X:Cx}:iw X (binaryOp .Mult) (fun x y H Q=>y7 x y H Q):=by
 intro ah s σ H x y v u Q I rx ry h
 obtain⟨z,n,rfl,rfl,h1,h2,h3,q⟩:=h
 by_cases h0:n=0
 ·subst h0
  obtain⟨t,rfl⟩:=rx
  obtain⟨t',rfl⟩:=ry
  exact PySem.P.mul_str_none (by omega) (by omega) ⟨.str (hV z 0),H,I.tok _,⟨_,rfl⟩,q⟩
 ·exact ND ah s σ H _ _ v u Q I rx ry ⟨z,n,rfl,rfl,by omega,h2,h3,q⟩
end L2
namespace Sw
open PySem L2
theorem kz {t rest:TS}{D:Ends}{σ : St}{H:Hp} (R:St->Hp->Prop) (key:∀ bC H',R bC H'->rest D bC H') (h:∀ {N:St->Hp->Prop},(∀ bC H',R bC H'->N bC H')->t { D with nx:=N } σ H):oS t rest D σ H:=h key
theorem TZ {xs:List V}{k:Nat} (h:k<=xs.length):rR xs (some (k:Int)) none=xs.drop k:=by
 unfold rR
 rw[HT.wu,HT.Cy,jW h]
 exact eS (by rw[dN];exact aB _)
theorem TY {xs:List V}{k:Nat} (h:k<=xs.length):rR xs none (some (k:Int))=xs.take k:=by
 unfold rR
 rw[HT.wu,HT.Cy,jW h,xi,AY]
theorem dY {x y:Str} (h:x.cps.toList=y.cps.toList):x=y:=by
 cases x;cases y;simp only[Str.mk.injEq];exact Dx.mp h
theorem GH (x:Str) (lo hi:Option Int):(oI x lo hi).cps.toList=(x.cps.toList.drop (HT.dG x.length 0 lo)).take (HT.dG x.length x.length hi - HT.dG x.length 0 lo):=by
 have hx:x.cps.toList.length=x.length:=by simp[sI]
 obtain⟨h1,h2,h3⟩:=zA lo hi x.length
 have ha:HT.dG x.length 0 lo<=x.length:=HT.IY _ _ (bA _) _
 have hb:HT.dG x.length x.length hi<=x.length:=HT.IY _ _ (aB _) _
 have e:rA lo hi 1 x.length=sliceRange ((HT.dG x.length 0 lo:Nat):Int) ((HT.dG x.length x.length hi:Nat):Int) 1:=by
  rw[<- h1, <- h2]
  unfold rA sliceBounds
  rfl
 have e2:((sliceRange ((HT.dG x.length 0 lo:Nat):Int) ((HT.dG x.length x.length hi:Nat):Int) 1).filterMap (x.cps[·]?))=(x.cps.toList.drop (HT.dG x.length 0 lo)).take (HT.dG x.length x.length hi - HT.dG x.length 0 lo):=by
  rw[sliceRange_one,pick_run]
 unfold oI
 rw[e]
 split
 ·rename_i hc
  have hl:(sliceRange ((HT.dG x.length 0 lo:Nat):Int) ((HT.dG x.length x.length hi:Nat):Int) 1).length=x.length:=by simpa using hc
  rw[sliceRange_one,aA,nB]at hl
  have ea:HT.dG x.length 0 lo=0∨x.length=0:=by omega
  rcases ea with ea | ea
  ·rw[ea,AY]at hl ⊢
   rw[xi,hl, <- hx,fj]
  ·have:x.cps.toList = []:=jE.mp (hx.trans ea)
   rw[this];simp
 ·show (_:List Nat).toArray.toList=_
  rw[e2]
theorem bN (x y:Str):(x ++ y).cps.toList=x.cps.toList ++ y.cps.toList:=by
 rw[Str.cps_append,zh]
theorem bK (x:Str):x.length=x.cps.toList.length:=by simp[sI]
inductive T where
 | num (n:Int)
 | name (w:Str)
 | any (w:Str)
 | of (w:Str) (ts:List T)
def dW (w:Str):Prop:=1<=w.length∧w.length<=8∧∀ c∈w.cps.toList,97<=c∧c<=122
mutual
def T.shown:T->Str
 | .num n=>aI (toString n)
 | .name w=>w
 | .any w => "?" ++ w
 | .of w ts=>w ++ "(" ++ bw ", " (T.fV ts) ++ ")"
def T.fV:List T->List Str
 | [] => []
 | t :: ts=>t.shown :: T.fV ts
end
mutual
def T.parts:T->Nat
 | .num _=>1
 | .name _=>1
 | .any _=>1
 | .of _ ts=>1+T.dO ts
def T.dO:List T->Nat
 | []=>0
 | t :: ts=>t.parts+T.dO ts
end
mutual
def T.depth:T->Nat
 | .num _=>1
 | .name _=>1
 | .any _=>1
 | .of _ ts=>1+T.gp ts
def T.gp:List T->Nat
 | []=>0
 | t :: ts=>max t.depth (T.gp ts)
end
mutual
def T.Ok:T->Prop
 | .num n => -(10 ^ 60) < n∧n < 10 ^ 60
 | .name w=>dW w
 | .any w=>dW w
 | .of w ts=>dW w∧1<=ts.length∧ts.length<=4∧T.uz ts
def T.uz:List T->Prop
 | []=>True
 | t :: ts=>t.Ok∧T.uz ts
end
theorem xA:∀ ts:List T,T.fV ts=ts.map T.shown
 | []=>rfl
 | t :: ts=>by rw[T.fV,xA ts];rfl
theorem mQ:∀ ts:List T,T.dO ts=(ts.map T.parts).sum
 | []=>rfl
 | t :: ts=>by rw[T.dO,mQ ts];rfl
theorem ql:∀ {ts:List T},T.uz ts↔∀ t∈ts,t.Ok
 | []=>by simp[T.uz]
 | t :: ts=>by
  rw[T.uz,ql (ts:=ts)]
  simp
theorem jc:∀ {ts:List T}{t:T},t∈ts->t.depth<=T.gp ts
 | t' :: ts,t,h=>by
  rw[T.gp]
  rcases aK.mp h with rfl | h
  ·exact Nat.le_max_left _ _
  ·exact a9 (jc h) (Nat.le_max_right _ _)
theorem sF:∀ {ts:List T}{M:Nat},(∀ t∈ts,t.depth<=M)->T.gp ts<=M
 | [],_,_=>bA _
 | t :: ts,M,h=>by
  rw[T.gp]
  exact Nat.max_le.mpr ⟨h t aV,sF fun t ht=>h t (aL _ ht)⟩
theorem kW:∀ t:T,1<=t.depth
 | .num _=>by rw[T.depth];exact aB _
 | .name _=>by rw[T.depth];exact aB _
 | .any _=>by rw[T.depth];exact aB _
 | .of _ ts=>by rw[T.depth];omega
theorem mS {n:Int} (h1 : -(10 ^ 60) < n) (h2:n < 10 ^ 60):(aI (toString n)).length<=61:=by
 have hn:n.natAbs < 10 ^ 60:=by omega
 have h:=int_text_length_le10 (a:=n) (k:=60) (by decide) hn
 rw[ofString_length];exact h
theorem wG {n:Int} (h1 : -(10 ^ 60) < n) (h2:n < 10 ^ 60):n.natAbs.log2 < 1920:=by
 have hn:n.natAbs < 2 ^ 200:=by
  have:(10:Nat) ^ 60<=2 ^ 200:=by decide
  have:n.natAbs < 10 ^ 60:=by omega
  omega
 by_cases h0:n.natAbs=0
 ·rw[h0];decide
 ·exact Nat.lt_trans ((Nat.log2_lt h0).mpr hn) (by decide)
mutual
theorem zC:∀ t:T,t.Ok->t.shown.length+2<=70 * t.parts
 | .num n,h=>by
  rw[T.Ok]at h
  rw[T.shown,T.parts]
  have:=mS h.1 h.2
  omega
 | .name w,h=>by
  rw[T.Ok]at h
  rw[T.shown,T.parts]
  have:=h.2.1
  omega
 | .any w,h=>by
  rw[T.Ok]at h
  rw[T.shown,T.parts,au]
  have:=h.2.1
  have:("?" : Str).length=1:=rfl
  omega
 | .of w ts,h=>by
  rw[T.Ok]at h
  rw[T.shown,T.parts,au,au,au]
  have h1:=h.1.2.1
  have h2:=xB ts h.2.2.2
  have h3:=kc ", " (T.fV ts)
  have e1:("(" : Str).length=1:=rfl
  have e2:(")" : Str).length=1:=rfl
  have e3:(", " : Str).length=2:=rfl
  rw[e3]at h3
  omega
theorem xB:∀ ts:List T,T.uz ts->((T.fV ts).map (·.length)).sum+(T.fV ts).length * 2<=70 * T.dO ts
 | [],_=>by simp[T.fV,T.dO]
 | t :: ts,h=>by
  rw[T.uz]at h
  have h1:=zC t h.1
  have h2:=xB ts h.2
  rw[T.fV,T.dO,b0,nW,bg]
  omega
end
mutual
def bJ (H:Hp):T->V->Prop
 | .num n,v=>∃ a,v = .ref a∧H a=some (.tup [.str "num",.int n])
 | .name w,v=>∃ a,v = .ref a∧H a=some (.tup [.str "name",.str w])
 | .any w,v=>∃ a,v = .ref a∧H a=some (.tup [.str "any",.str w])
 | .of w ts,v=>∃ a b vs,v = .ref a∧H a=some (.tup [.str "of",.str w,.ref b])∧H b=some (.tup vs)∧dS H ts vs
def dS (H:Hp):List T->List V->Prop
 | [],vs=>vs = []
 | t :: ts,vs=>∃ v r,vs=v :: r∧bJ H t v∧dS H ts r
end
mutual
theorem ik {H H':Hp} (k:∀ a xs,H a=some (.tup xs)->H' a=some (.tup xs)):∀ {t:T}{v:V},bJ H t v->bJ H' t v
 | .num n,v,h=>by
  rw[bJ]at h ⊢
  obtain⟨a,e,h⟩:=h
  exact⟨a,e,k _ _ h⟩
 | .name n,v,h=>by
  rw[bJ]at h ⊢
  obtain⟨a,e,h⟩:=h
  exact⟨a,e,k _ _ h⟩
 | .any n,v,h=>by
  rw[bJ]at h ⊢
  obtain⟨a,e,h⟩:=h
  exact⟨a,e,k _ _ h⟩
 | .of w ts,v,h=>by
  rw[bJ]at h ⊢
  obtain⟨a,b,vs,e,h1,h2,h3⟩:=h
  exact⟨a,b,vs,e,k _ _ h1,k _ _ h2,nZ k h3⟩
theorem nZ {H H':Hp} (k:∀ a xs,H a=some (.tup xs)->H' a=some (.tup xs)):∀ {ts:List T}{vs:List V},dS H ts vs->dS H' ts vs
 | [],vs,h=>by rw[dS]at h ⊢;exact h
 | t :: ts,vs,h=>by
  rw[dS]at h ⊢
  obtain⟨v,r,e,h1,h2⟩:=h
  exact⟨v,r,e,ik k h1,nZ k h2⟩
end
theorem bP {H H':Hp} (s:aT H H') {t:T}{v:V} (h:bJ H t v):bJ H' t v:=ik (fun a xs e=>s _ _ e) h
theorem xu {H H':Hp} (s:aT H H') {ts:List T}{vs:List V} (h:dS H ts vs):dS H' ts vs:=nZ (fun a xs e=>s _ _ e) h
def PD:HO->Prop
 | .tup _=>False
 | _=>True
theorem jt {H:Hp}{p:Addr} {o o':HO} (hp:H p=some o) (hn:PD o):∀ a xs,H a=some (.tup xs)->aO H p o' a=some (.tup xs):=fun a xs e=>by
 have:a≠p:=fun z=>by
  rw[z,hp]at e
  cases e
  exact hn
 rw[bh this];exact e
theorem sJ {H:Hp}:∀ {ts:List T}{vs:List V},dS H ts vs->ts.length=vs.length
 | [],vs,h=>by rw[dS]at h;subst h;rfl
 | t :: ts,vs,h=>by
  rw[dS]at h
  obtain⟨v,r,rfl,_,h2⟩:=h
  rw[bg,bg,sJ h2]
theorem zq {H:Hp}:∀ {ts:List T}{vs:List V}{i:Nat}{v:V},dS H ts vs->vs[i]? = some v->∃ t,ts[i]? = some t∧bJ H t v
 | [],vs,i,v,h,e=>by rw[dS]at h;subst h;simp at e
 | t :: ts,vs,i,v,h,e=>by
  rw[dS]at h
  obtain⟨v',r,rfl,h1,h2⟩:=h
  cases i with
  | zero=>simp at e;subst e;exact⟨t,rfl,h1⟩
  | succ i=>simpa using zq (i:=i) h2 (by simpa using e)
def sg (i:Int):Str:=⟨#[97+i.toNat]⟩
theorem Q5 {i:Int} (h0:0<=i) (h1:i < 26):nK ("abcdefghijklmnopqrstuvwxyz" : Str).cps.toList i=some (97+i.toNat):=by
 have e:((i.toNat:Nat):Int)=i:=by omega
 have hj:i.toNat < 26:=by omega
 rw[<- e]
 refine ax ?_
 rw[fZ]
 generalize i.toNat=j at hj
 revert j
 decide +kernel
def ja (c:Nat):Bool:=decide (97<=c∧c<=122)
def eI (c:Nat):Bool:=decide (48<=c∧c<=57)
def ia (l:List Nat):Str:=⟨l.toArray⟩
theorem kB (l:List Nat):(ia l).cps.toList=l:=rfl
theorem lM (l:List Nat):(ia l).length=l.length:=by rw[bK,kB]
def la (l:List Nat):Option (List Nat × List Nat) :=
 if l.takeWhile ja = []∨8 < (l.takeWhile ja).length then none else some (l.takeWhile ja,l.drop (l.takeWhile ja).length)
def o8 (l:List Nat):Option (Int × List Nat) :=
 let neg:=decide (l.head? = some 45)
 let l1:=if neg then l.tail else l
 let f:=l1.takeWhile eI
 if f = []∨60 < f.length then none
 else if f.head? = some 48∧¬ (neg=false∧f = [48]) then none
 else some (if neg then -((cT f:Nat):Int) else ((cT f:Nat):Int),l1.drop f.length)
def lj (tree:List Nat->Option (T × List Nat)):Nat->List Nat->Option (List T × List Nat)
 | 0,_=>none
 | n+1,44 :: 32 :: r=>match tree r with
  | some (t,r2)=>(match lj tree n r2 with
   | some (ts,r3)=>some (t :: ts,r3)
   | none=>none)
  | none=>none
 | _+1,41 :: r=>some ([],r)
 | _+1,_=>none
def nU (tree:List Nat->Option (T × List Nat)) (l:List Nat):Option (List T × List Nat):=match tree l with
 | some (t,r)=>(match lj tree (r.length+1) r with
  | some (ts,r2)=>if 4 < ts.length+1 then none else some (t :: ts,r2)
  | none=>none)
 | none=>none
def xT (arms:List Nat->Option (List T × List Nat)) (x:List Nat):List Nat->Option (T × List Nat)
 | 40 :: l2=>(match arms l2 with
  | some (ts,l')=>some (.of (ia x) ts,l')
  | none=>none)
 | l1=>some (.name (ia x),l1)
theorem UZ {arms:List Nat->Option (List T × List Nat)}{x l2:List Nat}:xT arms x (40 :: l2)=(match arms l2 with
  | some (ts,l')=>some (.of (ia x) ts,l')
  | none=>none):=rfl
theorem LX {arms:List Nat->Option (List T × List Nat)}{x l1:List Nat} (h:l1.take 1 ≠ [40]):xT arms x l1=some (.name (ia x),l1):=by
 unfold xT
 split
 ·simp at h
 ·rfl
def fE (b:Bool):Nat->List Nat->Option (T × List Nat)
 | 0,_=>none
 | k+1,l=>match l with
  | []=>none
  | c :: r =>
   if c=45∨eI c=true then (match o8 (c :: r) with
    | some (n,l')=>some (.num n,l')
    | none=>none)
   else if c=63∧b=true then (match la r with
    | some (w,l')=>some (.any (ia w),l')
    | none=>none)
   else match la (c :: r) with
    | none=>none
    | some (w,l1)=>xT (nU (fE b k)) w l1
theorem sN {b:Bool}{k c:Nat}{r:List Nat}:fE b (k+1) (c :: r)=(if c=45∨eI c=true then (match o8 (c :: r) with
    | some (n,l')=>some (T.num n,l')
    | none=>none)
   else if c=63∧b=true then (match la r with
    | some (w,l')=>some (T.any (ia w),l')
    | none=>none)
   else match la (c :: r) with
    | none=>none
    | some (w,l1)=>xT (nU (fE b k)) w l1):=rfl
def jh (CR dx:Addr) (tx:Str) (b:Bool) (p:Nat):HO := .ins CR dx [("text",.str tx),("with_holes",.bl b),("place",.int (p:Int))]
def bU (r:Addr) (H H':Hp):Prop := ∀ a o,a≠r->H a=some o->H' a=some o
theorem bU.refl {r:Addr}{H:Hp}:bU r H H:=fun _ _ _ h=>h
theorem bU.trans {r:Addr}{H H1 H2:Hp} (x:bU r H H1) (y:bU r H1 H2):bU r H H2:=fun a o n h=>y a o n (x a o n h)
theorem bU.put {r:Addr}{H:Hp}{o:HO}:bU r H (aO H r o):=fun a u n h=>by rw[bh n];exact h
theorem bU.of {r:Addr} {H H':Hp} (s:aT H H'):bU r H H':=fun a u _ h=>s a u h
theorem bU.new {r p:Addr}{H:Hp}{o:HO} (h:H p=none):bU r H (aO H p o):=bU.of (aD h o)
theorem bU.nj {r:Addr} {H H':Hp}{o:HO} (k:bU r H H') (hr:H r=some o) (hn:PD o):∀ a xs,H a=some (.tup xs)->H' a=some (.tup xs):=fun a xs e=>k a _ (fun z=>by rw[z,hr]at e;cases e;exact hn) e
theorem uW (x:Str) {p q:Nat} (hp:p<=x.length):oI x (some (p:Int)) (some (q:Int))=ia ((x.cps.toList.drop p).take (q - p)):=by
 refine dY ?_
 rw[GH,kB,HT.wu,HT.wu,jW hp]
 have hl:x.cps.toList.length=x.length:=(bK x).symm
 by_cases h:q<=x.length
 ·rw[jW h]
 ·rw[uA (by omega),eS (by rw[dN];omega),eS (by rw[dN];omega)]
theorem OA {H:Hp}{r:Addr}{o:HO} (h:H r=some o):aO H r o=H:=by
 funext a
 by_cases e:a=r
 ·subst e;rw[av,h]
 ·rw[bh e]
theorem DB (pr:Nat->Bool):∀ l:List Nat,(l.takeWhile pr).length<=l.length
 | []=>aB _
 | c :: l=>by
  rw[gu]
  split
  ·simp only[bg];have:=DB pr l;omega
  ·simp
theorem Uy (pr:Nat->Bool):∀ (l:List Nat) (j:Nat),j < (l.takeWhile pr).length->∃ c,l[j]? = some c∧pr c=true
 | [],j,h=>by simp at h
 | c :: l,j,h=>by
  rw[gu]at h
  split at h
  ·rename_i hc
   cases j with
   | zero=>exact⟨c,rfl,hc⟩
   | succ j=>exact Uy pr l j (by simpa using h)
  ·simp at h
theorem OE (pr:Nat->Bool):∀ (l:List Nat),(l.takeWhile pr).length < l.length->∃ c,l[(l.takeWhile pr).length]? = some c∧pr c=false
 | [],h=>by simp at h
 | c :: l,h=>by
  rw[gu]at h ⊢
  by_cases hc:pr c=true
  ·rw[if_pos hc]at h ⊢
   exact OE pr l (by simpa using h)
  ·rw[if_neg hc]at h ⊢
   exact⟨c,rfl,by simpa using hc⟩
theorem wg (pr:Nat->Bool):∀ l:List Nat,l.take (l.takeWhile pr).length=l.takeWhile pr
 | []=>rfl
 | c :: l=>by
  rw[gu]
  split
  ·rw[bg,List.take_succ_cons,wg pr l]
  ·rfl
theorem Tj (c:Nat):decide (c∈("abcdefghijklmnopqrstuvwxyz" : Str).cps.toList)=ja c:=by
 by_cases h:c < 128
 ·revert h
  revert c
  decide +kernel
 ·have h1:ja c=false:=by unfold ja;exact decide_eq_false (by omega)
  rw[h1]
  refine decide_eq_false fun hm=>h ?_
  have:∀ d∈("abcdefghijklmnopqrstuvwxyz" : Str).cps.toList,d < 128:=by decide +kernel
  exact this c hm
theorem C6 (c:Nat):decide (c∈("0123456789" : Str).cps.toList)=eI c:=by
 by_cases h:c < 128
 ·revert h
  revert c
  decide +kernel
 ·have h1:eI c=false:=by unfold eI;exact decide_eq_false (by omega)
  rw[h1]
  refine decide_eq_false fun hm=>h ?_
  have:∀ d∈("0123456789" : Str).cps.toList,d < 128:=by decide +kernel
  exact this c hm
theorem u6 {l:List Nat} (h:V.str (ia l)=V.str ""):l = []:=by
 have:=congrArg (fun z:Str=>z.cps.toList) (V.str.inj h)
 exact this
theorem PM {l:List Nat} (h:¬ V.str (ia l)=V.str ""):l ≠ []:=fun z=>h (by rw[z];rfl)
theorem Zp {l:List Nat}{x:Str} (h:l=x.cps.toList):ia l=x:=dY h
theorem DC (pr:Nat->Bool):∀ (l:List Nat),∀ c∈l.takeWhile pr,pr c=true
 | [],c,h=>by simp at h
 | d :: l,c,h=>by
  rw[gu]at h
  split at h
  ·rename_i hd
   rcases aK.mp h with rfl | h
   ·exact hd
   ·exact DC pr l c h
  ·cases h
theorem Jj {tree:List Nat->Option (T × List Nat)}{n:Nat}{r:List Nat}:lj tree (n+1) (44 :: 32 :: r)=(match tree r with
  | some (t,r2)=>(match lj tree n r2 with
   | some (ts,r3)=>some (t :: ts,r3)
   | none=>none)
  | none=>none):=rfl
theorem Sm {tree:List Nat->Option (T × List Nat)}{n:Nat}{r:List Nat}:lj tree (n+1) (41 :: r)=some ([],r):=rfl
theorem LV {tree:List Nat->Option (T × List Nat)}{n:Nat}{l:List Nat} (h1:l.take 2 ≠ [44,32]) (h2:l.take 1 ≠ [41]):lj tree (n+1) l=none:=by
 unfold lj
 split
 ·rename_i h;cases h
 ·simp at h1
 ·simp at h2
 ·rfl
theorem pw_len {l x r:List Nat} (h:la l=some (x,r)):r.length<=l.length:=by
 unfold la at h
 split at h
 ·cases h
 ·cases h
  rw[dN];omega
theorem pw_is {l x r:List Nat} (h:la l=some (x,r)):x=l.takeWhile ja∧r=l.drop x.length∧x.length<=l.length∧x ≠ []∧x.length<=8:=by
 unfold la at h
 split at h
 ·cases h
 ·rename_i hn
  cases h
  exact⟨rfl,rfl,DB _ _,fun z=>hn (.inl z),ou fun z=>hn (.inr z)⟩
theorem YQ {l r:List Nat}{n:Int} (h:o8 l=some (n,r)):r.length<=l.length:=by
 unfold o8 at h
 dsimp only at h
 generalize hd:decide (l.head? = some 45)=neg at h
 have tU:(if neg=true then l.tail else l).length<=l.length:=by cases neg <;> simp
 generalize (if neg=true then l.tail else l)=l1 at h tU
 by_cases h1:l1.takeWhile eI = []∨60 < (l1.takeWhile eI).length
 ·rw[if_pos h1]at h;cases h
 ·rw[if_neg h1]at h
  by_cases h2:(l1.takeWhile eI).head? = some 48∧¬ (neg=false∧l1.takeWhile eI = [48])
  ·rw[if_pos h2]at h;cases h
  ·rw[if_neg h2]at h
   have e:=(BC.inj (bD h)).2
   rw[<- e,dN]
   omega
theorem Pd {tree:List Nat->Option (T × List Nat)} (ht:∀ l t r,tree l=some (t,r)->r.length<=l.length):∀ (n:Nat) (l:List Nat) (ts:List T) (r:List Nat),lj tree n l=some (ts,r)->r.length<=l.length
 | 0,_,_,_,h=>by cases h
 | n+1,l,ts,r,h=>by
  unfold lj at h
  split at h
  ·rename_i z;cases z
  ·split at h
   ·rename_i t r2 e
    split at h
    ·rename_i ts3 r3 e3
     cases h
     have h1:=ht _ _ _ e
     have h2:=Pd ht _ _ _ _ e3
     simp only[bg]
     omega
    ·cases h
   ·cases h
  ·cases h
   simp
  ·cases h
theorem Y7 {tree:List Nat->Option (T × List Nat)} (ht:∀ l t r,tree l=some (t,r)->r.length<=l.length) {l:List Nat}{ts:List T}{r:List Nat} (h:nU tree l=some (ts,r)):r.length<=l.length:=by
 unfold nU at h
 split at h
 ·rename_i t r1 e
  split at h
  ·rename_i Yd r2 e2
   split at h
   ·cases h
   ·cases h
    exact a9 (Pd ht _ _ _ _ e2) (ht _ _ _ e)
  ·cases h
 ·cases h
theorem O7 (b:Bool):∀ (k:Nat) (l:List Nat) (t:T) (r:List Nat),fE b k l=some (t,r)->r.length<=l.length
 | 0,_,_,_,h=>by cases h
 | k+1,l,t,r,h=>by
  unfold fE at h
  split at h
  ·cases h
  ·rename_i c l0
   split at h
   ·split at h
    ·rename_i n l' e
     cases h
     exact YQ e
    ·cases h
   ·split at h
    ·split at h
     ·rename_i x l' e
      cases h
      have:=pw_len e
      simp only[bg]
      omega
     ·cases h
    ·split at h
     ·cases h
     ·rename_i x l1 e
      have h1:=pw_len e
      unfold xT at h
      split at h
      ·rename_i l2
       split at h
       ·rename_i ts l' e2
        cases h
        have h2:=Y7 (O7 b k) e2
        simp only[bg]at h1 ⊢
        omega
       ·cases h
      ·cases h
       exact h1
theorem Nh {l:List Nat}{c:Nat} (h:l.take 1 = [c]):∃ r,l=c :: r:=by
 cases l with
 | nil=>simp at h
 | cons d r=>simp at h;exact⟨r,by rw[h]⟩
theorem UE {l:List Nat}{c d:Nat} (h:l.take 2 = [c,d]):∃ r,l=c :: d :: r:=by
 cases l with
 | nil=>simp at h
 | cons a r =>
  cases r with
  | nil=>simp at h
  | cons e r=>simp at h;exact⟨r,by rw[h.1,h.2]⟩
theorem Ik {H:Hp}{t:T}{v:V}:∀ {ts:List T}{vs:List V},dS H ts vs->bJ H t v->dS H (ts ++ [t]) (vs ++ [v])
 | [],vs,h,q=>by
  rw[dS]at h
  subst h
  rw[jX,jX,dS]
  exact⟨v, [],rfl,q,by rw[dS]⟩
 | t' :: ts,vs,h,q=>by
  rw[dS]at h
  obtain⟨v',r,rfl,h1,h2⟩:=h
  rw[eT,eT,dS]
  exact⟨v',r ++ [v],rfl,h1,Ik h2 q⟩
end Sw
namespace Sw
open PySem L2 PySem.NumText
def nt (n:Int):List Nat:=(aI (toString n)).cps.toList
def dg (m:Nat):List Nat:=(Nat.toDigits 10 m).map EI
theorem qW (m:Nat):nt (m:Int)=dg m:=PySem.W.KIN.signs_num m
theorem tF (m:Nat) (h:1<=m):nt (-(m:Int))=45 :: dg m:=by
 obtain⟨k,rfl⟩:∃ k,m=k+1:=⟨m - 1,by omega⟩
 have e : -(((k+1:Nat)):Int)=Int.negSucc k:=rfl
 unfold nt dg
 rw[e,PyProof.Rows.signs_ofString]
 show ("-" ++ Nat.repr (k+1)).toList.map EI=_
 rw[String.toList_append,df,Nat.toList_repr]
 rfl
theorem iU (m:Nat):AllDigits (dg m):=by
 intro c hc
 obtain⟨ch,sj,e⟩:=fD.mp hc
 have r:=PyProof.Rows.digit_range (Nat.isDigit_of_mem_toDigits (by decide) (by decide) sj)
 rw[<- e]
 exact r
theorem Bz (m:Nat):dg m ≠ []:=by
 unfold dg
 intro e
 have h:=Nat.length_toDigits_pos (b:=10) (n:=m)
 rw[List.map_eq_nil_iff.mp e]at h
 exact absurd h (by decide)
theorem nI (m:Nat):digitsVal (dg m)=m:=PySem.W.KIN.val_back m
theorem Tf {cs:List Nat} (h:AllDigits cs):(cs.map EJ).map EI=cs:=by
 induction cs with
 | nil=>rfl
 | cons c cs ih =>
  have hc:=h.head
  rw[b0,b0,ih h.tail]
  have:(EJ c).toNat=c:=by
   have:∀ d,d < 128->(EJ d).toNat=d:=by decide +kernel
   exact this c (by omega)
  rw[this]
theorem VP {cs:List Nat} (h:AllDigits cs) (fo:cs ≠ []) (hh:cs.length=1∨∃ c r,cs=c :: r∧49<=c):dg (digitsVal cs)=cs:=by
 unfold dg
 have hl:cs.length=(cs.length - 1)+1:=by
  cases cs with
  | nil=>exact absurd rfl fo
  | cons c r=>simp
 rw[toDigits_digitsVal (cs.length - 1) cs hl h (hh.imp (fun z=>by omega) id),Tf h]
theorem FN (m:Nat) (h:(dg m).head? = some 48):dg m = [48]:=by
 have ha:=toDigits_all (dg m) (iU m)
 rw[nI]at ha
 have hl:(Nat.toDigits 10 m).length=(dg m).length:=by unfold dg;rw[aA]
 cases e:dg m with
 | nil=>exact absurd e (Bz m)
 | cons c r =>
  rw[e]at h ha hl
  cases h
  rw[List.dropWhile_cons]at ha
  simp only[beq_self_eq_true,if_true]at ha
  have hd:=PySem.NumText.len_dropWhile (· == 48) r
  cases e2:r.dropWhile (· == 48) with
  | nil =>
   rw[e2]at ha
   rw[ha]at hl
   simp only[bg,vp]at hl
   have:r = []:=jE.mp (by omega)
   rw[this]
  | cons d r2 =>
   rw[e2]at ha hd
   rw[ha,aA]at hl
   simp only[bg]at hl hd
   omega
theorem VN:∀ (cs:List Nat) (a:Nat),AllDigits cs->cs.foldl (fun acc c=>acc * 10+(c - 48)) a < (a+1) * 10 ^ cs.length
 | [],a,_=>by simp
 | c :: cs,a,h=>by
  have hc:=h.head
  have ih:=VN cs (a * 10+(c - 48)) h.tail
  show cs.foldl _ (a * 10+(c - 48)) < _
  refine bS ih ?_
  rw[bg,Nat.pow_succ,Nat.mul_comm (10 ^ cs.length) 10, <- Nat.mul_assoc]
  exact Nat.mul_le_mul_right _ (by omega)
theorem QK {m:Nat} (h:m < 10 ^ 60):(dg m).length<=60:=by
 by_cases h0:m=0
 ·subst h0;decide
 ·have hl:=mS (n := -(m:Int)) (by omega) (by omega)
  have e:(aI (toString (-(m:Int)))).length=(nt (-(m:Int))).length:=bK _
  rw[e,tF m (by omega),bg]at hl
  omega
def Stop (r:List Nat):Prop := ∀ c,r.head? = some c->c=44∨c=41
theorem Ii {pr:Nat->Bool}:∀ {a r:List Nat},(∀ c∈a,pr c=true)->(∀ c,r.head? = some c->pr c=false)->(a ++ r).takeWhile pr=a
 | [],r,_,h=>by
  cases r with
  | nil=>rfl
  | cons c r=>rw[jX,gu,h c rfl];rfl
 | c :: a,r,ha,h=>by
  rw[eT,gu,ha c aV,if_pos rfl,Ii (fun d hd=>ha d (aL _ hd)) h]
theorem Qx {c:Nat} (h:48<=c∧c<=57):eI c=true:=decide_eq_true h
theorem RT {r:List Nat} (h:Stop r):∀ c,r.head? = some c->eI c=false:=fun c hc=>by
 rcases h c hc with rfl | rfl <;> rfl
theorem IA {r:List Nat} (h:Stop r):∀ c,r.head? = some c->ja c=false:=fun c hc=>by
 rcases h c hc with rfl | rfl <;> rfl
theorem WT {n:Int} (h1 : -(10 ^ 60) < n) (h2:n < 10 ^ 60) {r:List Nat} (hr:Stop r):o8 (nt n ++ r)=some (n,r):=by
 have key:∀ m:Nat,m < 10 ^ 60->(dg m ++ r).takeWhile eI=dg m:=fun m hm=>Ii (fun c hc=>Qx (iU m c hc)) (RT hr)
 by_cases hn:0<=n
 ·obtain⟨m,rfl⟩:=eJ hn
  have hm:m < 10 ^ 60:=by omega
  rw[qW]
  have hh:(dg m ++ r).head? ≠ some 45:=fun z=>by
   cases e:dg m with
   | nil=>exact Bz m e
   | cons c l =>
    rw[e]at z
    cases z
    have:=iU m 45 (by rw[e];exact aV)
    omega
  unfold o8
  rw[decide_eq_false hh]
  simp only[gZ,if_false,key m hm]
  rw[if_neg (fun z=>z.elim (Bz m) (by have:=QK hm;omega)),if_neg (fun z=>z.2 ⟨trivial,FN m z.1⟩),nI,gY]
 ·obtain⟨m,rfl,B9⟩:∃ m:Nat,n = -(m:Int)∧1<=m:=⟨n.natAbs,by omega,by omega⟩
  have hm:m < 10 ^ 60:=by omega
  rw[tF m B9]
  unfold o8
  simp only[eT,EE,qD,decide_true,if_true,key m hm]
  rw[if_neg (fun z=>z.elim (Bz m) (by have:=QK hm;omega)),if_neg (fun z => ?_),nI,gY]
  have e:=FN m z.1
  have e2:=nI m
  rw[e]at e2
  have:digitsVal [48]=0:=rfl
  omega
theorem Sl {l r:List Nat}{n:Int} (h:o8 l=some (n,r)):l=nt n ++ r ∧ -(10 ^ 60) < n∧n < 10 ^ 60:=by
 unfold o8 at h
 dsimp only at h
 generalize hd:decide (l.head? = some 45)=neg at h
 generalize tU:(if neg=true then l.tail else l)=l1 at h
 by_cases h1:l1.takeWhile eI = []∨60 < (l1.takeWhile eI).length
 ·rw[if_pos h1]at h;cases h
 rw[if_neg h1]at h
 by_cases h2:(l1.takeWhile eI).head? = some 48∧¬ (neg=false∧l1.takeWhile eI = [48])
 ·rw[if_pos h2]at h;cases h
 rw[if_neg h2]at h
 have hF:AllDigits (l1.takeWhile eI):=fun c hc=>by
  have:=DC _ _ c hc
  unfold eI at this
  exact of_decide_eq_true this
 have e1:l1=l1.takeWhile eI ++ l1.drop (l1.takeWhile eI).length:=by
  have:=d4 (l1.takeWhile eI).length l1
  rw[wg]at this
  exact this.symm
 generalize l1.takeWhile eI=F at h h1 h2 hF e1
 generalize l1.drop F.length=R at h e1
 have fo:F ≠ []:=fun z=>h1 (.inl z)
 have h60:F.length<=60:=ou fun z=>h1 (.inr z)
 have e9:digitsVal F < 10 ^ 60:=by
  have:=VN F 0 hF
  have h10:(10:Nat) ^ F.length<=10 ^ 60:=Nat.pow_le_pow_right (by decide) h60
  unfold digitsVal
  omega
 have hdg:dg (digitsVal F)=F:=by
  refine VP hF fo ?_
  cases F with
  | nil=>exact absurd rfl fo
  | cons c F' =>
   by_cases hc:c=48
   ·subst hc
    have:neg=false∧48 :: F' = [48]:=me fun z=>h2 ⟨rfl,z⟩
    exact .inl (by rw[this.2];rfl)
   ·have:=hF.head
    exact .inr ⟨c,F',rfl,by omega⟩
 cases neg with
 | false =>
  simp only[gZ,if_false,BO,rX]at h tU
  obtain⟨rfl,rfl⟩:=h
  subst tU
  refine⟨by rw[qW,hdg];exact e1,by omega,by omega⟩
 | true =>
  simp only[if_true,BO,rX]at h tU
  obtain⟨rfl,rfl⟩:=h
  have hh:=of_decide_eq_true hd
  have mr:1<=digitsVal F:=by
   cases F with
   | nil=>exact absurd rfl fo
   | cons c F' =>
    by_cases hc:c=48
    ·subst hc
     exact absurd ⟨rfl,fun z=>by cases z.1⟩ h2
    ·have:=hF.head
     exact digitsVal_pos (by omega)
  refine⟨?_,by omega,by omega⟩
  rw[tF _ mr,hdg,eT]
  cases l with
  | nil=>cases hh
  | cons c l' =>
   cases hh
   rw[qD]at tU
   rw[tU, <- e1]
theorem Zt {c:Nat} (h:97<=c∧c<=122):ja c=true:=decide_eq_true h
theorem CY (x:Str):ia x.cps.toList=x:=Zp rfl
theorem pw_done {x:Str} (hx:dW x) {r:List Nat} (hr:∀ c,r.head? = some c->ja c=false):la (x.cps.toList ++ r)=some (x.cps.toList,r):=by
 have e:(x.cps.toList ++ r).takeWhile ja=x.cps.toList:=Ii (fun c hc=>Zt (hx.2.2 c hc)) hr
 unfold la
 rw[e]
 have hl:=bK x
 have h1:=hx.1
 have h2:=hx.2.1
 rw[if_neg (fun z=>z.elim (fun z=>by rw[z]at hl;simp at hl;omega) (by omega)),gY]
theorem pw_sound {l x r:List Nat} (h:la l=some (x,r)):l=x ++ r∧dW (ia x):=by
 obtain⟨h1,h2,h3,h4,h5⟩:=pw_is h
 have e:=d4 x.length l
 rw[h1,wg, <- h1, <- h2]at e
 refine⟨e.symm,?_,?_,fun c hc => ?_⟩
 ·rw[lM]
  cases x with
  | nil=>exact absurd rfl h4
  | cons c x=>simp
 ·rw[lM];exact h5
 ·rw[kB,h1]at hc
  have:=DC _ _ c hc
  unfold ja at this
  exact of_decide_eq_true this
def more:List T->List Nat
 | [] => []
 | t :: ts=>44 :: 32 :: (t.shown.cps.toList ++ more ts)
theorem JK:∀ (t:T) (ts:List T),(bw ", " (T.fV (t :: ts))).cps.toList=t.shown.cps.toList ++ more ts
 | t, []=>by
  rw[T.fV,T.fV,bw,more,dh]
 | t,u :: ts=>by
  have ih:=JK u ts
  rw[T.fV]at ih
  rw[T.fV,T.fV,bw,bN,bN,ih,more]
  ·show (t.shown.cps.toList ++ [44,32]) ++ _=_
   rw[bH]
   rfl
  ·intro z;cases z
theorem p9 (x:Str) (t:T) (ts:List T):(T.of x (t :: ts)).shown.cps.toList=x.cps.toList ++ 40 :: (t.shown.cps.toList ++ (more ts ++ [41])):=by
 rw[T.shown,bN,bN,bN,JK]
 show ((x.cps.toList ++ [40]) ++ (t.shown.cps.toList ++ more ts)) ++ [41]=_
 simp
theorem uX (x:Str):(T.any x).shown.cps.toList=63 :: x.cps.toList:=by
 rw[T.shown,bN];rfl
theorem GC {ts:List T}{r:List Nat}:Stop (more ts ++ 41 :: r):=by
 cases ts with
 | nil=>intro c hc;cases hc;exact .inr rfl
 | cons t ts=>intro c hc;cases hc;exact .inl rfl
theorem LW {tree:List Nat->Option (T × List Nat)}:∀ (ts:List T) (n:Nat) (r:List Nat),(∀ t∈ts,∀ r,Stop r->tree (t.shown.cps.toList ++ r)=some (t,r))->(more ts ++ 41 :: r).length < n->lj tree n (more ts ++ 41 :: r)=some (ts,r)
 | [],n,r,_,hn=>by
  obtain⟨n',rfl⟩:∃ n',n=n'+1:=⟨n - 1,by omega⟩
  rfl
 | t :: ts,n,r,h,hn=>by
  obtain⟨n',rfl⟩:∃ n',n=n'+1:=⟨n - 1,by omega⟩
  have e:more (t :: ts) ++ 41 :: r=44 :: 32 :: (t.shown.cps.toList ++ (more ts ++ 41 :: r)):=by rw[more];simp
  rw[e]at hn ⊢
  simp only[bg,aM]at hn
  rw[Jj,h t aV _ GC]
  dsimp only
  rw[LW ts n' r (fun u hu=>h u (aL _ hu)) (by simp only[aM,bg];omega)]
theorem JD {t:T}{c:Nat}:∀ {ts:List T},t∈ts->c∈t.shown.cps.toList->c∈more ts
 | u :: ts,h,hc=>by
  rw[more]
  refine aL _ (aL _ (aZ.mpr ?_))
  rcases aK.mp h with rfl | h
  ·exact .inl hc
  ·exact .inr (JD h hc)
theorem Gr {x:Str} (hx:dW x):∃ c l,x.cps.toList=c :: l∧97<=c∧c<=122:=by
 cases e:x.cps.toList with
 | nil=>have:=bK x;rw[e]at this;have:=hx.1;simp at *;omega
 | cons c l=>exact⟨c,l,rfl,hx.2.2 c (by rw[e];exact aV)⟩
theorem Fp (b:Bool):∀ (k:Nat) (t:T),t.Ok->t.depth<=k->(b=true∨63 ∉ t.shown.cps.toList)->∀ r,Stop r->fE b k (t.shown.cps.toList ++ r)=some (t,r)
 | 0,t,_,hd,_,_,_=>by have:=kW t;omega
 | k+1,.num n,br,_,_,r,hr=>by
  rw[T.Ok]at br
  have e:=WT br.1 br.2 hr
  rw[T.shown]
  show fE b (k+1) (nt n ++ r)=_
  have hh:∃ c l,nt n=c :: l∧(c=45∨eI c=true):=by
   by_cases hn:0<=n
   ·obtain⟨m,rfl⟩:=eJ hn
    rw[qW]
    cases e:dg m with
    | nil=>exact absurd e (Bz m)
    | cons c l=>exact⟨c,l,rfl,.inr (Qx (iU m c (by rw[e];exact aV)))⟩
   ·obtain⟨m,rfl,B9⟩:∃ m:Nat,n = -(m:Int)∧1<=m:=⟨n.natAbs,by omega,by omega⟩
    exact⟨45,_,tF m B9,.inl rfl⟩
  obtain⟨c,l,e2,hc⟩:=hh
  rw[e2,eT]at e ⊢
  rw[sN,if_pos hc,e]
 | k+1,.name x,br,_,_,r,hr=>by
  rw[T.Ok]at br
  obtain⟨c,l,e2,hc⟩:=Gr br
  have e:=pw_done br (IA hr)
  rw[T.shown]
  rw[e2,eT]at e ⊢
  have nf:¬ (c=45∨eI c=true):=fun z=>z.elim (by omega) (fun z=>by unfold eI at z;have:=of_decide_eq_true z;omega)
  rw[sN,if_neg nf,if_neg (fun z=>by have:=z.1;omega),e]
  dsimp only
  rw[LX (fun z => ?_), <- e2,CY]
  obtain⟨r',e3⟩:=Nh z
  rcases hr 40 (by rw[e3];rfl) with h | h <;> omega
 | k+1,.any x,br,_,hb,r,hr=>by
  rw[T.Ok]at br
  rw[uX]at hb ⊢
  have oG:b=true:=hb.resolve_right (fun z=>z aV)
  have e:=pw_done br (IA hr)
  rw[eT,sN,if_neg (by decide),if_pos ⟨rfl,oG⟩,e]
  dsimp only
  rw[CY]
 | k+1,.of x [],br,_,_,_,_=>by
  rw[T.Ok]at br
  have:=br.2.1
  simp at this
 | k+1,.of x (t :: ts),br,hd,hb,r,hr=>by
  rw[T.Ok]at br
  obtain⟨hx,_,h4,FE⟩:=br
  rw[T.depth]at hd
  rw[p9]at hb ⊢
  have hm:∀ u∈t :: ts,∀ r,Stop r->fE b k (u.shown.cps.toList ++ r)=some (u,r):=fun u hu r hr=>by
   refine Fp b k u (ql.mp FE u hu) ?_ (hb.imp id fun z hc=>z ?_) r hr
   ·have:=jc hu
    omega
   ·refine cg _ (aL _ (aZ.mpr ?_))
    rcases aK.mp hu with rfl | hu
    ·exact .inl hc
    ·exact .inr (lz _ (JD hu hc))
  obtain⟨c,l,e2,hc⟩:=Gr hx
  have ea:x.cps.toList ++ 40 :: (t.shown.cps.toList ++ (more ts ++ [41])) ++ r=x.cps.toList ++ 40 :: (t.shown.cps.toList ++ (more ts ++ 41 :: r)):=by simp
  have e:=pw_done hx (r:=40 :: (t.shown.cps.toList ++ (more ts ++ 41 :: r))) (fun c hc=>by cases hc;rfl)
  rw[ea]
  rw[e2,eT]at e ⊢
  have nf:¬ (c=45∨eI c=true):=fun z=>z.elim (by omega) (fun z=>by unfold eI at z;have:=of_decide_eq_true z;omega)
  rw[sN,if_neg nf,if_neg (fun z=>by have:=z.1;omega),e]
  dsimp only
  rw[UZ]
  unfold nU
  rw[hm t aV _ GC]
  dsimp only
  rw[LW ts _ r (fun u hu=>hm u (aL _ hu)) (by omega)]
  dsimp only
  rw[if_neg (by simp only[bg]at h4;omega), <- e2,CY]
def Good (b:Bool) (k:Nat) (t:T):Prop:=t.Ok∧t.depth<=k∧(b=false->63 ∉ t.shown.cps.toList)
theorem Ji {tree:List Nat->Option (T × List Nat)}{G:T->Prop} (ht:∀ l t r,tree l=some (t,r)->G t∧l=t.shown.cps.toList ++ r):∀ (n:Nat) (l:List Nat) (ts:List T) (r:List Nat),lj tree n l=some (ts,r)->l=more ts ++ 41 :: r∧∀ t∈ts,G t
 | 0,_,_,_,h=>by cases h
 | n+1,l,ts,r,h=>by
  unfold lj at h
  split at h
  ·rename_i z;cases z
  ·rename_i n' r0 z
   split at h
   ·rename_i t r2 e
    split at h
    ·rename_i ts3 r3 e3
     cases h
     obtain⟨g1,e1⟩:=ht _ _ _ e
     obtain⟨e4,g4⟩:=Ji ht _ _ _ _ e3
     refine⟨?_,fun u hu => ?_⟩
     ·rw[e1,e4,more];simp
     ·rcases aK.mp hu with rfl | hu
      ·exact g1
      ·exact g4 u hu
    ·cases h
   ·cases h
  ·cases h
   exact⟨rfl,fun t ht=>by cases ht⟩
  ·cases h
theorem JC {c:Nat} (h1:c≠44) (h2:c≠32):∀ {ts:List T},(∀ t∈ts,c ∉ t.shown.cps.toList)->c ∉ more ts
 | [],_,h=>by cases h
 | t :: ts,h,hc=>by
  rw[more]at hc
  rcases aK.mp hc with z | hc
  ·exact h1 z
  rcases aK.mp hc with z | hc
  ·exact h2 z
  rcases aZ.mp hc with hc | hc
  ·exact h t aV hc
  ·exact JC h1 h2 (fun u hu=>h u (aL _ hu)) hc
theorem eV {x:Str} (hx:dW x) {c:Nat} (h:c < 97):c ∉ x.cps.toList:=fun z=>by have:=hx.2.2 c z;omega
theorem CP (b:Bool):∀ (k:Nat) (l:List Nat) (t:T) (r:List Nat),fE b k l=some (t,r)->Good b k t∧l=t.shown.cps.toList ++ r
 | 0,_,_,_,h=>by cases h
 | k+1, [],t,r,h=>by cases h
 | k+1,c :: l0,t,r,h=>by
  rw[sN]at h
  split at h
  ·split at h
   ·rename_i n l' e
    cases h
    obtain⟨e1,n1,n2⟩:=Sl e
    refine⟨⟨by rw[T.Ok];exact⟨n1,n2⟩,by rw[T.depth];omega,fun _ hc => ?_⟩,by rw[T.shown];exact e1⟩
    rw[T.shown]at hc
    have hc:63∈nt n:=hc
    by_cases hn:0<=n
    ·obtain⟨m,rfl⟩:=eJ hn
     rw[qW]at hc
     have:=iU m 63 hc
     omega
    ·obtain⟨m,rfl,B9⟩:∃ m:Nat,n = -(m:Int)∧1<=m:=⟨n.natAbs,by omega,by omega⟩
     rw[tF m B9]at hc
     rcases aK.mp hc with z | hc
     ·omega
     ·have:=iU m 63 hc
      omega
   ·cases h
  ·split at h
   ·rename_i hcb
    split at h
    ·rename_i x l' e
     cases h
     obtain⟨e1,hw⟩:=pw_sound e
     refine⟨⟨by rw[T.Ok];exact hw,by rw[T.depth];omega,fun z=>by rw[hcb.2]at z;cases z⟩,?_⟩
     rw[uX,kB,eT, <- e1,hcb.1]
    ·cases h
   ·split at h
    ·cases h
    ·rename_i x l1 e
     obtain⟨e1,hw⟩:=pw_sound e
     unfold xT at h
     split at h
     ·rename_i l2
      split at h
      ·rename_i ts l' e2
       cases h
       unfold nU at e2
       split at e2
       ·rename_i t r1 e3
        split at e2
        ·rename_i Yd r2 e4
         split at e2
         ·cases e2
         ·rename_i h4
          cases e2
          obtain⟨g3,l3⟩:=CP b k _ _ _ e3
          obtain⟨l4,g4⟩:=Ji (G:=Good b k) (fun l t r h=>CP b k l t r h) _ _ _ _ e4
          have ga:∀ u∈t :: Yd,Good b k u:=fun u hu=>by
           rcases aK.mp hu with rfl | hu
           ·exact g3
           ·exact g4 u hu
          refine⟨⟨?_,?_,fun hb hc => ?_⟩,?_⟩
          ·rw[T.Ok]
           exact⟨hw,by simp,by simp only[bg];omega,ql.mpr fun u hu=>(ga u hu).1⟩
          ·rw[T.depth]
           have:=sF (ts:=t :: Yd) (M:=k) fun u hu=>(ga u hu).2.1
           omega
          ·rw[p9]at hc
           rcases aZ.mp hc with hc | hc
           ·exact eV hw (by decide) hc
           rcases aK.mp hc with z | hc
           ·omega
           rcases aZ.mp hc with hc | hc
           ·exact g3.2.2 hb hc
           rcases aZ.mp hc with hc | hc
           ·exact JC (by decide) (by decide) (fun u hu=>(g4 u hu).2.2 hb) hc
           ·rcases aK.mp hc with z | hc
            ·omega
            ·cases hc
          ·rw[p9,kB,e1,l3,l4]
           simp
        ·cases e2
       ·cases e2
      ·cases h
     ·cases h
      refine⟨⟨by rw[T.Ok];exact hw,by rw[T.depth];omega,fun _ hc => ?_⟩,by rw[T.shown,kB];exact e1⟩
      rw[T.shown]at hc
      exact eV hw (by decide) hc
end Sw
namespace L2
open PySem PySem.Spec PyProof.Rows
section
variable {prog:Program}{w:World}{K:Type} [DecidableEq K] {knd:HeapKind prog w K}{A:Around}{E:Value->Shared->Prop}{s:Shared}{d:Addr}{xs:List (K × Addr × Value)}
end
section
variable {X:Cx}{ah:List (Addr × Obj)}{σ : St}{H:Hp}{s:Shared}{a b:Addr}{kvs aen:List (NK × V)}{k:NK}{y v:V}{u r:Value}{A:Around}{E:Value->Shared->Prop}
end
section
variable {X:Cx}{o i e f value:Expr}{pos eu fS dJ:Pos}{td ty tv:TE}
end
section
variable {X:Cx}
variable {o:Expr}{fS dJ:Pos}{td:TE}
end
section
variable {X:Cx}{tg l:Expr}{tl:TE}
end
section
variable {X:Cx}{ah:List (Addr × Obj)}{σ : St}{H:Hp}{s:Shared}{a:Addr}{kvs:List (Key × V)}{k:Key}{v:V}{u r:Value}{A:Around}{E:Value->Shared->Prop}
end
section
variable {X:Cx}{o e f:Expr}{fS dJ:Pos}{td ty tx:TE}
end
theorem Az {lo:Int}{n:Nat}{ct:TT}{te:TE}{σ : St}{caps:List (Str × Nat)}{H:Hp}{Q:VK} (f:Int->Option V) (hn:n<=1000)
  (wO:∀ (i:Nat),i < n->∀ H',aT H H'->∀ (R:Bool->Hp->Prop),(∀ dF,aT H' dF->R (f (lo+i)).isSome dF)->ct (some (.int (lo+i)) :: jD σ caps) H' R)
  (hev:∀ (i:Nat) v,i < n->f (lo+i)=some v->∀ H',aT H H'->∀ Q':VK,(∀ dF,aT H' dF->Q' v dF)->te (some (.int (lo+i)) :: jD σ caps) H' Q')
  (hq:∀ D H',H D=none->aT H H'->H' D=some (.lst ((fU n).filterMap fun i:Nat=>f (lo+i)))->Q (.ref D) H') :
  Ht (Hq lo n) (bc 0) ct te (dM 1 none ++ jD σ caps) H Q:=by
 intro D hD
 refine⟨fun i m τ zs H'=>m=n - i∧i<=n∧(∃ o, τ = o :: jD σ caps)∧zs=(fU i).filterMap (fun i:Nat=>f (lo+i))∧aT H H'∧H' D=some (.lst zs),⟨n,by simp,bA _,⟨none,rfl⟩,by simp,aD hD _,av⟩,?_⟩
 rintro i m τ zs H' ⟨rfl,hi,⟨o,rfl⟩,rfl,sm,jB⟩
 refine⟨jB,?_⟩
 by_cases e9:i < n
 ·refine .inr ⟨e9,?_,fun x dF y => ?_⟩
  ·refine gP (a9 (mH _ _) ?_)
   rw[nB];omega
  ·obtain⟨e,rfl⟩:=y
   subst e
   have er:fU (i+1)=fU i ++ [i]:=pH
   show ct (some (.int (lo+i)) :: jD σ caps) _ _
   refine wO i e9 _ sm _ (fun H2 s2 => ?_)
   cases e:f (lo+i) with
   | none =>
    refine⟨n - (i+1),by omega,rfl,e9,⟨_,rfl⟩,?_,sm.trans s2,s2 _ _ jB⟩
    rw[er,cM,eE,e];simp
   | some v =>
    refine hev i v e9 e _ (sm.trans s2) _ (fun H3 s3 => ?_)
    have Vz:=s3 _ _ (s2 _ _ jB)
    refine⟨Vz,n - (i+1),by omega,rfl,e9,⟨_,rfl⟩,?_,(sm.trans (s2.trans s3)).put hD,av⟩
    rw[er,cM,eE,e];simp
 ·have e:i=n:=by omega
  subst e
  exact .inl ⟨aB _,hq D H' hD sm jB⟩
theorem pq {β : Type}{R:Hp->V -> β -> Prop}{K:aj}{a:Addr}{xs:List V}{bs:List β}{te:TE}{σ : St}{caps:List (Str × Nat)}{H:Hp}{Q:VK} (kp:∀ (H H':Hp) v b,(∀ c ys,H c=some (.tup ys)->H' c=some (.tup ys))->R H v b->R H' v b)
  (hS:b6 K H a xs) (hz:xs.length<=1000) (hy:bs.length=xs.length)
  (wO:∀ (i:Nat) (x:V) (b : β),xs[i]? = some x->bs[i]? = some b->∀ H',aT H H'->∀ Q':VK,(∀ y dF,aT H' dF->R dF y b->Q' y dF)->te (some x :: jD σ caps) H' Q')
  (hq:∀ D H' ys,H D=none->aT H H'->H' D=some (.lst ys)->Paired (R H') ys bs->Q (.ref D) H') :
  yJ (M7 K a) (bc 0) te (dM 1 none ++ jD σ caps) H Q:=by
 intro D hD
 refine⟨fun i m τ zs H'=>m=xs.length - i∧i<=xs.length∧(∃ o, τ = o :: jD σ caps)∧Paired (R H') zs (bs.take i)∧aT H H'∧H' D=some (.lst zs),⟨xs.length,by simp,bA _,⟨none,rfl⟩,.nil,aD hD _,av⟩,?_⟩
 rintro i m τ zs H' ⟨rfl,hi,⟨o,rfl⟩,qY,sm,jB⟩
 refine⟨jB,?_⟩
 have hlz:=dw qY
 rw[eA]at hlz
 by_cases e9:i < xs.length
 ·refine .inr ⟨⟨xs,xs[i],sm.seq hS,by simp[e9]⟩,gP (by omega),fun x dF y => ?_⟩
  obtain⟨e,y⟩:=y
  subst e
  have hx:=y xs (sm.seq hS)
  have hdi:bs[i]? = some bs[i]:=aF (by omega)
  show te (some x :: jD σ caps) _ _
  refine wO i x bs[i] hx hdi _ sm _ (fun v H2 s2 hv => ?_)
  have vd:=s2 _ _ jB
  have k2:∀ b ys,H2 b=some (.tup ys)->(aO H2 D (.lst (zs ++ [v]))) b=some (.tup ys):=fun b ys e=>by rw[bh (u5 e vd (fun z=>nomatch z))];exact e
  refine⟨vd,xs.length - (i+1),by omega,rfl,e9,⟨_,rfl⟩,?_,(sm.trans s2).put hD,av⟩
  have e1:bs.take (i+1)=bs.take i ++ [bs[i]]:=by rw[fX,hdi];rfl
  rw[e1]
  exact ke (Paired.j7 qY fun v b r=>kp _ _ v b k2 (kp _ _ v b (fun c ys=>s2 _ _) r)) (kp _ _ _ _ k2 hv)
 ·have e:i=xs.length:=by omega
  subst e
  refine .inl ⟨⟨xs,sm.seq hS,aB _⟩,?_⟩
  rw[<- hy,fj]at qY
  exact hq D H' zs hD sm jB qY
end L2
namespace PySem
section
variable {prog:Program}{w:World}{A:Around}{E:Value->Shared->Prop}{s:Shared}
end
section
variable {prog:Program}{w:World}{A:Around}{s:Shared}{R:Result->Shared->Prop}{I l:Addr}{items:Array Value}
end
section
variable {prog:Program}{w:World}{A:Around}{E:Value->Shared->Prop}{s:Shared}{I l:Addr}{items:Array Value}
end
end PySem
namespace L2
open PySem PySem.Spec PyProof.Rows
theorem Y6 {X:Cx}:Passes (iY X.prog X.w) X E0:=fun ah σ H s e s' I h=>by
 obtain⟨_,_,_,_,_,_,_,_,_,_,_,_,_,_,_,q⟩:=h
 exact cj q
structure afn (K:aj) (x bu:Str) (st:Stmt) (f:Addr) (fd:FuncData):Prop where
 ex:∃ (oc:Value) (od:Option Addr) (dV kV doc pm:Value) (an:Option Addr) (a8 ct:Value) (tD:Array (Option Value)),
  fd=d8 x bu (iF st) (dk st) (az st) dV kV doc pm an a8 ct∧K.lookup f=some ⟨oc,od,.func fd,tD⟩∧fH K a8 bu=true
inductive KI (x:V) (y:V) (H:Hp) (Q:VK):Prop
 | mk:∀ a b zs,(x = .ref a)->(y = .ref b)->(H a=some (.lst zs))->(H b=some (.lst []))->(Q (.bl zs.isEmpty) H)->KI x y H Q
def YD:R2:=fun x y H Q=>KI x y H Q
theorem SK {X:Cx} (hu:X.A.units < cLine):iw X (compareOp .Eq) YD:=by
 intro ah s σ H x y v u Q I rx ry h
 obtain⟨a,b,zs,rfl,rfl,ha,hb,q⟩:=h
 cases (show v=bf a from rx)
 cases (show u=bf b from ry)
 obtain⟨_,us,c,r,e⟩:=(show dD X.prog X.w H s.heap a (.lst zs) from I.br a _ ha)
 obtain⟨_,i8,c',r',e'⟩:=(show dD X.prog X.w H s.heap b (.lst []) from I.br b _ hb)
 cases r'
 have p:s.heap.IsList a us.toArray:=⟨_,e,rfl,_,rfl⟩
 have p':s.heap.IsList b (List.toArray ([]:List Value)):=⟨_,e',rfl,_,rfl⟩
 have hl:=r.length
 cases zs with
 | nil =>
  have P5:us = []:=dB hl.symm
  subst P5
  refine SeqAt.eq_listAt (e:=fun _=>true) p p' rfl hu (fun j h1=>absurd h1 (by simp)) ?_
  exact⟨.bl true,H,I,rfl,q⟩
 | cons z zs =>
  refine SeqAt.eq_list_lengthsAt p p' (by simp only[bo];rw[<- hl];simp) hu ?_
  exact⟨.bl false,H,I,rfl,q⟩
def wk:List Expr->Option (List Str)
 | []=>some []
 | .Constant (.str x) _ _ :: es=>(wk es).map (x :: ·)
 | _=>none
theorem Iy:∀ {es:List Expr}{L:List Str},wk es=some L->Ew es L
 | [],L,h=>by
  cases (show some []=some L from h)
  exact .nil
 | e :: es,L,h=>by
  unfold wk at h
  split at h
  ·rename_i heq;cases heq
  ·rename_i x j p VL heq
   cases heq
   cases q:wk es with
   | none=>rw[q]at h;cases h
   | some L' =>
    rw[q]at h
    cases h
    exact .cons (Iy q)
  ·cases h
theorem SJ {X:Cx}{es:List Expr}{L:List Str} (h:wk es=some L):PA X es (Ni L):=Xb (Iy h)
theorem jk {X:Cx}{es:List Expr}{L:List Str} (h:wk es=some L):QA X es (Ni L):=by
 delta QA at *
 exact SJ h
section
variable {X:Cx}
end
theorem jr {c:TT}{t u:TS}{D:Ends}{σ : St}{H:Hp} (R:Bool->Hp->Prop) (hc:∀ Q:Bool->Hp->Prop,(∀ b H',R b H'->Q b H')->c σ H Q) (h1:∀ H',R true H'->t D σ H') (h2:∀ H',R false H'->u D σ H'):E3 c t u D σ H:=by
 refine hc _ fun b H' r => ?_
 cases b with
 | true=>exact gB (h1 _ r)
 | false=>exact eW (h2 _ r)
section
variable {P:Program}{w:World}{A:Around}{s:Shared}
open SeqAt MeetsSeq MeetsSeq2 MeetsSeq3 SeqRoads2
open AutoSeq1 (wpAny_loadPart')
end
end L2
namespace L2
open PySem PySem.W PySem.Calls PyProof.Rows
theorem Oz {ns:List Int}{c:Int}:c∈ns->AK (.int c)<=Et (ns.map vj):=by
 induction ns with
 | nil=>intro h;cases h
 | cons n ns ih =>
  intro h
  rw[b0,Et]
  rcases aK.mp h with rfl | h
  ·omega
  ·have:=ih h;omega
theorem T6 {ns:List Int} (h:WData.layableAll [Eu (ns.map vj)]=true):∀ c∈ns,pY c<=1048576:=fun c hc=>by
 have h1:WData.layable (Eu (ns.map vj))=true:=eU.mp h _ aV
 have h2:=of_decide_eq_true (fk.mp h1).2
 rw[AK]at h2
 have h3:=Oz hc
 rw[AK]at h3
 show (if c == 0 then 0 else c.natAbs.log2+1)<=1048576
 have:(2:Nat) ^ 20=1048576:=by decide
 omega
theorem RM {l:OpenLaw}{n k:Nat}{q:Program}{loose:List Str}{XP:(Str->Option Value)->Heap->Prop}{YP:World->Heap->Prop}{d:DefRec}{K:Params->Frag}{CX:World->uN}{sp:World->Sp}{x:Str}
  (hn:l.most=some n) (GW:n<=sizeLine) (hdf:d.params.defaults = []) (hr:dq k callerA)
  (hY:∀ (w:World) (h:Heap),YP w h->(K w.params).In h)
  (F:∀ (w:World) (mg:Str->Option Value) (fa:Addr) (h:Heap),(K w.params).In h->h.Ns mainGlobals mg->mg d.name=some (.ref fa) ->
   ∃ fd:FuncData,(∀ (s:Shared) (u:Value),BindsTo s fd ⟨[u], []⟩ [(x,u)])∧∀ base:Heap,(K w.params).In base->base.Ns mainGlobals mg->jF l.prog w (K w.params) mg base (CX w) k fa fd [x] (sp w))
  (tR:∀ (w:World) (H:Hp) (a:Addr) (ns:List Int),ns.length<=n->(∀ c∈ns,pY c<=1048576)->b6 (K w.params) H a (ns.map V.int)->sp w [.ref a] H (fun v _=>v = .bl true) fun _ _ _=>False)
  (hCX:∀ (w:World) (H:Hp) (s:Shared) (e:Value) (s':Shared),CX w [] H s (fun _ _ _=>False) e s'->False) :
  WalkO q loose XP YP l.row.toRowW d [] (fun f vs=>PySem.call f vs):=by
 intro w s0 s1 mg mb G Y fa o pm cd doc dV kV ho hd ni hD hmg hg args RN as x9 aeF hrd Vf hlo
 have e1:=Dflts.none hD hdf
 have e2:=Dflts.noKw hD
 subst e1 e2
 obtain⟨a,vs,ns,ev,ea,Tw,acf,dX⟩:=Att.OX hn x9 Vf
 subst ev ea
 have KX:=hY w _ Y
 obtain⟨fd,hb,hF⟩:=F w mg fa _ KX G.T.g hmg
 refine enter_call (codeAny_mono (To KX G.T.g G.T.b G.T.builtins G.T.nolimit hg Tw acf (a9 dX GW) hr hF hb (fun H _ hS=>tR w H a ns dX (T6 aeF) hS) fun H e s'=>hCX w H s1 e s') fun r s' hq => ?_)
 obtain⟨er,h2,h3,h4⟩:=hq
 subst er
 exact⟨.inl ⟨.bool true,.bool true, [],rfl,fun _=>rfl,.bool true,Att.Pc l _,fun _=>⟨List.Pairwise.nil,fun _ hm=>(nomatch hm)⟩⟩,h2,h3,h4⟩
end L2
namespace L2
open PySem PySem.Spec PyProof.Rows
section
variable {X:Cx}{k:Nat}{y:Str}{p pos:Pos}{e:Expr}{es:List Expr}{tv:TE}{t:TA}
end
section
variable {prog:Program}{w:World}{A:Around}{R:Result->Shared->Prop}{I:Addr}{fp wr:List Addr}{n:Nat}{P:Nat->Value->Prop}{St:Nat->Heap->Prop}{kw:List (Str × Value)}{G:Heap->Prop}
end
section
variable {X:Cx}{e:Expr}{te:TE}{p pos kp cp:Pos}{j:Nat}
end
section
variable {prog:Program}{w:World}{A:Around}{R:Result->Shared->Prop}{I:Addr}{fp wr:List Addr}{n:Nat}{P:Nat->Value->Prop}{St:Nat->Heap->Prop}{kw:List (Str × Value)}{G:Heap->Prop}
end
section
variable {X:Cx}{e:Expr}{te:TE}{p pos kp cp:Pos}{j:Nat}{d:Int}
end
end L2
namespace HT
open PySem PySem.Spec PyProof.Rows
section
variable {prog:Program}{w:World}{A:Around}{E:Value->Shared->Prop}{s:Shared}
end
end HT
namespace L2
open PySem PySem.Spec PyProof.Rows
section
variable {X:Cx}
end
section
variable {X:Cx}{scope:Scope}{y y0:Str}{caps:List (Str × Nat)}{ah:List (Addr × Obj)}{σ : St}{H:Hp}{s:Shared}{fp:List Addr}
end
section
variable {X:Cx}
end
theorem rQ:entryFor table "proto.unchain" = some Builtin.«proto.unchain» := entryFor_of_tree (by kernel_rfl)
section
variable {prog:Program}{w:World}{A:Around}{E:Value->Shared->Prop}{s:Shared}
theorem K6 {e ha:Addr}{Q:Value->Shared->Prop} (c:Hu s.heap ha) (fr:∀ a,F2 s.heap ha (.ref a)->a≠e) (q:Q .none s):wpAny (model prog w) A (runValue (.builtin "proto.unchain" ⟨[.ref e,.ref ha,.ref ha,.bool false], []⟩)) Q E s:=by
 rcases c with c | ⟨a,na,c,c0⟩
 ·obtain⟨o,vs,g,d,z⟩:=c
  refine wpAny_runValue (codeAny_builtin rQ ?_)
  unfold Builtin.«proto.unchain»
  dsimp only
  refine wpAny_bind (wpAny_field g d z ?_)
  rw[if_pos (by rfl)]
  exact wpAny_pure (a:=Fin.done (.ret .none)) q
 ·have ne:=fr a c
  obtain⟨o,vs,g,d,z⟩:=c
  obtain⟨o2,vs2,g2,d2,z2⟩:=c0
  refine wpAny_runValue (codeAny_builtin rQ ?_)
  unfold Builtin.«proto.unchain»
  dsimp only
  refine wpAny_bind (wpAny_field g d z ?_)
  rw[if_neg (by simp),if_neg (by simp[ne]),if_neg (by simp[na])]
  refine wpAny_bind (wpAny_pure ?_)
  try dsimp only
  refine wpAny_pure (a:=Fin.again (.builtin "proto.unchain" ⟨[.ref e,.ref a,.ref ha,.bool true], []⟩)) ⟨plainId_quiet (by decide +kernel) _,codeAny_builtin rQ ?_⟩
  unfold Builtin.«proto.unchain»
  dsimp only
  refine wpAny_bind (wpAny_field g2 d2 z2 ?_)
  rw[if_pos (by rfl)]
  exact wpAny_pure (a:=Fin.done (.ret .none)) q
theorem Ld {α : Type}{e ha:Addr}{oe:Obj}{vs:Array Value}{Q : α -> Shared->Prop} (hh:A.handled=some (.ref ha)) (ne:e≠ha) (c:Hu s.heap ha) (fr:∀ a,F2 s.heap ha (.ref a)->a≠e) (ge:s.heap.get? e=some oe) (gd:oe.data = .fields vs) (gz:2 < vs.size)
  (q:E (.ref e) { s with heap:=s.heap.update e (d6 (·.setIfInBounds 2 (.ref ha))) }):wpAny (model prog w) A (raiseNew (.ref e):Sem α) Q E s:=by
 unfold raiseNew
 refine wpAny_bind (wpAny_handled ?_)
 rw[hh]
 dsimp only
 have hn:(bf ha != bf e)=true:=by simp[cK ne]
 rw[if_pos hn]
 refine wpAny_bind (wpAny_holding (K6 c fr ?_))
 refine wpAny_bind ?_
 show wpAny _ _ (setField (.ref e) 2 (.ref ha)) _ _ _
 exact wpAny_setField ge gd gz (wpAny_throw q)
end
section
variable {M:Model}{A:Around}{E:Value->Shared->Prop}{qn nm:Str}{N C:Addr}{bm bs:List Value}{hdct ab:Bool}{sn:List Str}{sub:List Value}{col:Option Bool}{dd:Option Addr}{k0 k1 k2 k3 k5:Option Value}{newId:String}
theorem Au {h:Heap}{g:Array GenState}{d:Drawn}{tk:Nat}{os:OsState}{e:Addr}{dx:Option Addr}{ar:Array Value}{msg:String}{Q:Value->Shared->Prop} (sE:bm.contains (.type "BaseException")=true)
  (gC:h.get? C=some (excClassObj nm qn C N bs bm hdct sn sub ab col dd k0 k1 k2 k3 k5 newId)) (ge:h.get? e=some { cls := .ref C,dict:=dx,data := .fields ar }) (q:Q (.ref e) ⟨h,g,d,tk,os⟩):wpAny M A (excFromValue (.ref e) msg) Q E ⟨h,g,d,tk,os⟩:=by
 have Qj:(bf C :: bm).contains (.type "BaseException")=true:=by rw[jZ,sE,uP]
 unfold excFromValue
 repeat (first | wp_step | with_reducible refine wpAny_loadPart_at ge ?_ | with_reducible refine wpAny_loadPart_at gC ?_ | (with_reducible refine wpAny_isSubtype_exc gC ?_;rw[Qj]))
 exact q
end
section
variable {prog:Program}{w:World}{A:Around}{E:Value->Shared->Prop}{s:Shared}{env:Env}{qn nm:Str}{N C:Addr}{bm bs:List Value}{hdct ab:Bool}{sn:List Str}{sub:List Value}{col:Option Bool}{dd:Option Addr}{k0 k1 k2 k3 k5:Option Value}{newId:String}
theorem zM {x c:Sem Value}{ha:Addr}{Q:Flow->Shared->Prop} (sE:bm.contains (.type "BaseException")=true) (hh:A.handled=some (.ref ha)) (hc:∀ (R:Value->Shared->Prop) (s':Shared),R .none s'->wpAny (model prog w) A c R E s')
  (h:wpAny (model prog w) A x (fun v s1=>∃ e t dx,v = .ref e∧e≠ha∧Hu s1.heap ha∧(∀ a,F2 s1.heap ha (.ref a)->a≠e)∧s1.heap.get? C=some (excClassObj nm qn C N bs bm hdct sn sub ab col dd k0 k1 k2 k3 k5 newId)∧s1.heap.get? e=some { cls := .ref C,dict:=dx,data := .fields #[.ref t,.none,.none,.none,.bool false,.none] } ∧
   ∀ h',(∀ b o,b≠e->s1.heap.get? b=some o->h'.get? b=some o)->h'.get? e=some { cls := .ref C,dict:=dx,data := .fields #[.ref t,.none,.ref ha,.none,.bool true,.none] }->E (.ref e) { s1 with heap:=h' }) E s) :
  wpAny (model prog w) A (raiseStmt env (some x) (some c)) Q E s:=by
 unfold raiseStmt
 refine wpAny_bind (wpAny_mono h (fun v s1 h1 => ?_) fun _ _ z=>z)
 obtain⟨e,t,dx,rfl,ne,c0,fr,gC,ge,hE⟩:=h1
 obtain⟨hp,g,d,tk,os⟩:=s1
 refine wpAny_bind (wpAny_holding (hc _ _ ?_))
 refine wpAny_bind (wpAny_pure ?_)
 try dsimp only
 refine wpAny_bind (wpAny_holding (Au sE gC ge ?_))
 try dsimp only
 rw[if_pos (by rfl)]
 refine wpAny_bind (wpAny_pure ?_)
 have nC:e≠C:=fun z=>by rw[z,gC]at ge;have:=congrArg Obj.data (bD ge);cases this
 refine wpAny_bind (wpAny_setField ge rfl (by simp) ?_)
 have g1:=eY (d6 (·.setIfInBounds 3 ef)) ge rfl
 have o1:∀ b,b≠e->(hp.update e (d6 (·.setIfInBounds 3 ef))).get? b=hp.get? b:=fun b n=>cH _ _ (cK n)
 generalize hp.update e (d6 (·.setIfInBounds 3 ef))=h1 at g1 o1 ⊢
 refine wpAny_bind (wpAny_setField g1 rfl (by simp) ?_)
 have g2:=eY (d6 (·.setIfInBounds 4 (iM true))) g1 rfl
 have o2:∀ b,b≠e->(h1.update e (d6 (·.setIfInBounds 4 (iM true)))).get? b=hp.get? b:=fun b n=>(cH _ _ (cK n)).trans (o1 b n)
 try dsimp only
 generalize h1.update e (d6 (·.setIfInBounds 4 (iM true)))=h2 at g2 o2 ⊢
 have gC2:=(o2 C (cK nC)).trans gC
 have ge2:h2.get? e=some { cls := .ref C,dict:=dx,data := .fields #[.ref t,.none,.none,.none,.bool true,.none] }:=g2
 have f2:∀ b y,b≠e->F2 hp b y->F2 h2 b y:=fun b y nb c=>by
  obtain⟨o,vs,a1,a2,a3⟩:=c
  exact⟨o,vs,(o2 b nb).trans a1,a2,a3⟩
 have c2:Hu h2 ha:=by
  rcases c0 with c | ⟨a,na,c,c'⟩
  ·exact .inl (f2 _ _ (cK ne) c)
  ·exact .inr ⟨a,na,f2 _ _ (cK ne) c,f2 _ _ (fr a c) c'⟩
 have Mz:∀ a,F2 h2 ha (.ref a)->a≠e:=fun a c=>fr a (by
  obtain⟨o,vs,a1,a2,a3⟩:=c
  exact⟨o,vs,(o2 ha (cK ne)).symm.trans a1,a2,a3⟩)
 repeat (first | with_reducible refine wpAny_loadPart_at ge2 ?_ | with_reducible refine wpAny_loadPart_at gC2 ?_ | wp_step)
 refine Ld hh ne c2 Mz ge2 rfl (by simp) (hE _ (fun b o n q => ?_) ?_)
 ·exact(cH _ _ (cK n)).trans ((o2 b n).trans q)
 ·exact eY (d6 (·.setIfInBounds 2 (bf ha))) ge2 rfl
end
structure abH (h h':Heap) (e C ha:Addr):Prop where
 ctx:F2 h' e (.ref ha)
 keeps:∀ b o,h.get? b=some o->h'.get? b=some o
 new:h.get? e=none
 there:∃ oe vs a0,h'.get? e=some oe∧oe.cls = .ref C∧oe.data = .fields vs∧vs[1]? = some .none∧vs[0]? = some a0
section
variable {prog:Program}{w:World}{A:Around}{E:Value->Shared->Prop}{s:Shared}{env:Env}{qn nm:Str}{N C:Addr}{bm bs Kr:List Value}{hdct ab:Bool}{sn:List Str}{sub:List Value}{col:Option Bool}{dd:Option Addr}{k0 k1 k2 k3 k5:Option Value}{B newId Ed:String}
theorem BH (F:ExcBaseFacts B newId Ed Kr) {mN:Str->Option Value}{x:Str}{np dJ pos tG:Pos}{j:Nat}{args:List Expr}{Q:Flow->Shared->Prop}{ha:Addr} (sE:bm.contains (.type "BaseException")=true) (hh:A.handled=some (.ref ha))
  (fu:(backTo dJ (starEach args env)).any (·.1)=false) (GV:mN "__init__" = none)
  (h:wpAny (model prog w) A (eval (.Name x np) env) (fun f s1=>f = .ref C∧wpAny (model prog w) A (evalArgs (.ref C) true (backTo dJ (starEach args env)) []) (fun a s2=>a.kw = []∧a.pos.length<=sizeLine∧s2.heap.get? C=some (excClassObj nm qn C N bs bm hdct sn sub ab col dd k0 k1 k2 k3 k5 newId)∧s2.heap.Ns N mN∧OwnTail s2.heap Kr bm ∧
   Hu s2.heap ha∧∀ h' e,abH s2.heap h' e C ha->E (.ref e) { s2 with heap:=h' }) E s1) E s) :
  wpAny (model prog w) A (exec (.Raise (some (.Call (.Name x np) args [] dJ)) (some (.Constant .none j tG)) pos) env) Q E s:=by
 rw[arm_exec_Raise]
 refine wpAny_bind (wpAny_standAt ?_)
 refine zM (C:=C) (nm:=nm) (qn:=qn) (N:=N) (bs:=bs) (bm:=bm) (hdct:=hdct) (sn:=sn) (sub:=sub) (ab:=ab) (col:=col) (dd:=dd) (k0:=k0) (k1:=k1) (k2:=k2) (k3:=k3) (k5:=k5) (newId:=newId) (x:=do let v <- eval (.Call (.Name x np) args [] dJ) env;standAt pos;pure v) (c:=do let v <- eval (.Constant .none j tG) env;standAt pos;pure v) sE hh
  (fun R s' r=>wpAny_bind (Constant_none (wpAny_bind (wpAny_standAt (wpAny_pure r))))) (wpAny_bind (wpAny_mono (wpAny_Call_ofName (wpAny_mono h (fun f s1 h1 => ?_) fun _ _ z=>z)) (fun v s3 h3=>wpAny_bind (wpAny_standAt (wpAny_pure h3))) fun _ _ z=>z))
 obtain⟨rfl,h1⟩:=h1
 unfold callWith
 refine wpAny_bind (wpAny_holding (wpAny_mono h1 (fun a s2 h2=>wpAny_bind (wpAny_standAt ?_)) fun _ _ z=>z))
 obtain⟨ap,ak⟩:=a
 obtain⟨rfl,hl,gC,gN,T,c0,k⟩:=h2
 obtain⟨hp,g,d,tk,os⟩:=s2
 simp only[fu]
 refine wpAny_bind (wpAny_keeperOf_exc gC ?_)
 refine wpAny_bind (wpAny_call_exc_subT (hrest:=hl) F T gC gN GV fun h' e m=>wpAny_bind (wpAny_holding (wpAny_point (wpAny_pure ?_))))
 obtain⟨t,gt,_,_⟩:=m.there
 have nf:∀ b y,F2 hp b y->e≠b:=fun b y c z=>by
  obtain⟨o,vs,a1,_,_⟩:=c
  rw[<- z,m.new]at a1
  cases a1
 have kf:∀ b y,F2 hp b y->F2 h' b y:=fun b y c=>by
  obtain⟨o,vs,a1,a2,a3⟩:=c
  exact⟨o,vs,m.keeps _ _ a1,a2,a3⟩
 have hf:∃ y:Value,F2 hp ha y:=by
  rcases c0 with c | ⟨a,_,c,_⟩
  ·exact⟨_,c⟩
  ·exact⟨_,c⟩
 obtain⟨y0,hf⟩:=hf
 have ne:e≠ha:=nf ha y0 hf
 have un:∀ y:Value,F2 h' ha y->y=y0:=fun y c=>by
  obtain⟨o,vs,a1,a2,a3⟩:=c
  obtain⟨o',zp,b1,b2,b3⟩:=kf _ _ hf
  rw[a1]at b1
  cases b1
  rw[a2]at b2
  cases b2
  exact bD ((show vs[2]? = some y from a3).symm.trans b3)
 have cn:Hu h' ha∧∀ a,F2 h' ha (.ref a)->a≠e:=by
  rcases c0 with c | ⟨a,na,c,c'⟩
  ·refine⟨.inl (kf _ _ c),fun a z => ?_⟩
   have:=(un _ (kf _ _ c)).trans (un _ z).symm
   cases this
  ·refine⟨.inr ⟨a,na,kf _ _ c,kf _ _ c'⟩,fun b z => ?_⟩
   have e1:=(un _ (kf _ _ c)).trans (un _ z).symm
   cases e1
   exact cK (nf _ _ c')
 refine⟨e,t,none,rfl,ne,cn.1,cn.2,m.keeps _ _ gC,gt,fun h2 kp go=>k h2 e ⟨⟨_,_,go,rfl,rfl⟩,fun b o q=>kp b o (fun z=>by rw[z,m.new]at q;cases q) (m.keeps b o q),m.new,_,_,_,go,rfl,rfl,rfl,rfl⟩⟩
end
section
variable {M:Model}{A:Around}{E:Value->Shared->Prop}{s:Shared}
theorem G6 {base:Heap}{l:List Env}{e L:Addr}{cls a0:Value}{Q:Unit->Shared->Prop} (hh:nc base l e cls a0 L s.heap)
  (k:∀ h',nc base l e cls a0 L h'->s.heap.UpToSlots h'->(∀ y,F2 s.heap e y->F2 h' e y)->Q () { s with heap:=h' }):wpAny M A (setFlight (.ref e) (some L)) Q E s:=by
 obtain⟨kb,be,ff,oe,vs,Tr,oT,ts,ge,gc,gd,g1,bT,yS,gT,dT,g3⟩:=hh
 have z3:=(gK.mp g3).1
 have ot:∀ b,b≠Tr->(s.heap.update Tr (d6 (·.setIfInBounds 3 ((some L).elim ef fun f=>rawInt f)))).get? b=s.heap.get? b:=fun b n=>cH _ _ (cK n)
 have nr:∀ b o,s.heap.get? b=some o->(∀ ws,o.data ≠ .fields ws)->b≠Tr:=fun b o q nf z=>by
  rw[z,gT]at q
  cases q
  exact nf ts dT
 unfold setFlight
 refine wpAny_bind (wpAny_field ge gd g1 ?_)
 rw[if_pos (show (bf Tr != ef)=true by simp)]
 refine wpAny_setField gT dT z3 (k _ ⟨fun b o q=>(ot b fun z=>by rw[z,bT]at q;cases q).trans (kb b o q),be,ff.of_keeps fun b o q nf=>⟨o,(ot b (nr b o q nf)).trans q,rfl⟩,?_⟩ (fun b o q nf=>⟨o.slots,(ot b (nr b o q nf)).trans q⟩) fun y c=>c.other yS)
 exact⟨oe,vs,Tr,_,_,(ot e (cK yS)).trans ge,gc,gd,g1,bT,yS,eY _ gT (oJ (gU dT _)),gU dT _,by simp[z3]⟩
theorem leave_held {base:Heap}{env:Env}{outer:List Env}{L e:Addr}{cls a0:Value}{Q:Unit->Shared->Prop} (fL:env.frame=some L) (hh:nc base (env :: outer) e cls a0 L s.heap)
  (k:∀ h',eB base outer e cls a0 h'->s.heap.UpToSlots h'->(∀ y,F2 s.heap e y->F2 h' e y)->Q () { s with heap:=h' }):wpAny M A (leaving env (.ref e)) Q E s:=by
 unfold leaving
 refine wpAny_bind (wpAny_noteFrame_againW fL hh.2.2.2 ?_)
 obtain⟨n1,n2,n3,n4⟩:=hh
 refine jb n1 n2 n3 n4 fun h2 f2 DL c2 => ?_
 obtain⟨m1,m2,⟨_,_,m3⟩,m4⟩:=f2
 exact k h2 ⟨m1,m2,m3,m4⟩ DL c2
theorem Hd {base:Heap}{env:Env}{l:List Env}{L e:Addr}{cls a0:Value} (fL:env.frame=some L) (hh:nc base l e cls a0 L s.heap)
  (k:∀ h',nc base l e cls a0 L h'->s.heap.UpToSlots h'->(∀ y,F2 s.heap e y->F2 h' e y)->E (.ref e) { s with heap:=h' }):cameBackBy M A env E (.ref e) s:=by
 obtain⟨oe,vs,Tr,oT,ts,ge,gc,gd,g1,_⟩:=id hh.2.2.2
 unfold cameBackBy
 refine wpAny_bind (wpAny_field ge gd g1 ?_)
 rw[if_neg (show ¬ ((bf Tr == ef)=true) by simp),fL]
 first
  | exact G6 hh k
  | exact wpAny_bind (wpAny_pure (G6 hh k))
end
def pV (ea C:Addr) (m:Option Addr):HO := .ext fun h=>∃ o vs,h.get? ea=some o∧o.cls = .ref C∧o.data = .fields vs∧vs[2]? = some (lY m)
def ChO (H:Hp) (ea:Addr):Prop:=(∃ C,H ea=some (pV ea C none))∨∃ C a C',a≠ea∧H ea=some (pV ea C (some a))∧H a=some (pV a C' none)
def XH (X:Cx) (ea:Addr):Value->Shared->Prop:=notedBy (model X.prog X.w) (X.A.mark (some (.ref ea))) X.env fun x s2=>cameBackBy (model X.prog X.w) X.A X.env X.xe x s2
abbrev Cx.jm (X:Cx) (ea:Addr):Cx:=X.gy (X.A.mark (some (.ref ea))) (XH X ea)
def KQ (X:Cx) (ea C:Addr) (E:XK):Prop := ∀ (ah:List (Addr × Obj)) (σ : St) (H:Hp) (s:Shared) (h':Heap) (e:Addr),Inv (X.jm ea) ah σ H s->abH s.heap h' e C ea->E (.ref C) (some ea) H->XH X ea (.ref e) { s with heap:=h' }
section
variable {P:Program}{w:World}{K:aj}{mg:Str->Option Value}{base:Heap}{N:List Str}{bu:Str}{scope:Scope}{f:Addr}{a8:Value}{A:Around}{outer:List Env}{s0:Shared}{H0:Hp}{E:XK}{ea C:Addr}
theorem aaX:KQ (bZ (iY P w) P w K mg base N bu scope f a8 A outer s0 H0 E) ea C E:=by
 intro ah σ H s h' e I nx q
 have fr:s.heap.FunFrames base (envOfC bu scope s0.heap.objs.size f a8 :: outer):=I.stack
 have sf:∀ b∈dU (envOfC bu scope s0.heap.objs.size f a8 :: outer),H b=none:=I.wm
 have GX:∀ env∈(envOfC bu scope s0.heap.objs.size f a8 :: outer),∀ b,env.frame=some b->b∈dU (envOfC bu scope s0.heap.objs.size f a8 :: outer):=fun env he b hb=>eP.mpr ⟨env,he,hb⟩
 have es:dU (envOfC bu scope s0.heap.objs.size f a8 :: outer)=s0.heap.objs.size :: dU outer:=uT rfl
 obtain⟨oe,vs,a0,ge,gc,gd,g1,g0⟩:=nx.there
 have ff:=(nM fr GX).of_keeps (h':=h') fun b o z _=>⟨o,nx.keeps b o z,rfl⟩
 have kb:(cx s.heap (dU (envOfC bu scope s0.heap.objs.size f a8 :: outer))).StaysIn h':=fun b o z=>nx.keeps b o (eM _ z)
 have be:(cx s.heap (dU (envOfC bu scope s0.heap.objs.size f a8 :: outer))).get? e=none:=by
  cases z:(cx s.heap (dU (envOfC bu scope s0.heap.objs.size f a8 :: outer))).get? e with
  | none=>rfl
  | some o=>have:=eM _ z;rw[nx.new]at this;cases this
 show wpAny _ _ (noteFrame _ _) _ _ _
 refine CT (s := { s with heap:=h' }) (a0:=a0) I.ok.frames ff rfl ge kb be gd g1 g0 fun h1 hh Ys c1 => ?_
 rw[gc]at hh
 refine Hd (s := { s with heap:=h1 }) rfl hh fun h2 hh2 DL c2 => ?_
 show wpAny _ _ (leaving _ _) _ _ _
 refine leave_held (s := { s with heap:=h2 }) rfl hh2 fun h3 x1 Yr c3 => ?_
 have x4:=(Ys.trans DL).trans Yr
 have kj:∀ b o,s.heap.get? b=some o->b ∉ s0.heap.objs.size :: dU outer->(cx s.heap (dU (envOfC bu scope s0.heap.objs.size f a8 :: outer))).get? b=some o:=fun b o z hb=>gq _ z (by rw[es];exact hb)
 have Ib:Un (dU outer) [] H0 H s0.heap s.heap:=I.base
 refine⟨e,C,a0,_,H,rfl,x1,I.os,I.bare,gh.part I.br fun b u v z1 z2=>gq _ z2 fun hm => ?_,?_,?_,some ea,_,.pl (c3 _ (c2 _ (c1 _ nx.ctx))),q⟩
 ·rw[sf b hm]at z1;cases z1
 ·refine Un.VF (h:=s.heap) (h1:=h') (L:=s0.heap.objs.size) Ib (Un.kept nx.keeps) (dj (aB _)) (fun b o z hb=>⟨o,kj b o z hb⟩) (fun b o z=>nx.keeps _ _ (eM _ z)) x1.1 x4 fun b hb => ?_
  obtain⟨_,o,z,d⟩:=fr.mem (b:=b) (by show b∈dU _;rw[es];exact aL _ hb)
  exact⟨o,nx.keeps _ _ z,d⟩
 ·intro b o z hb
  obtain⟨o1,z1⟩:=Ib.there b o z (by simp)
  refine⟨o1,kj b o1 z1 fun hm => ?_⟩
  rcases aK.mp hm with y | y
  ·rw[y,dj (aB _)]at z;cases z
  ·exact hb y
end
inductive Hm (ea C:Addr) (E:XK) (vs:List V) (H1:Hp):Prop
 | mk (z0:vs.length<=sizeLine) (z1:ChO H1 ea) (z2:E (.ref C) (some ea) H1):Hm ea C E vs H1
def Lu (C:Addr) (E:XK) (t:TA) (ea:Addr):TS:=fun _ σ H=>t σ H fun vs H1=>Hm ea C E vs H1
theorem O9 {X:Cx}{ea C:Addr}{x:Str}{E:XK}{ka : Expr}{rest:List Expr}{t:TA}{np dJ pos tG:Pos}{j:Nat} (O:Exc X.K X.mg x C) (F:KQ X ea C E) (ha:PA (X.jm ea) (ka :: rest) t) (hg:Gl X x)
  (he:starEach (ka :: rest) X.env=(false,eval ka X.env) :: starEach rest X.env:=by rfl) (mv:(backTo dJ (starEach rest X.env)).any (·.1)=false:=by rfl) (hd:(x == ("__debug__" : Str))=false:=by decide) :
  PS (X.jm ea) (.Raise (some (.Call (.Name x np) (ka :: rest) [] dJ)) (some (.Constant .none j tG)) pos) (Lu C E t ea):=by
 intro ah s σ H D I h
 obtain⟨tl,N,nm,q,bs,hdct,sn,sub,ab,col,dd,k0,k1,k2,k3,k5,mN,hC,hN,GV,T⟩:=(O.own I.ok.mod.zY).obj
 refine BH (C:=C) (nm:=nm) (qn:=q) (N:=N) (bs:=bs) (bm:=tl) (hdct:=hdct) (sn:=sn) (sub:=sub) (ab:=ab) (col:=col) (dd:=dd) (k0:=k0) (k1:=k1) (k2:=k2) (k3:=k3) (k5:=k5)
  gJ (mN:=mN) (ha:=ea) (T.hasType gJ.hasBase) rfl (by rw[he];show (false || (backTo dJ (starEach rest X.env)).any (·.1))=false;rw[mv];rfl) GV (jq I hg O.glob ⟨rfl,?_⟩ hd)
 have xZ := ha dJ ah s σ H _ I h
 have Mo:starEach (ka :: rest) (X.jm ea).env=(false,eval ka (X.jm ea).env) :: starEach rest (X.jm ea).env:=he
 rw[Mo]at xZ ⊢
 refine jf (wpAny_mono xZ (fun vs lV ⟨xs,H1,I1,r,hl,hx,hq⟩ => ?_) fun _ _ y=>y)
 have one:∀ {b CC:Addr}{m:Option Addr},H1 b=some (pV b CC m)->F2 lV.heap b (lY m):=fun {b CC m} hb=>by
  obtain⟨⟨o,ws,a1,_,a3,a4⟩,_⟩:=(show dD X.prog X.w H1 lV.heap b (pV b CC m) from I1.br b _ hb)
  exact⟨o,ws,a1,a3,a4⟩
 have cn:Hu lV.heap ea:=by
  rcases hx with⟨CC,hx⟩ | ⟨CC,a,CC',na,h1,h2⟩
  ·exact .inl (one hx)
  ·exact .inr ⟨a,na,one h1,one h2⟩
 exact⟨rfl,by rw[<- r.length];exact hl,I1.bk _ _ hC,hN.keeps I1.bk,T.keeps I1.bk,cn,fun h' e hm=>F ah σ H1 lV h' e I1 hm hq⟩
theorem Nx {X:Cx}{ea C:Addr}{x:Str}{E:XK}{ka : Expr}{rest:List Expr}{t:TA}{np dJ pos tG:Pos}{j:Nat} (O:Exc X.K X.mg x C) (F:KQ X ea C E) (ha:QA (X.jm ea) (ka :: rest) t) (hg:Gl X x)
  (he:starEach (ka :: rest) X.env=(false,eval ka X.env) :: starEach rest X.env:=by rfl) (mv:(backTo dJ (starEach rest X.env)).any (·.1)=false:=by rfl) (hd:(x == ("__debug__" : Str))=false:=by decide) :
  QS (X.jm ea) (.Raise (some (.Call (.Name x np) (ka :: rest) [] dJ)) (some (.Constant .none j tG)) pos) (Lu C E t ea):=by
 delta QA QS at *
 exact O9 O F ha hg he mv hd
section
variable {X:Cx}{ah:List (Addr × Obj)}{σ : St} {H0 H':Hp} {s0 s':Shared}{ea C:Addr}{a0:Value}{B h5:Heap}{m:Option Addr}
theorem Cf (I:Inv X ah σ H0 s0) (fl:eB B X.stack ea (.ref C) a0 s'.heap) (os:s'.os=s0.os) (bare:AllBare s'.gens) (br:gh X.prog X.w H' B) (un:Un (dU X.stack) [] H0 H' s0.heap s'.heap)
  (kj:∀ b o,s0.heap.get? b=some o->b ∉ dU X.stack->∃ o',B.get? b=some o') (k5:∀ b o,B.get? b=some o->h5.get? b=some o) (sl:s'.heap.UpToSlots h5) (he:∃ o vs,h5.get? ea=some o∧o.cls = .ref C∧o.data = .fields vs∧vs[2]? = some (lY m)) :
  Inv X ah σ (aO H' ea (pV ea C m)) { s' with heap:=h5 }∧H' ea=none:=by
 have hn:H' ea=none:=br.Jz fl.2.1
 have fm:∀ b∈dU X.stack,∃ o,s'.heap.get? b=some o∧∀ vs,o.data ≠ .fields vs:=fun b hb=>(fl.2.2.1.mem hb).2
 obtain⟨oe,vs,h1,h2,h3,h4⟩:=he
 have new:s0.heap.get? ea=none:=by
  cases q:s0.heap.get? ea with
  | none=>rfl
  | some o =>
   by_cases hb:ea∈dU X.stack
   ·obtain⟨ob,q3,d⟩:=fm ea hb
    obtain⟨s4,q4⟩:=sl ea _ q3 d
    rw[h1]at q4
    cases q4
    exact absurd h3 (d vs)
   ·obtain⟨o',e⟩:=kj ea o q hb
    rw[fl.2.1]at e;cases e
 refine⟨Inv.Of (s' := { s' with heap:=h5 }) I os ((un.on kj fl.1 k5 sl fm).more new hn) ?_ bare (fun b z=>absurd z (by simp)),hn⟩
 intro b u e
 have tup:∀ c xs,H' c=some (.tup xs)->aO H' ea (pV ea C m) c=some (.tup xs):=fun c xs z=>by rw[bh (dC z hn)];exact z
 have own:∀ c y,H' c=some (.own y)->aO H' ea (pV ea C m) c=some (.own y):=fun c y z=>by rw[bh (dC z hn)];exact z
 by_cases hb:b=ea
 ·subst hb
  rw[av]at e
  cases e
  exact⟨⟨oe,vs,h1,h2,h3,h4⟩,⟨oe,h1⟩,fun g1 g2 ⟨o,ws,z1,z2⟩ k=>⟨o,ws,k o z1,z2⟩⟩
 ·rw[bh hb]at e
  exact(br b u e).sV (fun c v hc q=>k5 _ _ q) (fun c z=>own c b z) tup
end
def UG (K:aj) (CH:Addr) (tb:XK->TS) (th:Addr->TS):TS:=fun D σ H =>
 tb (fun cls m H'=>∃ C,cls = .ref C∧fG K (.ref C) (.ref CH)=some true∧∀ ea,H' ea=none->th ea D σ (aO H' ea (pV ea C m))) D σ H
theorem WM {X:Cx}{body:List Stmt}{tb:XK->TS}{th:Addr->TS}{x:Str}{CH:Addr}{mD : Stmt}{jL:List Stmt}{np mr pos:Pos} (kE:X.stack=X.env :: X.outer∧X.env.frame=some X.env.locals)
  (hg:Gl X x) (hm:X.mg x=some (.ref CH)) (hb:vm X body tb) (hh:∀ ea:Addr,k4 (X.jm ea) (mD :: jL) (th ea)) (hd:(x == ("__debug__" : Str))=false:=by decide) :
  PS X (.Try body [.ExceptHandler (some (.Name x np)) none (mD :: jL) mr] [] [] pos) (UG X.K CH tb th):=by
 intro ah s σ H D I h
 refine wpAny_Try_except (wpAny_mono (hb _ ah s σ H D _ ?W I h) (fun f s1 q => ?_) fun _ _ z=>z)
 case W =>
  intro H0 s0 e s' I0 hx
  obtain⟨ea,C,a0,B,H',rfl,fl,os,bare,br,un,kj,m,cc,hk,C',hc,Qg,P7⟩:=hx
  obtain⟨rfl,c0⟩:=hk.ref hc
  have JU:X.A.frames=some (X.env :: X.outer):=by rw[I0.ok.frames,kE.1]
  have Qw:eB B (X.env :: X.outer) ea (.ref C) a0 s'.heap:=by rw[<- kE.1];exact fl
  refine Bt JU kE.2 Qw fun xY wN uV c4 => ?_
  obtain⟨p1,p2,p3,p4⟩:=wN
  refine jb (s := { s' with heap:=xY }) p1 p2 p3 p4 fun iD jR uU c5 => ?_
  have Hf:=c5 _ (c4 _ c0)
  obtain⟨o5,vs5,g1,g2,g3,_⟩:=jR.first
  have two:∀ {h:Heap}{o:Obj}{vs:Array Value},h.get? ea=some o->o.cls = .ref C->o.data = .fields vs->F2 h ea (lY m)->∃ o vs,h.get? ea=some o∧o.cls = .ref C∧o.data = .fields vs∧vs[2]? = some (lY m):=fun {h o vs} q1 q2 q3 c=>by
   obtain⟨o',zp,r1,r2,r3⟩:=c
   rw[q1]at r1
   cases r1
   exact⟨o,zp,q1,q2,r2,r3⟩
  obtain⟨I5,lG⟩:=Cf (h5:=iD) I0 fl os bare br un kj jR.1 (uV.trans uU) (two g1 g2 g3 Hf)
  have J5:Inv (X.jm ea) ah σ (aO H' ea (pV ea C m)) { s' with heap:=iD }:=I5.gy rfl
  refine wpAny_handleBy_cons (codeAny_handlers_test (jq J5 hg hm ?_ hd)) (by intro q;cases q)
  have LT:fw (model X.prog X.w) iD (typeOf (.ref ea)) (.ref C):=g2 ▸ (oq g1).andThen .now
  refine(Ey (M:=model X.prog X.w) I5.gL LT Qg).at ?_
  show codeAny _ _ _ _ _
  refine codeAny_handlers_suite ?_
  refine jb (s := { s' with heap:=iD }) jR.1 jR.2.1 jR.2.2.1 jR.2.2.2 fun Ac ve DJ c6 => ?_
  obtain⟨o6,vs6,j1,j2,j3,_⟩:=ve.first
  obtain⟨I6,_⟩:=Cf (h5:=Ac) I0 fl os bare br un kj ve.1 ((uV.trans uU).trans DJ) (two j1 j2 j3 (c6 _ Hf))
  refine wpAny_mono (hh ea ah _ _ _ _ (I6.gy rfl) (P7 ea lG)) (fun f s8 q8 => ?_) fun _ _ z=>z
  have pz:∀ {bC dF}{s9:Shared},Inv (X.jm ea) ah bC dF s9->Inv X ah bC dF s9:=fun J=>J.Jb I0.ok.hd rfl
  cases f with
  | next =>
   obtain⟨bC,dF,J,q⟩:=q8
   exact⟨_,_,pz J,q⟩
  | brk =>
   obtain⟨bC,dF,J,q⟩:=q8
   exact⟨_,_,pz J,q⟩
  | cont =>
   obtain⟨bC,dF,J,q⟩:=q8
   exact⟨_,_,pz J,q⟩
  | ret u =>
   obtain⟨v, bC,dF,J,r,q⟩:=q8
   exact⟨v,_,_,pz J,r,q⟩
 cases f with
 | next=>exact wpAny_execs_nil q
 | brk=>exact q
 | cont=>exact q
 | ret u=>exact q
theorem Sg {X:Cx}{body:List Stmt}{tb:XK->TS}{th:Addr->TS}{x:Str}{CH:Addr}{mD : Stmt}{jL:List Stmt}{np mr pos:Pos} (kE:X.stack=X.env :: X.outer∧X.env.frame=some X.env.locals)
  (hg:Gl X x) (hm:X.mg x=some (.ref CH)) (hb:vm X body tb) (hh:∀ ea:Addr,iJ (X.jm ea) (mD :: jL) (th ea)) (hd:(x == ("__debug__" : Str))=false:=by decide) :
  QS X (.Try body [.ExceptHandler (some (.Name x np)) none (mD :: jL) mr] [] [] pos) (UG X.K CH tb th):=by
 delta QS iJ at *
 exact WM kE hg hm hb hh hd
section
variable {X:Cx} {k k':Nat}{m:Str}{C:Addr}{ps:List Str}{gb:List V}{sp:Sp}{pos fS:Pos}{e o:Expr}{es:List Expr}{ta:TE}{t:TA}{pl:Sem Bool}
theorem WI {te:XK->TE}{adX:Pos} (he:Rn X e te):vm X [.Return (some e) adX] (fun E=>RS (te E)):=by
 intro E ah s σ H D xe W I h
 exact wpAny_execs_cons (wpAny_Return_some (cz (he E ah s σ H _ xe W I h) fun v s1 ⟨x,H1,I1,r1,q1⟩=>⟨x, σ,H1,I1,r1,q1⟩))
end
section
variable {prog:Program}{w:World}{K:Type} [DecidableEq K] {knd:HeapKind prog w K}{A:Around}{E:Value->Shared->Prop}{s:Shared}{d a:Addr}{k:K}{xs:List (K × Addr × Value)}
end
section
variable {prog:Program}{w:World}{K:Type} [DecidableEq K] (knd:HeapKind prog w K) (d a:Addr)
end
section
variable {X:Cx}{ah:List (Addr × Obj)}{σ : St}{H:Hp}{s:Shared}{a b:Addr}{kvs:List (NK × V)}{k:NK}{v:V}{A:Around}{E:Value->Shared->Prop}
end
section
variable {X:Cx}{o e:Expr}{fS dJ:Pos}{td ty:TE}
end
section
variable {X:Cx}
end
section
variable {X:Cx}{CX:uN} {k k':Nat}{f C:Addr}{fd:FuncData}{ps:List Str}{sp:Sp}{gb:List V}{ds:List Value}{E:XK}{x m:Str}{p pos fS:Pos}{e o:Expr}{es:List Expr}{ta:TE}{t:TA}
end
section
variable {P:Program}{w:World}{K:aj}{mg:Str->Option Value}{base:Heap}{x m bu:Str}{st:Stmt}{N ps:List Str}{k:Nat}{sp:Sp}
end
section
variable {X:Cx} {k k':Nat}{x m:Str}{ps:List Str}{sp:Sp}{p pos fS:Pos}{e:Expr}{es:List Expr}{t:TA}{E:XK}
end
section
variable {X:Cx}
theorem XZ:∀ k,k < 26->dE ("abcdefghijklmnopqrstuvwxyz" : Str) ⟨#[97+k]⟩ 0 ("abcdefghijklmnopqrstuvwxyz" : Str).length 1 = [k]:=by decide +kernel
theorem XC:V4 X .Add (fun x y H Q=>rY x y H Q):=fun ah s σ H x y v u Q I r1 r2 h=>Ll ah s σ H x y v u Q I r1 r2 h
inductive RB (x:V) (vs:List V) (H:Hp) (Q:VK):Prop
 | mk:∀ (z y:Str),(x = .str z)->(vs = [.str y])->((y.length == 0)=false)->(z.length<=sizeLine)->(∀ p,H p=none->Q (.ref p) (aO H p (.tup [.str (a5 z y).1,.str (a5 z y).2.1,.str (a5 z y).2.2])))->RB x vs H Q
theorem kA:KG X "str.partition" (fun x vs H Q=>RB x vs H Q):=by
 intro ah s σ H x vs v us Q I rx rv h
 obtain⟨z,y,rfl,rfl,hy,hsz,q⟩:=h
 obtain⟨t,rfl⟩:=rx
 obtain⟨u,rfl,ru⟩:=Vals.one rv
 obtain⟨t',rfl⟩:=ru
 refine call_meets F.slot_str_partition (typeIs_str _ _ _) F.entry_str_partition (F.args_str_partition_2 _ _) (meets_str_partition z y t t' hy hsz) ?_
 have q':=q
 unfold a5 at q'
 revert q'
 cases dE z y 0 z.length 1 with
 | nil =>
  intro q'
  refine⟨.ref s.heap.objs.size,_,I.laid (o := .tup [.str z,.str cF,.str cF]) (fun b ob q=>aN _ q) (aB _) ⟨by show 3<=sizeLine;decide,_,?_,pM.new _ _⟩,rfl,q' _ (I.br.fresh (aB _))⟩
  exact .cons ⟨_,rfl⟩ (.cons ⟨_,rfl⟩ (.cons ⟨_,rfl⟩ .nil))
 | cons i r =>
  intro q'
  refine⟨.ref s.heap.objs.size,_,I.laid (o := .tup [.str (fb z 0 i),.str y,.str (fb z (i+y.length) z.length)]) (fun b ob q=>aN _ q) (aB _) ⟨by show 3<=sizeLine;decide,_,?_,pM.new _ _⟩,rfl,q' _ (I.br.fresh (aB _))⟩
  exact .cons ⟨_,rfl⟩ (.cons ⟨_,rfl⟩ (.cons ⟨_,rfl⟩ .nil))
theorem Gs:∀ l:List (Str × Tok),Vals ((l.map (·.1)).map V.str) (strValues l)
 | [] => .nil
 | p :: l => .cons ⟨_,rfl⟩ (Gs l)
inductive MZ (x:V) (vs:List V) (H:Hp) (Q:VK):Prop
 | mk:∀ (z y:Str),(x = .str z)->(vs = [.str y])->((y.length == 0)=false)->(z.length+2<=sizeLine)->(∀ p,H p=none->Q (.ref p) (aO H p (.lst ((vk z y).map V.str))))->MZ x vs H Q
theorem CW:KG X "str.split" (fun x vs H Q=>MZ x vs H Q):=by
 intro ah s σ H x vs v us Q I rx rv h
 obtain⟨x,y,rfl,rfl,hy,hsz,q⟩:=h
 obtain⟨t,rfl⟩:=rx
 obtain⟨u,rfl,ru⟩:=Vals.one rv
 obtain⟨t',rfl⟩:=ru
 have Mm:=split_le x y
 have eZ:∀ (l:List (Str × Tok)) (k:Nat),l.map (·.1)=vk x y->EP X ah σ Q (.ref s.heap.objs.size) { s with heap:=s.heap.push { cls := .type "list",data := .seq (strValues l).toArray },toks:=k }:=fun l k e=>by
  have q':=q s.heap.objs.size (I.br.fresh (aB _))
  rw[<- e]at q' Mm
  rw[aA]at Mm
  exact⟨.ref s.heap.objs.size,_,I.laid (o := .lst _) (fun b ob q=>aN _ q) (aB _) ⟨by rw[aA,aA];omega,_,0,Gs l,bW _ rfl⟩,rfl,q'⟩
 have hn:(uO x (dE x y 0 x.length (x.length+1)) y.length).length<=sizeLine:=by
  have e1:=StrLaws.occ_length_le x y 0 x.length (x.length+1)
  rw[length_partsBetween];omega
 cases h1:(decide (x.length < y.length) || decide (ix x < ix y))
 ·cases hf:(dE x y 0 x.length (x.length+1)).isEmpty
  ·refine call_meets uG (typeIs_str _ _ _) sr (ro _ _) (meets_str_split_sep x y t t' h1 hy hf (by omega) hn) ?_
   show wants _ _ _ { s with toks:=_,heap:=s.heap.push { cls := .type "list",data := .seq (strsFrom s.toks (uO x (dE x y 0 x.length (x.length+1)) y.length)).toArray } }
   rw[strsFrom_eq]
   exact eZ (numbered s.toks _) _ ((numbered_texts _ _).trans ((if_neg (ne_true_of_eq_false h1)).trans (if_neg (ne_true_of_eq_false hf))).symm)
  ·exact call_meets uG (typeIs_str _ _ _) sr (ro _ _) (meets_str_split_not_found x y t t' h1 hy hf)
    (eZ [(x,t)] s.toks ((if_neg (ne_true_of_eq_false h1)).trans (if_pos hf)).symm)
 ·exact call_meets uG (typeIs_str _ _ _) sr (ro _ _) (meets_str_split_cannot_occur x y t t' h1)
   (eZ [(x,t)] s.toks (if_pos h1).symm)
inductive KH (x:V) (vs:List V) (H:Hp) (Q:VK):Prop
 | mk:∀ (z y:Str),(x = .str z)->(vs = [.str y])->(Q (.bl (wY z y)) H)->KH x vs H Q
theorem HJ:KG X "str.startswith" (fun x vs H Q=>KH x vs H Q):=by
 intro ah s σ H x vs v us Q I rx rv h
 obtain⟨z,y,rfl,rfl,q⟩:=h
 obtain⟨t,rfl⟩:=rx
 obtain⟨u,rfl,ru⟩:=Vals.one rv
 obtain⟨t',rfl⟩:=ru
 exact SC.startswith ⟨.bl _,H,I,rfl,q⟩
end
def KN (x:Str):It :=
 ⟨fun i _=>i < x.length,
  fun i H v H'=>∃ p c,H p=none∧v = .ref p∧x.cps.toList[i]? = some c∧H'=aO H p (.tup [.int (i:Int),.str ⟨#[c]⟩]),
  fun i _=>x.length=i⟩
theorem Nf {P:Program}{w:World}{K:aj}{uk:List Expr}{k:Nat}{tp:Pos} (x:Str) (t:Tok) (e it:Addr) (fo:e≠it) :
  Turn P w K (.Tuple uk k tp) (KN x) [e,it] e (fun i h=>(∃ nH,IsEnum h e it (i:Int) nH)∧h.IsStrIter it "str_ascii_iterator" x t i) where
 mem:=by simp
 obj:=fun i h st b hb=>by
  obtain⟨⟨nH,he⟩,ma⟩:=st
  rcases aK.mp hb with rfl | hb
  ·exact⟨_,he,fun v z=>by
    have z':Cp _=Hs v:=z
    cases z'⟩
  ·have e:b=it:=by simpa using hb
   subst e
   obtain⟨o,e,c,d⟩:=ma
   exact⟨o,e,fun v z=>by rw[d]at z;cases z⟩
 keep:=fun i h h' st k=>by
  obtain⟨⟨nH,he⟩,ma⟩:=st
  obtain⟨o,e2,c,d⟩:=ma
  exact⟨⟨nH,k e (by simp) _ he⟩,⟨o,k it (by simp) o e2,c,d⟩⟩
 item:=by
  intro X hP hw hK hc i ah s σ H E I hf st hg
  subst hP hw hK
  obtain⟨⟨nH,he⟩,ma⟩:=st
  have e9:i < x.cps.size:=hg
  have wO:e < s.heap.objs.size:=bq he
  have hil:it < s.heap.objs.size:=by obtain⟨o,q,_⟩:=ma;exact bq q
  refine wpAny_pyNext_enum_itemD (Ge (A:=X.A.in1) (I.ok.hd hc) it x t) he ma e9 fo (by
   intro z
   exact fo (bI.mp z)) fun y h1 tk hy ho P8 hT hsz hk => ?_
  obtain⟨c,u,hcx,rfl⟩:=hy
  refine⟨_,rfl,wpAny_letOwnedTupleGo_enum ho fun h2 Qh B8 => ?_⟩
  have kk:∀ b o,b ∉ [e,it]->s.heap.get? b=some o->h2.get? b=some o:=fun b o hb q=>by
   have b1:b≠e:=fun z=>hb (by simp[z])
   have b2:b≠it:=fun z=>hb (by simp[z])
   exact(B8.2 b b1).trans (hk b o b1 b2 q)
  have hTe:s.heap.objs.size≠e:=kR wO
  have aeJ:x.cps.toList[i]? = some c:=by simpa using hcx
  obtain⟨o1,e1,c1,d1⟩:=P8
  refine⟨.ref s.heap.objs.size,aO H s.heap.objs.size (.tup [.int (i:Int),.str ⟨#[c]⟩]),?_,rfl,⟨_,c,I.br.fresh (aB _),rfl,aeJ,rfl⟩,
   ⟨⟨_,by simpa using Qh⟩,⟨o1,(B8.2 it (cK fo)).trans e1,c1,d1⟩⟩,fun b hb => ?_⟩
  ·refine I.DD (ch := [e,it]) (t':=tk+1) kk hf (aB _) ⟨by show 2<=sizeLine;decide, [.int (i:Int) tk,.str ⟨#[c]⟩ u],.cons ⟨_,rfl⟩ (.cons ⟨_,rfl⟩ .nil),?_⟩
   exact⟨_,(B8.2 _ hTe).trans hT,rfl,_,rfl,rfl⟩
  ·have oG:=hf b hb
   have:b≠s.heap.objs.size:=by
    rcases aK.mp hb with rfl | hb
    ·exact b7 wO
    ·rw[bI.mp hb];exact b7 hil
   rw[bh this]
   exact oG.1
 done:=by
   intro X hP hw hK hc i ah s σ H E I hf st hg
   subst hP hw hK
   obtain⟨⟨nH,he⟩,ma⟩:=st
   have hi:i=x.cps.size:=hg.symm
   subst hi
   obtain⟨f0,f1,f2,f3,f4,f5⟩:=hf it (by simp)
   exact wpAny_pyNext_enum_endD (Ge (A:=X.A.in1) (I.ok.hd hc) it x t) he ma fun h1 eb=>⟨rfl,I.turned (t':=s.toks) (fun b o hb q=>eb b o hb q) f0 f1 f3 f4 f5⟩
 self:=fun _ _ _ _ _ st h=>by
  obtain⟨⟨nH,he⟩,_⟩:=st
  exact wpAny_pyIter_enum he h
inductive KJ (R:It->Hp->Prop) (vs:List V) (H1:Hp):Prop
 | mk:∀ z,(vs = [.str z])->(z.cps.all (· < 128)=true)->(R (KN z) H1)->KJ R vs H1
def P0 (ta:TA):TI:=fun σ H R=>ta σ H fun vs H1=>KJ R vs H1
section
variable {X:Cx}
theorem So {l:Expr}{ta:TA}{uk:List Expr}{k:Nat}{tp p pos:Pos} (hg:Gl X "enumerate") (hm:X.mg "enumerate" = none) (ha:PA X [l] ta) (hs:starEach [l] X.env = [(false,eval l X.env)]:=by rfl) :
  PI X (.Tuple uk k tp) (.Call (.Name "enumerate" p) [l] [] pos) (P0 ta):=by
 intro ah s σ H R I h
 refine Call_ (wI I hg hm Hg (kZ (cz (ha pos ah s σ H _ I h) fun us s1 ⟨vs,H1,I1,r1,q1⟩ => ?_) hs rfl))
 obtain⟨z,e,FK,q⟩:=q1
 subst e
 obtain⟨u,rfl,ru⟩:=vals1 r1
 obtain⟨t,rfl⟩:=ru
 refine call_enumerate_str fun h1 he ma hsz hk => ?_
 have I2:Inv X ah σ H1 { s1 with heap:=h1 }:=I1.kept (t':=s1.toks) hk
 have fo:s1.heap.objs.size+1≠s1.heap.objs.size:=Dp _
 have aeH:h1.IsStrIter s1.heap.objs.size "str_ascii_iterator" z t 0:=by
  have e:strIterType z = "str_ascii_iterator" := by unfold strIterType;rw[if_pos (by simpa using FK)]
  rw[e]at ma
  exact ma
 refine wpAny_pyIter_enum (s := { s1 with heap:=h1 }) he ⟨_, [s1.heap.objs.size+1,s1.heap.objs.size],_,_,H1,rfl,I2,Nf z t _ _ fo,⟨⟨_,he⟩,aeH⟩,fun b hb => ?_,q⟩
 rcases aK.mp hb with rfl | hb
 ·exact I1.As (lU _) (I1.br.fresh (lU _))
 ·rw[bI.mp hb]
  exact I1.As (aB _) (I1.br.fresh (aB _))
theorem GJ {l:Expr}{ta:TA}{uk:List Expr}{k:Nat}{tp p pos:Pos} (hg:Gl X "enumerate") (hm:X.mg "enumerate" = none) (ha:QA X [l] ta) (hs:starEach [l] X.env = [(false,eval l X.env)]:=by rfl) :
  QI X (.Tuple uk k tp) (.Call (.Name "enumerate" p) [l] [] pos) (P0 ta):=by
 delta QA QI at *
 exact So hg hm ha hs
end
theorem G4 {z:Str}{g:TG}{tb:TS}{D:Ends}{σ : St}{H:Hp} (Pv:Nat->St->Hp->Prop) (h0:Pv 0 σ H)
  (hs:∀ i c p σ H,z.cps.toList[i]? = some c->Pv i σ H->H p=none->g (.ref p) σ (aO H p (.tup [.int (i:Int),.str ⟨#[c]⟩])) fun lC H2=>tb { D with nx:=Pv (i+1),ct:=Pv (i+1),bk:=D.nx } lC H2) (hd:∀ σ H,Pv z.length σ H->D.nx σ H) :
  ∃ W:Nat->Nat->St->Hp->Prop,(∃ m,W 0 m σ H)∧∀ i m σ H,W i m σ H ->
   ((KN z).stop i H∧D.nx σ H)∨((KN z).go i H∧∃ N:St->Hp->Prop,(∀ bC H',N bC H'->∃ m',m' < m∧W (i+1) m' bC H')∧∀ x H',(KN z).BX i H x H'->g x σ H' fun lC H2=>tb { D with nx:=N,ct:=N,bk:=D.nx } lC H2):=by
 refine⟨fun i m σ H=>m=z.length - i∧i<=z.length∧Pv i σ H,⟨z.length,by simp,bA _,h0⟩,?_⟩
 rintro i m σ H ⟨rfl,hi,p⟩
 by_cases e9:i < z.length
 ·refine .inr ⟨e9,Pv (i+1),fun bC H' p'=>⟨z.length - (i+1),by omega,rfl,e9,p'⟩,fun x H' y => ?_⟩
  obtain⟨pa,c,Af,rfl,hc,rfl⟩:=y
  exact hs i c pa σ H hc p Af
 ·have e:i=z.length:=by omega
  subst e
  exact .inl ⟨rfl,hd σ H p⟩
end L2
namespace Sw
open PySem L2 PySem.NumText
theorem FU {x y:Str}{k:Nat} (h:ig x y x.length k):(x.cps.toList.drop k).take y.cps.toList.length=y.cps.toList:=by
 have e:=h.2
 rw[ur]at e
 have:=eq_of_beq e
 rw[bK]at this
 exact this
theorem Oi {x y:Str}{k:Nat} (h:(x.cps.toList.drop k).take y.cps.toList.length=y.cps.toList) (hk:k+y.length<=x.length):ig x y x.length k:=by
 refine⟨hk,?_⟩
 rw[ur,bK,h]
 exact beq_self_eq_true _
theorem pA {x y:Str}{k j:Nat}{c:Nat} (h:ig x y x.length k) (hj:y.cps.toList[j]? = some c):x.cps.toList[k+j]? = some c:=by
 have e:=FU h
 have hl:=(bt.mp hj).1
 rw[<- e,mI hl,A9]at hj
 exact hj
theorem Ay {x a y b:Str} (hx:x.cps.toList=a.cps.toList ++ (y.cps.toList ++ b.cps.toList)) (hn:∀ k,k < a.length->¬ ig x y x.length k):a5 x y=(a,y,b):=by
 have hl:x.length=a.length+(y.length+b.length):=by rw[bK,hx,aM,aM, <- bK, <- bK, <- bK]
 have ha:ig x y x.length a.length:=Oi (by rw[hx,bK,gY,m9]) (by omega)
 unfold a5
 rcases uu x y 1 (aB 1) with⟨h0,wM⟩ | ⟨i,r,h0,hi,wM⟩
 ·exact absurd ha (wM _)
 ·have ei:i=a.length:=by
   rcases BQ i a.length with h | h | h
   ·exact absurd hi (hn i h)
   ·exact h
   ·exact absurd ha (wM _ h)
  subst ei
  rw[h0]
  have e1:fb x 0 a.length=a:=dY (by rw[kL,xi,AY,hx,bK,m9])
  have e2:fb x (a.length+y.length) x.length=b:=dY (by
   rw[kL,hx, <- bH,show a.length+y.length=(a.cps.toList ++ y.cps.toList).length by rw[aM,bK,bK],gY]
   exact eS (by rw[aM, <- bK, <- bK, <- bK];omega))
  show (fb x 0 a.length,y,fb x (a.length+y.length) x.length)=_
  rw[e1,e2]
theorem Kl {x y:Str} (hn:∀ k, ¬ ig x y x.length k):a5 x y=(x,cF,cF):=by
 unfold a5
 rcases uu x y 1 (aB 1) with⟨h0,wM⟩ | ⟨i,r,h0,hi,wM⟩
 ·rw[h0]
 ·exact absurd hi (hn _)
theorem yr {x a y b:Str}{j c:Nat} (hx:x.cps.toList=a.cps.toList ++ (y.cps.toList ++ b.cps.toList)) (hj:y.cps.toList[j]? = some c) (hc:c ∉ a.cps.toList) (JT:∀ i,i < j->y.cps.toList[i]? ≠ some c):a5 x y=(a,y,b):=by
 refine Ay hx fun k hk h => ?_
 have e:=pA h hj
 rw[hx]at e
 have tV:=(bt.mp hj).1
 by_cases e9:k+j < a.cps.toList.length
 ·rw[cI e9]at e
  exact hc (bB e)
 ·rw[bK]at hk
  rw[dy (by omega),cI (by omega)]at e
  exact JT _ (by omega) e
theorem IE {y:Str}{c:Nat} (hy:y.cps.toList[0]? = some c):∀ (ps:List Str) (p:Str) (x:Str) (pre:List Nat) (FP:List Nat) (f:Nat),(∀ u∈p :: ps,c ∉ u.cps.toList)->x.cps.toList=pre ++ (bw y (p :: ps)).cps.toList ->
  StrLaws.ChainG x y x.length pre.length FP f->(∀ k,f<=k->¬ ig x y x.length k)->BJ x y.length pre.length FP=p :: ps
 | [],p,x,pre,FP,f,hn,hx,hc,hf=>by
  have Ee:x.cps.toList=pre ++ p.cps.toList:=hx
  have hl:x.length=pre.length+p.length:=by rw[bK,Ee,aM, <- bK]
  have no:∀ k,pre.length<=k->¬ ig x y x.length k:=fun k hk h=>by
   have e:=pA h hy
   rw[A4,Ee,dy hk]at e
   exact hn p aV (bB e)
  cases FP with
  | nil =>
   show [fb x pre.length x.length]=_
   congr 1
   refine dY ?_
   rw[kL,Ee,gY]
   exact eS (by rw[<- bK];omega)
  | cons d r=>exact absurd hc.2.1 (no d hc.1)
 | q :: ps,p,x,pre,FP,f,hn,hx,hc,hf=>by
  have ej:(bw y (p :: q :: ps)).cps.toList=p.cps.toList ++ (y.cps.toList ++ (bw y (q :: ps)).cps.toList):=by
   rw[bw,bN,bN,bH]
   intro z;cases z
  have Ee:x.cps.toList=pre ++ (p.cps.toList ++ (y.cps.toList ++ (bw y (q :: ps)).cps.toList)):=by rw[hx,ej]
  have hl:x.length=pre.length+(p.length+(y.length+(bw y (q :: ps)).length)):=by rw[bK,Ee,aM,aM,aM, <- bK, <- bK, <- bK]
  have ha:ig x y x.length (pre.length+p.length):=Oi (by
   rw[Ee, <- bH,show pre.length+p.length=(pre ++ p.cps.toList).length by rw[aM,bK],gY,m9]) (by omega)
  have no:∀ k,pre.length<=k->k < pre.length+p.length->¬ ig x y x.length k:=fun k hk hk2 h=>by
   have e:=pA h hy
   rw[A4,Ee,dy hk,cI (by rw[<- bK];omega)]at e
   exact hn p aV (bB e)
  cases FP with
  | nil=>exact absurd ha (hf _ (by have e:f=pre.length:=hc;omega))
  | cons d r =>
   obtain⟨h1,h2,h3,h4⟩:=hc
   have ed:d=pre.length+p.length:=by
    rcases BQ d (pre.length+p.length) with h | h | h
    ·exact absurd h2 (no d h1 h)
    ·exact h
    ·exact absurd ha (h3 _ (by omega) h)
   subst ed
   show fb x pre.length (pre.length+p.length) :: BJ x y.length (pre.length+p.length+y.length) r=_
   have e1:fb x pre.length (pre.length+p.length)=p:=dY (by
    rw[kL,Ee,gY,Nat.add_sub_cancel_left,bK,m9])
   have el:(pre ++ (p.cps.toList ++ y.cps.toList)).length=pre.length+p.length+y.length:=by rw[aM,aM, <- bK, <- bK];omega
   have ih:=IE hy ps q x (pre ++ (p.cps.toList ++ y.cps.toList)) r f (fun u hu=>hn u (aL _ hu)) (by rw[Ee];simp) (by rw[el];exact h4) hf
   rw[el]at ih
   rw[e1,ih]
theorem oV {y:Str}{c:Nat} (hk:ix y=1) (hy:y.cps.toList[0]? = some c) {ps:List Str} (h1:1<=ps.length) (hn:∀ u∈ps,c ∉ u.cps.toList):vk (bw y ps) y=ps:=by
 cases ps with
 | nil=>exact absurd h1 (by decide)
 | cons p ps =>
  have ZU:1<=y.length:=by
   have:=(bt.mp hy).1
   rw[bK];omega
  obtain⟨f,hc,hf⟩:=StrLaws.occ_tight (bw y (p :: ps)) y ZU
  have key:=IE hy ps p (bw y (p :: ps)) [] _ f hn (by rw[jX]) hc hf
  have one:∀ _:¬ ig (bw y (p :: ps)) y (bw y (p :: ps)).length p.length, [bw y (p :: ps)]=p :: ps:=fun hna=>by
   cases ps with
   | nil=>rfl
   | cons q ps =>
    refine absurd (Oi ?_ ?_) hna
    ·rw[show (bw y (p :: q :: ps)).cps.toList=p.cps.toList ++ (y.cps.toList ++ (bw y (q :: ps)).cps.toList) by
      rw[bw,bN,bN,bH]
      intro z;cases z]
     rw[bK,gY,m9]
    ·rw[show bw y (p :: q :: ps)=p ++ y ++ bw y (q :: ps) by
      rw[bw]
      intro z;cases z]
     rw[au,au]
     omega
  unfold vk
  split
  ·rename_i h
   refine one fun hA => ?_
   rw[pR,decide_eq_true_iff,decide_eq_true_iff]at h
   rcases h with h | h
   ·have:=hA.1;omega
   ·rw[hk]at h
    have:∀ x:Str,1<=ix x:=fun x=>by
     unfold ix
     split
     ·decide
     ·split <;> decide
    have:=this (bw y (p :: ps))
    omega
  ·split
   ·rename_i h0 h
    refine one fun hA => ?_
    have:dE (bw y (p :: ps)) y 0 (bw y (p :: ps)).length ((bw y (p :: ps)).length+1) = []:=List.isEmpty_iff.mp h
    rw[this]at hc
    have e:f=0:=hc
    exact hf _ (by omega) hA
   ·rw[StrLaws.partsBetween_eq]
    exact key
def Fy:Str := "(),-? 0123456789abcdefghijklmnopqrstuvwxyz"
theorem wF {c:Nat} (h:(97<=c∧c<=122)∨(48<=c∧c<=57)∨c=45∨c=63∨c=40∨c=41∨c=44∨c=32):c∈Fy.cps.toList:=by
 have hc:c < 128:=by omega
 revert h
 revert hc
 revert c
 decide +kernel
def Na (l:List Nat):Prop:=l.count 40=l.count 41∧l.count 32=l.count 44∧∀ c∈l,c∈Fy.cps.toList∧c < 128
theorem vi {l:List Nat} (h:∀ c∈l,(97<=c∧c<=122)∨(48<=c∧c<=57)∨c=45∨c=63):Na l:=by
 have z:∀ d,(¬ ((97<=d∧d<=122)∨(48<=d∧d<=57)∨d=45∨d=63))->l.count d=0:=fun d hd=>List.count_eq_zero.mpr fun hm=>hd (h d hm)
 refine⟨by rw[z 40 (by omega),z 41 (by omega)],by rw[z 32 (by omega),z 44 (by omega)],fun c hc => ?_⟩
 have k:∀ d:Nat,(97<=d∧d<=122)∨(48<=d∧d<=57)∨d=45∨d=63->d < 128:=fun d hd=>by omega
 refine⟨wF ?_,k c (h c hc)⟩
 rcases h c hc with z | z | z | z
 ·exact .inl z
 ·exact .inr (.inl z)
 ·exact .inr (.inr (.inl z))
 ·exact .inr (.inr (.inr (.inl z)))
theorem Kt:∀ {ts:List T},(∀ t∈ts,Na t.shown.cps.toList)->Na (more ts)
 | [],_=>⟨rfl,rfl,fun c hc=>by cases hc⟩
 | t :: ts,h=>by
  obtain⟨a1,a2,a3⟩:=h t aV
  obtain⟨b1,b2,b3⟩:=Kt fun u hu=>h u (aL _ hu)
  rw[more]
  refine⟨?_,?_,fun c hc => ?_⟩
  ·simp only[pL,nD,a1,b1];rfl
  ·simp only[pL,nD,a2,b2]
   have e1:((44:Nat) == 32)=false:=rfl
   have e2:((32:Nat) == 32)=true:=rfl
   have e3:((44:Nat) == 44)=true:=rfl
   have e4:((32:Nat) == 44)=false:=rfl
   simp only[e1,e2,e3,e4,if_true,if_false,gZ]
  ·rcases aK.mp hc with rfl | hc
   ·exact⟨wF (by omega),by omega⟩
   rcases aK.mp hc with rfl | hc
   ·exact⟨wF (by omega),by omega⟩
   rcases aZ.mp hc with hc | hc
   ·exact a3 c hc
   ·exact b3 c hc
theorem Ks:∀ (k:Nat) (t:T),t.Ok->t.depth<=k->Na t.shown.cps.toList
 | 0,t,_,hd=>by have:=kW t;omega
 | k+1,.num n,_,_=>by
  rw[T.shown]
  refine vi fun c hc => ?_
  have hc:c∈nt n:=hc
  by_cases hn:0<=n
  ·obtain⟨m,rfl⟩:=eJ hn
   rw[qW]at hc
   exact .inr (.inl (iU m c hc))
  ·obtain⟨m,rfl,B9⟩:∃ m:Nat,n = -(m:Int)∧1<=m:=⟨n.natAbs,by omega,by omega⟩
   rw[tF m B9]at hc
   rcases aK.mp hc with z | hc
   ·exact .inr (.inr (.inl z))
   ·exact .inr (.inl (iU m c hc))
 | k+1,.name x,br,_=>by
  rw[T.Ok]at br
  rw[T.shown]
  exact vi fun c hc => .inl (br.2.2 c hc)
 | k+1,.any x,br,_=>by
  rw[T.Ok]at br
  rw[uX]
  refine vi fun c hc => ?_
  rcases aK.mp hc with rfl | hc
  ·exact .inr (.inr (.inr rfl))
  ·exact .inl (br.2.2 c hc)
 | k+1,.of x [],br,_=>by
  rw[T.Ok]at br
  have:=br.2.1
  simp at this
 | k+1,.of x (t :: ts),br,hd=>by
  rw[T.Ok]at br
  obtain⟨hx,_,_,FE⟩:=br
  rw[T.depth]at hd
  have hm:∀ u∈t :: ts,Na u.shown.cps.toList:=fun u hu=>Ks k u (ql.mp FE u hu) (by have:=jc hu;omega)
  obtain⟨a1,a2,a3⟩:=hm t aV
  obtain⟨b1,b2,b3⟩:=Kt fun u hu=>hm u (aL _ hu)
  obtain⟨w1,w2,w3⟩:Na x.cps.toList:=vi fun c hc => .inl (hx.2.2 c hc)
  rw[p9]
  refine⟨?_,?_,fun c hc => ?_⟩
  ·simp only[pL,nD,Ga,a1,b1,w1]
   have e1:((40:Nat) == 40)=true:=rfl
   have e2:((41:Nat) == 40)=false:=rfl
   have e3:((40:Nat) == 41)=false:=rfl
   have e4:((41:Nat) == 41)=true:=rfl
   simp only[e1,e2,e3,e4,if_true,if_false,gZ]
   omega
  ·simp only[pL,nD,Ga,a2,b2,w2]
   rfl
  ·rcases aZ.mp hc with hc | hc
   ·exact w3 c hc
   rcases aK.mp hc with rfl | hc
   ·exact⟨wF (by omega),by omega⟩
   rcases aZ.mp hc with hc | hc
   ·exact a3 c hc
   rcases aZ.mp hc with hc | hc
   ·exact b3 c hc
   ·rw[bI.mp hc];exact⟨wF (by omega),by omega⟩
def Px:Nat->List Nat->Prop
 | _, []=>True
 | p,c :: l=>(c=32->p=44)∧Px c l
def vT (l:List Nat):Prop := ∀ p,Px p l
theorem mW {l:List Nat} (h:32 ∉ l):vT l:=by
 induction l with
 | nil=>intro _;exact trivial
 | cons c l ih =>
  intro p
  exact⟨fun e=>absurd (e ▸ aV) h,ih (fun z=>h (aL _ z)) c⟩
theorem ug {a b:List Nat} (ha:vT a) (hb:vT b):vT (a ++ b):=by
 intro p
 have:∀ (a:List Nat) (p:Nat),Px p a->Px p (a ++ b):=fun a=>by
  induction a with
  | nil=>intro p _;exact hb p
  | cons c a ih=>intro p h;exact⟨h.1,ih c h.2⟩
 exact this a p (ha p)
theorem N3 {l:List Nat} (h:vT l):vT (44 :: 32 :: l):=fun p=>⟨fun e=>absurd e (by decide),fun _=>rfl,h 32⟩
theorem G2:∀ {ts:List T},(∀ t∈ts,vT t.shown.cps.toList)->vT (more ts)
 | [],_=>fun _=>trivial
 | t :: ts,h=>by
  rw[more]
  exact N3 (ug (h t aV) (G2 fun u hu=>h u (aL _ hu)))
theorem oB (n:Int):∀ c∈nt n,c=45∨48<=c∧c<=57:=by
 rcases Int.lt_or_le n 0 with h | h
 ·obtain⟨m,e⟩:∃ m:Nat,n = -(m:Int):=⟨n.natAbs,by omega⟩
  subst e
  rw[tF m (by omega)]
  intro c hc
  rcases aK.mp hc with rfl | hc
  ·exact .inl rfl
  ·exact .inr (iU m c hc)
 ·obtain⟨m,e⟩:=eJ h
  subst e
  rw[qW]
  exact fun c hc => .inr (iU m c hc)
theorem mU {t:T} (h:t.Ok) (hl:∀ x ts,t ≠ .of x ts):32 ∉ t.shown.cps.toList:=by
 cases t with
 | num n =>
  rw[T.shown]
  intro z
  have:=oB n 32 z
  omega
 | name x =>
  rw[T.Ok]at h
  rw[T.shown]
  exact eV h (by decide)
 | any x =>
  rw[T.Ok]at h
  rw[uX]
  intro z
  rcases aK.mp z with z | z
  ·cases z
  ·exact eV h (by decide) z
 | of x ts=>exact absurd rfl (hl x ts)
theorem DM:∀ (k:Nat) (t:T),t.Ok->t.depth<=k->vT t.shown.cps.toList
 | 0,t,_,h=>by have:=kW t;omega
 | k+1,.num n,h,_=>mW (mU h fun _ _ e=>nomatch e)
 | k+1,.name n,h,_=>mW (mU h fun _ _ e=>nomatch e)
 | k+1,.any n,h,_=>mW (mU h fun _ _ e=>nomatch e)
 | k+1,.of x ts,h,hd=>by
  rw[T.Ok,ql]at h
  rw[T.depth]at hd
  cases ts with
  | nil=>exact absurd h.2.1 (by decide)
  | cons t ts =>
   have key:∀ u∈t :: ts,vT u.shown.cps.toList:=fun u hu=>DM k u (h.2.2.2 u hu) (by have:=jc hu;omega)
   rw[p9]
   refine ug (mW (eV h.1 (by decide))) ?_
   refine ug (a := [40]) (mW (by decide)) (ug (key t aV) (ug (G2 fun u hu=>key u (aL _ hu)) (mW (by decide))))
theorem Pw:∀ {l:List Nat}{p i:Nat},Px p l->l[i]? = some 32->i=0∧p=44∨∃ j,i=j+1∧l[j]? = some 44
 | c :: l,p,0,h,e=>by
  have e':c=32:=by simpa using e
  exact .inl ⟨rfl,h.1 e'⟩
 | c :: l,p,i+1,h,e=>by
  have e':l[i]? = some 32:=by simpa using e
  rcases Pw h.2 e' with⟨rfl,z⟩ | ⟨j,rfl,z⟩
  ·exact .inr ⟨0,rfl,by simp[z]⟩
  ·exact .inr ⟨j+1,rfl,by simpa using z⟩
theorem BZ {t:T} (h:t.Ok) {i:Nat} (hi:t.shown.cps.toList[i]? = some 32):∃ j,i=j+1∧t.shown.cps.toList[j]? = some 44:=by
 rcases Pw (DM t.depth t h (aB _) 0) hi with⟨_,z⟩ | z
 ·cases z
 ·exact z
theorem Nq {t:T} (h:t.Ok) (hb:32∈t.shown.cps.toList):t.shown.cps.toList[t.shown.length - 1]? = some 41:=by
 cases t with
 | num n=>exact absurd hb (mU h fun _ _ e=>nomatch e)
 | name n=>exact absurd hb (mU h fun _ _ e=>nomatch e)
 | any n=>exact absurd hb (mU h fun _ _ e=>nomatch e)
 | of x ts =>
  rw[T.shown,bK,bN]
  show ((x ++ "(" ++ bw ", " (T.fV ts)).cps.toList ++ [41])[((x ++ "(" ++ bw ", " (T.fV ts)).cps.toList ++ [41]).length - 1]? = some 41
  rw[aM,i7,Nat.add_sub_cancel,dy (aB _),Nat.sub_self]
  rfl
theorem mM {t:T} (h:t.Ok) {c:Nat} (hc:c ∉ Fy.cps.toList):c ∉ t.shown.cps.toList:=fun z=>hc ((Ks t.depth t h (aB _)).2.2 c z).1
theorem acb {t:T} (h:t.Ok):∀ k, ¬ ig t.shown (" if " : Str) t.shown.length k:=fun k hk=>by
 have e2:=pA hk (show (" if " : Str).cps.toList[2]? = some 102 from rfl)
 have e3:=pA hk (show (" if " : Str).cps.toList[3]? = some 32 from rfl)
 obtain⟨j,ej,hj⟩:=BZ h e3
 have:j=k+2:=by omega
 subst this
 rw[e2]at hj
 cases hj
theorem Tt {t:T}{x b:Str} (h:t.Ok) (hx:x.cps.toList=t.shown.cps.toList ++ ((" if " : Str).cps.toList ++ b.cps.toList)):a5 x (" if " : Str)=(t.shown,(" if " : Str),b):=by
 refine Ay hx fun k hk hA => ?_
 have e0:=pA hA (show (" if " : Str).cps.toList[0]? = some 32 from rfl)
 have e1:=pA hA (show (" if " : Str).cps.toList[1]? = some 105 from rfl)
 have e2:=pA hA (show (" if " : Str).cps.toList[2]? = some 102 from rfl)
 have e3:=pA hA (show (" if " : Str).cps.toList[3]? = some 32 from rfl)
 rw[hx]at e0 e1 e2 e3
 rw[bK]at hk
 have hs:∀ i,t.shown.cps.toList.length<=i->i < t.shown.cps.toList.length+4->(t.shown.cps.toList ++ ((" if " : Str).cps.toList ++ b.cps.toList))[i]? = (" if " : Str).cps.toList[i - t.shown.cps.toList.length]? := fun i h1 h2=>by
  rw[dy h1,cI]
  show i - t.shown.cps.toList.length < 4
  omega
 rw[A4,cI hk]at e0
 by_cases h1:k+1 < t.shown.cps.toList.length
 ·rw[cI h1]at e1
  by_cases h2:k+2 < t.shown.cps.toList.length
  ·rw[cI h2]at e2
   by_cases h3:k+3 < t.shown.cps.toList.length
   ·rw[cI h3]at e3
    obtain⟨j,ej,hj⟩:=BZ h e3
    have:j=k+2:=by omega
    subst this
    rw[e2]at hj
    cases hj
   ·have hl:=Nq h (bB e0)
    rw[bK,show t.shown.cps.toList.length - 1=k+2 by omega,e2]at hl
    cases hl
  ·rw[hs _ (by omega) (by omega),show k+2 - t.shown.cps.toList.length=0 by omega]at e2
   exact absurd (bD e2) (by decide)
 ·rw[hs _ (by omega) (by omega),show k+1 - t.shown.cps.toList.length=0 by omega]at e1
  exact absurd (bD e1) (by decide)
end Sw
namespace L2
open PySem PySem.Spec PyProof.Rows
theorem tc1 (a b:Value):checkTypeCall "enumerate" ⟨[a], [("start",b)]⟩=pure ():=by kernel_rfl
theorem nc1 (a b:Value):checkBuiltinCall "enumerate.__new__" ⟨[.type "enumerate",a], [("start",b)]⟩=pure ():=by kernel_rfl
theorem ab7 (l:Addr) (items:Array Value) (n:Nat) (dct:Option Addr) (sl:Array (Option Value)) (t:Tok) :
  Meets (Builtin.«enumerate.__new__» ⟨[.type "enumerate",.ref l], [("start",.int 1 t)]⟩) (fun _ R s=>s.heap.get? l=some { cls := .type "list",dict:=dct,data := .seq items n,slots:=sl } ∧
   R (.ok (.ret (.ref (s.heap.push { cls := .type "list_iterator",data := .fields #[.ref l,.int 0 0] }).objs.size)))
    { s with heap:=(s.heap.push { cls := .type "list_iterator",data := .fields #[.ref l,.int 0 0] }).push { cls := .type "enumerate",data := .fields #[.none,.bool false,.ref s.heap.objs.size,rawInt 1,.none,.none] } }) :=
 .of_wp fun prog w A R s h=>by
  obtain⟨hp,g,d,tk,os⟩:=s
  obtain⟨hl,h⟩:=h
  have sb:=sub_enumerate
  have isL:Heap.IsList (Shared.heap ⟨hp,g,d,tk,os⟩) l items:=⟨_,hl,rfl,n,rfl⟩
  wp_walk using mK hl
  refine wpAny_stack_any fun st=>wpAny_pure ?_
  split
  ·rename_i c _ _ _ _ _
   rcases(c == je "enumerate")
   all_goals (wp_walk using mK hl,wpAny_pyIter_list isL)
   all_goals exact⟨_,rfl,h⟩
  ·wp_walk using mK hl,wpAny_pyIter_list isL
   exact⟨_,rfl,h⟩
theorem aca (self a b:Value):Meets (Builtin.«object.__init__» ⟨[self,a], [("start",b)]⟩) (fun _ R s=>s.TypeIs self "enumerate" ∧ R (.ok (.ret .none)) s):=by
 have li:=rn.init.lookup
 have lm:=rn.made
 have le:(some "enumerate.__new__" != some "object.__new__")=true:=by decide
 refine Meets.of_wp fun prog w A R s ⟨ty,q⟩ => ?_
 repeat (any_goals (first | wp_step | assumption))
 exact⟨_,rfl,q⟩
theorem okI (a b c:Value):argsOk "object.__init__" ⟨[a,b], [("start",c)]⟩:=by
 kernel_rfl
def HX (s:Shared) (l:Addr):Shared := { s with heap:=(s.heap.push { cls := .type "list_iterator",data := .fields #[.ref l,.int 0 0] }).push { cls := .type "enumerate",data := .fields #[.none,.bool false,.ref s.heap.objs.size,rawInt 1,.none,.none] } }
def We (s:Shared) (l:Addr) (r:Result) (s':Shared):Prop:=r = .ok (.ret (.ref (s.heap.push { cls := .type "list_iterator",data := .fields #[.ref l,.int 0 0] }).objs.size))∧s'=HX s l
def V5 (s:Shared) (r:Result) (s':Shared):Prop:=r = .ok (.ret .none)∧s'=s
section
variable {prog:Program}{w:World}{A:Around}{E:Value->Shared->Prop}{s:Shared}
theorem Oe {l:Addr}{items:Array Value}{t:Tok}{Q:Value->Shared->Prop} (hL:s.heap.IsList l items)
  (h:∀ h',IsEnum h' (s.heap.objs.size+1) s.heap.objs.size 1 .none->h'.IsListIter s.heap.objs.size l 0->(∀ b o,s.heap.get? b=some o->h'.get? b=some o)->Q (.ref (s.heap.objs.size+1)) { s with heap:=h' }) :
  wpAny (model prog w) A (call (.type "enumerate") [.ref l] [("start",.int 1 t)]) Q E s:=by
 obtain⟨⟨c,dct,dt,sl⟩,g,ec,n,ed⟩:=hL
 obtain rfl:c = .type "list" := ec
 obtain rfl:dt = .seq items n:=ed
 have ft:=rn
 obtain⟨c1,tl,m1⟩:=ft.mro
 have m2:=ft.made
 have m3:=ft.sub
 have ct:=tc1 (.ref l) (.int 1 t)
 have cn:=nc1 (.ref l) (.int 1 t)
 have n1:=ft.notType
 have n2:=ft.canCreate
 refine wpAny_call (codeAny_of_tree (show wpAny _ _ (callAny (.type "enumerate") _) _ _ _ from wpAny_pure ⟨mJ _ (by decide +kernel),?_⟩))
 refine codeAny_builtin F.entry_type_call ?_
 rw[Around.under_plain (weight_type_call_type "enumerate" [.ref l] [("start",.int 1 t)]) (units_type_call_type "enumerate" [.ref l] [("start",.int 1 t)])]
 repeat (any_goals (first | wp_step | assumption))
 have hz:(s.heap.push { cls := .type "list_iterator",data := .fields #[.ref l,.int 0 0] }).objs.size=s.heap.objs.size+1:=kT ..
 have ge:=bW (s.heap.push { cls := .type "list_iterator",data := .fields #[.ref l,.int 0 0] }) (o := { cls := .type "enumerate",data := .fields #[.none,.bool false,.ref s.heap.objs.size,rawInt 1,.none,.none] }) rfl
 refine codeAny_mono (codeAny_call_builtin (R:=We s l) ft.plain F.entry_enumerate_new (wpAny_of_eq cn (ab7 l items n dct sl t prog w A.in1 (We s l) s ⟨g,rfl,rfl⟩))) fun r s1 hr => ?_
 obtain⟨rfl,rfl⟩:=hr
 rw[hz]at ge ⊢
 have hT:Shared.TypeIs (HX s l) (.ref (s.heap.objs.size+1)) "enumerate" := ⟨_,ge,rfl⟩
 have eZ:=h _ ge ⟨_,aN _ (bW _ rfl),rfl,rfl⟩ fun b o x=>aN _ (aN _ x)
 have li:=ft.init.lookup
 have lb:=ft.init.bind (.ref (s.heap.objs.size+1))
 repeat (any_goals (first | wp_step | assumption))
 refine codeAny_mono (codeAny_call_builtin (R:=V5 (HX s l)) ft.init.plain F.entry_object_init (ft.init.check _ _ _ _ _ _ _ _ hT (okI _ _ _) (aca _ _ _ prog w A.in1 (V5 (HX s l)) _ ⟨hT,rfl,rfl⟩))) fun r2 s2 Z6 => ?_
 obtain⟨rfl,rfl⟩:=Z6
 repeat (any_goals (first | wp_step | assumption))
end
theorem Cc {prog:Program}{w:World}{A:Around}{it:Addr}{fp:List Addr}{n:Nat}{P:Nat->Value->Prop}{St:Nat->Heap->Prop} (D:Draws prog w A it fp n P St):Draws prog w A it fp (n+1) (fun j v=>∃ i,j=i+1∧P i v) (fun j h=>∃ i,j=i+1∧St i h) where
 live:=fun j h ⟨i,_,st⟩=>D.live i h st
 frame:=fun j h h' ⟨i,e,st⟩ k=>⟨i,e,D.frame i h h' st k⟩
 item:=fun j s Q E hj ⟨i,e,st⟩ hQ=>D.item i s Q E (by omega) st fun x h' tk p oU sb=>hQ x h' tk ⟨i,e,p⟩ ⟨i+1,by omega,oU⟩ sb
 done:=fun s Q E ⟨i,e,st⟩ hE=>by
   obtain rfl:i=n:=by omega
   exact D.done s Q E st hE
def KO (K:aj) (a:Addr):It :=
 ⟨fun i H=>∃ xs x,b6 K H a xs∧xs[i]? = some x,
  fun i H x H'=>∃ p v,H p=none∧x = .ref p∧(∀ xs,b6 K H a xs->xs[i]? = some v)∧H'=aO H p (.tup [.int ((i+1:Nat):Int),v]),
  fun i H=>∃ xs,b6 K H a xs∧xs.length=i⟩
theorem Ng {P:Program}{w:World}{K:aj}{uk:List Expr}{k:Nat}{tp:Pos} (a e it:Addr) (fo:e≠it) :
  Turn P w K (.Tuple uk k tp) (KO K a) [e,it] e (fun i h=>(∃ nH,IsEnum h e it ((i+1:Nat):Int) nH)∧h.IsListIter it a i) where
 mem:=by simp
 obj:=fun i h st b hb=>by
  obtain⟨⟨nH,he⟩,ma⟩:=st
  rcases aK.mp hb with rfl | hb
  ·exact⟨_,he,fun v z=>by
    have z':Cp _=Hs v:=z
    cases z'⟩
  ·have e:b=it:=by simpa using hb
   subst e
   obtain⟨o,e,c,d⟩:=ma
   exact⟨o,e,fun v z=>by rw[d]at z;cases z⟩
 keep:=fun i h h' st k=>by
  obtain⟨⟨nH,he⟩,ma⟩:=st
  exact⟨⟨nH,k e (by simp) _ he⟩,ma.at fun o q=>k it (by simp) o q⟩
 item:=by
  intro X hP hw hK hc i ah s σ H E I hf st hg
  subst hP hw hK
  obtain⟨⟨nH,he⟩,ma⟩:=st
  obtain⟨xs,x,hq,hx⟩:=hg
  obtain⟨its,rv,p,hz⟩:=I.list hq
  obtain⟨u,hu,ru⟩:=rv.get hx
  have hai:a≠it:=fun z=>by
   obtain⟨o,n,e1,c1,_⟩:=p
   obtain⟨o',e2,c2,_⟩:=ma
   rw[z,e2]at e1;cases e1
   rw[c1]at c2
   exact absurd (m7 c2) (by decide)
  have hae:a≠e:=fun z=>by
   obtain⟨o,n,e1,c1,_⟩:=p
   rw[z,he]at e1;cases e1
   exact absurd (m7 c1) (by decide)
  have e9:i < its.toArray.size:=by
   rw[bo]
   exact(bt.mp hu).1
  have wO:e < s.heap.objs.size:=bq he
  have hil:it < s.heap.objs.size:=by obtain⟨o,q,_⟩:=ma;exact bq q
  refine wpAny_pyNext_enum_itemD (Cc (Draws.list (A:=X.A.in1) (I.ok.hd hc) it a hai its.toArray)) he ⟨i,rfl,ma,p.isList⟩ (Nat.succ_lt_succ e9) fo (by
   intro z
   rcases aK.mp z with z | z
   ·exact fo z
   ·exact hae (bI.mp z).symm) fun y h1 tk hy ho P8 hT hsz hk => ?_
  obtain⟨i1,ei,hy⟩:=hy
  obtain rfl:i1=i:=by omega
  obtain⟨i2,ei2,P8⟩:=P8
  obtain rfl:i2=i1+1:=by omega
  have hyu:y=u:=by
   have e1:its[i1]? = some y:=by simpa using hy
   rw[hu]at e1
   exact(bD e1).symm
  subst hyu
  refine⟨_,rfl,wpAny_letOwnedTupleGo_enum ho fun h2 Qh B8 => ?_⟩
  have kk:∀ b o,b ∉ [e,it]->s.heap.get? b=some o->h2.get? b=some o:=fun b o hb q=>by
   have b1:b≠e:=fun z=>hb (by simp[z])
   have b2:b≠it:=fun z=>hb (by simp[z])
   exact(B8.2 b b1).trans (hk b o b1 b2 q)
  have hTe:s.heap.objs.size≠e:=kR wO
  refine⟨.ref s.heap.objs.size,aO H s.heap.objs.size (.tup [.int ((i1+1:Nat):Int),x]),?_,rfl,⟨_,x,I.br.fresh (aB _),rfl,fun ys hy=>by rw[I.JG hy hq];exact hx,rfl⟩,
   ⟨⟨_,by simpa using Qh⟩,P8.1.at fun o q=>(B8.2 it (cK fo)).trans q⟩,fun b hb => ?_⟩
  ·refine I.DD (ch := [e,it]) (t':=tk+1) kk hf (aB _) ⟨by show 2<=sizeLine;decide, [.int ((i1+1:Nat):Int) tk,y],.cons ⟨_,rfl⟩ (.cons ru .nil),?_⟩
   exact⟨_,(B8.2 _ hTe).trans hT,rfl,_,rfl,rfl⟩
  ·have oG:=hf b hb
   have:b≠s.heap.objs.size:=by
    rcases aK.mp hb with rfl | hb
    ·exact b7 wO
    ·rw[bI.mp hb];exact b7 hil
   rw[bh this]
   exact oG.1
 done:=by
   intro X hP hw hK hc i ah s σ H E I hf st hg
   subst hP hw hK
   obtain⟨⟨nH,he⟩,ma⟩:=st
   obtain⟨xs,hq,hx⟩:=hg
   obtain⟨its,rv,p,hz⟩:=I.list hq
   have hai:a≠it:=fun z=>by
    obtain⟨o,n,e1,c1,_⟩:=p
    obtain⟨o',e2,c2,_⟩:=ma
    rw[z,e2]at e1;cases e1
    rw[c1]at c2
    exact absurd (m7 c2) (by decide)
   have hl:=rv.length
   have hi:i=its.toArray.size:=by rw[bo];omega
   subst hi
   obtain⟨f0,f1,f2,f3,f4,f5⟩:=hf it (by simp)
   exact wpAny_pyNext_enum_endD (Cc (Draws.list (A:=X.A.in1) (I.ok.hd hc) it a hai its.toArray)) he ⟨_,rfl,ma,p.isList⟩ fun h1 eb=>⟨rfl,I.turned (t':=s.toks) (fun b o hb q=>eb b o hb q) f0 f1 f3 f4 f5⟩
 self:=fun _ _ _ _ _ st h=>by
  obtain⟨⟨nH,he⟩,_⟩:=st
  exact wpAny_pyIter_enum he h
theorem FT {M:Model}{A:Around}{E:Value->Shared->Prop}{s:Shared}{pos:Pos}{T:String}{x:Sem Value}{Mc:List (Option Str × Sem Value)}{Q:Value->Shared->Prop} (k1:Mc.any (·.1.isNone)=false) (k2:Mc.all (·.1.isSome)=true)
  (h:wpAny M A (spliced [(false,x)]) (fun vs s1=>wpAny M A (evalAll (Mc.map (·.2))) (fun ks s2=>wpAny M A (call (.type T) vs ((Mc.filterMap (·.1)).zip ks)) Q E s2) E s1) E s):wpAny M A (callWith pos (.type T) [] [(false,x)] Mc) Q E s:=by
 unfold callWith
 have ha:=evalArgs_kwB (f := .type T) (Q:=fun a s1=>wpAny M A (call (.type T) a.pos a.kw) Q E s1) k2 h
 refine wpAny_bind (wpAny_holding (wpAny_mono ha (fun a s1 h1=>wpAny_bind ?_) fun _ _ z=>z))
 refine wpAny_standAt ?_
 have e:([(false,x)]:List (Bool × Sem Value)).any (·.1)=false:=rfl
 simp only[e,k1,zb]
 refine wpAny_bind (wpAny_pure (wpAny_bind (wpAny_mono h1 (fun r s2 q => ?_) fun _ _ z=>z)))
 exact wpAny_bind (wpAny_holding (wpAny_point (wpAny_pure q)))
inductive KL (K:aj) (R:It->Hp->Prop) (vs:List V) (H1:Hp):Prop
 | mk:∀ a,(vs = [.ref a])->((∃ xs,b6 K H1 a xs))->(R (KO K a) H1)->KL K R vs H1
def P1 (K:aj) (ta:TA):TI:=fun σ H R=>ta σ H fun vs H1=>KL K R vs H1
section
variable {X:Cx}
theorem Sq {l:Expr}{ta:TA}{uk:List Expr}{k j:Nat}{tp p pos cp kp:Pos} (hg:Gl X "enumerate") (hm:X.mg "enumerate" = none) (ha:PA X [l] ta) (hs:starEach [l] X.env = [(false,eval l X.env)]:=by rfl) :
  PI X (.Tuple uk k tp) (.Call (.Name "enumerate" p) [l] [⟨some "start",.Constant (.int 1) j cp,kp⟩] pos) (P1 X.K ta):=by
 intro ah s σ H R I h
 refine wpAny_Call_Name_kw (wI I hg hm Hg ?_ (by decide) (by decide))
 have JX:=ha pos
 rw[hs]at JX ⊢
 show wpAny _ _ (callWith pos (.type "enumerate") [] [(false,eval l X.env)] (backToKw pos (keywordEach [⟨some "start",.Constant (.int 1) j cp,kp⟩] X.env))) _ _ _
 refine FT ?_ ?_ ?_
 ·rfl
 ·rfl
 refine cz (JX ah s σ H _ I h) fun us s1 ⟨vs,H1,I1,r1,q1⟩ => ?_
 refine kws_cons (cz (Pk (X:=X) ah s1 σ H1 (fun v H2=>v = .int 1∧H2=H1) I1 ⟨rfl,rfl⟩) fun dv s2 ⟨y,H2,I2,r2,q2⟩ => ?_)
 refine kws_nil ?_
 obtain⟨rfl,rfl⟩:=q2
 obtain⟨td,rfl⟩:=(show ∃ t,dv=kY 1 t from r2)
 obtain⟨a,e,⟨xs,hq⟩,q⟩:=q1
 subst e
 obtain⟨u,rfl,ru⟩:=vals1 r1
 cases ru
 obtain⟨its,rv,pl,hz⟩:=I2.list hq
 show wpAny _ _ (call (.type "enumerate") [.ref a] [("start",.int 1 td)]) _ _ s2
 refine Oe pl.isList fun h1 he ma hk => ?_
 have I3:Inv X ah σ H2 { s2 with heap:=h1 }:=I2.kept (t':=s2.toks) hk
 have fo:s2.heap.objs.size+1≠s2.heap.objs.size:=Dp _
 refine wpAny_pyIter_enum (s := { s2 with heap:=h1 }) he ⟨_, [s2.heap.objs.size+1,s2.heap.objs.size],_,_,H2,rfl,I3,Ng a _ _ fo,⟨⟨_,he⟩,ma⟩,fun b hb => ?_,q⟩
 rcases aK.mp hb with rfl | hb
 ·exact I2.As (lU _) (I2.br.fresh (lU _))
 ·rw[bI.mp hb]
  exact I2.As (aB _) (I2.br.fresh (aB _))
theorem Pf {l:Expr}{ta:TA}{uk:List Expr}{k j:Nat}{tp p pos cp kp:Pos} (hg:Gl X "enumerate") (hm:X.mg "enumerate" = none) (ha:QA X [l] ta) (hs:starEach [l] X.env = [(false,eval l X.env)]:=by rfl) :
  QI X (.Tuple uk k tp) (.Call (.Name "enumerate" p) [l] [⟨some "start",.Constant (.int 1) j cp,kp⟩] pos) (P1 X.K ta):=by
 delta QA QI at *
 exact Sq hg hm ha hs
end
theorem Qu {K:aj}{a:Addr}{xs:List V}{g:TG}{tb:TS}{D:Ends}{σ : St}{H:Hp} (Pv:Nat->St->Hp->Prop) (h0:Pv 0 σ H) (hl:∀ i σ H,i<=xs.length->Pv i σ H->b6 K H a xs)
  (hs:∀ i x p σ H,xs[i]? = some x->Pv i σ H->H p=none->g (.ref p) σ (aO H p (.tup [.int ((i+1:Nat):Int),x])) fun lC H2=>tb { D with nx:=Pv (i+1),ct:=Pv (i+1),bk:=D.nx } lC H2) (hd:∀ σ H,Pv xs.length σ H->D.nx σ H) :
  ∃ W:Nat->Nat->St->Hp->Prop,(∃ m,W 0 m σ H)∧∀ i m σ H,W i m σ H ->
   ((KO K a).stop i H∧D.nx σ H)∨((KO K a).go i H∧∃ N:St->Hp->Prop,(∀ bC H',N bC H'->∃ m',m' < m∧W (i+1) m' bC H')∧∀ x H',(KO K a).BX i H x H'->g x σ H' fun lC H2=>tb { D with nx:=N,ct:=N,bk:=D.nx } lC H2):=by
 refine⟨fun i m σ H=>m=xs.length - i∧i<=xs.length∧Pv i σ H,⟨xs.length,by simp,bA _,h0⟩,?_⟩
 rintro i m σ H ⟨rfl,hi,p⟩
 have q:=hl i σ H hi p
 by_cases e9:i < xs.length
 ·refine .inr ⟨⟨xs,xs[i],q,by simp[e9]⟩,Pv (i+1),fun bC H' p'=>⟨xs.length - (i+1),by omega,rfl,e9,p'⟩,fun x H' y => ?_⟩
  obtain⟨pa,v,Af,rfl,hv,rfl⟩:=y
  exact hs i v pa σ H (hv xs q) p Af
 ·have e:i=xs.length:=by omega
  subst e
  exact .inl ⟨⟨xs,q,rfl⟩,hd σ H p⟩
theorem Lr:∀ {xs:List V}{us:List Value},xs.length=us.length->(∀ (j:Nat) x u,xs[j]? = some x->us[j]? = some u->RelV x u)->Vals xs us
 | [], [],_,_ => .nil
 | [],_ :: _,h,_=>by cases h
 | _ :: _, [],h,_=>by cases h
 | x :: xs,u :: us,h,f => .cons (f 0 x u rfl rfl) (Lr (by simpa using h) fun j a b ha hb=>f (j+1) a b (by simpa using ha) (by simpa using hb))
section
variable {X:Cx}
inductive uD (xs:List V) (H:Hp) (Q:VK):Prop
 | mk:∀ p kvs,(xs = [.ref p])->(Rd H p (.dK kvs))->(∀ l,H l=none->Q (.ref l) (aO H l (.lst (kvs.map fun kv=>kV kv.1))))->uD xs H Q
theorem FQ (hc:X.calm=true):jA X (.type "list") (fun xs H Q=>uD xs H Q):=by
 intro ah s σ H xs us Q I r h
 obtain⟨p,kvs,rfl,hd,q⟩:=h
 obtain⟨u,rfl,ru⟩:=vals1 r
 cases ru
 obtain⟨z,lo,vs,u4,dd⟩:=N8 I.br hd
 obtain⟨ep,Vt⟩:=dd.dictAt
 have hl:=u4.length
 have hk:=u4.keys
 refine PySem.W.kdl_call (PySem.W.kdl_dict (knd:=iB X.prog X.w) (kvs:=vs) (ep:=ep) lo) (I.ok.hd hc) Vt (by rw[<- hl];exact z) fun h' tk afj c' kp hS aaA => ?_
 refine⟨.ref s.heap.objs.size,_,I.laid kp (aB _) (show dD X.prog X.w _ h' _ (.lst (kvs.map fun kv=>kV kv.1)) from ⟨by rw[aA];exact z,afj.toList,c',?_,by simpa using hS⟩),rfl,q _ (I.br.fresh (aB _))⟩
 refine Lr (by rw[aA,hl,l9];exact aaA.1.symm) fun j x v hx hv => ?_
 obtain⟨k,y,hkv,his⟩:=aaA.2 j v (by rw[<- Array.getElem?_toList];exact hv)
 have e1:(kvs.map (·.1))[j]? = some k:=by rw[hk,cf,hkv];rfl
 rw[cf]at e1 hx
 cases e:kvs[j]? with
 | none=>rw[e]at e1;cases e1
 | some kv =>
  rw[e]at e1 hx
  have ek:kv.1=k:=bD e1
  have ex:kV kv.1=x:=bD hx
  rw[<- ex,ek]
  rcases hU (show xX k v=true from his) with⟨i,t,rfl,rfl⟩ | ⟨y,t,rfl,rfl⟩
  ·exact⟨t,rfl⟩
  ·exact⟨t,rfl⟩
end
end L2
namespace Sw
open PySem L2
end Sw
namespace L2
open PySem PySem.Spec PyProof.Rows
section
variable {X:Cx}
end
section
variable {prog:Program}{w:World}{A:Around}{E:Value->Shared->Prop}{s:Shared}{K:aj}
variable {nm q:Str}{C N fI:Addr}{bs bm Kr:List Value}{hdct:Bool}{sn:List Str}{sub:List Value}{ab:Bool}{col:Option Bool}{dd:Option Addr}{k0 k1 k2 k3 k5:Option Value}{B newId Ed:String}
theorem JF (F:ExcBaseFacts B newId Ed Kr) {rest:List Value}{Q:Fin->Shared->Prop} (X:K.In s.heap) (T:OwnTail s.heap Kr bm) (hC:s.heap.get? C=some (excClassObj nm q C N bs bm hdct sn sub ab col dd k0 k1 k2 k3 k5 newId))
  (hi:bj K (.ref C) "__init__" = some (some (.ref fI))) (hf:qB K (.ref fI)=some (.type "function")) (hl:rest.length<=sizeLine)
  (k:∀ h' e,s.heap.objs.size<=e->qF s.heap h' e (.ref C) rest->wpAny (model prog w) A (call (.ref fI) (.ref e :: rest)) (fun r s'=>r = .none∧Q (.done (.ret (.ref e))) s') E { s with heap:=h' }) :
  wpAny (model prog w) A (Builtin.«type.__call__» ⟨.ref C :: rest, []⟩) Q E s:=by
 obtain⟨h,g,d,t,os⟩:=s
 repeat (first | with_reducible refine wpAny_loadPart_at hC ?_ | with_reducible refine wpAny_madeBy_exc hC ?_ | wp_step)
 refine codeAny_call_builtin_code (mJ _ F.quiet) (wpAny_check_new_subT F T hC (codeAny_exc_new_subT F T hC ?_ hl))
 show wpAny _ _ _ _ _ _
 generalize hT:({ cls := .type "tuple",data := .seq rest.toArray }:Obj)=oT
 generalize hE:({ cls := .ref C,data := .fields #[.ref h.objs.size,.none,.none,.none,.bool false,.none] }:Obj)=oE
 have kk:∀ b o,h.get? b=some o->((h.push oT).push oE).get? b=some o:=fun b o e=>aN _ (aN _ e)
 have ge:((h.push oT).push oE).get? (h.objs.size+1)=some oE:=by
  have:=bW (h.push oT) (o:=oE) (by rw[<- hE];rfl)
  rwa [kT]at this
 have gT:((h.push oT).push oE).get? h.objs.size=some oT:=aN _ (bW h (by rw[<- hT];rfl))
 have cC:(bf C :: bm).contains (.ref C)=true:=by simp
 have cE:oE.cls = .ref C:=by rw[<- hE]
 unfold isInstance
 repeat (first | (with_reducible refine wpAny_loadPart_at ge ?_;rw[cE]) | (with_reducible refine wpAny_isSubtype_exc (kk _ _ hC) ?_;rw[cC]) | wp_step)
 show wpAny _ _ (typeLookup (.ref C) _) _ _ _
 have X2:K.In ((h.push oT).push oE):=fun b o e=>kk b o (X b o e)
 refine((fi (M:=model prog w) X2 hi).at ?_)
 refine wpAny_holding (wpAny_bind ((EA X2 _ hf).at ?_))
 refine wpAny_bind (wpAny_mono (k _ (h.objs.size+1) (lU _) ⟨kk,dj (lU _),h.objs.size,ge.trans (congrArg some hE.symm),dj (aB _),by rw[gT, <- hT]⟩) (fun r s' hr => ?_) fun _ _ z=>z)
 obtain⟨rfl,hQ⟩:=hr
 wp_walk
 exact hQ
theorem Kq (F:ExcBaseFacts B newId Ed Kr) {rest:List Value}{Q:Value->Shared->Prop} (X:K.In s.heap) (T:OwnTail s.heap Kr bm) (hC:s.heap.get? C=some (excClassObj nm q C N bs bm hdct sn sub ab col dd k0 k1 k2 k3 k5 newId))
  (hi:bj K (.ref C) "__init__" = some (some (.ref fI))) (hf:qB K (.ref fI)=some (.type "function")) (hl:rest.length<=sizeLine)
  (k:∀ h' e,s.heap.objs.size<=e->qF s.heap h' e (.ref C) rest->wpAny (model prog w) (A.under (.builtin "type.__call__" ⟨.ref C :: rest, []⟩)) (call (.ref fI) (.ref e :: rest)) (fun r s'=>r = .none∧Q (.ref e) s') E { s with heap:=h' }) :
  wpAny (model prog w) A (call (.ref C) rest) Q E s:=by
 obtain⟨h,g,d,t,os⟩:=s
 have f1:=tc_lookup
 have f2:=tc_bind (.ref C)
 have hT:(⟨h,g,d,t,os⟩:Shared).TypeIs (.ref C) "type" := ⟨_,hC,rfl⟩
 refine wpAny_call (codeAny_of_tree ?_)
 show wpAny _ _ (callAny (.ref C) _) _ _ _
 repeat (any_goals (first | assumption | with_reducible refine wpAny_loadPart_at hC ?_ | wp_step))
 exact⟨rfl,codeAny_call_builtin_at (mJ _ (by decide +kernel)) entry_typeCall (wpAny_check_type_call_sub hC (JF (s:=⟨h,g,d,t,os⟩) F X T hC hi hf hl k))⟩
end
def wB:List Value->Bool
 | [.type a,.type b,.type c,.type d]=>a == "ValueError" && b == "Exception" && c == "BaseException" && d == "object"
 | .ref _ :: r=>wB r
 | _=>false
theorem vI (self:Value):∀ {l:List Value},wB l=true->refuseLoop self "__setattr__" l=pure ()∧l.contains (.type "object")=true∧l.contains (.type "BaseException")=true
 | .ref c :: r,e=>by
  have q:wB r=true:=by cases r <;> exact e
  obtain⟨h1,h2,h3⟩:=vI self q
  exact⟨by rw[refuseLoop_ref];exact h1,by rw[jZ,h2,uP],by rw[jZ,h3,uP]⟩
 | [.type a,.type b,.type c,.type d],e=>by
  simp only[wB,eC,beq_iff_eq]at e
  obtain⟨⟨⟨rfl,rfl⟩,rfl⟩,rfl⟩:=e
  exact⟨PySem.F.store_ValueError.passes self,by decide +kernel,by decide +kernel⟩
structure EH (K:aj) (C fI:Addr):Prop where
 ov:(HL K C).any (fun cd=>wB cd.mro)=true
 hd:iq K C=true
 sa:bj K (.ref C) "__setattr__" = some (some (.builtin "object.__setattr__"))
 ga:bj K (.ref C) "__getattribute__" = some (some (.builtin "BaseException.__getattribute__"))
 gn:bj K (.ref C) "__getattr__" = some none
 ini:bj K (.ref C) "__init__" = some (some (.ref fI))
 fn:qB K (.ref fI)=some (.type "function")
section
variable {prog:Program}{w:World}{A:Around}{E:Value->Shared->Prop}{s:Shared}{K:aj}{C fI x:Addr}{ox:Obj}{vs:Array Value}{name:Str}{v:Value}
theorem Wv {Q:Unit->Shared->Prop} (X:K.In s.heap) (c:EH K C fI) (gx:s.heap.get? x=some ox) (hc:ox.cls = .ref C) (hdn:ox.dict=none) (Qi:ox.data = .fields vs) (ht:pE K C name=some none)
  (k:∀ h' t,h'.get? x=some { ox with dict:=some s.heap.objs.size }->h'.Ns1 s.heap.objs.size (fun y=>if y=name then some v else none)->(∀ b o,b≠x->s.heap.get? b=some o->h'.get? b=some o)->Q () { s with heap:=h',toks:=t }) :
  wpAny (model prog w) A (setAttr (.ref x) name v) Q E s:=by
 have I:xg s.heap x ox C none:=⟨gx,hc,by unfold F8;rw[Qi],by rw[hdn];trivial⟩
 obtain⟨cd,ni,ho⟩:=oo c.ov
 obtain⟨ace,Tw, -⟩:=vI (.ref x) ho
 refine BL X I c.sa ?_
 have SF:=PySem.F.store_object
 have ne:cd.mro.isEmpty=false:=by cases q:cd.mro with | nil=>rw[q]at ho;cases ho | cons _ _=>rfl
 have sub:fw (model prog w) s.heap (isInstance (.ref x) (.type "object")) true:=I.type.andThen (zd X (by unfold yZ;rw[ni,Dk,if_neg (by rw[ne];decide),Tw]))
 refine codeAny_call_builtin SF.slot.plain SF.entry (@AX (model prog w) _ _ { s with toks:=s.toks+1 } "object.__setattr__" "object" "__setattr__" (.ref x) [.str name s.toks,v] [] _ SF.kind SF.split sub (SF.args (.ref x) (.str name s.toks) v) ?_)
 obtain⟨abr,ha,hr⟩:=Option.bind_eq_some_iff.mp ht
 have hm:fw (model prog w) s.heap (mroOf (.ref C)) cd.mro:=(pX X ni).andThen .now
 have L3:fw (model prog w) s.heap (EK abr) none:=by
  cases abr with
  | none=>exact .now
  | some a =>
   obtain⟨b,hb,e⟩:=nQ.mp hr
   refine(PySem.W.looks_takesIn X hb).andThen ?_
   cases b
   ·exact .now
   ·cases e
 rw[PySem.W.osa_eq,refuse_eq]
 refine wpAny_bind (wpAny_bind (I.type.here (s := { s with toks:=s.toks+1 }) (wpAny_bind (hm.here (s := { s with toks:=s.toks+1 }) ?_))))
 rw[ace]
 refine wpAny_pure (wpAny_bind (I.type.here (s := { s with toks:=s.toks+1 }) (wpAny_bind ((fi X ha).here (s := { s with toks:=s.toks+1 }) (wpAny_bind (L3.here (s := { s with toks:=s.toks+1 }) ?_))))))
 obtain⟨cd2,Qk,Ei⟩:=oo c.hd
 obtain⟨oc,od,oda,tD⟩:=ox
 dsimp only at hc hdn Qi
 subst hc hdn Qi
 refine wpAny_bind (wpAny_pure (wpAny_bind (wpAny_bind (wpAny_loadPart gx (wpAny_bind ((pX X Qk).here (s := { s with toks:=s.toks+1 }) ?_))))))
 rw[Ei]
 rw[if_neg (by decide)]
 dsimp only
 rw[if_neg (by simp[typeHasDict])]
 have xs:x≠s.heap.objs.size:=b7 (bq gx)
 generalize hO:({ cls := .type "dict",data := .dict #[] }:Obj)=oD
 have gx1:(s.heap.push oD).get? x=some { cls := .ref C,data := .fields vs,slots:=tD }:=aN _ gx
 have gd0:(s.heap.push oD).get? s.heap.objs.size=some oD:=bW s.heap (by rw[<- hO];rfl)
 refine wpAny_bind (wpAny_alloc' (wpAny_bind (wpAny_update' gx1 ?_)))
 have gd1:=(cH (h:=s.heap.push oD) (fun o:Obj=>({ o with dict:=some s.heap.objs.size }:Obj)) (a:=x) (b:=s.heap.objs.size) xs).trans gd0
 have gx2:=eY (h:=s.heap.push oD) (fun o:Obj=>({ o with dict:=some s.heap.objs.size }:Obj)) gx1 rfl
 have ot:∀ b o,b≠x->s.heap.get? b=some o->((s.heap.push oD).update x (fun o:Obj=>({ o with dict:=some s.heap.objs.size }:Obj))).get? b=some o:=fun b o n q=>(cH _ _ (cK n)).trans (aN _ q)
 generalize (s.heap.push oD).update x (fun o:Obj=>({ o with dict:=some s.heap.objs.size }:Obj))=h1 at gd1 gx2 ot
 have e0:h1.Ns s.heap.objs.size (fun _=>none):=⟨oD, #[],_,gd1,by rw[<- hO],fun e he=>absurd he (by simp),fun _=>rfl⟩
 unfold dictMade
 refine wpAny_pure ?_
 show wpAny _ _ (pQ _ _ _ _) _ _ _
 unfold pQ EL
 refine wpAny_bind (wpAny_pure (wpAny_bind (wpAny_nsSet1 (s := { s with heap:=h1,toks:=s.toks+1 }) (BV e0) fun h2 n2 s2 => ?_)))
 obtain⟨oN,es,ep,g1,g2,g3⟩:=n2.count (BK name v mE.nil)
 refine wpAny_bind (wpAny_lookBehind g1 (by rw[g2];exact pastItsLine_dict (a9 g3 (show 1<=sizeLine+1 by decide))) ?_)
 refine wpAny_pure (k h2 _ ((s2.2 x xs).trans gx2) n2 fun b o n q=>(s2.2 b ?_).trans (ot b o n q))
 exact b7 (bq q)
theorem XJ {dx:Addr}{mA:Str->Option Value}{yn:Bool}{Q:Value->Shared->Prop} (X:K.In s.heap) (c:EH K C fI) (gx:s.heap.get? x=some ox) (hc:ox.cls = .ref C) (yW:ox.dict=some dx) (Qi:ox.data = .fields vs) (hn:s.heap.Ns1 dx mA) (ha:bj K (.ref C) name=some none)
  (hv:mA name=some v) (Z0:ux v=true) (k:Q v { s with toks:=s.toks+1 }):wpAny (model prog w) A (getAttr (.ref x) name yn) Q E s:=by
 obtain⟨od,gd,hl⟩:=GO hn
 have I:xg s.heap x ox C (some od):=⟨gx,hc,by unfold F8;rw[Qi],by rw[yW];exact gd⟩
 obtain⟨hh,g,d,t,os⟩:=s
 have L0:=I.type (M:=model prog w)
 have L1:=fi (M:=model prog w) X c.ga
 have FB:=PySem.F.excAttr_ValueError
 have f3:=FB.ga.bind (.ref x)
 have GU:(yn && onTheHeap (gH "BaseException.__getattribute__"))=false:=by cases yn <;> rfl
 have tQ:(gH "BaseException.__getattribute__" == gH "object.__getattribute__")=false:=by decide +kernel
 have hx1:(onTheHeap (bf C) && gH "BaseException.__getattribute__" == gH "object.__getattribute__")=false:=by rw[tQ];rfl
 unfold getAttr getAttrBy
 refine wpAny_bind (wpAny_mkText (wpAny_holding (wpAny_bind (L0.at (wpAny_bind (L1.at ?_))))))
 dsimp only
 rw[if_neg (by rw[hx1];decide)]
 unfold getAttrByItsOwn
 refine wpAny_bind ?_
 unfold hookBefore
 rw[if_pos (show onTheHeap (bf C)=true from rfl)]
 refine(fi (M:=model prog w) X c.gn).at ?_
 refine wpAny_bind (wpAny_attempt ?_)
 unfold callGetattribute
 rw[GU]
 rw[if_neg (by decide)]
 refine wpAny_holding ?_
 unfold boundAndCalled
 rw[f3]
 obtain⟨cd,ni,ho⟩:=oo c.ov
 obtain⟨-, -,Ej⟩:=vI (.ref x) ho
 have ne:cd.mro.isEmpty=false:=by cases q:cd.mro with | nil=>rw[q]at ho;cases ho | cons _ _=>rfl
 have sub:fw (model prog w) hh (isInstance (.ref x) (.type "BaseException")) true:=I.type.andThen (zd X (by unfold yZ;rw[ni,Dk,if_neg (by rw[ne];decide),Ej]))
 have L2':=PySem.W.looks_find (M:=model prog w) X I (ze c.hd ha rfl (by rw[hl,hv]))
 refine wpAny_bind (wpAny_pure (wpAny_call (codeAny_call_builtin FB.ga.plain PySem.F.entry_bexc_ga (@AX (model prog w) _ _ ⟨hh,g,d,t+1,os⟩ "BaseException.__getattribute__" "BaseException" "__getattribute__" (.ref x) [.str name t] [] _ (by decide +kernel) (by decide +kernel) sub (PySem.F.args_bexc_ga (.ref x) (.str name t)) ?_))))
 unfold Builtin.«object.__getattribute__»
 refine wpAny_bind (wpAny_pure (wpAny_bind (wpAny_pure (wpAny_bind (L0.at (wpAny_bind (L2'.at ?_)))))))
 refine wpAny_pure ?_
 show wpAny _ _ (handedOut v) _ _ _
 rw[PySem.W.handedOut_of Z0];exact wpAny_pure k
end
abbrev VE4:List Value := [.type "ValueError",.type "Exception",.type "BaseException",.type "object"]
def Ke (K:aj) (C:Addr):Bool:=match K.lookup C with
 | some ⟨.type "type",_,.cls cd,sl⟩=>(match cd.mro,sl.toList with
  | .ref C' :: bm, [_,_,_,_,some (.builtin n),_]=>C' == C && n == "ValueError.__new__" && !cd.hasDel && PySem.W.tailIn K VE4 bm
  | _,_=>false)
 | _=>false
structure uH (K:aj) (mg:Str->Option Value) (x:Str) (C fI:Addr):Prop where
 glob:mg x=some (.ref C)
 here:Ke K C=true
 l:EH K C fI
 i:afo K C
inductive Ov (h:Heap) (C:Addr):Prop
 | mk (tl:List Value) (N:Addr) (nm q:Str) (bs:List Value) (hd:Bool) (sn:List Str) (sub:List Value) (ab:Bool) (col:Option Bool) (dd:Option Addr) (k0 k1 k2 k3 k5:Option Value) (g:h.get? C=some (excClassObj nm q C N bs tl hd sn sub ab col dd k0 k1 k2 k3 k5 "ValueError.__new__")) (T:OwnTail h VE4 tl):Ov h C
theorem uH.obj {K:aj}{mg:Str->Option Value}{x:Str}{C fI:Addr}{h:Heap} (e:uH K mg x C fI) (X:K.In h):Ov h C:=by
 have q:=e.here
 unfold Ke at q
 split at q
 ·rename_i dd cd sl ho
  split at q
  ·rename_i C' bm k0 k1 k2 k3 n k5 hm hs
   simp only[eC,beq_iff_eq,su]at q
   obtain⟨⟨⟨rfl,rfl⟩,JV⟩,ht⟩:=q
   obtain⟨nm,bs,mro,ns,qn,hd,sn,sub,ab,col,del⟩:=cd
   dsimp only at hm JV
   subst hm JV
   obtain⟨l⟩:=sl
   have hs:l = [k0,k1,k2,k3,some (.builtin "ValueError.__new__"),k5]:=hs
   subst hs
   exact⟨bm,ns,nm,qn,bs,hd,sn,sub,ab,col,dd,k0,k1,k2,k3,k5,X _ _ ho,AV X ht⟩
  ·cases q
 ·cases q
def XN (e C:Addr):HO := .ext fun h=>∃ t,h.get? e=some { cls := .ref C,data := .fields #[.ref t,.none,.none,.none,.bool false,.none] }
def XD (e C d:Addr):HO := .ext fun h=>∃ t,h.get? e=some { cls := .ref C,dict:=some d,data := .fields #[.ref t,.none,.none,.none,.bool false,.none] }
def XQ (e C d:Addr):HO := .ext fun h=>∃ o vs,h.get? e=some o∧o.cls = .ref C∧o.data = .fields vs∧o.dict=some d
inductive V7 (C:Addr) (f:Str) (D:Ends) (σ : St) (y:V) (x:V) (H2:Hp):Prop
 | mk (a:Addr) (hx:x = .ref a) (h:H2 a=some (XN a C)) (q:∀ d,d≠a->H2 d=none->D.nx σ (aO (aO H2 d (.xd [(f,y)])) a (XD a C d))):V7 C f D σ y x H2
def sXn (C:Addr) (ta tv:TE) (f:Str):TS:=fun D σ H=>tv σ H fun y H1=>ta σ H1 fun x H2=>V7 C f D σ y x H2
theorem WO {X:Cx}{o value:Expr}{f:Str}{pos eu:Pos}{ta tv:TE}{C fI:Addr} (c:EH X.K C fI) (n:gD X.K C f) (ha:PE X o ta) (hv:PE X value tv) (hs:swapsWith value (some (.Attribute o f eu)) pos.line X.env=pure false):PS X (.Assign [.Attribute o f eu] value pos) (sXn C ta tv f):=by
 intro ah s σ H D I h
 refine plainObj_wpAny_Assign_Attribute (cz (hv ah s σ H _ I h) fun u s1 ⟨y,H1,I1,ry,q⟩=>cz (ha ah s1 σ H1 _ I1 q) fun ov s2 ⟨x,H2,I2,rx,a,ex,ea,q2⟩ => ?_) hs
 subst ex
 obtain rfl:ov=bf a:=rx
 obtain⟨⟨t,ga⟩,_⟩:=(show dD X.prog X.w H2 s2.heap a (XN a C) from I2.br a _ ea)
 refine Wv (fI:=fI) I2.gL c ga rfl rfl rfl n.UD fun h' tk VC nd kp => ?_
 have da:s2.heap.objs.size≠a:=kR (bq ga)
 have gm:=eY (h:=h') (fun _:Obj=>({ cls := .ref C,data := .fields #[.ref t,.none,.none,.none,.bool false,.none] }:Obj)) VC rfl
 have om:∀ b,b≠a->(h'.update a (fun _:Obj=>({ cls := .ref C,data := .fields #[.ref t,.none,.none,.none,.bool false,.none] }:Obj))).get? b=h'.get? b:=fun b n=>cH _ _ (cK n)
 generalize h'.update a (fun _:Obj=>({ cls := .ref C,data := .fields #[.ref t,.none,.none,.none,.bool false,.none] }:Obj))=hm at gm om
 have hd:=I2.br.fresh (aB s2.heap.objs.size)
 have I3:=I2.laid (a:=s2.heap.objs.size) (o := .xd [(f,y)]) (h':=hm) (t':=tk) (fun b v z=>by
  by_cases hb:b=a
  ·subst hb;rw[ga]at z;cases z;exact gm
  ·exact(om b hb).trans (kp b v hb z)) (aB _) ⟨_,nd.at fun o z=>(om _ da).trans z,fun g=>by
   show ny (([(f,y)]:List (Str × V)).lookup g) (if g=f then some u else none)
   by_cases hg:g=f
   ·rw[if_pos hg,hg];simp only[jo,beq_self_eq_true];exact ry
   ·rw[if_neg hg];simp only[jo,beq_eq_false_iff_ne.mpr hg];trivial⟩
 have I4:=I3.write (x:=a) (e:=a) (o:=XD a C s2.heap.objs.size) (h':=h') (t':=tk) (by rw[bh (cK da),ea];exact ie) (.inl rfl) (fun b v hb z=>(om b hb).symm.trans z) ⟨_,VC⟩ ⟨⟨t,VC⟩,⟨_,VC⟩,fun h1 h2 ⟨t,z⟩ k=>⟨t,k _ z⟩⟩
 exact⟨σ,_,I4,q2 _ da hd⟩
theorem Si {X:Cx}{o value:Expr}{f:Str}{pos eu:Pos}{ta tv:TE}{C fI:Addr} (c:EH X.K C fI) (n:gD X.K C f) (ha:QE X o ta) (hv:QE X value tv) (hs:swapsWith value (some (.Attribute o f eu)) pos.line X.env=pure false):QS X (.Assign [.Attribute o f eu] value pos) (sXn C ta tv f):=by
 delta QE QS at *
 exact WO c n ha hv hs
inductive SpL (C:Addr) (f:Str) (vs:List V) (H:Hp) (Q:VK):Prop
 | mk (e:Addr) (y:V) (ev:vs = [.ref e,y]) (h:H e=some (XN e C)) (q:∀ d,d≠e->H d=none->Q .b9 (aO (aO H d (.xd [(f,y)])) e (XD e C d))):SpL C f vs H Q
def UP (C:Addr) (f:Str):Sp:=fun vs H Q _=>SpL C f vs H Q
structure uF (P:Program) (w:World) (K:aj) (mg:Str->Option Value) (base:Heap) (k:Nat) (x:Str) (C:Addr) (ps:List Str) (f:Str):Prop where
 ex:∃ fI fd,Wc P w K mg base k fI fd ps (UP C f)∧uH K mg x C fI∧Binds K fd ps []
structure Dr (K:aj) (mg:Str->Option Value) (x:Str) (C:Addr) (bu:Str) (st:Stmt) (ps:List Str):Prop where
 ex:∃ fI fd,sq K "__init__" bu st fI fd∧uH K mg x C fI∧Binds K fd ps []
theorem Dr.has {P:Program}{w:World}{K:aj}{mg:Str->Option Value}{base:Heap}{x bu f:Str}{C:Addr}{st:Stmt}{N ps:List Str}{k:Nat} (D:Dr K mg x C bu st ps) (S:bx N ps (az st)) (hl:ps.length=2)
  (eD:∀ (fI f':Addr) (a8:Value) (A:Around) (outer:List Env) (s:Shared) (H:Hp) (vs:List V) (Q:VK),EH K C fI->gI k (A.deeper (envOfC bu (az st) s.heap.objs.size f' a8))->UP C f vs H Q E0 ->
   ∃ t,k4 ((bZ oM P w K mg base N bu (az st) f' a8 { A with handled:=none } outer s H E0).gy (A.deeper (envOfC bu (az st) s.heap.objs.size f' a8)) fun _ _=>False) (dk st) t∧t { nx:=fun _ H'=>Q .b9 H',rt:=Q } (start N vs) H) :
  uF P w K mg base (k+1) x C ps f:=by
 obtain⟨fI,fd,F,hm,hb⟩:=D.ex
 exact⟨fI,fd,aaW F S (fun vs H Q E h=>by obtain⟨e,y,rfl,_⟩:=h;exact hl.symm) fun a8 A outer s H vs Q hr h=>eD fI fI a8 A outer s H vs Q hm.l hr h,hm,hb⟩
theorem Dr.eL {P:Program}{w:World}{K:aj}{mg:Str->Option Value}{base:Heap}{x bu f:Str}{C:Addr}{st:Stmt}{N ps:List Str}{k:Nat} (D:Dr K mg x C bu st ps) (S:bx N ps (az st)) (hl:ps.length=2)
  (eD:∀ (fI f':Addr) (a8:Value) (A:Around) (outer:List Env) (s:Shared) (H:Hp) (vs:List V) (Q:VK),EH K C fI->gI k (A.deeper (envOfC bu (az st) s.heap.objs.size f' a8))->UP C f vs H Q E0 ->
   ∃ t,iJ ((bZ oM P w K mg base N bu (az st) f' a8 { A with handled:=none } outer s H E0).gy (A.deeper (envOfC bu (az st) s.heap.objs.size f' a8)) fun _ _=>False) (dk st) t∧t { nx:=fun _ H'=>Q .b9 H',rt:=Q } (start N vs) H) :
  uF P w K mg base (k+1) x C ps f:=by
 delta iJ at *
 exact Dr.has D S hl eD
theorem gI.make {k:Nat}{A:Around} (r:gI (k+1) A) (C:Addr) (us:List Value) (kw:List (Str × Value)):gI k (A.under (.builtin "type.__call__" ⟨.ref C :: us,kw⟩)) :=
 ⟨by have:=r.dp;rw[D6];omega,by have:=r.un;rw[D5];omega⟩
theorem Wg {H:Hp}{d e:Addr}{o1 o2 o3:HO} (n:d≠e):aO (aO (aO H e o1) d o2) e o3=aO (aO H d o2) e o3:=by
 funext b
 unfold aO
 by_cases h1:b=e
 ·rw[if_pos h1,if_pos h1]
 ·rw[if_neg h1,if_neg h1,if_neg h1]
inductive V6 (X:Cx) (ah:List (Addr × Obj)) (σ : St) (C:Addr) (f:Str) (y:V) (H:Hp) (h:Heap) (v:Value) (s':Shared):Prop
 | mk (e d:Addr) (ev:v = .ref e) (ne:d≠e) (he:H e=none) (hd:H d=none) (new:h.get? e=none) (I:Inv X ah σ (aO (aO H d (.xd [(f,y)])) e (XD e C d)) s'):V6 X ah σ C f y H h v s'
theorem I8 {X:Cx} {k k':Nat}{ah:List (Addr × Obj)}{σ : St}{H:Hp}{s:Shared}{x f:Str}{C:Addr}{ps:List Str}{y:V}{u:Value} (h:uF X.prog X.w X.K X.mg X.base k x C ps f) (hr:gI k' X.A) (hk:k+1<=k') (I:Inv X ah σ H s) (r:RelV y u) :
  wpAny (model X.prog X.w) X.A (call (.ref C) [u]) (fun v s'=>V6 X ah σ C f y H s.heap v s') X.xe s:=by
 obtain⟨fI,fd,F,O,hb⟩:=h.ex
 obtain⟨tl,N,nm,q,bs,hd,sn,sub,ab,col,dd,k0,k1,k2,k3,k5,gC,T⟩:=O.obj I.gL
 refine Kq (K:=X.K) (fI:=fI) gJ I.gL T gC O.l.ini O.l.fn (show 1<=sizeLine by decide) fun h' e Mm hm => ?_
 obtain⟨t,ge,_,_⟩:=id hm.there
 have I2:=I.laid (a:=e) (o:=XN e C) (h':=h') (t':=s.toks) hm.keeps Mm ⟨⟨t,ge⟩,⟨_,ge⟩,fun h1 h2 ⟨t,z⟩ k=>⟨t,k _ z⟩⟩
 have he:=I.br.fresh Mm
 have r2:Vals [V.ref e,y] [bf e,u] := .cons rfl (.cons r .nil)
 have hq:UP C f [V.ref e,y] (aO H e (XN e C)) (fun v H2=>v = .b9∧∃ d,d≠e∧H d=none∧H2=aO (aO H d (.xd [(f,y)])) e (XD e C d)) E0:=⟨e,y,rfl,av,fun d n z=>⟨rfl,d,n,by rw[bh n]at z;exact z,Wg n⟩⟩
 have hl:([bf e,u] ++ ([]:List Value)).length=ps.length:=by
  have:=F.len _ _ _ _ hq
  exact this
 have oG:=hb { s with heap:=h' } [bf e,u] I2.gL hl
 rw[dh]at oG
 refine wpAny_call (codeAny_mono (F.run _ X.stack _ _ ⟨[bf e,u], []⟩ _ _ _ ((hr.mono hk).make C [u] []) (I2.Kf.make C [u] []) oG r2 hq) fun r s' Ae => ?_)
 cases r with
 | error e=>exact cj Ae
 | ok fl =>
  cases fl with
  | ret v =>
   obtain⟨v',H',I3,rv,rfl,d,n,z,rfl⟩:=I2.after Ae
   exact⟨rv,e,d,rfl,n,he,z,hm.new,I3⟩
  | next=>exact cj Ae
  | brk=>exact cj Ae
  | cont=>exact cj Ae
inductive Q7 (C d:Addr) (m:Option Addr) (e:Addr) (h h':Heap):Prop
 | mk (vs:Array Value) (a0:Value) (kp:∀ b o,b≠e->h.get? b=some o->h'.get? b=some o) (ge:h'.get? e=some { cls := .ref C,dict:=some d,data := .fields vs }) (g0:vs[0]? = some a0) (g1:vs[1]? = some .none) (g2:vs[2]? = some (lY m)):Q7 C d m e h h'
section
variable {P:Program}{w:World}{K:aj}{mg:Str->Option Value}{base:Heap}{N:List Str}{bu:Str}{scope:Scope}{f:Addr}{a8:Value}{A:Around}{outer:List Env}{s0 s:Shared}{H0 H1:Hp}{E:XK}{C:Addr}
 {ah:List (Addr × Obj)}{σ : St}{e d:Addr}{fs:List (Str × V)}{m:Option Addr} {h' h2:Heap}{a0:Value}
theorem VQ {calm:Bool} {A':Around}{xe:Value->Shared->Prop} (I:Inv { bZ (iY P w) P w K mg base N bu scope f a8 A outer s0 H0 E with A:=A',calm:=calm,xe:=xe } ah σ (aO (aO H1 d (.xd fs)) e (XD e C d)) s) (he:H1 e=none) (ne:d≠e) (new:s0.heap.get? e=none) (U:Q7 C d m e s.heap h')
  (q:E (zk C d) m (aO H1 d (.xd fs))) (x1:eB (cx s.heap (e :: dU (envOfC bu scope s0.heap.objs.size f a8 :: outer))) outer e (.ref C) a0 h2) (sl:h'.UpToSlots h2) (c:∀ y,F2 h' e y->F2 h2 e y):iY P w outer H0 s0 E (.ref e) { s with heap:=h2 }:=by
 obtain⟨vs,a0',kp,ge,g0,g1,g2⟩:=U
 have fr:s.heap.FunFrames base (envOfC bu scope s0.heap.objs.size f a8 :: outer):=I.stack
 have sf:∀ b∈dU (envOfC bu scope s0.heap.objs.size f a8 :: outer),(aO (aO H1 d (.xd fs)) e (XD e C d)) b=none:=I.wm
 have es:dU (envOfC bu scope s0.heap.objs.size f a8 :: outer)=s0.heap.objs.size :: dU outer:=uT rfl
 have Ib:Un (dU outer) [] H0 (aO (aO H1 d (.xd fs)) e (XD e C d)) s0.heap s.heap:=I.base
 have hB:∀ b o,s.heap.get? b=some o->b≠e->b ∉ dU (envOfC bu scope s0.heap.objs.size f a8 :: outer)->(cx s.heap (e :: dU (envOfC bu scope s0.heap.objs.size f a8 :: outer))).get? b=some o:=fun b o z n hb=>gq _ z fun hm=>by
  rcases aK.mp hm with y | y
  ·exact n y
  ·exact hb y
 have hn:(aO H1 d (.xd fs)) e=none:=by rw[bh (cK ne)];exact he
 have eq:∀ b,b≠e->(aO (aO H1 d (.xd fs)) e (XD e C d)) b=(aO H1 d (.xd fs)) b:=fun b n=>bh n
 have nt:∀ b o,(aO (aO H1 d (.xd fs)) e (XD e C d)) b=some o->(∀ φ,o ≠ .ext φ)->(aO H1 d (.xd fs)) b=some o:=fun b o z no=>by
  by_cases hb:b=e
  ·rw[hb,av]at z;cases z;exact absurd rfl (no _)
  ·rw[eq b hb]at z;exact z
 have DW:∀ b o,s0.heap.get? b=some o->b≠e:=fun b o z y=>by rw[y,new]at z;cases z
 have kh:∀ b o,(cx s.heap [e]).get? b=some o->b≠e∧s.heap.get? b=some o:=fun b o z=>⟨(fun y=>by rw[y,ly [e] (bI.mpr rfl)]at z;cases z),eM _ z⟩
 have hk:∀ b o,b≠e->s.heap.get? b=some o->(cx s.heap [e]).get? b=some o:=fun b o n z=>gq _ z fun hm=>n (bI.mp hm)
 have U1:Un (dU outer) [] H0 (aO H1 d (.xd fs)) s0.heap (cx s.heap [e]):=by
  refine⟨fun b o q n hb hx=>hk b o (DW b o q) (Ib.keep b o q n hb hx),fun b o q n hb hx => ?_,fun b o q n hx => ?_,fun b o q hx => ?_,fun b xs q=>nt _ _ (Ib.nj _ _ q) (fun _ z=>nomatch z),fun b o u q=>nt _ _ (Ib.oi _ _ _ q) (fun _ z=>nomatch z),fun b ps q => ?_⟩
  ·obtain⟨sl,z⟩:=Ib.slot b o q n hb hx
   exact⟨sl,hk b _ (DW b o q) z⟩
  ·rw[<- eq b (DW b o q)];exact Ib.free b o q n hx
  ·obtain⟨o',z⟩:=Ib.there b o q hx
   exact⟨o',hk b _ (DW b o q) z⟩
  ·obtain⟨mo,z⟩:=Ib.oQ b ps q
   exact⟨mo,nt _ _ z (fun _ z=>nomatch z)⟩
 have aez:gh P w (aO H1 d (.xd fs)) s.heap:=fun a o z=>by
  have na:a≠e:=fun y=>by rw[y,hn]at z;cases z
  have ok:=I.br a o (by rw[eq a na];exact z)
  exact ok.sV (fun _ _ _ q=>q) (fun b q=>nt _ _ q (fun _ z=>nomatch z)) (fun b xs q=>nt _ _ q (fun _ z=>nomatch z))
 refine⟨e,C,a0,_,_,rfl,x1,I.os,I.bare,gh.part aez fun b u v z1 z2 => ?_,?_,?_,m,_,.di d (c _ ⟨_,_,ge,rfl,g2⟩) (c _ ⟨_,_,ge,rfl,rfl⟩),q⟩
 ·have nb:b≠e:=fun y=>by rw[y,hn]at z1;cases z1
  exact hB b v z2 nb fun hm=>by rw[<- eq b nb,sf b hm]at z1;cases z1
 ·refine Un.VF (h:=cx s.heap [e]) (h1:=h') (L:=s0.heap.objs.size) (B:=cx s.heap (e :: dU (envOfC bu scope s0.heap.objs.size f a8 :: outer))) U1 (Un.kept fun b o z=>kp b o (kh b o z).1 (kh b o z).2) (dj (aB _)) (fun b o z hb=>⟨o,hB b o (kh b o z).2 (kh b o z).1 (by rw[es];exact hb)⟩) (fun b o z => ?_) x1.1 sl fun b hb => ?_
  ·exact kp b o (fun y=>by rw[y,ly (e :: _) aV]at z;cases z) (eM _ z)
  ·obtain⟨_,o,z,dd⟩:=fr.mem (b:=b) (by show b∈dU _;rw[es];exact aL _ hb)
   exact⟨o,kp b o (fun y=>by
    have:=sf e (by rw[es, <- y];exact aL _ hb)
    rw[av]at this;cases this) z,dd⟩
 ·intro b o z hb
  obtain⟨o1,z1⟩:=Ib.there b o z (by simp)
  refine⟨o1,hB b o1 z1 (DW b o z) fun hm => ?_⟩
  rw[es]at hm
  rcases aK.mp hm with y | y
  ·rw[y,dj (aB _)]at z;cases z
  ·exact hb y
theorem UY {calm:Bool} {A':Around}{xe:Value->Shared->Prop} (I:Inv { bZ (iY P w) P w K mg base N bu scope f a8 A outer s0 H0 E with A:=A',calm:=calm,xe:=xe } ah σ (aO (aO H1 d (.xd fs)) e (XD e C d)) s) (U:Q7 C d m e s.heap h') :
  h'.FunFrames (cx s.heap (e :: dU (envOfC bu scope s0.heap.objs.size f a8 :: outer))) (envOfC bu scope s0.heap.objs.size f a8 :: outer)∧(cx s.heap (e :: dU (envOfC bu scope s0.heap.objs.size f a8 :: outer))).StaysIn h'∧(cx s.heap (e :: dU (envOfC bu scope s0.heap.objs.size f a8 :: outer))).get? e=none:=by
 obtain⟨vs,a0',kp,ge,g0,g1,g2⟩:=U
 have fr:s.heap.FunFrames base (envOfC bu scope s0.heap.objs.size f a8 :: outer):=I.stack
 obtain⟨⟨t,gs⟩,_⟩:=(show dD P w _ s.heap e (XD e C d) from I.br e _ av)
 have be:(cx s.heap (e :: dU (envOfC bu scope s0.heap.objs.size f a8 :: outer))).get? e=none:=ly _ aV
 refine⟨(nM (as:=e :: dU (envOfC bu scope s0.heap.objs.size f a8 :: outer)) fr fun env hm b hb=>aL _ (eP.mpr ⟨env,hm,hb⟩)).of_keeps fun b o z nf=>⟨o,kp b o (fun y => ?_) z,rfl⟩,fun b o z=>kp b o (fun y=>by rw[y,be]at z;cases z) (eM _ z),be⟩
 rw[y,gs]at z
 cases z
 exact nf _ rfl
end
def KR (X:Cx) (C:Addr) (E:XK):Prop := ∀ (ah:List (Addr × Obj)) (σ : St) (H1:Hp) (s1 s:Shared) (e d:Addr) (fs:List (Str × V)),Inv X ah σ H1 s1->s1.heap.get? e=none->H1 e=none->d≠e->Inv X ah σ (aO (aO H1 d (.xd fs)) e (XD e C d)) s->Q7 C d none e s.heap s.heap->E (zk C d) none (aO H1 d (.xd fs))->X.xe (.ref e) s
def Gd (X:Cx) (ea C:Addr) (E:XK):Prop := ∀ (ah:List (Addr × Obj)) (σ : St) (H1:Hp) (s1 s:Shared) (h':Heap) (e d:Addr) (fs:List (Str × V)),Inv (X.jm ea) ah σ H1 s1->s1.heap.get? e=none->H1 e=none->d≠e->Inv (X.jm ea) ah σ (aO (aO H1 d (.xd fs)) e (XD e C d)) s->Q7 C d (some ea) e s.heap h'->E (zk C d) (some ea) (aO H1 d (.xd fs))->XH X ea (.ref e) { s with heap:=h' }
section
variable {P:Program}{w:World}{K:aj}{mg:Str->Option Value}{base:Heap}{N:List Str}{bu:Str}{scope:Scope}{f:Addr}{a8:Value}{A:Around}{outer:List Env}{s0:Shared}{H0:Hp}{E:XK}{ea C:Addr}
theorem Qv:KR (bZ (iY P w) P w K mg base N bu scope f a8 A outer s0 H0 E) C E:=by
 intro ah σ H1 s1 s e d fs I1 new he ne I U q
 have Ib1:Un (dU outer) [] H0 H1 s0.heap s1.heap:=I1.base
 have Tb:s0.heap.get? e=none:=by
  cases z:s0.heap.get? e with
  | none=>rfl
  | some o=>obtain⟨o',z'⟩:=Ib1.there e o z (by simp);rw[new]at z';cases z'
 obtain⟨ff,kb,be⟩:=UY (A:=A) (E:=E) (calm:=true) I U
 obtain⟨vs,a0,kp,ge,g0,g1,g2⟩:=id U
 show wpAny _ _ (leaving _ _) _ _ _
 refine leave_new (s:=s) (a0:=a0) I.ok.frames ff rfl ge kb be rfl g1 g0 fun h2 x1 sl c => ?_
 exact VQ (s:=s) (A:=A) (calm:=true) I he ne Tb U q x1 sl c
theorem XM:Gd (bZ (iY P w) P w K mg base N bu scope f a8 A outer s0 H0 E) ea C E:=by
 intro ah σ H1 s1 s h' e d fs I1 new he ne I U q
 have Ib1:Un (dU outer) [] H0 H1 s0.heap s1.heap:=I1.base
 have Tb:s0.heap.get? e=none:=by
  cases z:s0.heap.get? e with
  | none=>rfl
  | some o=>obtain⟨o',z'⟩:=Ib1.there e o z (by simp);rw[new]at z';cases z'
 obtain⟨ff,kb,be⟩:=UY (A:=A) (E:=E) (calm:=false) I U
 obtain⟨vs,a0,kp,ge,g0,g1,g2⟩:=id U
 show wpAny _ _ (noteFrame _ _) _ _ _
 refine CT (s := { s with heap:=h' }) (a0:=a0) I.ok.frames ff rfl ge kb be rfl g1 g0 fun h1 hh Ys c1 => ?_
 refine Hd (s := { s with heap:=h1 }) rfl hh fun h2 hh2 DL c2 => ?_
 show wpAny _ _ (leaving _ _) _ _ _
 refine leave_held (s := { s with heap:=h2 }) rfl hh2 fun h3 x1 Yr c3 => ?_
 exact VQ (s:=s) (A:=A) (calm:=false) I he ne Tb U q x1 ((Ys.trans DL).trans Yr) fun y z=>c3 y (c2 y (c1 y z))
end
section
variable {prog:Program}{w:World}{A:Around}{E:Value->Shared->Prop}{s:Shared}{env:Env}{C:Addr}
theorem Cg {x:Str}{np dJ pos:Pos}{e0:Expr}{R:Value->Shared->Prop} (he:starEach [e0] env=(false,eval e0 env) :: starEach [] env)
  (h:wpAny (model prog w) A (eval (.Name x np) env) (fun f s1=>f = .ref C∧wpAny (model prog w) A (evalArgs (.ref C) true (backTo dJ (starEach [e0] env)) []) (fun a s2=>a.kw = []∧Ov s2.heap C∧wpAny (model prog w) A (call (.ref C) a.pos) (fun v s3=>∃ e,v = .ref e∧R (.ref e) s3) E s2) E s1) E s) :
  wpAny (model prog w) A (do let v <- eval (.Call (.Name x np) [e0] [] dJ) env;standAt pos;pure v) R E s:=by
 refine wpAny_bind (wpAny_mono (wpAny_Call_ofName (wpAny_mono h (fun f s1 h1 => ?_) fun _ _ z=>z)) (fun v s3 h3=>wpAny_bind (wpAny_standAt (wpAny_pure h3))) fun _ _ z=>z)
 obtain⟨rfl,h1⟩:=h1
 unfold callWith
 refine wpAny_bind (wpAny_holding (wpAny_mono h1 (fun a s2 h2=>wpAny_bind (wpAny_standAt ?_)) fun _ _ z=>z))
 obtain⟨ap,ak⟩:=a
 obtain⟨rfl,⟨tl,N,nm,q,bs,hd,sn,sub,ab,col,dd,k0,k1,k2,k3,k5,gC,T⟩,k⟩:=h2
 obtain⟨hp,g,d,tk,os⟩:=s2
 have fu:(backTo dJ (starEach [e0] env)).any (·.1)=false:=by rw[he];rfl
 simp only[fu]
 refine wpAny_bind (wpAny_keeperOf_exc gC ?_)
 refine wpAny_bind (wpAny_mono k (fun v s3 h3 => ?_) fun _ _ z=>z)
 obtain⟨e,rfl,r⟩:=h3
 exact wpAny_bind (wpAny_holding (wpAny_point (wpAny_pure r)))
theorem Jd {x:Sem Value}{Q:Flow->Shared->Prop} (hh:A.handled=none)
  (h:wpAny (model prog w) A x (fun v s1=>∃ e d t,v = .ref e∧Ov s1.heap C∧s1.heap.get? e=some { cls := .ref C,dict:=some d,data := .fields #[.ref t,.none,.none,.none,.bool false,.none] }∧E (.ref e) s1) E s):wpAny (model prog w) A (raiseStmt env (some x) none) Q E s:=by
 unfold raiseStmt
 refine wpAny_bind (wpAny_mono h (fun v s1 h1 => ?_) fun _ _ z=>z)
 obtain⟨e,dx,t,rfl,⟨tl,N,nm,q,bs,hd,sn,sub,ab,col,dd,k0,k1,k2,k3,k5,gC,T⟩,ge,hE⟩:=h1
 obtain⟨hp,g,d,tk,os⟩:=s1
 refine wpAny_bind (wpAny_pure ?_)
 try dsimp only
 refine wpAny_bind (wpAny_holding (Au (T.hasType (by decide +kernel)) gC ge ?_))
 try dsimp only
 repeat (first | with_reducible refine wpAny_loadPart_at ge ?_ | with_reducible refine wpAny_loadPart_at gC ?_ | wp_step)
 exact wpAny_raiseNew_none hh hE
end
inductive Hn (C:Addr) (f:Str) (E:XK) (vs:List V) (H1:Hp):Prop
 | mk (y:V) (ev:vs = [y]) (q:∀ d,H1 d=none->E (zk C d) none (aO H1 d (.xd [(f,y)]))):Hn C f E vs H1
def Lv (C:Addr) (f:Str) (E:XK) (t:TA):TS:=fun _ σ H=>t σ H fun vs H1=>Hn C f E vs H1
theorem Pa {X:Cx}{x f:Str}{C:Addr} {k k':Nat}{ps:List Str}{E:XK}{e0:Expr}{t:TA}{np dJ pos:Pos} (O:uF X.prog X.w X.K X.mg X.base k x C ps f) (hr:gI k' X.A) (hk:k+1<=k') (hc:X.calm=true) (F:KR X C E) (ha:PA X [e0] t) (hg:Gl X x)
  (he:starEach [e0] X.env=(false,eval e0 X.env) :: starEach [] X.env:=by rfl) (hd:(x == ("__debug__" : Str))=false:=by decide):PS X (.Raise (some (.Call (.Name x np) [e0] [] dJ)) none pos) (Lv C f E t):=by
 intro ah s σ H D I h
 obtain⟨_,_,_,O2,_⟩:=O.ex
 rw[arm_exec_Raise]
 refine wpAny_bind (wpAny_standAt (Jd (C:=C) (x:=do let v <- eval (.Call (.Name x np) [e0] [] dJ) X.env;standAt pos;pure v) (I.ok.hd hc) (Cg he (jq I hg O2.glob ⟨rfl,?_⟩ hd))))
 have h2:=ha dJ ah s σ H _ I h
 rw[he]at h2 ⊢
 refine jf (wpAny_mono h2 (fun vs s2 ⟨xs,H1,I1,r,y,ev,hq⟩ => ?_) fun _ _ y=>y)
 subst ev
 obtain⟨u,rfl,ry⟩:=Vals.one r
 refine⟨rfl,O2.obj I1.gL,wpAny_mono (I8 O hr hk I1 ry) (fun v s3 h3 => ?_) fun _ _ z=>z⟩
 obtain⟨e,d,rfl,ne,Mo,Ah,new,I3⟩:=h3
 obtain⟨⟨tt,ge⟩,_⟩:=(show dD X.prog X.w _ s3.heap e (XD e C d) from I3.br e _ av)
 exact⟨e,rfl,e,d,tt,rfl,O2.obj I3.gL,ge,F ah σ H1 s2 s3 e d _ I1 new Mo ne I3 ⟨_,_,fun _ _ _ z=>z,ge,rfl,rfl,rfl⟩ (hq d Ah)⟩
theorem DS {X:Cx}{x f:Str}{C:Addr} {k k':Nat}{ps:List Str}{E:XK}{e0:Expr}{t:TA}{np dJ pos:Pos} (O:uF X.prog X.w X.K X.mg X.base k x C ps f) (hr:gI k' X.A) (hk:k+1<=k') (hc:X.calm=true) (F:KR X C E) (ha:QA X [e0] t) (hg:Gl X x)
  (he:starEach [e0] X.env=(false,eval e0 X.env) :: starEach [] X.env:=by rfl) (hd:(x == ("__debug__" : Str))=false:=by decide):QS X (.Raise (some (.Call (.Name x np) [e0] [] dJ)) none pos) (Lv C f E t):=by
 delta QA QS at *
 exact Pa O hr hk hc F ha hg he hd
inductive EF (ea C:Addr) (f:Str) (E:XK) (vs:List V) (H1:Hp):Prop
 | mk (y:V) (ev:vs = [y]) (z1:ChO H1 ea) (q:∀ d,H1 d=none->E (zk C d) (some ea) (aO H1 d (.xd [(f,y)]))):EF ea C f E vs H1
def Iq (C:Addr) (f:Str) (E:XK) (t:TA) (ea:Addr):TS:=fun _ σ H=>t σ H fun vs H1=>EF ea C f E vs H1
theorem Ny {X:Cx}{ea C:Addr}{x f:Str} {k k':Nat}{ps:List Str}{E:XK}{e0:Expr}{t:TA}{np dJ pos tG:Pos}{j:Nat} (O:uF X.prog X.w X.K X.mg X.base k x C ps f) (hr:gI k' (X.jm ea).A) (hk:k+1<=k') (F:Gd X ea C E) (ha:PA (X.jm ea) [e0] t) (hg:Gl X x)
  (he:starEach [e0] X.env=(false,eval e0 X.env) :: starEach [] X.env:=by rfl) (hd:(x == ("__debug__" : Str))=false:=by decide):PS (X.jm ea) (.Raise (some (.Call (.Name x np) [e0] [] dJ)) (some (.Constant .none j tG)) pos) (Iq C f E t ea):=by
 intro ah s σ H D I h
 obtain⟨_,_,_,O2,_⟩:=O.ex
 rw[arm_exec_Raise]
 obtain⟨tl,N,nm,q,bs,hdd,sn,sub,ab,col,dd,k0,k1,k2,k3,k5,gC,T⟩:=O2.obj I.ok.mod.zY
 refine wpAny_bind (wpAny_standAt (zM (C:=C) (nm:=nm) (qn:=q) (N:=N) (bs:=bs) (bm:=tl) (hdct:=hdd) (sn:=sn) (sub:=sub) (ab:=ab) (col:=col) (dd:=dd) (k0:=k0) (k1:=k1) (k2:=k2) (k3:=k3) (k5:=k5) (newId := "ValueError.__new__") (ha:=ea)
  (x:=do let v <- eval (.Call (.Name x np) [e0] [] dJ) X.env;standAt pos;pure v) (c:=do let v <- eval (.Constant .none j tG) X.env;standAt pos;pure v) (T.hasType (by decide +kernel)) rfl (fun R s' r=>wpAny_bind (Constant_none (wpAny_bind (wpAny_standAt (wpAny_pure r))))) (Cg he (jq I hg O2.glob ⟨rfl,?_⟩ hd))))
 have h2:=ha dJ ah s σ H _ I h
 have Qh:starEach [e0] (X.jm ea).env=(false,eval e0 (X.jm ea).env) :: starEach [] (X.jm ea).env:=he
 rw[Qh]at h2 ⊢
 refine jf (wpAny_mono h2 (fun vs s2 ⟨xs,H1,I1,r,y,ev,hx,hq⟩ => ?_) fun _ _ y=>y)
 subst ev
 obtain⟨u,rfl,ry⟩:=Vals.one r
 have O':uF (X.jm ea).prog (X.jm ea).w (X.jm ea).K (X.jm ea).mg (X.jm ea).base k x C ps f:=O
 refine⟨rfl,O2.obj I1.gL,wpAny_mono (I8 O' hr hk I1 ry) (fun v s3 h3 => ?_) fun _ _ z=>z⟩
 obtain⟨e,d,rfl,ne,Mo,Ah,new,I3⟩:=h3
 obtain⟨⟨tt,ge⟩,_⟩:=(show dD X.prog X.w _ s3.heap e (XD e C d) from I3.br e _ av)
 have one:∀ {b CC:Addr}{m:Option Addr},H1 b=some (pV b CC m)->b≠e∧F2 s3.heap b (lY m):=fun {b CC m} hb=>by
  have nb:b≠e:=fun z=>by rw[z,Mo]at hb;cases hb
  have nd:b≠d:=fun z=>by rw[z,Ah]at hb;cases hb
  obtain⟨⟨o,ws,a1,_,a3,a4⟩,_⟩:=(show dD X.prog X.w _ s3.heap b (pV b CC m) from I3.br b _ (by rw[bh nb,bh nd];exact hb))
  exact⟨nb,o,ws,a1,a3,a4⟩
 have cn:e≠ea∧Hu s3.heap ea∧∀ a,F2 s3.heap ea (.ref a)->a≠e:=by
  have two:∀ {m:Option Addr}{a:Addr},F2 s3.heap ea (lY m)->F2 s3.heap ea (.ref a)->m=some a:=fun {m a} p1 p2=>by
   obtain⟨o,vs,a1,a2,a3⟩:=p1
   obtain⟨o',zp,b1,b2,b3⟩:=p2
   rw[a1]at b1
   cases b1
   rw[a2]at b2
   cases b2
   have:=bD ((show vs[2]? = some (lY m) from a3).symm.trans b3)
   cases m with
   | none=>cases this
   | some c=>cases this;rfl
  rcases hx with⟨CC,hx⟩ | ⟨CC,a,CC',na,h1,h2⟩
  ·refine⟨cK (one hx).1,.inl (one hx).2,fun a z => ?_⟩
   cases two (one hx).2 z
  ·refine⟨cK (one h1).1,.inr ⟨a,na,(one h1).2,(one h2).2⟩,fun b z => ?_⟩
   cases two (one h1).2 z
   exact(one h2).1
 exact⟨e,rfl,e,tt,some d,rfl,cn.1,cn.2.1,cn.2.2,I3.bk _ _ gC,ge,fun h' kp go=>F ah σ H1 s2 s3 h' e d _ I1 new Mo ne I3 ⟨_,_,kp,go,rfl,rfl,rfl⟩ (hq d Ah)⟩
theorem Le {X:Cx}{ea C:Addr}{x f:Str} {k k':Nat}{ps:List Str}{E:XK}{e0:Expr}{t:TA}{np dJ pos tG:Pos}{j:Nat} (O:uF X.prog X.w X.K X.mg X.base k x C ps f) (hr:gI k' (X.jm ea).A) (hk:k+1<=k') (F:Gd X ea C E) (ha:QA (X.jm ea) [e0] t) (hg:Gl X x)
  (he:starEach [e0] X.env=(false,eval e0 X.env) :: starEach [] X.env:=by rfl) (hd:(x == ("__debug__" : Str))=false:=by decide):QS (X.jm ea) (.Raise (some (.Call (.Name x np) [e0] [] dJ)) (some (.Constant .none j tG)) pos) (Iq C f E t ea):=by
 delta QA QS at *
 exact Ny O hr hk F ha hg he hd
theorem Ci.dict {h:Heap} {ea C C' d:Addr}{m:Option Addr}{c:Value} (x:Ci h ea C m c) (e:c=zk C' d):C=C'∧F2 h ea (.d d):=by
 cases x with
 | pl c0=>unfold zk at e;cases e
 | di d' c0 d0 =>
  unfold zk at e
  injection e with e1 e2
  subst e2
  exact⟨Int.ofNat.inj e1,d0⟩
section
variable {X:Cx}{ah:List (Addr × Obj)}{σ : St} {H0 H':Hp} {s0 s':Shared}{ea C:Addr}{a0:Value}{B h5:Heap}{φ : Heap->Prop}
theorem qQ (I:Inv X ah σ H0 s0) (fl:eB B X.stack ea (.ref C) a0 s'.heap) (os:s'.os=s0.os) (bare:AllBare s'.gens) (br:gh X.prog X.w H' B) (un:Un (dU X.stack) [] H0 H' s0.heap s'.heap)
  (kj:∀ b o,s0.heap.get? b=some o->b ∉ dU X.stack->∃ o',B.get? b=some o') (k5:∀ b o,B.get? b=some o->h5.get? b=some o) (sl:s'.heap.UpToSlots h5) (he:∃ o vs,h5.get? ea=some o∧o.data = .fields vs) (hφ : φ h5) (st:∀ h1 h2:Heap, φ h1->(∀ o,h1.get? ea=some o->h2.get? ea=some o) -> φ h2) :
  Inv X ah σ (aO H' ea (.ext φ)) { s' with heap:=h5 }∧H' ea=none:=by
 have hn:H' ea=none:=br.Jz fl.2.1
 have fm:∀ b∈dU X.stack,∃ o,s'.heap.get? b=some o∧∀ vs,o.data ≠ .fields vs:=fun b hb=>(fl.2.2.1.mem hb).2
 obtain⟨oe,vs,h1,h3⟩:=he
 have new:s0.heap.get? ea=none:=by
  cases q:s0.heap.get? ea with
  | none=>rfl
  | some o =>
   by_cases hb:ea∈dU X.stack
   ·obtain⟨ob,q3,d⟩:=fm ea hb
    obtain⟨s4,q4⟩:=sl ea _ q3 d
    rw[h1]at q4
    cases q4
    exact absurd h3 (d vs)
   ·obtain⟨o',e⟩:=kj ea o q hb
    rw[fl.2.1]at e;cases e
 refine⟨Inv.Of (s' := { s' with heap:=h5 }) I os ((un.on kj fl.1 k5 sl fm).more new hn) ?_ bare (fun b z=>absurd z (by simp)),hn⟩
 intro b u e
 by_cases hb:b=ea
 ·subst hb
  rw[av]at e
  cases e
  exact⟨hφ,⟨oe,h1⟩,st⟩
 ·rw[bh hb]at e
  exact(br b u e).sV (fun c v hc q=>k5 _ _ q) (fun c z=>by rw[bh (dC z hn)];exact z) fun c xs z=>by rw[bh (dC z hn)];exact z
end
def OJ (K:aj) (CH Hv:Addr) (tb:XK->TS) (th:Addr->TS):TS:=fun D σ H =>
 tb (fun cls m H'=>∃ C,cls = .ref C∧kN K (.ref C) [.ref CH,.ref Hv]=some true∧∀ ea,H' ea=none->th ea D σ (aO H' ea (pV ea C m))) D σ H
theorem Sf {X:Cx}{body:List Stmt}{tb:XK->TS}{th:Addr->TS}{x x2:Str}{CH Hv:Addr}{mD : Stmt}{jL:List Stmt}{kt:Nat}{tp np Jy mr pos:Pos} (kE:X.stack=X.env :: X.outer∧X.env.frame=some X.env.locals)
  (hg:Gl X x) (hm:X.mg x=some (.ref CH)) (hg2:Gl X x2) (Ml:X.mg x2=some (.ref Hv)) (hb:vm X body tb) (hh:∀ ea:Addr,k4 (X.jm ea) (mD :: jL) (th ea)) (hd:(x == ("__debug__" : Str))=false:=by decide) (Ei:(x2 == ("__debug__" : Str))=false:=by decide)
  (he:starEach [.Name x np,.Name x2 Jy] X.env = [(false,eval (.Name x np) X.env),(false,eval (.Name x2 Jy) X.env)]:=by rfl) :
  PS X (.Try body [.ExceptHandler (some (.Tuple [.Name x np,.Name x2 Jy] kt tp)) none (mD :: jL) mr] [] [] pos) (OJ X.K CH Hv tb th):=by
 intro ah s σ H D I h
 refine wpAny_Try_except (wpAny_mono (hb _ ah s σ H D _ ?W I h) (fun f s1 q => ?_) fun _ _ z=>z)
 case W =>
  intro H0 s0 e s' I0 hx
  obtain⟨ea,C,a0,B,H',rfl,fl,os,bare,br,un,kj,m,cc,hk,C',hc,Qg,P7⟩:=hx
  obtain⟨rfl,c0⟩:=hk.ref hc
  have JU:X.A.frames=some (X.env :: X.outer):=by rw[I0.ok.frames,kE.1]
  have Qw:eB B (X.env :: X.outer) ea (.ref C) a0 s'.heap:=by rw[<- kE.1];exact fl
  refine Bt JU kE.2 Qw fun xY wN uV c4 => ?_
  obtain⟨p1,p2,p3,p4⟩:=wN
  refine jb (s := { s' with heap:=xY }) p1 p2 p3 p4 fun iD jR uU c5 => ?_
  have Hf:=c5 _ (c4 _ c0)
  have st:∀ h1 h2:Heap,(∃ o vs,h1.get? ea=some o∧o.cls = .ref C∧o.data = .fields vs∧vs[2]? = some (lY m))->(∀ o,h1.get? ea=some o->h2.get? ea=some o)->∃ o vs,h2.get? ea=some o∧o.cls = .ref C∧o.data = .fields vs∧vs[2]? = some (lY m):=fun h1 h2 ⟨o,ws,z1,z2⟩ k=>⟨o,ws,k o z1,z2⟩
  have two:∀ {h:Heap},eB B (X.env :: X.outer) ea (.ref C) a0 h->F2 h ea (lY m)->∃ o vs,h.get? ea=some o∧o.cls = .ref C∧o.data = .fields vs∧vs[2]? = some (lY m):=fun {h} fl c=>by
   obtain⟨o,vs,q1,q2,q3,_⟩:=fl.first
   obtain⟨o',zp,r1,r2,r3⟩:=c
   rw[q1]at r1
   cases r1
   exact⟨o,zp,q1,q2,r2,r3⟩
  have one:∀ {h:Heap},(∃ o vs,h.get? ea=some o∧o.cls = .ref C∧o.data = .fields vs∧vs[2]? = some (lY m))->∃ o vs,h.get? ea=some o∧o.data = .fields vs:=fun ⟨o,vs,a,_,b,_⟩=>⟨o,vs,a,b⟩
  have t5:=two jR Hf
  obtain⟨I5,lG⟩:=qQ (h5:=iD) I0 fl os bare br un kj jR.1 (uV.trans uU) (one t5) t5 st
  have J5:Inv (X.jm ea) ah σ (aO H' ea (pV ea C m)) { s' with heap:=iD }:=I5.gy rfl
  refine wpAny_handleBy_cons (codeAny_handlers_test (wpAny_Tuple_spliced ?_)) (by intro q;cases q)
  rw[he]
  refine rq (jq J5 hg hm ?_ hd)
  refine rq (jq J5 hg2 Ml ?_ Ei)
  refine BW ⟨(show 2<=sizeLine by decide),?_⟩
  generalize hO:({ cls := .type "tuple",data := .seq [bf CH,bf Hv].toArray }:Obj)=oT
  have kp:∀ b o,iD.get? b=some o->(iD.push oT).get? b=some o:=fun b o z=>aN _ z
  have gT:(iD.push oT).get? iD.objs.size=some oT:=bW iD (by rw[<- hO];rfl)
  have VG:eB B (X.env :: X.outer) ea (.ref C) a0 (iD.push oT):=by
   obtain⟨f1,f2,f3,oe,vs,Tr,oR,ts,ge,gc,gd,g1,bT,yS,gT,dT,g3⟩:=jR
   exact⟨fun b o z=>kp b o (f1 b o z),f2,f3.of_keeps fun b o z _=>⟨o,kp b o z,rfl⟩,oe,vs,Tr,oR,ts,kp _ _ ge,gc,gd,g1,bT,yS,kp _ _ gT,dT,g3⟩
  have c07:F2 (iD.push oT) ea (lY m):=by
   obtain⟨o,vs,a,b⟩:=Hf
   exact⟨o,vs,kp _ _ a,b⟩
  have sm7:s'.heap.UpToSlots (iD.push oT):=(uV.trans uU).trans fun b o z _=>⟨o.slots,kp b o z⟩
  obtain⟨o5,vs5,g1,g2,g3,_⟩:=id t5
  have LT:fw (model X.prog X.w) (iD.push oT) (typeOf (.ref ea)) (.ref C):=g2 ▸ (oq (kp _ _ g1)).andThen .now
  rw[<- hO]at gT
  refine(PySem.W.exm_tup2 (M:=model X.prog X.w) (h:=iD.push oT) (fun b o z=>kp b o (I5.gL b o z)) LT (by rw[<- hO];exact gT) Qg).at ?_
  show codeAny _ _ _ _ _
  refine codeAny_handlers_suite ?_
  refine jb (s := { s' with heap:=iD.push oT }) VG.1 VG.2.1 VG.2.2.1 VG.2.2.2 fun Ac ve DJ c6 => ?_
  have t6:=two ve (c6 _ c07)
  obtain⟨I6,_⟩:=qQ (h5:=Ac) I0 fl os bare br un kj ve.1 (sm7.trans DJ) (one t6) t6 st
  refine wpAny_mono (hh ea ah _ _ _ _ (I6.gy rfl) (P7 ea lG)) (fun f s8 q8 => ?_) fun _ _ z=>z
  have pz:∀ {bC dF}{s9:Shared},Inv (X.jm ea) ah bC dF s9->Inv X ah bC dF s9:=fun J=>J.Jb I0.ok.hd rfl
  cases f with
  | next =>
   obtain⟨bC,dF,J,q⟩:=q8
   exact⟨_,_,pz J,q⟩
  | brk =>
   obtain⟨bC,dF,J,q⟩:=q8
   exact⟨_,_,pz J,q⟩
  | cont =>
   obtain⟨bC,dF,J,q⟩:=q8
   exact⟨_,_,pz J,q⟩
  | ret u =>
   obtain⟨v, bC,dF,J,r,q⟩:=q8
   exact⟨v,_,_,pz J,r,q⟩
 cases f with
 | next=>exact wpAny_execs_nil q
 | brk=>exact q
 | cont=>exact q
 | ret u=>exact q
theorem O8 {X:Cx}{body:List Stmt}{tb:XK->TS}{th:Addr->TS}{x x2:Str}{CH Hv:Addr}{mD : Stmt}{jL:List Stmt}{kt:Nat}{tp np Jy mr pos:Pos} (kE:X.stack=X.env :: X.outer∧X.env.frame=some X.env.locals)
  (hg:Gl X x) (hm:X.mg x=some (.ref CH)) (hg2:Gl X x2) (Ml:X.mg x2=some (.ref Hv)) (hb:vm X body tb) (hh:∀ ea:Addr,iJ (X.jm ea) (mD :: jL) (th ea)) (hd:(x == ("__debug__" : Str))=false:=by decide) (Ei:(x2 == ("__debug__" : Str))=false:=by decide)
  (he:starEach [.Name x np,.Name x2 Jy] X.env = [(false,eval (.Name x np) X.env),(false,eval (.Name x2 Jy) X.env)]:=by rfl) :
  QS X (.Try body [.ExceptHandler (some (.Tuple [.Name x np,.Name x2 Jy] kt tp)) none (mD :: jL) mr] [] [] pos) (OJ X.K CH Hv tb th):=by
 delta QS iJ at *
 exact Sf kE hg hm hg2 Ml hb hh hd Ei he
def UH (K:aj) (CH:Addr) (i:Nat) (tb:XK->TS) (th:TS):TS:=fun D σ H =>
 tb (fun cls _ H'=>∃ C d,cls=zk C d∧fG K (.ref C) (.ref CH)=some true∧∀ ea,H' ea=none ->
  th { nx:=fun bC dF=>D.nx (bC.set i none) dF,rt:=D.rt,bk:=fun bC dF=>D.bk (bC.set i none) dF,ct:=fun bC dF=>D.ct (bC.set i none) dF } (σ.set i (some (.ref ea))) (aO H' ea (XQ ea C d))) D σ H
theorem WN {X:Cx}{body:List Stmt}{tb:XK->TS}{th:TS}{x n:Str}{i:Nat}{CH:Addr}{mD : Stmt}{jL:List Stmt}{np mr pos:Pos} (kE:X.stack=X.env :: X.outer∧X.env.frame=some X.env.locals)
  (hN:X.N.Nodup) (hi:X.N[i]? = some n) (hl:X.env.scope.names.lookup n=some .local) (hg:Gl X x) (hm:X.mg x=some (.ref CH)) (hb:vm X body tb)
  (hh:∀ ea:Addr,k4 (X.gy (X.A.mark (some (.ref ea))) fun _ _=>False) (mD :: jL) th) (hd:(x == ("__debug__" : Str))=false:=by decide) :
  PS X (.Try body [.ExceptHandler (some (.Name x np)) (some n) (mD :: jL) mr] [] [] pos) (UH X.K CH i tb th):=by
 intro ah s σ H D I h
 refine wpAny_Try_except (wpAny_mono (hb _ ah s σ H D _ ?W I h) (fun f s1 q => ?_) fun _ _ z=>z)
 case W =>
  intro H0 s0 e s' I0 hx
  obtain⟨ea,C,a0,B,H',rfl,fl,os,bare,br,un,kj,m,cc,hk,C',dx,hc,Qg,P7⟩:=hx
  obtain⟨rfl,c0⟩:=hk.dict hc
  have JU:X.A.frames=some (X.env :: X.outer):=by rw[I0.ok.frames,kE.1]
  have Qw:eB B (X.env :: X.outer) ea (.ref C) a0 s'.heap:=by rw[<- kE.1];exact fl
  refine Bt JU kE.2 Qw fun xY wN uV c4 => ?_
  obtain⟨p1,p2,p3,p4⟩:=wN
  refine jb (s := { s' with heap:=xY }) p1 p2 p3 p4 fun iD jR uU c5 => ?_
  have Hf:=c5 _ (c4 _ c0)
  have st:∀ h1 h2:Heap,(∃ o vs,h1.get? ea=some o∧o.cls = .ref C∧o.data = .fields vs∧o.dict=some dx)->(∀ o,h1.get? ea=some o->h2.get? ea=some o)->∃ o vs,h2.get? ea=some o∧o.cls = .ref C∧o.data = .fields vs∧o.dict=some dx:=fun h1 h2 ⟨o,ws,z1,z2⟩ k=>⟨o,ws,k o z1,z2⟩
  have two:∀ {h:Heap},eB B (X.env :: X.outer) ea (.ref C) a0 h->F2 h ea (.d dx)->∃ o vs,h.get? ea=some o∧o.cls = .ref C∧o.data = .fields vs∧o.dict=some dx:=fun {h} fl c=>by
   obtain⟨o,vs,q1,q2,q3,_⟩:=fl.first
   obtain⟨o',zp,r1,r2,r3⟩:=c
   rw[q1]at r1
   cases r1
   exact⟨o,zp,q1,q2,r2,r3⟩
  have one:∀ {h:Heap},(∃ o vs,h.get? ea=some o∧o.cls = .ref C∧o.data = .fields vs∧o.dict=some dx)->∃ o vs,h.get? ea=some o∧o.data = .fields vs:=fun ⟨o,vs,a,_,b,_⟩=>⟨o,vs,a,b⟩
  have t5:=two jR Hf
  obtain⟨I5,lG⟩:=qQ (h5:=iD) I0 fl os bare br un kj jR.1 (uV.trans uU) (one t5) t5 st
  have J5:Inv (X.gy (X.A.mark (some (.ref ea))) fun _ _=>False) ah σ (aO H' ea (XQ ea C dx)) { s' with heap:=iD }:=I5.gy rfl
  refine wpAny_handleBy_cons (codeAny_handlers_test (jq J5 hg hm ?_ hd)) (by intro q;cases q)
  obtain⟨o5,vs5,g1,g2,g3,_⟩:=id t5
  have LT:fw (model X.prog X.w) iD (typeOf (.ref ea)) (.ref C):=g2 ▸ (oq g1).andThen .now
  refine(Ey (M:=model X.prog X.w) I5.gL LT Qg).at ?_
  show codeAny _ _ _ _ _
  refine codeAny_handlers_suite_as ?_
  refine jb (s := { s' with heap:=iD }) jR.1 jR.2.1 jR.2.2.1 jR.2.2.2 fun Ac ve DJ c6 => ?_
  have t6:=two ve (c6 _ Hf)
  obtain⟨I6,_⟩:=qQ (h5:=Ac) I0 fl os bare br un kj ve.1 ((uV.trans uU).trans DJ) (one t6) t6 st
  refine sU I6 hN hi (.inl hl) (v := .ref ea) rfl (fun s7 J7 => ?_) (.inr hl)
  refine wpAny_mono (hh ea ah s7 _ _ _ (J7.gy rfl) (P7 ea lG)) (fun f s8 q8 => ?_) fun _ _ z=>cj z
  have pz:∀ {bC dF}{s9:Shared},Inv (X.gy (X.A.mark (some (.ref ea))) fun _ _=>False) ah bC dF s9->Inv X ah bC dF s9:=fun J=>J.Jb I0.ok.hd rfl
  cases f with
  | next =>
   obtain⟨bC,dF,J,q⟩:=q8
   exact Bx (pz J) hN hi hl fun s9 I9=>⟨_,_,I9,q⟩
  | brk =>
   obtain⟨bC,dF,J,q⟩:=q8
   exact Bx (pz J) hN hi hl fun s9 I9=>⟨_,_,I9,q⟩
  | cont =>
   obtain⟨bC,dF,J,q⟩:=q8
   exact Bx (pz J) hN hi hl fun s9 I9=>⟨_,_,I9,q⟩
  | ret u =>
   obtain⟨v, bC,dF,J,r,q⟩:=q8
   exact Bx (pz J) hN hi hl fun s9 I9=>⟨v,_,_,I9,r,q⟩
 cases f with
 | next=>exact wpAny_execs_nil q
 | brk=>exact q
 | cont=>exact q
 | ret u=>exact q
theorem Sh {X:Cx}{body:List Stmt}{tb:XK->TS}{th:TS}{x n:Str}{i:Nat}{CH:Addr}{mD : Stmt}{jL:List Stmt}{np mr pos:Pos} (kE:X.stack=X.env :: X.outer∧X.env.frame=some X.env.locals)
  (hN:X.N.Nodup) (hi:X.N[i]? = some n) (hl:X.env.scope.names.lookup n=some .local) (hg:Gl X x) (hm:X.mg x=some (.ref CH)) (hb:vm X body tb)
  (hh:∀ ea:Addr,iJ (X.gy (X.A.mark (some (.ref ea))) fun _ _=>False) (mD :: jL) th) (hd:(x == ("__debug__" : Str))=false:=by decide) :
  QS X (.Try body [.ExceptHandler (some (.Name x np)) (some n) (mD :: jL) mr] [] [] pos) (UH X.K CH i tb th):=by
 delta QS iJ at *
 exact WN kE hN hi hl hg hm hb hh hd
inductive V9 (C:Addr) (f:Str) (Q:VK) (x:V) (H:Hp):Prop
 | mk (a d:Addr) (fs:List (Str × V)) (v:V) (ex:x = .ref a) (h:H a=some (XQ a C d)) (hd:H d=some (.xd fs)) (l:fs.lookup f=some v) (q:Q v H):V9 C f Q x H
def Yk (C:Addr) (ta:TE) (f:Str):TE:=fun σ H Q=>ta σ H fun x H1=>V9 C f Q x H1
theorem Y2 {X:Cx}{e:Expr}{f:Str}{pos:Pos}{ta:TE}{C fI:Addr} (c:EH X.K C fI) (n:gD X.K C f) (he:PE X e ta) (hb:attributeBase e f X.env (eval e X.env)=eval e X.env:=by rfl):PE X (.Attribute e f pos) (Yk C ta f):=by
 intro ah s σ H Q I h
 refine MK hb (cz (he ah s σ H _ I h) fun u s1 ⟨x,H1,I1,rx,a,d,fs,v,ex,ea,ed,l,q⟩ => ?_)
 subst ex
 obtain rfl:u=bf a:=rx
 obtain⟨⟨o,vs,g1,g2,g3,g4⟩,_⟩:=(show dD X.prog X.w H1 s1.heap a (XQ a C d) from I1.br a _ ea)
 obtain⟨mA,nd,r⟩:=(show dD X.prog X.w H1 s1.heap d (.xd fs) from I1.br d _ ed)
 obtain⟨u,hu,ru⟩:=ny.some_of (v:=v) (o:=mA f) (by rw[<- l];exact r f)
 exact XJ (fI:=fI) I1.gL c g1 g2 g4 g3 nd n hu (GY ru) ⟨v,H1,I1.tok _,ru,q⟩
theorem W2 {X:Cx}{e:Expr}{f:Str}{pos:Pos}{ta:TE}{C fI:Addr} (c:EH X.K C fI) (n:gD X.K C f) (he:QE X e ta) (hb:attributeBase e f X.env (eval e X.env)=eval e X.env:=by rfl):QE X (.Attribute e f pos) (Yk C ta f):=by
 delta QE at *
 exact Y2 c n he hb
section
variable {X:Cx}{x:Str}{C fI:Addr}
theorem ZE (O:uH X.K X.mg x C fI) (ea:Addr):PySem.W.KitX X.K (.ref ea) (.ref C) (fun h=>∃ o,h.get? ea=some o∧o.cls = .ref C) where
 ty:=fun M h _ p=>by
  obtain⟨o,h1,h2⟩:=p
  exact h2 ▸ (oq h1).andThen .now
 it:=fun M h XX _=>by
  obtain⟨tl,N,nm,q,bs,hd,sn,sub,ab,col,dd,k0,k1,k2,k3,k5,gC,T⟩:=O.obj XX
  intro A' Q' E' s' k q
  unfold isType loadHead
  exact wpAny_bind (wpAny_loadPart (k _ _ gC) (wpAny_pure q))
 ne:=fun h tp QN its n sl XX Mj=>by
  obtain⟨tl,N,nm,q,bs,hd,sn,sub,ab,col,dd,k0,k1,k2,k3,k5,gC,T⟩:=O.obj XX
  refine sv.mpr fun q => ?_
  have e:C=tp:=bf.inj (beq_iff_eq.mp q)
  subst e
  rw[gC]at Mj
  exact absurd (m7 (congrArg Obj.cls (bD Mj))) (by decide)
 ca:=fun {prog w A E Q s} XX p hq=>by
  obtain⟨tl,N,nm,q,bs,hd,sn,sub,ab,col,dd,k0,k1,k2,k3,k5,gC,T⟩:=O.obj XX
  obtain⟨o,h1,h2⟩:=p
  obtain⟨hp,g,d,t,os⟩:=s
  exact Wf gC (T.hasType (by decide +kernel)) (T.hasType (by decide +kernel)) (fi XX O.i.cl) (fi XX O.i.ga) (fi XX O.i.gn) h1 h2 hq
theorem Mh {ah:List (Addr × Obj)}{σ : St}{H:Hp}{s:Shared}{ea d:Addr} (I:Inv X ah σ H s) (h:H ea=some (XQ ea C d)):∃ o,s.heap.get? ea=some o∧o.cls = .ref C:=by
 obtain⟨⟨o,vs,g1,g2,_⟩,_⟩:=(show dD X.prog X.w H s.heap ea (XQ ea C d) from I.br ea _ h)
 exact⟨o,g1,g2⟩
theorem T5 (O:uH X.K X.mg x C fI) :
  jA X (.builtin "isinstance") (fun xs H Q=>∃ ea d c cv b,xs = [.ref ea,c]∧H ea=some (XQ ea C d)∧RelV c cv∧(∀ u v,RelV c u->RelV c v->u=v)∧bY X.K (.ref C) cv=some b∧Q (.bl b) H):=by
 intro ah s σ H xs us Q I r h
 obtain⟨ea,d,c,cv,b,rfl,lG,rc,hcv,e,q⟩:=h
 obtain⟨u,w',rfl,rx,ry⟩:=vals2 r
 cases (show u=bf ea from rx)
 have hw:w'=cv:=hcv _ _ ry rc
 subst hw
 exact eN (ZE O ea) I.gL (Mh I lG) e (fun z=>nomatch z) fun tk=>⟨.bl b,H,I.tok _,rfl,q⟩
theorem QX (O:uH X.K X.mg x C fI) :
  jA X (.builtin "isinstance") (fun xs H Q=>∃ ea d tp cs MG b,xs = [.ref ea,.ref tp]∧H ea=some (XQ ea C d)∧H tp=some (.tup cs)∧(∀ us,Vals cs us->us=MG)∧m8 X.K (.ref C) MG=some b∧Q (.bl b) H):=by
 intro ah s σ H xs us Q I r h
 obtain⟨ea,d,tp,cs,MG,b,rfl,lG,Mj,hcv,e,q⟩:=h
 obtain⟨u,w',rfl,rx,ry⟩:=vals2 r
 cases (show u=bf ea from rx)
 cases (show w'=bf tp from ry)
 obtain⟨_,its,rv,ot,g1,g2,n,g3,_⟩:=(show dD X.prog X.w H s.heap tp (.tup cs) from I.br tp _ Mj)
 have aeG:=hcv its rv
 subst aeG
 obtain⟨cls,dd0,data,sl⟩:=ot
 simp only at g2 g3
 subst g2 g3
 exact PySem.W.kia_tup (ZE O ea) I.gL (Mh I lG) g1 e (fun z=>nomatch z) fun tk=>⟨.bl b,H,I.tok _,rfl,q⟩
end
theorem AD {X:Cx}{K:aj}{x:Str}{C fI:Addr} (hK:X.K=K) (O:uH K X.mg x C fI) :
  jA X (.builtin "isinstance") (fun xs H Q=>∃ ea d c cv b,xs = [.ref ea,c]∧H ea=some (XQ ea C d)∧RelV c cv∧(∀ u v,RelV c u->RelV c v->u=v)∧bY K (.ref C) cv=some b∧Q (.bl b) H):=by
 subst hK
 exact T5 O
theorem Oc {X:Cx}{K:aj}{x:Str}{C fI:Addr} (hK:X.K=K) (O:uH K X.mg x C fI) :
  jA X (.builtin "isinstance") (fun xs H Q=>∃ ea d tp cs MG b,xs = [.ref ea,.ref tp]∧H ea=some (XQ ea C d)∧H tp=some (.tup cs)∧(∀ us,Vals cs us->us=MG)∧m8 K (.ref C) MG=some b∧Q (.bl b) H):=by
 subst hK
 exact QX O
theorem dq.toN {k:Nat}{A:Around} (r:dq k A):gI k A:=⟨r.dp,r.un⟩
theorem aaZ {K:aj}{c a b:Value}{x y:Bool} (h1:fG K c a=some x) (h2:fG K c b=some y):kN K c [a,b]=some (x || y):=by simp only[kN,h1,h2,zb]
end L2
namespace Sw
open PySem L2 PySem.NumText
theorem NC (x y:Str):(∃ a b,a5 x y=(a,y,b)∧x.cps.toList=a.cps.toList ++ (y.cps.toList ++ b.cps.toList))∨a5 x y=(x,cF,cF):=by
 rcases uu x y 1 (aB 1) with⟨h0,wM⟩ | ⟨i,r,h0,hi,wM⟩
 ·exact .inr (Kl wM)
 ·refine .inl ⟨ia (x.cps.toList.take i),ia ((x.cps.toList.drop i).drop y.cps.toList.length),?_,?_⟩
  ·refine Ay ?_ fun k hk h => ?_
   ·rw[kB,kB]
    have e:=FU hi
    have e2:=d4 y.cps.toList.length (x.cps.toList.drop i)
    rw[e]at e2
    rw[e2,d4]
   ·rw[lM,eA]at hk
    exact wM k (by omega) h
  ·rw[kB,kB]
   have e:=FU hi
   have e2:=d4 y.cps.toList.length (x.cps.toList.drop i)
   rw[e]at e2
   rw[e2,d4]
theorem count_is {x:Str} (fo:x.cps.toList ≠ []) (hd:AllDigits x.cps.toList) (hh:x.cps.toList[0]? = some 48->x.cps.toList = [48]):x=aI (toString ((digitsVal x.cps.toList:Nat):Int)):=by
 refine dY ?_
 have e:=qW (digitsVal x.cps.toList)
 unfold nt at e
 rw[e]
 refine(VP hd fo ?_).symm
 cases h:x.cps.toList with
 | nil=>exact absurd h fo
 | cons c r =>
  by_cases hc:c=48
  ·rw[h,hc]at hh
   exact .inl (by rw[hc,hh rfl];rfl)
  ·refine .inr ⟨c,r,rfl,?_⟩
   have:=hd c (by rw[h];exact aV)
   omega
end Sw
namespace Sw
open PySem L2
end Sw
namespace L2
open PySem PySem.Spec PyProof.Rows
structure Ds (K:aj) (mg:Str->Option Value) (x:Str) (st:Stmt) (ps:List Str) (gb:List V):Prop where
 ex:∃ f fd ds,afn K x x st f fd∧mg x=some (.ref f)∧cA K (.ref f)=true∧Binds K fd ps ds∧Vals gb ds∧Binds K fd ps []
structure Uo (P:Program) (w:World) (K:aj) (mg:Str->Option Value) (base:Heap) (k:Nat) (x:Str) (ps:List Str) (gb:List V) (sp:Sp):Prop where
 ex:∃ f fd ds,jF P w K mg base (iY P w) k f fd ps sp∧mg x=some (.ref f)∧cA K (.ref f)=true∧Binds K fd ps ds∧Vals gb ds∧Binds K fd ps []
theorem Ds.has {P:Program}{w:World}{K:aj}{mg:Str->Option Value}{base:Heap}{x:Str}{st:Stmt}{N ps:List Str}{k:Nat}{sp:Sp}{gb:List V} (D:Ds K mg x st ps gb) (S:bx N ps (az st)) (len:∀ vs H Q E,sp vs H Q E->vs.length=ps.length)
  (eD:∀ (f:Addr) (a8:Value) (A:Around) (outer:List Env) (s:Shared) (H:Hp) (vs:List V) (Q:VK) (E:XK),dq k (A.deeper (envOfC x (az st) s.heap.objs.size f a8))->sp vs H Q E ->
   ∃ t,k4 (bZ (iY P w) P w K mg base N x (az st) f a8 A outer s H E) (dk st) t∧t { nx:=fun _ H'=>Q .b9 H',rt:=Q } (start N vs) H):Uo P w K mg base (k+1) x ps gb sp:=by
 obtain⟨f,fd,ds,F,hm,Eh,hb,hv,oG⟩:=D.ex
 obtain⟨oc,od,dV,kV,doc,pm,an,a8,ct,tD,rfl,lk,ni⟩:=F.ex
 exact⟨f,_,ds,N4 lk ni S len fun A outer s H vs Q E hr tR=>eD f a8 A outer s H vs Q E hr tR,hm,Eh,hb,hv,oG⟩
theorem Ds.eL {P:Program}{w:World}{K:aj}{mg:Str->Option Value}{base:Heap}{x:Str}{st:Stmt}{N ps:List Str}{k:Nat}{sp:Sp}{gb:List V} (D:Ds K mg x st ps gb) (S:bx N ps (az st)) (len:∀ vs H Q E,sp vs H Q E->vs.length=ps.length)
  (eD:∀ (f:Addr) (a8:Value) (A:Around) (outer:List Env) (s:Shared) (H:Hp) (vs:List V) (Q:VK) (E:XK),dq k (A.deeper (envOfC x (az st) s.heap.objs.size f a8))->sp vs H Q E ->
   ∃ t,iJ (bZ (iY P w) P w K mg base N x (az st) f a8 A outer s H E) (dk st) t∧t { nx:=fun _ H'=>Q .b9 H',rt:=Q } (start N vs) H):Uo P w K mg base (k+1) x ps gb sp:=by
 delta iJ at *
 exact Ds.has D S len eD
section
variable {X:Cx} {k k':Nat}{x:Str}{ps:List Str}{gb:List V}{sp:Sp}{p pos:Pos}{e:Expr}{es:List Expr}{t:TA}
end
end L2
namespace Sw
open PySem L2
end Sw
namespace aE
open PySem L2 Sw
def top (i:Nat):Stmt:=kd.main.body.getD i (.Pass ⟨0,0,0,0⟩)
abbrev Fg:Stmt:=top 11
theorem xC:bx ["tree", "total", "arm"] ["tree"] (az Fg):=⟨rfl,rfl,rfl,by decide +kernel,rfl,by decide +kernel,by decide +kernel⟩
abbrev Fi:Stmt:=top 12
theorem xD:bx ["pattern", "total", "arm"] ["pattern"] (az Fi):=⟨rfl,rfl,rfl,by decide +kernel,rfl,by decide +kernel,by decide +kernel⟩
abbrev tm:Stmt:=top 14
theorem yO:bx ["pattern", "found", "arm"] ["pattern", "found"] (az tm):=⟨rfl,rfl,rfl,by decide +kernel,rfl,by decide +kernel,by decide +kernel⟩
abbrev Fj:Stmt:=top 13
theorem IM:bx ["pattern", "found"] ["pattern"] (az Fj):=⟨rfl,rfl,rfl,by decide +kernel,rfl,by decide +kernel,by decide +kernel⟩
abbrev zH:Stmt:=top 23
theorem DP:bx ["text", "sign"] ["text"] (az zH):=⟨rfl,rfl,rfl,by decide +kernel,rfl,by decide +kernel,by decide +kernel⟩
abbrev tj:Stmt:=top 24
theorem yN:bx ["text", "sign"] ["text"] (az tj):=⟨rfl,rfl,rfl,by decide +kernel,rfl,by decide +kernel,by decide +kernel⟩
abbrev tq:Stmt:=lN (top 29) 0
theorem Wy:bx ["self", "text", "with_holes"] ["self", "text", "with_holes"] (az tq):=⟨rfl,rfl,rfl,by decide +kernel,rfl,by decide +kernel,by decide +kernel⟩
abbrev Fl:Stmt:=lN (top 29) 1
theorem R4:bx ["self"] ["self"] (az Fl):=⟨rfl,rfl,rfl,by decide +kernel,rfl,by decide +kernel,by decide +kernel⟩
abbrev IQ:Stmt:=lN (top 29) 2
theorem LL:bx ["self", "wanted", "end"] ["self", "wanted"] (az IQ):=⟨rfl,rfl,rfl,by decide +kernel,rfl,by decide +kernel,by decide +kernel⟩
abbrev xE:Stmt:=lN (top 29) 3
theorem B0:bx ["self", "signs", "start"] ["self", "signs"] (az xE):=⟨rfl,rfl,rfl,by decide +kernel,rfl,by decide +kernel,by decide +kernel⟩
abbrev vC:Stmt:=lN (top 29) 4
theorem zD:bx ["self", "word"] ["self"] (az vC):=⟨rfl,rfl,rfl,by decide +kernel,rfl,by decide +kernel,by decide +kernel⟩
abbrev rC:Stmt:=lN (top 29) 5
theorem mO:bx ["self", "start", "figures", "written"] ["self"] (az rC):=⟨rfl,rfl,rfl,by decide +kernel,rfl,by decide +kernel,by decide +kernel⟩
abbrev qK:Stmt:=lN (top 29) 6
theorem zE:bx ["self", "deep", "arms"] ["self", "deep"] (az qK):=⟨rfl,rfl,rfl,by decide +kernel,rfl,by decide +kernel,by decide +kernel⟩
abbrev qJ:Stmt:=lN (top 29) 7
theorem sW:bx ["self", "deep", "sign", "word"] ["self", "deep"] (az qJ):=⟨rfl,rfl,rfl,by decide +kernel,rfl,by decide +kernel,by decide +kernel⟩
abbrev sY:Stmt:=top 28
theorem yL:bx ["reader", "tree"] ["reader"] (az sY):=⟨rfl,rfl,rfl,by decide +kernel,rfl,by decide +kernel,by decide +kernel⟩
abbrev IT:Stmt:=top 26
theorem Wx:bx ["text"] ["text"] (az IT):=⟨rfl,rfl,rfl,by decide +kernel,rfl,by decide +kernel,by decide +kernel⟩
abbrev qg:Stmt:=top 27
theorem DO:bx ["text"] ["text"] (az qg):=⟨rfl,rfl,rfl,by decide +kernel,rfl,by decide +kernel,by decide +kernel⟩
abbrev nk:Stmt:=top 37
theorem mi:bx ["left", "right", "bound", "hole"] ["left", "right"] (az nk):=⟨rfl,rfl,rfl,by decide +kernel,rfl,by decide +kernel,by decide +kernel⟩
abbrev rD:Stmt:=top 38
theorem wq:bx ["asks", "bound", "ask"] ["asks", "bound"] (az rD):=⟨rfl,rfl,rfl,by decide +kernel,rfl,by decide +kernel,by decide +kernel⟩
abbrev qf:Stmt:=lN (top 36) 0
theorem R1:bx ["self", "title", "weight", "left", "right", "asks"] ["self", "title", "weight", "left", "right", "asks"] (az qf):=⟨rfl,rfl,rfl,by decide +kernel,rfl,by decide +kernel,by decide +kernel⟩
abbrev vD:Stmt:=top 41
theorem mh:bx ["mask", "text", "place", "sign"] ["mask"] (az vD):=⟨rfl,rfl,rfl,by decide +kernel,rfl,by decide +kernel,by decide +kernel⟩
abbrev xF:Stmt:=top 43
theorem B1:bx ["text", "sign", "pieces"] ["text", "sign"] (az xF):=⟨rfl,rfl,rfl,by decide +kernel,rfl,by decide +kernel,by decide +kernel⟩
abbrev vE:Stmt:=top 44
theorem IL:bx ["text"] ["text"] (az vE):=⟨rfl,rfl,rfl,by decide +kernel,rfl,by decide +kernel,by decide +kernel⟩
abbrev vF:Stmt:=top 46
theorem mj:bx ["text", "mask", "place", "sign"] ["text"] (az vF):=⟨rfl,rfl,rfl,by decide +kernel,rfl,by decide +kernel,by decide +kernel⟩
abbrev xH:Stmt:=top 45
theorem vB:bx ["text", "words", "hole"] ["text"] (az xH):=⟨rfl,rfl,rfl,by decide +kernel,rfl,by decide +kernel,by decide +kernel⟩
abbrev qM:Stmt:=top 42
theorem iP:bx ["line", "head", "named", "sides", "weight", "asked", "asks"] ["line"] (az qM):=⟨rfl,rfl,rfl,by decide +kernel,rfl,by decide +kernel,by decide +kernel⟩
abbrev qi:Stmt:=top 58
theorem uY:bx ["text", "low", "high", "count"] ["text", "low", "high"] (az qi):=⟨rfl,rfl,rfl,by decide +kernel,rfl,by decide +kernel,by decide +kernel⟩
abbrev vH:Stmt:=top 56
theorem o4:bx ["rest", "pieces", "key", "cost"] ["rest"] (az vH):=⟨rfl,rfl,rfl,by decide +kernel,rfl,by decide +kernel,by decide +kernel⟩
abbrev vG:Stmt:=top 57
theorem oZ:bx ["rest", "pieces", "rounds", "size"] ["rest"] (az vG):=⟨rfl,rfl,rfl,by decide +kernel,rfl,by decide +kernel,by decide +kernel⟩
abbrev tf:Stmt:=top 55
theorem yM:bx ["word", "rest", "sides"] ["word", "rest"] (az tf):=⟨rfl,rfl,rfl,by decide +kernel,rfl,by decide +kernel,by decide +kernel⟩
abbrev xG:Stmt:=top 54
theorem vA:bx ["row", "line", "pieces", "order"] ["row", "line"] (az xG):=⟨rfl,rfl,rfl,by decide +kernel,rfl,by decide +kernel,by decide +kernel⟩
abbrev sZ:Stmt:=top 53
theorem jH:bx ["text", "orders", "titles", "line", "row", "order"] ["text"] (az sZ):=⟨rfl,rfl,rfl,by decide +kernel,rfl,by decide +kernel,by decide +kernel⟩
abbrev R5:Stmt:=top 145
theorem abR:bx ["_law_script", "_law_k"] ["_law_script", "_law_k"] (az R5):=⟨rfl,rfl,rfl,by decide +kernel,rfl,by decide +kernel,by decide +kernel⟩
abbrev IW:Stmt:=top 146
theorem Wz:bx ["_law_cell", "_law_factor", "_law_many"] ["_law_cell", "_law_factor", "_law_many"] (az IW):=⟨rfl,rfl,rfl,by decide +kernel,rfl,by decide +kernel,by decide +kernel⟩
abbrev IP:Stmt:=top 147
theorem qb:bx ["_law_script", "_law_which", "_law_letters", "_law_seed", "_law_size", "_law_place", "_law_rest", "_law_told"] ["_law_script", "_law_which"] (az IP):=⟨rfl,rfl,rfl,by decide +kernel,rfl,by decide +kernel,by decide +kernel⟩
abbrev IU:Stmt:=top 148
theorem LM:bx ["_law_script", "_law_cell", "_law_pick"] ["_law_script", "_law_cell"] (az IU):=⟨rfl,rfl,rfl,by decide +kernel,rfl,by decide +kernel,by decide +kernel⟩
abbrev IV:Stmt:=top 149
theorem LN:bx ["_law_script", "_law_cell", "_law_arms", "_law_pick"] ["_law_script", "_law_cell", "_law_arms"] (az IV):=⟨rfl,rfl,rfl,by decide +kernel,rfl,by decide +kernel,by decide +kernel⟩
abbrev oy:Stmt:=top 150
theorem qd:bx ["_law_script", "_law_most", "_law_rows", "_law_cell", "_law_size", "_law_arms", "_law_many"] ["_law_script", "_law_most"] (az oy):=⟨rfl,rfl,rfl,by decide +kernel,rfl,by decide +kernel,by decide +kernel⟩
abbrev Br:Stmt:=top 151
theorem R0:bx ["_law_tree"] ["_law_tree"] (az Br):=⟨rfl,rfl,rfl,by decide +kernel,rfl,by decide +kernel,by decide +kernel⟩
abbrev Ff:Stmt:=top 152
theorem n8:bx ["_law_script", "_law_cell", "_law_a", "_law_b", "_law_c", "_law_word_here", "_law_pick", "_law_name"] ["_law_script", "_law_cell"] (az Ff):=⟨rfl,rfl,rfl,by decide +kernel,rfl,by decide +kernel,by decide +kernel⟩
abbrev IX:Stmt:=top 153
theorem Bq:bx ["_law_script", "_law_cell", "_law_hole", "_law_pick", "_law_rows"] ["_law_script", "_law_cell"] (az IX):=⟨rfl,rfl,rfl,by decide +kernel,rfl,by decide +kernel,by decide +kernel⟩
abbrev IS:Stmt:=top 154
theorem Bp:bx ["_law_script", "_law_cell", "_law_which", "_law_sides_here", "_law_asks_here"] ["_law_script", "_law_cell", "_law_which"] (az IS):=⟨rfl,rfl,rfl,by decide +kernel,rfl,by decide +kernel,by decide +kernel⟩
abbrev xJ:Stmt:=top 155
theorem lJ:bx ["_law_ask", "_law_told", "_law_k"] ["_law_ask"] (az xJ):=⟨rfl,rfl,rfl,by decide +kernel,rfl,by decide +kernel,by decide +kernel⟩
abbrev qL:Stmt:=top 156
theorem oX:bx ["_law_rule_here", "_law_sides_here", "_law_told"] ["_law_rule_here"] (az qL):=⟨rfl,rfl,rfl,by decide +kernel,rfl,by decide +kernel,by decide +kernel⟩
abbrev Fh:Stmt:=top 157
theorem qe:bx ["_law_script", "_law_cell", "_law_trees_here", "_law_titles", "_law_one", "_law_other", "_law_pick", "_law_word_here", "_law_key"] ["_law_script", "_law_cell", "_law_trees_here", "_law_titles"] (az Fh):=⟨rfl,rfl,rfl,by decide +kernel,rfl,by decide +kernel,by decide +kernel⟩
abbrev Nr:Stmt:=top 158
theorem Yx:bx ["_law_order_here"] ["_law_order_here"] (az Nr):=⟨rfl,rfl,rfl,by decide +kernel,rfl,by decide +kernel,by decide +kernel⟩
abbrev xI:Stmt:=top 159
theorem qU:bx ["_law_script", "_law_trees_here", "_law_rows", "_law_titles", "_law_cell"] ["_law_script", "_law_trees_here"] (az xI):=⟨rfl,rfl,rfl,by decide +kernel,rfl,by decide +kernel,by decide +kernel⟩
abbrev qh:Stmt:=lN (top 5) 0
theorem R3:bx ["self", "line"] ["self", "line"] (az qh):=⟨rfl,rfl,rfl,by decide +kernel,rfl,by decide +kernel,by decide +kernel⟩
abbrev Bs:Stmt:=top 141
theorem OY:bx ["text", "room", "orders", "runner", "answers", "order", "answer"] ["text", "room"] (az Bs):=⟨rfl,rfl,rfl,by decide +kernel,rfl,by decide +kernel,by decide +kernel⟩
abbrev Nt:Stmt:=top 160
theorem sX:bx ["_law_cell", "_law_rows"] ["_law_cell"] (az Nt):=⟨rfl,rfl,rfl,by decide +kernel,rfl,by decide +kernel,by decide +kernel⟩
abbrev zG:Stmt:=top 161
theorem sy:bx ["_law_problem", "_law_line", "_law_other"] ["_law_problem"] (az zG):=⟨rfl,rfl,rfl,by decide +kernel,rfl,by decide +kernel,by decide +kernel⟩
abbrev zF:Stmt:=top 162
theorem oY:bx ["_law_text", "_law_running", "_law_found", "_law_problem"] ["_law_text", "_law_running"] (az zF):=⟨rfl,rfl,rfl,by decide +kernel,rfl,by decide +kernel,by decide +kernel⟩
abbrev sA:Stmt:=top 163
theorem iQ:bx ["_law_script", "_law_orders_here", "_law_rows", "_law_titled", "_law_at_here", "_law_place", "_law_k", "_law_bad_here", "_law_other", "_law_spoiled", "_law_running", "_law_found", "_law_fine"] ["_law_script"] (az sA):=⟨rfl,rfl,rfl,by decide +kernel,rfl,by decide +kernel,by decide +kernel⟩
section
variable {P:Program}{w:World}{K:aj}{mg:Str->Option Value}{base:Heap}{CB CF CH CS CN CE CM CR tB:Addr}
def add (acc:List Str) (x:Str):List Str:=if x∈acc then acc else acc ++ [x]
mutual
def raw:T->List Str
 | .num _ => []
 | .name _ => []
 | .any x => [x]
 | .of _ ts=>hG ts
def hG:List T->List Str
 | [] => []
 | t :: ts=>raw t ++ hG ts
end
def j6 (t:T) (acc:List Str):List Str:=(raw t).foldl add acc
theorem Xx {acc:List Str}{x y:Str}:y∈add acc x↔y∈acc∨y=x:=by
 unfold add
 split
 ·rename_i h
  constructor
  ·exact .inl
  ·rintro(h' | rfl)
   ·exact h'
   ·exact h
 ·simp
theorem JE:∀ {l acc:List Str}{y:Str},y∈l.foldl add acc↔y∈acc∨y∈l
 | [],acc,y=>by simp
 | x :: l,acc,y=>by
  rw[vq,JE (l:=l),Xx]
  simp[or_assoc]
theorem XY (acc:List Str) (x:Str):(add acc x).length<=acc.length+1:=by
 unfold add
 split
 ·omega
 ·rw[aM,i7];exact aB _
theorem Kv:∀ (l acc:List Str),(l.foldl add acc).length<=acc.length+l.length
 | [],acc=>aB _
 | x :: l,acc=>by
  have h1:=Kv l (add acc x)
  have h2:=XY acc x
  rw[vq,bg]
  omega
mutual
theorem WC:∀ t:T,(raw t).length<=t.parts
 | .num _=>by rw[raw];exact bA _
 | .name _=>by rw[raw];exact bA _
 | .any _=>by rw[raw,T.parts];exact aB _
 | .of _ ts=>by
  rw[raw,T.parts]
  have:=CA ts
  omega
theorem CA:∀ ts:List T,(hG ts).length<=T.dO ts
 | []=>by rw[hG];exact bA _
 | t :: ts=>by
  rw[hG,T.dO,aM]
  have:=WC t
  have:=CA ts
  omega
end
theorem Jc:∀ (a b:List T),hG (a ++ b)=hG a ++ hG b
 | [],b=>by rw[jX,hG,jX]
 | t :: a,b=>by rw[eT,hG,hG,Jc a b,bH]
theorem R9 (t:T):hG [t]=raw t:=by rw[hG,hG,dh]
theorem O3 {ts:List T}{i:Nat}{t:T} (h:ts[i]? = some t):hG (ts.take (i+1))=hG (ts.take i) ++ raw t:=by
 rw[fX,h,Jc]
 show _ ++ hG [t]=_
 rw[R9]
def nJ (acc:List Str):List (Key × V):=acc.map fun x=>(fF x,V.bl true)
theorem LU (acc:List Str) (x:Str):qk (nJ acc) (fF x) (.bl true)=nJ (add acc x):=by
 have e:((nJ acc).any fun kv=>decide (kv.1=fF x))=decide (x∈acc):=by
  unfold nJ
  rw[List.any_map]
  induction acc with
  | nil=>rfl
  | cons y r ih =>
   rw[jK,ih]
   by_cases h:y=x
   ·subst h;simp
   ·have:¬ x=y:=fun z=>h z.symm
    simp[h,this]
 unfold qk add
 rw[e]
 by_cases h:x∈acc
 ·rw[if_pos (decide_eq_true h),if_pos h]
  unfold nJ
  rw[List.map_map]
  apply List.map_congr_left
  intro y _
  simp only[Function.comp]
  split
  ·rfl
  ·rfl
 ·rw[if_neg (by simpa using h),if_neg h]
  unfold nJ
  rw[df]
  rfl
theorem NB (n:Nat) (ts:List T):T.dO (ts.take n)+T.dO (ts.drop n)=T.dO ts:=by
 rw[mQ,mQ,mQ, <- vo, <- df,d4]
def Bn (n:Nat):Sp:=fun vs H Q _=>∃ v t,vs = [v]∧bJ H t v∧t.depth<=n∧Q (.int (t.parts:Int)) H
theorem E5 (ts:List T) (i:Nat) (h:i < ts.length):T.dO (ts.take (i+1))=T.dO (ts.take i)+ts[i].parts:=by
 rw[fX,aF h]
 rw[mQ,mQ,df,vo]
 simp
theorem CQ (D:Def K mg "parts" Fg ["tree"]):∀ n,cS P w K mg base n "parts" ["tree"] (Bn n)
 | 0=>by
  obtain⟨fa,fd,F,hm,hb⟩:=D.ex
  have no:∀ vs H Q E, ¬ Bn 0 vs H Q E:=fun vs H Q E h=>by
   obtain⟨v,t,_,_,z,_⟩:=h
   have:=kW t
   omega
  exact⟨fa,fd,⟨fun vs H Q E h=>absurd h (no vs H Q E),fun A outer s H args us vs Q E _ _ _ _ h=>absurd h (no vs H Q E)⟩,hm,F.kp,hb⟩
 | n+1=>by
  have oH:=CQ D n
  refine D.eL xC (fun vs H Q E h => ?_) (fun f a8 A outer s H vs Q E hr h => ?_)
  ·obtain⟨v,t,rfl,_⟩:=h;rfl
  obtain⟨v,t,rfl,hT,hd,q⟩:=h
  refine⟨_,(ao (a6 (aC nV (aP a7 (aq 0) ai (fun _ _=>rfl)) ay (aQ _)) (aw (aW ai)) aJ)
  (ao (aR (i:=1) xC.nd rfl (aH rfl) ai)
  (ao (iz eO rfl (wz (aP a7 (aq 0) ai (fun _ _=>rfl))) (dI (i:=2) xC.nd rfl (aH rfl))
  (aw (Fs (i:=1) xC.nd rfl (aH rfl) (aG oH hr (by omega) rfl (ae (aq 2) ag)) PY)))
  (aw (aW (aq 1)))))),?_⟩
  try dsimp only[bZ]
  cases t with
  | num k =>
   rw[bJ]at hT
   obtain⟨a,rfl,h⟩:=hT
   rw[T.parts]at q
   exact⟨_,rfl,a,_,0,_,rfl,rfl,aU.of h,ax (j:=0) rfl,rfl,_,rfl,i0 (fun _=>q) (fun z=>absurd (V.str.inj z) (by decide))⟩
  | name x =>
   rw[bJ]at hT
   obtain⟨a,rfl,h⟩:=hT
   rw[T.parts]at q
   exact⟨_,rfl,a,_,0,_,rfl,rfl,aU.of h,ax (j:=0) rfl,rfl,_,rfl,i0 (fun _=>q) (fun z=>absurd (V.str.inj z) (by decide))⟩
  | any x =>
   rw[bJ]at hT
   obtain⟨a,rfl,h⟩:=hT
   rw[T.parts]at q
   exact⟨_,rfl,a,_,0,_,rfl,rfl,aU.of h,ax (j:=0) rfl,rfl,_,rfl,i0 (fun _=>q) (fun z=>absurd (V.str.inj z) (by decide))⟩
  | of x ts =>
   rw[bJ]at hT
   rw[T.depth]at hd
   rw[T.parts]at q
   obtain⟨a,b,vs,rfl,ha,hb,wL⟩:=hT
   refine⟨_,rfl,a,_,0,_,rfl,rfl,aU.of ha,ax (j:=0) rfl,rfl,_,rfl,i0 (fun z=>absurd rfl z) (fun _ => ?_)⟩
   have dX:=sJ wL
   refine⟨_,rfl,a,_,2,_,rfl,rfl,aU.of ha,ax (j:=2) rfl,b,rfl,⟨vs,aU.of hb⟩,?_⟩
   refine By (xs:=vs) (fun i σ H'=>∃ o, σ = [some (.ref a),some (.int ((1+T.dO (ts.take i):Nat):Int)),o]∧H'=H) ⟨none,rfl,rfl⟩ ?_ ?_ ?_
   ·rintro i σ H' _ ⟨o,rfl,rfl⟩
    exact aU.of hb
   ·rintro i y σ H' hy ⟨o,rfl,rfl⟩
    obtain⟨ti,yT,J3⟩:=zq wL hy
    have tT:ti∈ts:=bB yT
    have d1:=jc tT
    obtain⟨hi,Qf⟩:=bt.mp yT
    have e:((1+T.dO (ts.take (i+1)):Nat):Int)=((1+T.dO (ts.take i):Nat):Int)+((ti.parts:Nat):Int):=by rw[E5 ts i hi,Qf];omega
    refine⟨_,rfl,_,rfl,y,ti,rfl,J3,by omega,_,_,rfl,rfl,⟨some y,?_,rfl⟩⟩
    rw[e]
    rfl
   ·rintro σ H' ⟨o,rfl,rfl⟩
    rw[<- dX,fj]
    exact⟨_,rfl,q⟩
mutual
def pT:T->Nat
 | .num _=>0
 | .name _=>0
 | .any _=>0
 | .of _ ts=>1+lW ts
def lW:List T->Nat
 | []=>0
 | t :: ts=>pT t+lW ts
end
theorem C0:∀ ts:List T,lW ts=(ts.map pT).sum
 | []=>by rw[lW];rfl
 | t :: ts=>by rw[lW,C0 ts,b0,nW]
def Cv (n:Nat):Sp:=fun vs H Q _=>∃ v t,vs = [v]∧bJ H t v∧t.depth<=n∧Q (.int (pT t:Int)) H
theorem E6 (ts:List T) (i:Nat) (h:i < ts.length):lW (ts.take (i+1))=lW (ts.take i)+pT ts[i]:=by
 rw[fX,aF h]
 rw[C0,C0,df,vo]
 simp
theorem Jx (D:Def K mg "knots" Fi ["pattern"]):∀ n,cS P w K mg base n "knots" ["pattern"] (Cv n)
 | 0=>by
  obtain⟨fa,fd,F,hm,hb⟩:=D.ex
  have no:∀ vs H Q E, ¬ Cv 0 vs H Q E:=fun vs H Q E h=>by
   obtain⟨v,t,_,_,z,_⟩:=h
   have:=kW t
   omega
  exact⟨fa,fd,⟨fun vs H Q E h=>absurd h (no vs H Q E),fun A outer s H args us vs Q E _ _ _ _ h=>absurd h (no vs H Q E)⟩,hm,F.kp,hb⟩
 | n+1=>by
  have wR:=Jx D n
  refine D.eL xD (fun vs H Q E h => ?_) (fun f a8 A outer s H vs Q E hr h => ?_)
  ·obtain⟨v,t,rfl,_⟩:=h;rfl
  obtain⟨v,t,rfl,hT,hd,q⟩:=h
  refine⟨_,(ao (a6 (aC nV (aP a7 (aq 0) ai (fun _ _=>rfl)) ay (aQ _)) (aw (aW ai)) aJ)
  (ao (aR (i:=1) xD.nd rfl (aH rfl) ai)
  (ao (iz eO rfl (wz (aP a7 (aq 0) ai (fun _ _=>rfl))) (dI (i:=2) xD.nd rfl (aH rfl))
  (aw (Fs (i:=1) xD.nd rfl (aH rfl) (aG wR hr (by omega) rfl (ae (aq 2) ag)) PY)))
  (aw (aW (aq 1)))))),?_⟩
  try dsimp only[bZ]
  cases t with
  | num k =>
   rw[bJ]at hT
   obtain⟨a,rfl,h⟩:=hT
   rw[pT]at q
   exact⟨_,rfl,a,_,0,_,rfl,rfl,aU.of h,ax (j:=0) rfl,rfl,_,rfl,i0 (fun _=>q) (fun z=>absurd (V.str.inj z) (by decide))⟩
  | name x =>
   rw[bJ]at hT
   obtain⟨a,rfl,h⟩:=hT
   rw[pT]at q
   exact⟨_,rfl,a,_,0,_,rfl,rfl,aU.of h,ax (j:=0) rfl,rfl,_,rfl,i0 (fun _=>q) (fun z=>absurd (V.str.inj z) (by decide))⟩
  | any x =>
   rw[bJ]at hT
   obtain⟨a,rfl,h⟩:=hT
   rw[pT]at q
   exact⟨_,rfl,a,_,0,_,rfl,rfl,aU.of h,ax (j:=0) rfl,rfl,_,rfl,i0 (fun _=>q) (fun z=>absurd (V.str.inj z) (by decide))⟩
  | of x ts =>
   rw[bJ]at hT
   rw[T.depth]at hd
   rw[pT]at q
   obtain⟨a,b,vs,rfl,ha,hb,wL⟩:=hT
   refine⟨_,rfl,a,_,0,_,rfl,rfl,aU.of ha,ax (j:=0) rfl,rfl,_,rfl,i0 (fun z=>absurd rfl z) (fun _ => ?_)⟩
   have dX:=sJ wL
   refine⟨_,rfl,a,_,2,_,rfl,rfl,aU.of ha,ax (j:=2) rfl,b,rfl,⟨vs,aU.of hb⟩,?_⟩
   refine By (xs:=vs) (fun i σ H'=>∃ o, σ = [some (.ref a),some (.int ((1+lW (ts.take i):Nat):Int)),o]∧H'=H) ⟨none,rfl,rfl⟩ ?_ ?_ ?_
   ·rintro i σ H' _ ⟨o,rfl,rfl⟩
    exact aU.of hb
   ·rintro i y σ H' hy ⟨o,rfl,rfl⟩
    obtain⟨ti,yT,J3⟩:=zq wL hy
    have tT:ti∈ts:=bB yT
    have d1:=jc tT
    obtain⟨hi,Qf⟩:=bt.mp yT
    have e:((1+lW (ts.take (i+1)):Nat):Int)=((1+lW (ts.take i):Nat):Int)+((pT ti:Nat):Int):=by rw[E6 ts i hi,Qf];omega
    refine⟨_,rfl,_,rfl,y,ti,rfl,J3,by omega,_,_,rfl,rfl,⟨some y,?_,rfl⟩⟩
    rw[e]
    rfl
   ·rintro σ H' ⟨o,rfl,rfl⟩
    rw[<- dX,fj]
    exact⟨_,rfl,q⟩
def II (n:Nat):Sp:=fun vs H Q _=>∃ v d t acc,vs = [v,.ref d]∧bJ H t v∧t.depth<=n∧H d=some (.dK (nJ acc))∧acc.length+t.parts<=10000∧Q .b9 (aO H d (.dK (nJ (j6 t acc))))
theorem yP (D:Def K mg "note_holes" tm ["pattern", "found"]):∀ n,cS P w K mg base n "note_holes" ["pattern", "found"] (II n)
 | 0=>by
  obtain⟨fa,fd,F,hm,hb⟩:=D.ex
  have no:∀ vs H Q E, ¬ II 0 vs H Q E:=fun vs H Q E h=>by
   obtain⟨v,d,t,acc,_,_,z,_⟩:=h
   have:=kW t
   omega
  exact⟨fa,fd,⟨fun vs H Q E h=>absurd h (no vs H Q E),fun A outer s H args us vs Q E _ _ _ _ h=>absurd h (no vs H Q E)⟩,hm,F.kp,hb⟩
 | n+1=>by
  have mx:=yP D n
  refine D.eL yO (fun vs H Q E h => ?_) (fun f a8 A outer s H vs Q E hr h => ?_)
  ·obtain⟨v,d,t,acc,rfl,_⟩:=h;rfl
  obtain⟨v,d,t,acc,rfl,hT,hd,hD,hz,q⟩:=h
  refine⟨_,(ao (a6 (aC cb (aP a7 (aq 0) ai (fun _ _=>rfl)) ay (aQ _)) (aw (Jh (NS hr) (aq 1) (aP a7 (aq 0) ai (fun _ _=>rfl)) jN rfl)) aJ)
  (aw (a6 (aC cb (aP a7 (aq 0) ai (fun _ _=>rfl)) ay (aQ _)) (aw (iz eO rfl (wz (aP a7 (aq 0) ai (fun _ _=>rfl))) (dI (i:=2) yO.nd rfl (aH rfl))
  (aw (fh (aG mx hr (by omega) rfl (ae (aq 2) (ae (aq 1) ag))))))) aJ))),?_⟩
  try dsimp only[bZ]
  have US:j6 t acc=acc->Q .b9 H:=fun hn=>by
   have e:aO H d (.dK (nJ acc))=H:=by
    funext b
    by_cases hb:b=d
    ·rw[hb,av,hD]
    ·rw[bh hb]
   rw[hn,e]at q
   exact q
  cases t with
  | num k =>
   rw[bJ]at hT
   obtain⟨a,rfl,h⟩:=hT
   refine⟨_,rfl,a,_,0,_,rfl,rfl,aU.of h,ax (j:=0) rfl,rfl,_,rfl,aY (fun z=>absurd (V.str.inj z) (by decide)) (fun _ => ?_)⟩
   exact⟨_,rfl,a,_,0,_,rfl,rfl,aU.of h,ax (j:=0) rfl,rfl,_,rfl,aY (fun z=>absurd (V.str.inj z) (by decide)) (fun _=>US (by unfold j6;rw[raw];rfl))⟩
  | name x =>
   rw[bJ]at hT
   obtain⟨a,rfl,h⟩:=hT
   refine⟨_,rfl,a,_,0,_,rfl,rfl,aU.of h,ax (j:=0) rfl,rfl,_,rfl,aY (fun z=>absurd (V.str.inj z) (by decide)) (fun _ => ?_)⟩
   exact⟨_,rfl,a,_,0,_,rfl,rfl,aU.of h,ax (j:=0) rfl,rfl,_,rfl,aY (fun z=>absurd (V.str.inj z) (by decide)) (fun _=>US (by unfold j6;rw[raw];rfl))⟩
  | any x =>
   rw[bJ]at hT
   obtain⟨a,rfl,h⟩:=hT
   have en:j6 (.any x) acc=add acc x:=by unfold j6;rw[raw];rfl
   rw[en]at q
   refine⟨_,rfl,a,_,0,_,rfl,rfl,aU.of h,ax (j:=0) rfl,rfl,_,rfl,aY (fun _ => ?_) (fun z=>absurd rfl z)⟩
   have kp:=jt (o' := .dK (nJ (add acc x))) hD trivial
   refine⟨_,rfl,_,rfl,a,_,1,_,rfl,rfl,aU.of h,ax (j:=1) rfl,d,_,rfl,Gn.k (k:=fF x) hD ?_,?_⟩
   ·unfold nJ
    rw[aA]
    exact gW (by omega:acc.length<=10000) (by decide)
   rw[LU]
   refine⟨_,rfl,a,_,0,_,rfl,rfl,aU.of (kp _ _ h),ax (j:=0) rfl,rfl,_,rfl,aY (fun z=>absurd (V.str.inj z) (by decide)) (fun _=>q)⟩
  | of x ts =>
   rw[bJ]at hT
   obtain⟨a,b,vs,rfl,h,hb,J2⟩:=hT
   rw[T.depth]at hd
   rw[T.parts]at hz
   have dX:=sJ J2
   refine⟨_,rfl,a,_,0,_,rfl,rfl,aU.of h,ax (j:=0) rfl,rfl,_,rfl,aY (fun z=>absurd (V.str.inj z) (by decide)) (fun _ => ?_)⟩
   refine⟨_,rfl,a,_,0,_,rfl,rfl,aU.of h,ax (j:=0) rfl,rfl,_,rfl,aY (fun _ => ?_) (fun z=>absurd rfl z)⟩
   refine⟨_,rfl,a,_,2,_,rfl,rfl,aU.of h,ax (j:=2) rfl,b,rfl,⟨vs,aU.of hb⟩,?_⟩
   refine By (xs:=vs) (fun i σ H'=>(∃ o, σ = [some (.ref a),some (.ref d),o])∧H'=aO H d (.dK (nJ ((hG (ts.take i)).foldl add acc)))) ⟨⟨none,rfl⟩,?_⟩ ?_ ?_ ?_
   ·rw[List.take_zero,hG]
    funext c
    by_cases hc:c=d
    ·rw[hc,av,hD];rfl
    ·rw[bh hc]
   ·rintro i σ H' _ ⟨_,rfl⟩
    exact aU.of (jt hD trivial _ _ hb)
   ·rintro i y σ H' hy ⟨⟨o,rfl⟩,rfl⟩
    obtain⟨ti,yT,J3⟩:=zq J2 hy
    have tT:ti∈ts:=bB yT
    have d1:=jc tT
    have et:=O3 yT
    have l1:=Kv (hG (ts.take i)) acc
    have l2:=CA (ts.take i)
    have l3:=NB i ts
    have l4:ti.parts<=T.dO (ts.drop i):=by
     have e:ts.drop i=ti :: ts.drop (i+1):=by
      obtain⟨h1,h2⟩:=bt.mp yT
      rw[List.drop_eq_getElem_cons h1,h2]
     rw[e,T.dO]
     omega
    refine⟨_,rfl,_,rfl,y,d,ti,_,rfl,ik (jt hD trivial) J3,by omega,av,by omega,⟨_,rfl⟩,?_⟩
    rw[kr,et,List.foldl_append]
    rfl
   ·rintro σ H' ⟨⟨o,rfl⟩,rfl⟩
    rw[<- dX,fj]
    have en:j6 (.of x ts) acc=(hG ts).foldl add acc:=by unfold j6;rw[raw]
    rw[en]at q
    exact q
def Fd (n:Nat):Sp:=fun vs H Q _=>∃ v t,vs = [v]∧bJ H t v∧t.depth+1<=n∧t.parts<=1000∧∀ l H',aT H H'->H' l=some (.lst ((j6 t []).map V.str))->Q (.ref l) H'
theorem SW {n:Nat} (B:hJ mg) (mx:cS P w K mg base n "note_holes" ["pattern", "found"] (II n)) (D:Def K mg "holes" Fj ["pattern"]):cS P w K mg base (n+1) "holes" ["pattern"] (Fd (n+1)):=by
 refine D.eL IM (fun vs H Q E h => ?_) (fun f a8 A outer s H vs Q E hr h => ?_)
 ·obtain⟨v,t,rfl,_⟩:=h;rfl
 obtain⟨v,t,rfl,hT,hd,hz,q⟩:=h
 refine⟨_,(ao (aR (i:=1) IM.nd rfl (aH rfl) GK)
  (ao (fh (aG mx hr (by omega) rfl (ae (aq 0) (ae (aq 1) ag))))
  (aw (aW (gG (FQ rfl) rfl B.NL yu (ae (aq 1) ag)))))),?_⟩
 try dsimp only[bZ]
 refine fun d hd0 => ?_
 have s1:=aD hd0 (.dK [])
 refine⟨_,rfl,_,rfl,v,d,t, [],rfl,bP s1 hT,by omega,av,by simp only[vp];omega,?_⟩
 rw[kr]
 have s2:=aD hd0 (.dK (nJ (j6 t [])))
 refine⟨_,rfl,d,_,rfl,.inl av,fun l hl => ?_⟩
 refine q l _ (s2.trans (aD hl _)) ?_
 rw[av]
 unfold nJ
 rw[List.map_map]
 rfl
structure qz (K:aj) (mg:Str->Option Value) (CR cB:Addr):Prop where
 cR:pP K CR
 xV:gD K CR "text"
 PL:gD K CR "with_holes"
 jP:gD K CR "place"
 jn:∃ t,mg "LETTERS" = some (.str "abcdefghijklmnopqrstuvwxyz" t)
 iS:∃ t,mg "FIGURES" = some (.str "0123456789" t)
 eX:∃ t,mg "MOST_LETTERS" = some (.int 8 t)
 fR:∃ t,mg "MOST_FIGURES" = some (.int 60 t)
 lT:∃ t,mg "MOST_ARMS" = some (.int 4 t)
 kH:∃ t,mg "MOST_PARTS" = some (.int 120 t)
 lQ:∃ t,mg "MOST_DEEP" = some (.int 30 t)
 eK:Exc K mg "NoTree" cB
inductive Rf (CR:Addr) (vs:List V) (H:Hp) (Q:VK):Prop
 | mk (r dx:Addr) (tx:Str) (b:Bool) (z0:vs = [.ref r,.str tx,.bl b]) (z1:H r=some (.ins CR dx [])) (z2:Q .b9 (aO H r (jh CR dx tx b 0))):Rf CR vs H Q
def IJ (CR:Addr):Sp:=fun vs H Q _=>Rf CR vs H Q
theorem Xk (Z:qz K mg CR cB) (D:yD K mg "Reader" CR "Reader.__init__" tq ["self", "text", "with_holes"]):yA P w K mg base 1 "Reader" CR ["self", "text", "with_holes"] (IJ CR):=by
 refine D.eL Wy (fun vs H Q E h => ?_) (fun f a8 A outer s H vs Q E hr h => ?_)
 ·obtain⟨r,dx,tx,b,rfl,_⟩:=h;rfl
 obtain⟨r,dx,tx,b,rfl,iu,q⟩:=h
 refine⟨_,(ao (mP (aq 0) (aq 1) rfl)
  (ao (mP (aq 0) (aq 2) rfl)
  (aw (mP (aq 0) ai rfl)))),?_⟩
 try dsimp only[bZ]
 refine⟨_,rfl,_,rfl,r,CR,dx,_,rfl,iu,Z.cR,Z.xV,by decide,?_⟩
 refine⟨_,rfl,_,rfl,r,CR,dx,_,rfl,av,Z.cR,Z.PL,(show 1 < 1000 by decide),?_⟩
 refine⟨_,rfl,r,CR,dx,_,rfl,av,Z.cR,Z.jP,(show 2 < 1000 by decide),?_⟩
 rw[kr,kr]
 exact q
def lZ (CR:Addr) (H:Hp) (r dx:Addr) (tx:Str) (b:Bool) (p:Nat):Prop:=H r=some (jh CR dx tx b p)∧p<=tx.length∧tx.length<=100000
def cJ (tx:Str) (p:Nat):List Nat:=tx.cps.toList.drop p
inductive MU (CR:Addr) (vs:List V) (H:Hp) (Q:VK):Prop
 | mk (r dx:Addr) (tx:Str) (b:Bool) (p:Nat) (z0:vs = [.ref r]) (z1:lZ CR H r dx tx b p) (z2:Q (.str (ia ((cJ tx p).take 1))) H):MU CR vs H Q
def sL (CR:Addr):Sp:=fun vs H Q _=>MU CR vs H Q
theorem SX (Z:qz K mg CR cB) (D:jG K CR "ahead" "Reader.ahead" Fl ["self"]):gE P w K mg base 1 CR "ahead" ["self"] (sL CR):=by
 refine D.eL R4 (fun vs H Q E h => ?_) (fun f a8 A outer s H vs Q E hr h => ?_)
 ·obtain⟨r,dx,tx,b,p,rfl,_⟩:=h;rfl
 obtain⟨r,dx,tx,b,p,rfl,⟨iu,hp,hz⟩,q⟩:=h
 refine⟨_,(aw (aW (jj zB (fQ (aq 0) rfl) (hZ (fQ (aq 0) rfl)) (hZ (aX js (fQ (aq 0) rfl) ai))))),?_⟩
 try dsimp only[bZ]
 refine⟨_,rfl,r,CR,dx,_,_,rfl,iu,Z.cR,Z.xV,rfl,?_⟩
 refine⟨_,rfl,r,CR,dx,_,_,rfl,iu,Z.cR,Z.jP,rfl,_,rfl,?_⟩
 refine⟨_,rfl,r,CR,dx,_,_,rfl,iu,Z.cR,Z.jP,rfl,_,_,rfl,rfl,_,rfl,tx,rfl,a9 hz (by decide),?_⟩
 have e:((p:Int)+1)=((p+1:Nat):Int):=by omega
 rw[e,uW tx hp,show p+1 - p=1 by omega]
 exact q
inductive Q9 (CR cB:Addr) (vs:List V) (H:Hp) (Q:VK) (E:XK):Prop
 | mk (r dx:Addr) (tx:Str) (b:Bool) (p:Nat) (x:Str) (z0:vs = [.ref r,.str x]) (z1:lZ CR H r dx tx b p) (z2:x.length<=10) (z3:(reprText x).length<=1000) (z4:((cJ tx p).take x.length=x.cps.toList->Q .b9 (aO H r (jh CR dx tx b (p+x.length))))) (z5:((cJ tx p).take x.length≠x.cps.toList->E (.ref cB) none H)):Q9 CR cB vs H Q E
def DI (CR cB:Addr):Sp:=fun vs H Q E=>Q9 CR cB vs H Q E
theorem Xe (B:hJ mg) (Z:qz K mg CR cB) (D:jG K CR "take" "Reader.take" IQ ["self", "wanted"]):gE P w K mg base 1 CR "take" ["self", "wanted"] (DI CR cB):=by
 have eK:=Z.eK
 refine D.eL LL (fun vs H Q E h => ?_) (fun f a8 A outer s H vs Q E hr h => ?_)
 ·obtain⟨r,dx,tx,b,p,x,rfl,_⟩:=h;rfl
 obtain⟨r,dx,tx,b,p,x,rfl,⟨iu,hp,hz⟩,hx,hrx,q1,q2⟩:=h
 refine⟨_,(ao (aR (i:=2) LL.nd rfl (aH rfl) (aX js (fQ (aq 0) rfl) (b8 kJ rfl B.iC bR (ae (aq 1) ag))))
  (ao (a6 (aC nV (jj zB (fQ (aq 0) rfl) (hZ (fQ (aq 0) rfl)) (hZ (aq 2))) (aq 1) (aQ _)) (aw (eg eK rfl (fun _ _ _ _ _ _ _ I hx q=>iK I hx q) (ae (gF (cN (Jk (aq 1)) (cN ay lE))) ag) rfl)) aJ)
  (aw (mP (aq 0) (aq 2) rfl)))),?_⟩
 try dsimp only[bZ]
 refine⟨_,rfl,r,CR,dx,_,_,rfl,iu,Z.cR,Z.jP,rfl,_,rfl,x,rfl,a9 hx (by decide),_,_,rfl,rfl,?_⟩
 refine⟨_,rfl,r,CR,dx,_,_,rfl,iu,Z.cR,Z.xV,rfl,?_⟩
 refine⟨_,rfl,r,CR,dx,_,_,rfl,iu,Z.cR,Z.jP,rfl,_,rfl,_,rfl,_,rfl,tx,rfl,a9 hz (by decide),_,rfl,?_⟩
 have e:((p:Int)+(x.length:Int))=((p+x.length:Nat):Int):=by omega
 have e2:oI tx (some (p:Int)) (some ((p:Int)+(x.length:Int)))=ia ((cJ tx p).take x.length):=by
  rw[e,uW tx hp,show p+x.length - p=x.length by omega];rfl
 refine⟨rfl,_,rfl,i0 (fun fo => ?_) (fun heq => ?_)⟩
 ·rw[e2]at fo
  refine⟨by decide,_,rfl,x,rfl,hrx,_,rfl,hrx,_,rfl,by decide,fun z=>⟨(show 1<=sizeLine by decide),q2 fun h=>fo ?_⟩⟩
  rw[h]
  exact congrArg V.str (dY rfl)
 ·rw[e2]at heq
  have h:(cJ tx p).take x.length=x.cps.toList:=(congrArg (fun z:Str=>z.cps.toList) (V.str.inj heq):_)
  refine⟨_,rfl,_,rfl,r,CR,dx,_,rfl,iu,Z.cR,Z.jP,(show 3 < 1000 by decide),?_⟩
  have q:=q1 h
  unfold jh at q
  rw[<- e]at q
  exact q
inductive VU (CR:Addr) (vs:List V) (H:Hp) (Q:VK):Prop
 | mk (r dx:Addr) (tx:Str) (b:Bool) (p:Nat) (x:Str) (pr:Nat->Bool) (z0:vs = [.ref r,.str x]) (z1:lZ CR H r dx tx b p) (z2:(∀ c,decide (c∈x.cps.toList)=pr c)) (z3:Q (.str (ia ((cJ tx p).takeWhile pr))) (aO H r (jh CR dx tx b (p+((cJ tx p).takeWhile pr).length)))):VU CR vs H Q
def Np (CR:Addr):Sp:=fun vs H Q _=>VU CR vs H Q
theorem Za (B:hJ mg) (Z:qz K mg CR cB) (D:jG K CR "take_run" "Reader.take_run" xE ["self", "signs"]):gE P w K mg base 1 CR "take_run" ["self", "signs"] (Np CR):=by
 refine D.eL B0 (fun vs H Q E h => ?_) (fun f a8 A outer s H vs Q E hr h => ?_)
 ·obtain⟨r,dx,tx,b,p,x,pr,rfl,_⟩:=h;rfl
 obtain⟨r,dx,tx,b,p,x,pr,rfl,⟨iu,hp,hz⟩,hpr,q⟩:=h
 refine⟨_,(ao (aR (i:=2) B0.nd rfl (aH rfl) (fQ (aq 0) rfl))
  (ao (GI kq (PW.ji (pw_andQ (aC ll (fQ (aq 0) rfl) (b8 kJ rfl B.iC bR (ae (fQ (aq 0) rfl) ag)) (aQ _)) (pw_and1Q (aC zR (aP wJ (fQ (aq 0) rfl) (fQ (aq 0) rfl) (fun _ _=>rfl)) (aq 1) (by with_unfolding_all rfl)))))
  (aw (DT (aq 0) ai PZ)))
  (aw (aW (jj zB (fQ (aq 0) rfl) (hZ (aq 2)) (hZ (fQ (aq 0) rfl))))))),?_⟩
 try dsimp only[bZ]
 refine⟨_,rfl,r,CR,dx,_,_,rfl,iu,Z.cR,Z.jP,rfl,?_⟩
 have hl:(cJ tx p).length=tx.length - p:=by unfold cJ;rw[dN,bK]
 have hn:=DB pr (cJ tx p)
 refine⟨fun m bC H'=>∃ j,j<=((cJ tx p).takeWhile pr).length∧m=((cJ tx p).takeWhile pr).length - j ∧ bC = [some (.ref r),some (.str x),some (.int p)]∧H'=aO H r (jh CR dx tx b (p+j)),⟨_,0,bA _,rfl,rfl,(OA iu).symm⟩,?_⟩
 rintro m bC H' ⟨j,hj,rfl,rfl,rfl⟩
 have big:tx.length<=sizeLine:=a9 hz (by decide)
 have Vt:∀ i,(cJ tx p)[i]? = tx.cps.toList[p+i]? := fun i=>by unfold cJ;rw[A9]
 refine⟨_,rfl,r,CR,dx,_,_,rfl,av,Z.cR,Z.jP,rfl,_,rfl,r,CR,dx,_,_,rfl,av,Z.cR,Z.xV,rfl,tx,rfl,big,?_⟩
 have eZ:∀ Q':VK,j=((cJ tx p).takeWhile pr).length->Q' (.str (ia ((cJ tx p).takeWhile pr))) (aO H r (jh CR dx tx b (p+((cJ tx p).takeWhile pr).length))) ->
   Yi YC (Nl K (zt 0) "text") (HP (zt 2)) (HP (Nl K (zt 0) "place")) [some (V.ref r),some (V.str x),some (V.int p)] (aO H r (jh CR dx tx b (p+j))) Q':=fun Q' JT q'=>by
  subst JT
  refine⟨_,rfl,r,CR,dx,_,_,rfl,av,Z.cR,Z.xV,rfl,_,rfl,_,rfl,_,rfl,r,CR,dx,_,_,rfl,av,Z.cR,Z.jP,rfl,_,rfl,tx,rfl,big,?_⟩
  rw[uW tx hp,show p+((cJ tx p).takeWhile pr).length - p=((cJ tx p).takeWhile pr).length by omega]
  have e:=wg pr (cJ tx p)
  unfold cJ at e q' ⊢
  rw[e]
  exact q'
 refine⟨_,_,rfl,rfl,_,rfl,aY (fun e9 => ?_) (fun Qf => ?_)⟩
 ·have aeC:p+j < tx.length:=by omega
  have hc:p+j < tx.cps.toList.length:=by rw[<- bK];exact aeC
  have hci:nK tx.cps.toList ((p+j:Nat):Int)=some tx.cps.toList[p+j]:=ax (aF hc)
  refine⟨_,rfl,r,CR,dx,_,_,rfl,av,Z.cR,Z.xV,rfl,_,rfl,r,CR,dx,_,_,rfl,av,Z.cR,Z.jP,rfl,tx,_,tx.cps.toList[p+j],rfl,rfl,big,hci,_,rfl,_,_,rfl,rfl,_,rfl,?_⟩
  rw[nv,hpr]
  cases hb:pr tx.cps.toList[p+j] with
  | true =>
   have JT:j < ((cJ tx p).takeWhile pr).length:=by
    refine Nat.lt_of_not_le fun Mm => ?_
    have hje:j=((cJ tx p).takeWhile pr).length:=by omega
    obtain⟨c,h1,h2⟩:=OE pr (cJ tx p) (by rw[hl];omega)
    rw[<- hje,Vt,aF hc]at h1
    cases h1
    rw[hb]at h2;cases h2
   refine gB ⟨fun bC H' => bC = [some (.ref r),some (.str x),some (.int p)]∧H'=aO H r (jh CR dx tx b (p+(j+1))),?_,?_⟩
   ·rintro bC H' ⟨rfl,rfl⟩
    exact⟨((cJ tx p).takeWhile pr).length - (j+1),by omega,j+1,JT,rfl,rfl,rfl⟩
   ·refine⟨_,rfl,r,CR,dx,_,_,rfl,av,Z.cR,Z.jP,rfl,_,_,rfl,rfl,dx,_,av,(show 3 < 1000 by decide),rfl,?_⟩
    rw[kr]
    rfl
  | false =>
   refine eW (eZ _ ?_ q)
   refine EC hj (ou fun JT => ?_)
   obtain⟨c,h1,h2⟩:=Uy pr (cJ tx p) j JT
   rw[Vt,aF hc]at h1
   cases h1
   rw[hb]at h2;cases h2
 ·exact eW (eZ _ (by omega) q)
inductive MQ (CR cB:Addr) (vs:List V) (H:Hp) (Q:VK) (E:XK):Prop
 | mk (r dx:Addr) (tx:Str) (b:Bool) (p:Nat) (z0:vs = [.ref r]) (z1:lZ CR H r dx tx b p) (z2:(∀ x l',la (cJ tx p)=some (x,l')->Q (.str (ia x)) (aO H r (jh CR dx tx b (p+x.length))))) (z3:(la (cJ tx p)=none->∀ H',bU r H H'->E (.ref cB) none H')):MQ CR cB vs H Q E
def E8 (CR cB:Addr):Sp:=fun vs H Q E=>MQ CR cB vs H Q E
theorem SO (B:hJ mg) (Z:qz K mg CR cB) (yf:gE P w K mg base 1 CR "take_run" ["self", "signs"] (Np CR)) (D:jG K CR "take_word" "Reader.take_word" vC ["self"]):gE P w K mg base 2 CR "take_word" ["self"] (E8 CR cB):=by
 have eK:=Z.eK
 have cR:=Z.cR
 have jn:=Z.jn
 have eX:=Z.eX
 refine D.eL zD (fun vs H Q E h => ?_) (fun f a8 A outer s H vs Q E hr h => ?_)
 ·obtain⟨r,dx,tx,b,p,rfl,_⟩:=h;rfl
 obtain⟨r,dx,tx,b,p,rfl,⟨iu,hp,hz⟩,q1,q2⟩:=h
 refine⟨_,(ao (aR (i:=1) zD.nd rfl (aH rfl) (nG yf cR hr (by omega) (eG fun _ _ _ z=>z) (aq 0) (ae (mq jn rfl) ag)))
  (ao (a6 (PW.ji (pw_orQ (aC cb (aq 1) ay (aQ _)) (pw_or1Q (aC lp (b8 kJ rfl B.iC bR (ae (aq 1) ag)) (c8 eX rfl) (aQ _))))) (aw (eg eK rfl (fun _ _ _ _ _ _ _ I hx q=>iK I hx q) (ae (gF (cN ay (cN (j5 (c8 eX rfl)) (cN ay lE)))) ag) rfl)) aJ)
  (aw (aW (aq 1))))),?_⟩
 try dsimp only[bZ]
 refine⟨_,rfl,r,dx,_,rfl,iu,rfl,r,dx,tx,b,p,_,ja,rfl,⟨iu,hp,hz⟩,Tj,?_⟩
 have hl:(cJ tx p).length=tx.length - p:=by unfold cJ;rw[dN,bK]
 have hn:=DB ja (cJ tx p)
 have bad:((cJ tx p).takeWhile ja = []∨8 < ((cJ tx p).takeWhile ja).length)->∀ H',bU r H H'->E (.ref cB) none H':=fun h=>q2 (by unfold la;rw[if_pos h])
 have big:(ia ((cJ tx p).takeWhile ja)).length<=sizeLine:=by rw[lM];exact a9 (by omega:_<=100000) (by decide)
 refine⟨_,rfl,rfl,_,rfl,aY (fun h0 => ?_) (fun h0 => ?_)⟩
 ·exact gB ⟨by decide,_,rfl,by decide,_,rfl,by decide,_,rfl,by decide,_,rfl,by decide,fun z=>⟨(show 1<=sizeLine by decide),bad (.inl (u6 h0)) _ bU.put⟩⟩
 ·refine⟨_,rfl,_,rfl,big,_,_,rfl,rfl,_,rfl,aY (fun h1 => ?_) (fun h1 => ?_)⟩
  ·rw[lM]at h1
   exact⟨by decide,_,rfl,by decide,_,rfl,by decide,_,rfl,by decide,_,rfl,by decide,fun z=>⟨(show 1<=sizeLine by decide),bad (.inr (by omega)) _ bU.put⟩⟩
  ·rw[lM]at h1
   refine⟨_,rfl,q1 _ ((cJ tx p).drop ((cJ tx p).takeWhile ja).length) ?_⟩
   unfold la
   rw[if_neg fun z=>z.elim (PM h0) (by omega)]
theorem DQ {t rest:TS}{D:Ends}{σ : St}{H:Hp} (R:St->Hp->Prop) (key:∀ bC H',R bC H'->rest D bC H') (h:∀ {N:St->Hp->Prop},(∀ bC H',R bC H'->N bC H')->t { D with nx:=N } σ H):oS t rest D σ H:=h key
theorem m6 {tx:Str}{p:Nat}:(cJ tx p).length=tx.length - p:=by unfold cJ;rw[dN,bK]
theorem lx {tx:Str}{p n:Nat}:(cJ tx p).drop n=cJ tx (p+n):=by unfold cJ;rw[F9]
inductive VV (CR cB:Addr) (vs:List V) (H:Hp) (Q:VK) (E:XK):Prop
 | mk (r dx:Addr) (tx:Str) (b:Bool) (p:Nat) (z0:vs = [.ref r]) (z1:lZ CR H r dx tx b p) (z2:(∀ n l',o8 (cJ tx p)=some (n,l')->∀ a H' p',bU r H H'->lZ CR H' r dx tx b p'->cJ tx p'=l'->H' a=some (.tup [.str "num",.int n])->Q (.ref a) H')) (z3:(o8 (cJ tx p)=none->∀ H',bU r H H'->E (.ref cB) none H')):VV CR cB vs H Q E
def HQ (CR cB:Addr):Sp:=fun vs H Q E=>VV CR cB vs H Q E
theorem NI (B:hJ mg) (Z:qz K mg CR cB) (gR:gE P w K mg base 1 CR "ahead" ["self"] (sL CR)) (yf:gE P w K mg base 1 CR "take_run" ["self", "signs"] (Np CR)) (D:jG K CR "take_number" "Reader.take_number" rC ["self"]) :
  gE P w K mg base 2 CR "take_number" ["self"] (HQ CR cB):=by
 have eK:=Z.eK
 have cR:=Z.cR
 have iS:=Z.iS
 have fR:=Z.fR
 refine D.eL mO (fun vs H Q E h => ?_) (fun f a8 A outer s H vs Q E hr h => ?_)
 ·obtain⟨r,dx,tx,b,p,rfl,_⟩:=h;rfl
 obtain⟨r,dx,tx,b,p,rfl,⟨iu,hp,hz⟩,q1,q2⟩:=h
 refine⟨_,(ao (aR (i:=1) mO.nd rfl (aH rfl) (fQ (aq 0) rfl))
  (ao (a6 (aC cb (oA gR cR hr (by omega) (eG fun _ _ _ z=>z) (aq 0)) ay (aQ _)) (aw (DT (aq 0) ai PZ)) aJ)
  (ao (aR (i:=2) mO.nd rfl (aH rfl) (nG yf cR hr (by omega) (eG fun _ _ _ z=>z) (aq 0) (ae (mq iS rfl) ag)))
  (ao (a6 (PW.ji (pw_orQ (aC cb (aq 2) ay (aQ _)) (pw_or1Q (aC lp (b8 kJ rfl B.iC bR (ae (aq 2) ag)) (c8 fR rfl) (aQ _))))) (aw (eg eK rfl (fun _ _ _ _ _ _ _ I hx q=>iK I hx q) (ae (gF (cN ay (cN (j5 (c8 fR rfl)) (cN ay lE)))) ag) rfl)) aJ)
  (ao (aR (i:=3) mO.nd rfl (aH rfl) (jj zB (fQ (aq 0) rfl) (hZ (aq 1)) (hZ (fQ (aq 0) rfl))))
  (ao (a6 (PW.ji (pw_andQ (aC cb (aP wJ (aq 2) ai (fun _ _=>rfl)) ay (aQ _)) (pw_and1Q (aC nV (aq 3) ay (aQ _))))) (aw (eg eK rfl (fun _ _ _ _ _ _ _ I hx q=>iK I hx q) (ae ay ag) rfl)) aJ)
  (aw (aW (aS (ae ay (ae (gG yY rfl B.NQ vh (ae (aq 3) ag)) ag))))))))))),?_⟩
 try dsimp only[bZ]
 refine⟨_,rfl,r,CR,dx,_,_,rfl,iu,Z.cR,Z.jP,rfl,?_⟩
 dsimp only[bc]
 refine DQ (fun bC H'=>∃ (p1:Nat) (pre:List Nat), bC = [some (.ref r),some (.int p),none,none]∧H'=aO H r (jh CR dx tx b p1)∧p1=p+pre.length∧p1<=tx.length∧cJ tx p=pre ++ cJ tx p1∧(pre = []∧(cJ tx p).head? ≠ some 45∨pre = [45])) ?_ (fun key => ?_)
 ·rintro bC H' ⟨p1,pre,rfl,rfl,dn,aey,hl,x9⟩
  refine⟨_,rfl,r,dx,_,rfl,av,rfl,r,dx,tx,b,p1,_,eI,rfl,⟨av,aey,hz⟩,C6,?_⟩
  have hn:=DB eI (cJ tx p1)
  rw[m6]at hn
  generalize hF:(cJ tx p1).takeWhile eI=F at hn
  have hFd:ir F:=fun c hc=>by
   rw[<- hF]at hc
   have:=DC _ _ c hc
   unfold eI at this
   exact of_decide_eq_true this
  have aeK:(cJ tx p).take (p1+F.length - p)=pre ++ F:=by
   rw[hl,show p1+F.length - p=pre.length+F.length by omega,List.take_append,eS (by omega),show pre.length+F.length - pre.length=F.length by omega, <- hF,wg]
  rw[kr]
  have hN:o8 (cJ tx p)=if F = []∨60 < F.length then none else if F.head? = some 48∧¬ (pre = []∧F = [48]) then none else some (if pre = [] then ((cT F:Nat):Int) else -((cT F:Nat):Int),cJ tx (p1+F.length)):=by
   rcases x9 with⟨rfl,hh⟩ | rfl
   ·have e:cJ tx p=cJ tx p1:=hl
    unfold o8
    rw[decide_eq_false hh]
    simp only[gZ,if_false,e,hF,true_and,if_true,lx]
   ·have e:cJ tx p=45 :: cJ tx p1:=hl
    unfold o8
    rw[e]
    simp only[EE,qD,decide_true,if_true,hF,lx]
    simp
  have big:(ia F).length<=sizeLine:=by rw[lM];exact a9 (by omega:_<=100000) (by decide)
  have bad:(F = []∨60 < F.length)->∀ H',bU r H H'->E (.ref cB) none H':=fun h=>q2 (by rw[hN,if_pos h])
  dsimp only[bc]
  refine DQ (fun bC H' => bC = [some (.ref r),some (.int p),some (.str (ia F)),none]∧H'=aO H r (jh CR dx tx b (p1+F.length))∧F ≠ []∧F.length<=60) ?_ (fun key => ?_)
  ·rintro bC H' ⟨rfl,rfl,Qp,ahI⟩
   refine⟨_,rfl,r,CR,dx,_,_,rfl,av,Z.cR,Z.xV,rfl,_,rfl,_,rfl,_,rfl,r,CR,dx,_,_,rfl,av,Z.cR,Z.jP,rfl,_,rfl,tx,rfl,a9 hz (by decide),?_⟩
   rw[uW tx hp]
   have ach:(tx.cps.toList.drop p).take (p1+F.length - p)=pre ++ F:=aeK
   rw[ach]
   dsimp only[bc]
   have dX:(ia (pre ++ F)).length<=61:=by
    rw[lM,aM]
    rcases x9 with⟨rfl,_⟩ | rfl
    ·simp;omega
    ·simp;omega
   have hint:intText? (ia (pre ++ F))=some (if pre = [] then ((cT F:Nat):Int) else -((cT F:Nat):Int)):=by
    rcases x9 with⟨rfl,_⟩ | rfl
    ·rw[if_pos rfl]
     exact yy (x:=ia ([] ++ F)) hFd Qp (a9 dX (by decide))
    ·rw[if_neg (by simp)]
     exact PySem.intText_neg (x:=ia ([45] ++ F)) rfl hFd Qp (a9 dX (by decide))
   refine DQ (fun bC H' => bC = [some (.ref r),some (.int p),some (.str (ia F)),some (.str (ia (pre ++ F)))]∧H'=aO H r (jh CR dx tx b (p1+F.length))∧¬ (F.head? = some 48∧¬ (pre = []∧F = [48]))) ?_ (fun key => ?_)
   ·rintro bC H' ⟨rfl,rfl,br⟩
    refine⟨_,rfl,_,_,rfl,hint,a9 dX (by decide),(show 2<=sizeLine by decide),fun a ha => ?_⟩
    refine q1 _ (cJ tx (p1+F.length)) ?_ a _ (p1+F.length) (bU.put.trans (bU.new ha)) ⟨?_,by omega,hz⟩ rfl av
    ·rw[hN,if_neg (fun z=>z.elim Qp (by omega)),if_neg br]
    ·rw[bh (dC av ha),av]
   ·cases Qo:F with
    | nil=>exact absurd Qo Qp
    | cons c0 F' =>
     rw[<- Qo]
     have aeL:nK (ia F).cps.toList (0:Int)=some c0:=ax (j:=0) (by rw[kB,Qo];rfl)
     refine⟨_,rfl,ia F,0,c0,rfl,rfl,big,aeL,rfl,_,rfl,aY (fun h0 => ?_) (fun h0 => ?_)⟩
     ·have hc0:c0=48:=by
       have:=congrArg (fun z:Str=>z.cps.toList) (V.str.inj h0)
       exact(nX this).1
      refine⟨_,rfl,rfl,_,rfl,i0 (fun fo => ?_) (fun heq => ?_)⟩
      ·refine⟨(show 1<=sizeLine by decide),q2 ?_ _ bU.put⟩
       have hh:F.head? = some 48∧¬ (pre = []∧F = [48]):=⟨by rw[Qo,hc0];rfl,fun z=>fo (by rw[z.1,z.2];exact congrArg V.str (dY rfl))⟩
       rw[hN,if_neg (fun z=>z.elim Qp (by omega)),if_pos hh]
      ·refine key _ _ ⟨rfl,rfl,fun z=>z.2 ?_⟩
       have e:pre ++ F = [48]:=congrArg (fun z:Str=>z.cps.toList) (V.str.inj heq)
       rcases x9 with⟨rfl,_⟩ | rfl
       ·exact⟨rfl,e⟩
       ·simp at e
     ·refine eW (key _ _ ⟨rfl,rfl,fun z=>h0 ?_⟩)
      have e:=z.1
      rw[Qo]at e
      cases e
      exact congrArg V.str (dY rfl)
  ·refine⟨_,rfl,rfl,_,rfl,aY (fun h0 => ?_) (fun h0 => ?_)⟩
   ·exact gB ⟨by decide,_,rfl,by decide,_,rfl,by decide,_,rfl,by decide,_,rfl,by decide,fun z=>⟨(show 1<=sizeLine by decide),bad (.inl (u6 h0)) _ bU.put⟩⟩
   ·refine⟨_,rfl,_,rfl,big,_,_,rfl,rfl,_,rfl,aY (fun h1 => ?_) (fun h1 => ?_)⟩
    ·rw[lM]at h1
     exact⟨by decide,_,rfl,by decide,_,rfl,by decide,_,rfl,by decide,_,rfl,by decide,fun z=>⟨(show 1<=sizeLine by decide),bad (.inr (by omega)) _ bU.put⟩⟩
    ·rw[lM]at h1
     exact key _ _ ⟨rfl,rfl,PM h0,by omega⟩
 ·refine⟨_,rfl,r,dx,_,rfl,iu,rfl,r,dx,tx,b,p,rfl,⟨iu,hp,hz⟩,rfl,_,rfl,aY (fun h0 => ?_) (fun h0 => ?_)⟩
  ·have e:(cJ tx p).take 1 = [45]:=congrArg (fun z:Str=>z.cps.toList) (V.str.inj h0)
   have e2:cJ tx p=45 :: cJ tx (p+1):=by
    rw[<- lx, <- d4 1 (cJ tx p),e]
    simp
   have fu:p+1<=tx.length:=by
    have:=congrArg qR e2
    rw[m6,bg]at this
    omega
   refine⟨_,rfl,r,CR,dx,_,_,rfl,iu,Z.cR,Z.jP,rfl,_,_,rfl,rfl,dx,_,iu,(show 3 < 1000 by decide),key _ _ ⟨p+1, [45],rfl,rfl,rfl,fu,e2,.inr rfl⟩⟩
  ·refine key _ _ ⟨p, [],rfl,(OA iu).symm,rfl,hp,rfl,.inl ⟨rfl,fun hh=>h0 ?_⟩⟩
   cases e:cJ tx p with
   | nil=>rw[e]at hh;cases hh
   | cons c l =>
    rw[e]at hh
    cases hh
    exact congrArg V.str (dY rfl)
inductive Q8 (CR cB:Addr) (k:Nat) (vs:List V) (H:Hp) (Q:VK) (E:XK):Prop
 | mk (r dx:Addr) (tx:Str) (b:Bool) (p:Nat) (z0:vs = [.ref r,.int (31 - (k:Int))]) (z1:lZ CR H r dx tx b p) (z2:(∀ t l',fE b k (cJ tx p)=some (t,l')->∀ v H' p',bU r H H'->lZ CR H' r dx tx b p'->cJ tx p'=l'->bJ H' t v->Q v H')) (z3:(fE b k (cJ tx p)=none->∀ H',bU r H H'->E (.ref cB) none H')):Q8 CR cB k vs H Q E
def DH (CR cB:Addr) (k:Nat):Sp:=fun vs H Q E=>Q8 CR cB k vs H Q E
inductive Rh (CR cB:Addr) (k:Nat) (vs:List V) (H:Hp) (Q:VK) (E:XK):Prop
 | mk (r dx:Addr) (tx:Str) (b:Bool) (p:Nat) (z0:vs = [.ref r,.int (31 - (k:Int))]) (z1:lZ CR H r dx tx b p) (z2:(∀ ts l',nU (fE b k) (cJ tx p)=some (ts,l')->∀ a us H' p',bU r H H'->lZ CR H' r dx tx b p'->cJ tx p'=l'->H' a=some (.tup us)->dS H' ts us->Q (.ref a) H')) (z3:(nU (fE b k) (cJ tx p)=none->∀ H',bU r H H'->E (.ref cB) none H')):Rh CR cB k vs H Q E
def OU (CR cB:Addr) (k:Nat):Sp:=fun vs H Q E=>Rh CR cB k vs H Q E
structure Ut (CR:Addr) (H:Hp) (r dx:Addr) (tx:Str) (b:Bool) (k:Nat) (pa:Addr) (p:Nat) (us:List V) (ts:List T) (p2 n2:Nat) (bC:St) (H':Hp):Prop where
 es : bC = [some (.ref r),some (.int (31 - (k:Int))),some (.ref pa)]
 kb:bU r H H'
 hl:H' pa=some (.lst us)
 rd:lZ CR H' r dx tx b p2
 wL:dS H' ts us
 dX:us.length+(cJ tx p2).length<=100001
 GW:(cJ tx p2).length < n2
 heq:nU (fE b k) (cJ tx p)=(match lj (fE b k) n2 (cJ tx p2) with | some (Uw,l2)=>if 4 < (ts ++ Uw).length then none else some (ts ++ Uw,l2) | none=>none)
theorem Xn (B:hJ mg) (Z:qz K mg CR cB) {n k:Nat} (hn:1<=n) (gR:gE P w K mg base 1 CR "ahead" ["self"] (sL CR)) (lI:gE P w K mg base 1 CR "take" ["self", "wanted"] (DI CR cB))
  (qN:gE P w K mg base n CR "take_tree" ["self", "deep"] (DH CR cB k)) (D:jG K CR "take_arms" "Reader.take_arms" qK ["self", "deep"]) :
  gE P w K mg base (n+1) CR "take_arms" ["self", "deep"] (OU CR cB k):=by
 have eK:=Z.eK
 have cR:=Z.cR
 have lT:=Z.lT
 refine D.eL zE (fun vs H Q E h => ?_) (fun f a8 A outer s H vs Q E hr h => ?_)
 ·obtain⟨r,dx,tx,b,p,rfl,_⟩:=h;rfl
 obtain⟨r,dx,tx,b,p,rfl,⟨iu,hp,hz⟩,q1,q2⟩:=h
 refine⟨_,(ao (aR (i:=2) zE.nd rfl (aH rfl) (gi (ae (nG qN cR hr (by omega) (eG fun _ _ _ z=>z) (aq 0) (ae (aq 1) ag)) ag)))
  (ao (GI kq (aC cb (oA gR cR hr (by omega) (eG fun _ _ _ z=>z) (aq 0)) ay (aQ _))
  (ao (fh (nG lI cR hr (by omega) (eG fun _ _ _ z=>z) (aq 0) (ae ay ag)))
  (aw (fh (fq cV cQ cP gQ (aq 2) (ae (nG qN cR hr (by omega) (eG fun _ _ _ z=>z) (aq 0) (ae (aq 1) ag)) ag))))))
  (ao (fh (nG lI cR hr (by omega) (eG fun _ _ _ z=>z) (aq 0) (ae ay ag)))
  (ao (a6 (aC lp (b8 cO rfl B.iC bR (ae (aq 2) ag)) (c8 lT rfl) (aQ _)) (aw (eg eK rfl (fun _ _ _ _ _ _ _ I hx q=>iK I hx q) (ae (gF (cN ay (cN (j5 (c8 lT rfl)) (cN ay lE)))) ag) rfl)) aJ)
  (aw (aW (gG yX rfl B.Ij vS (ae (aq 2) ag)))))))),?_⟩
 try dsimp only[bZ]
 refine⟨_,rfl,r,dx,_,rfl,iu,rfl,_,rfl,r,dx,tx,b,p,rfl,⟨iu,hp,hz⟩,fun t l1 e1 v H1 p1 GP LS QF UB => ?_,fun e1 H' kb=>q2 (by unfold nU;rw[e1]) H' kb⟩
 refine⟨(show 1<=sizeLine by decide),fun pa Af => ?_⟩
 dsimp only[bc]
 have L7:pa≠r:=fun z=>by rw[z,LS.1]at Af;cases Af
 have aex:H pa=none:=by
  cases e:H pa with
  | none=>rfl
  | some o=>have:=GP pa o L7 e;rw[Af]at this;cases this
 have ahJ:(100001:Nat) < sizeLine:=by decide
 refine DQ (fun bC H'=>∃ (us:List V) (ts:List T) (p2 n2:Nat),Ut CR H r dx tx b k pa p us ts p2 n2 bC H'∧(cJ tx p2).take 1 ≠ [44]) ?_ (fun key => ?_)
 ·rintro bC H' ⟨us,ts,p2,n2,⟨rfl,kb,hl,rd,wL,dX,GW,heq⟩,aej⟩
  obtain⟨n3,rfl⟩:∃ n3,n2=n3+1:=⟨n2 - 1,by omega⟩
  have no2:(cJ tx p2).take 2 ≠ [44,32]:=fun z=>aej (by obtain⟨r',e⟩:=UE z;rw[e];rfl)
  refine⟨_,rfl,r,dx,_,rfl,rd.1,rfl,r,dx,tx,b,p2, ")",rfl,rd,by decide,by decide +kernel,fun hc => ?_,fun hc=>q2 (by rw[heq,LV no2 hc]) H' kb⟩
  have Qk:(cJ tx p2).take 1 = [41]:=hc
  obtain⟨l3,Kh⟩:=Nh Qk
  have N5:cJ tx (p2+1)=l3:=by rw[<- lx,Kh];rfl
  have hl3:(cJ tx p2).length=l3.length+1:=by rw[Kh];rfl
  have mw:p2+1<=tx.length:=by
   have:=rd.2.1
   rw[m6]at hl3
   omega
  rw[Kh,Sm]at heq
  dsimp only at heq
  rw[dh]at heq
  rw[show (")" : Str).length=1 from rfl]
  have tM:bU r H (aO H' r (jh CR dx tx b (p2+1))):=kb.trans bU.put
  have C3:(aO H' r (jh CR dx tx b (p2+1))) pa=some (.lst us):=by rw[bh L7];exact hl
  have FC:dS (aO H' r (jh CR dx tx b (p2+1))) ts us:=nZ (jt rd.1 trivial) wL
  have nh:lZ CR (aO H' r (jh CR dx tx b (p2+1))) r dx tx b (p2+1):=⟨av,mw,hz⟩
  generalize aO H' r (jh CR dx tx b (p2+1))=H3 at tM C3 FC nh ⊢
  have P6:=sJ FC
  refine⟨_,rfl,pa,us,rfl,.inl (b6.of C3),_,_,rfl,rfl,_,rfl,aY (fun h4 => ?_) (fun h4 => ?_)⟩
  ·exact⟨by decide,_,rfl,by decide,_,rfl,by decide,_,rfl,by decide,_,rfl,by decide,fun z=>⟨(show 1<=sizeLine by decide),q2 (by rw[heq,if_pos (by omega)]) H3 tM⟩⟩
  ·refine⟨_,rfl,pa,us,rfl,.inl ⟨b6.of C3,fun a ha=>q1 ts l3 (by rw[heq,if_neg (by omega)]) a us _ (p2+1) (tM.trans (bU.new ha)) ⟨?_,nh.2⟩ N5 av (xu (aD ha _) FC)⟩⟩
   rw[bh (dC nh.1 ha)];exact nh.1
 ·refine⟨fun m bC H'=>∃ (us:List V) (ts:List T) (p2 n2:Nat),m=(cJ tx p2).length∧Ut CR H r dx tx b k pa p us ts p2 n2 bC H',⟨_, [v], [t],p1,l1.length+1,rfl,rfl,GP.trans (bU.new Af),av,?_,?_,?_,?_,?_⟩,?_⟩
  ·exact⟨by rw[bh (cK L7)];exact LS.1,LS.2⟩
  ·rw[dS]
   exact⟨v, [],rfl,bP (aD Af _) UB,by rw[dS]⟩
  ·rw[m6];simp;omega
  ·rw[QF];omega
  ·unfold nU
   rw[e1,QF]
   dsimp only
   cases lj (fE b k) (l1.length+1) l1 with
   | none=>rfl
   | some z =>
    obtain⟨Uw,l2⟩:=z
    dsimp only
    rw[xh,bg]
  rintro m bC H' ⟨us,ts,p2,n2,rfl,⟨rfl,kb,hl,rd,wL,dX,GW,heq⟩⟩
  refine⟨_,rfl,r,dx,_,rfl,rd.1,rfl,r,dx,tx,b,p2,rfl,rd,rfl,_,rfl,aY (fun h0 => ?_) (fun h0 => ?_)⟩
  ·have h44:(cJ tx p2).take 1 = [44]:=congrArg (fun z:Str=>z.cps.toList) (V.str.inj h0)
   obtain⟨n3,rfl⟩:∃ n3,n2=n3+1:=⟨n2 - 1,by omega⟩
   refine⟨fun bC H'=>∃ (us:List V) (ts:List T) (p3 n2:Nat),(cJ tx p3).length < (cJ tx p2).length∧Ut CR H r dx tx b k pa p us ts p3 n2 bC H',?_,?_⟩
   ·rintro bC H' ⟨i8,ts',p3,n2',e9,r1⟩
    exact⟨_,e9,i8,ts',p3,n2',rfl,r1⟩
   ·have aek:(cJ tx p2).take 1 ≠ [41]:=by rw[h44];decide
    refine⟨_,rfl,r,dx,_,rfl,rd.1,rfl,r,dx,tx,b,p2, ", ",rfl,rd,by decide,by decide +kernel,fun hc => ?_,fun hc=>q2 (by rw[heq,LV hc aek]) H' kb⟩
    have Qk:(cJ tx p2).take 2 = [44,32]:=hc
    obtain⟨l3,Kh⟩:=UE Qk
    have N5:cJ tx (p2+2)=l3:=by rw[<- lx,Kh];rfl
    have hl3:(cJ tx p2).length=l3.length+2:=by rw[Kh];rfl
    have mw:p2+2<=tx.length:=by
     have:=rd.2.1
     rw[m6]at hl3
     omega
    rw[Kh,Jj]at heq
    rw[show (", " : Str).length=2 from rfl]
    have tM:bU r H (aO H' r (jh CR dx tx b (p2+2))):=kb.trans bU.put
    have C3:(aO H' r (jh CR dx tx b (p2+2))) pa=some (.lst us):=by rw[bh L7];exact hl
    have FC:dS (aO H' r (jh CR dx tx b (p2+2))) ts us:=nZ (jt rd.1 trivial) wL
    have nh:lZ CR (aO H' r (jh CR dx tx b (p2+2))) r dx tx b (p2+2):=⟨av,mw,hz⟩
    generalize aO H' r (jh CR dx tx b (p2+2))=H3 at tM C3 FC nh ⊢
    refine⟨_,rfl,.inl ⟨rfl,_,b6.of C3⟩,_,rfl,r,dx,_,rfl,nh.1,rfl,_,rfl,r,dx,tx,b,p2+2,rfl,nh,fun t4 l4 e4 v4 H4 p4 D8 LR VM tr4 => ?_,fun e4 H4 D8=>q2 (by rw[heq, <- N5,e4]) H4 (tM.trans D8)⟩
    rw[N5]at e4
    rw[e4]at heq
    have Vp:H4 pa=some (.lst us):=D8 pa _ L7 C3
    have aev:dS H4 ts us:=nZ (D8.nj nh.1 trivial) FC
    have ahy:=O7 b k _ _ _ e4
    refine⟨pa,us,v4,rfl,rfl,Vp,?_,us ++ [v4],ts ++ [t4],p4,n3,?_,rfl,?_,av,?_,?_,?_,?_,?_⟩
    ·omega
    ·rw[VM];omega
    ·refine fun a o na ha => ?_
     rw[bh (fun z=>by rw[z,aex]at ha;cases ha)]
     exact D8 a o na (tM a o na ha)
    ·exact⟨by rw[bh (cK L7)];exact LR.1,LR.2⟩
    ·exact Ik (nZ (jt Vp trivial) aev) (ik (jt Vp trivial) tr4)
    ·rw[aM,i7,VM];omega
    ·rw[VM];omega
    ·rw[VM,heq]
     dsimp only
     cases lj (fE b k) n3 l4 with
     | none=>rfl
     | some z =>
      obtain⟨Uw,l2⟩:=z
      dsimp only
      rw[bH,xh]
  ·refine key _ _ ⟨us,ts,p2,n2,⟨rfl,kb,hl,rd,wL,dX,GW,heq⟩,fun z=>h0 ?_⟩
   rw[z]
   exact congrArg V.str (dY rfl)
theorem Gx (B:hJ mg) (Z:qz K mg CR cB) {n k:Nat}{spA:Sp} (hn:2<=n) (hA:∀ k',k=k'+1->spA=OU CR cB k') (gR:gE P w K mg base 1 CR "ahead" ["self"] (sL CR)) (lI:gE P w K mg base 1 CR "take" ["self", "wanted"] (DI CR cB))
  (lO:gE P w K mg base 2 CR "take_word" ["self"] (E8 CR cB)) (lH:gE P w K mg base 2 CR "take_number" ["self"] (HQ CR cB)) (Lm:gE P w K mg base n CR "take_arms" ["self", "deep"] spA)
  (D:jG K CR "take_tree" "Reader.take_tree" qJ ["self", "deep"]):gE P w K mg base (n+1) CR "take_tree" ["self", "deep"] (DH CR cB k):=by
 have eK:=Z.eK
 have cR:=Z.cR
 have lQ:=Z.lQ
 have iS:=Z.iS
 refine D.eL sW (fun vs H Q E h => ?_) (fun f a8 A outer s H vs Q E hr h => ?_)
 ·obtain⟨r,dx,tx,b,p,rfl,_⟩:=h;rfl
 obtain⟨r,dx,tx,b,p,rfl,⟨iu,hp,hz⟩,q1,q2⟩:=h
 refine⟨_,(ao (a6 (aC lp (aq 1) (c8 lQ rfl) (aQ _)) (aw (eg eK rfl (fun _ _ _ _ _ _ _ I hx q=>iK I hx q) (ae (gF (cN ay (cN (j5 (c8 lQ rfl)) (cN ay lE)))) ag) rfl)) aJ)
  (ao (aR (i:=2) sW.nd rfl (aH rfl) (oA gR cR hr (by omega) (eG fun _ _ _ z=>z) (aq 0)))
  (ao (a6 (aC cb (aq 2) ay (aQ _)) (aw (eg eK rfl (fun _ _ _ _ _ _ _ I hx q=>iK I hx q) (ae ay ag) rfl)) aJ)
  (ao (a6 (PW.ji (pw_orQ (aC cb (aq 2) ay (aQ _)) (pw_or1Q (aC zR (aq 2) (mq iS rfl) (by with_unfolding_all rfl))))) (aw (aW (oA lH cR hr (by omega) (eG fun _ _ _ z=>z) (aq 0)))) aJ)
  (ao (a6 (PW.ji (pw_andQ (aC cb (aq 2) ay (aQ _)) (pw_and1Q (lK (fQ (aq 0) rfl))))) (ao (fh (nG lI cR hr (by omega) (eG fun _ _ _ z=>z) (aq 0) (ae ay ag)))
  (aw (aW (aS (ae ay (ae (oA lO cR hr (by omega) (eG fun _ _ _ z=>z) (aq 0)) ag)))))) aJ)
  (ao (aR (i:=3) sW.nd rfl (aH rfl) (oA lO cR hr (by omega) (eG fun _ _ _ z=>z) (aq 0)))
  (ao (a6 (aC nV (oA gR cR hr (by omega) (eG fun _ _ _ z=>z) (aq 0)) ay (aQ _)) (aw (aW (aS (ae ay (ae (aq 3) ag))))) aJ)
  (ao (fh (nG lI cR hr (by omega) (eG fun _ _ _ z=>z) (aq 0) (ae ay ag)))
  (aw (aW (aS (ae ay (ae (aq 3) (ae (nG Lm cR hr (by omega) (eG fun _ _ _ z=>z) (aq 0) (ae (aX js (aq 1) ai) ag)) ag)))))))))))))),?_⟩
 try dsimp only[bZ]
 refine⟨_,rfl,_,_,rfl,rfl,_,rfl,aY (fun h0 => ?_) (fun h0 => ?_)⟩
 ·obtain rfl:k=0:=by omega
  exact⟨by decide,_,rfl,by decide,_,rfl,by decide,_,rfl,by decide,_,rfl,by decide,fun z=>⟨(show 1<=sizeLine by decide),q2 rfl _ bU.refl⟩⟩
 obtain⟨k',rfl⟩:∃ k',k=k'+1:=⟨k - 1,by omega⟩
 obtain rfl:=hA k' rfl
 refine⟨_,rfl,r,dx,_,rfl,iu,rfl,r,dx,tx,b,p,rfl,⟨iu,hp,hz⟩,?_⟩
 cases hl:cJ tx p with
 | nil =>
  refine⟨_,rfl,rfl,_,rfl,aY (fun _ => ?_) (fun z=>absurd (congrArg V.str (dY rfl)) z)⟩
  exact⟨(show 1<=sizeLine by decide),q2 (by rw[hl];rfl) _ bU.refl⟩
 | cons c l0 =>
  rw[hl,sN]at q1 q2
  have t1:(c :: l0).take 1 = [c]:=rfl
  rw[t1]
  have dn:p+1<=tx.length:=by
   have:=congrArg qR hl
   rw[m6,bg]at this
   omega
  have tU:cJ tx (p+1)=l0:=by rw[<- lx,hl];rfl
  refine⟨_,rfl,rfl,_,rfl,aY (fun z=>absurd (u6 z) (by simp)) (fun _ => ?_)⟩
  have num:(c=45∨eI c=true)->xv CR "take_number" (HQ CR cB) [] E (zt 0) sT [some (V.ref r),some (V.int (31 - ((k'+1:Nat):Int))),some (V.str (ia [c])),none] H Q:=fun hc=>by
   rw[if_pos hc]at q1 q2
   refine⟨_,rfl,r,dx,_,rfl,iu,rfl,r,dx,tx,b,p,rfl,⟨iu,hp,hz⟩,fun n l' e a H' p' kb rd' el tr => ?_,fun e H' kb => ?_⟩
   ·rw[hl]at e
    rw[e]at q1
    exact q1 (.num n) l' rfl _ H' p' kb rd' el (by rw[bJ];exact⟨a,rfl,tr⟩)
   ·rw[hl]at e
    rw[e]at q2
    exact q2 rfl H' kb
  refine⟨_,rfl,rfl,_,rfl,aY (fun h45 => ?_) (fun h45 => ?_)⟩
  ·have hc:c=45:=(nX (congrArg (fun z:Str=>z.cps.toList) (V.str.inj h45))).1
   exact gB (num (.inl hc))
  refine⟨_,rfl,_,_,rfl,rfl,_,rfl,?_⟩
  have hf:=nv ("0123456789" : Str) c
  rw[C6]at hf
  rw[show ia [c]=⟨#[c]⟩ from rfl,hf]
  cases aar:eI c with
  | true=>exact gB (num (.inr aar))
  | false =>
   have aeW:c≠45:=fun z=>h45 (by rw[z];exact congrArg V.str (dY rfl))
   rw[if_neg (fun z=>z.elim aeW (by rw[aar];decide))]at q1 q2
   refine eW ?_
   rw[show (⟨#[c]⟩:Str)=ia [c] from rfl]
   have rd:lZ CR H r dx tx b p:=⟨iu,hp,hz⟩
   dsimp only[fe]
   refine DQ (fun bC H' => bC = [some (V.ref r),some (V.int (31 - ((k'+1:Nat):Int))),some (V.str (ia [c])),none]∧H'=H∧¬ (c=63∧b=true)) ?_ (fun key => ?_)
   ·rintro bC H' ⟨rfl,rfl,hno⟩
    rw[if_neg hno]at q1 q2
    refine⟨_,rfl,r,dx,_,rfl,iu,rfl,r,dx,tx,b,p,rfl,rd,fun x l' e => ?_,fun e H' kb => ?_⟩
    ·rw[hl]at e
     rw[e]at q1 q2
     dsimp only at q1 q2
     obtain⟨_,tQ,P4,hx4,hx5⟩:=pw_is e
     rw[<- hl]at tQ P4
     rw[m6]at P4
     rw[lx]at tQ
     dsimp only[bc]
     have nh:lZ CR (aO H' r (jh CR dx tx b (p+x.length))) r dx tx b (p+x.length):=⟨av,by omega,hz⟩
     have tM:bU r H' (aO H' r (jh CR dx tx b (p+x.length))):=bU.put
     generalize aO H' r (jh CR dx tx b (p+x.length))=H3 at nh tM ⊢
     refine⟨_,rfl,r,dx,_,rfl,nh.1,rfl,r,dx,tx,b,p+x.length,rfl,nh,rfl,_,rfl,i0 (fun fo => ?_) (fun heq => ?_)⟩
     ·have hq:=LX (arms:=nU (fE b k')) (x:=x) (l1:=l') (fun z=>fo (by rw[<- tQ,z];exact congrArg V.str (dY rfl)))
      refine⟨_,rfl,(show 2<=sizeLine by decide),fun a ha=>q1 (.name (ia x)) l' hq _ _ (p+x.length) (tM.trans (bU.new ha)) ⟨?_,nh.2⟩ tQ.symm ?_⟩
      ·rw[bh (dC nh.1 ha)];exact nh.1
      ·rw[bJ];exact⟨a,rfl,av⟩
     ·have h40:(cJ tx (p+x.length)).take 1 = [40]:=congrArg (fun z:Str=>z.cps.toList) (V.str.inj heq)
      obtain⟨l2,el2⟩:=Nh h40
      rw[<- tQ]at el2
      subst el2
      rw[UZ]at q1 q2
      have Ca:cJ tx (p+x.length+1)=l2:=by rw[<- lx, <- tQ];rfl
      have u7:p+x.length+1<=tx.length:=by
       have:=congrArg qR tQ
       rw[m6,bg]at this
       omega
      refine⟨_,rfl,r,dx,_,rfl,nh.1,rfl,r,dx,tx,b,p+x.length, "(",rfl,nh,by decide,by decide +kernel,fun _ => ?_,fun hc=>absurd h40 hc⟩
      rw[show ("(" : Str).length=1 from rfl]
      have LR:lZ CR (aO H3 r (jh CR dx tx b (p+x.length+1))) r dx tx b (p+x.length+1):=⟨av,u7,hz⟩
      have D8:bU r H' (aO H3 r (jh CR dx tx b (p+x.length+1))):=tM.trans bU.put
      generalize aO H3 r (jh CR dx tx b (p+x.length+1))=H4 at LR D8 ⊢
      refine⟨_,rfl,_,rfl,r,dx,_,rfl,LR.1,rfl,_,rfl,_,_,rfl,rfl,r,dx,tx,b,p+x.length+1,congrArg (fun z:Int => [V.ref r,V.int z]) (show (31 - ((k'+1:Nat):Int)+1)=31 - (k':Int) by omega),LR,fun ts l5 e5 a us H5 p5 ZK YB el5 ha wL => ?_,fun e5 H5 ZK => ?_⟩
      ·rw[Ca]at e5
       rw[e5]at q1
       refine⟨(show 3<=sizeLine by decide),fun a' JX=>q1 (.of (ia x) ts) l5 rfl _ _ p5 (D8.trans (ZK.trans (bU.new JX))) ⟨?_,YB.2⟩ el5 ?_⟩
       ·rw[bh (dC YB.1 JX)];exact YB.1
       ·rw[bJ]
        exact⟨a',a,us,rfl,av,aD JX _ _ _ ha,xu (aD JX _) wL⟩
      ·rw[Ca]at e5
       rw[e5]at q2
       exact q2 rfl H5 (D8.trans ZK)
    ·rw[hl]at e
     rw[e]at q2
     exact q2 rfl H' kb
   ·refine⟨_,rfl,rfl,_,rfl,aY (fun Cb => ?_) (fun Cb => ?_)⟩
    ·have hc:c=63:=(nX (congrArg (fun z:Str=>z.cps.toList) (V.str.inj Cb))).1
     refine⟨_,rfl,r,CR,dx,_,_,rfl,iu,Z.cR,Z.PL,rfl,_,rfl,?_⟩
     cases b with
     | false=>exact eW (key _ _ ⟨rfl,rfl,fun z=>by cases z.2⟩)
     | true =>
      rw[if_pos ⟨hc,rfl⟩]at q1 q2
      refine gB ⟨_,rfl,r,dx,_,rfl,iu,rfl,r,dx,tx,true,p, "?",rfl,rd,by decide,by decide +kernel,fun _ => ?_,fun h=>absurd (by rw[hl,hc];rfl) h⟩
      rw[show ("?" : Str).length=1 from rfl]
      have nh:lZ CR (aO H r (jh CR dx tx true (p+1))) r dx tx true (p+1):=⟨av,dn,hz⟩
      have tM:bU r H (aO H r (jh CR dx tx true (p+1))):=bU.put
      generalize aO H r (jh CR dx tx true (p+1))=H3 at nh tM ⊢
      refine⟨_,rfl,r,dx,_,rfl,nh.1,rfl,r,dx,tx,true,p+1,rfl,nh,fun x l' e => ?_,fun e H' kb => ?_⟩
      ·rw[tU]at e
       rw[e]at q1
       obtain⟨_,tQ,P4,_,_⟩:=pw_is e
       rw[<- tU]at tQ P4
       rw[m6]at P4
       rw[lx]at tQ
       refine⟨(show 2<=sizeLine by decide),fun a ha=>q1 (.any (ia x)) l' rfl _ _ (p+1+x.length) (tM.trans (bU.put.trans (bU.new ha))) ⟨?_,by omega,hz⟩ tQ.symm ?_⟩
       ·rw[bh (dC av ha),av]
       ·rw[bJ];exact⟨a,rfl,av⟩
      ·rw[tU]at e
       rw[e]at q2
       exact q2 rfl H' (tM.trans kb)
    ·refine eW (key _ _ ⟨rfl,rfl,fun z=>Cb ?_⟩)
     rw[z.1]
     exact congrArg V.str (dY rfl)
theorem L6 (B:hJ mg) (Z:qz K mg CR cB) (gR:gE P w K mg base 1 CR "ahead" ["self"] (sL CR)) (lI:gE P w K mg base 1 CR "take" ["self", "wanted"] (DI CR cB))
  (lO:gE P w K mg base 2 CR "take_word" ["self"] (E8 CR cB)) (lH:gE P w K mg base 2 CR "take_number" ["self"] (HQ CR cB)) (DA:jG K CR "take_arms" "Reader.take_arms" qK ["self", "deep"])
  (D:jG K CR "take_tree" "Reader.take_tree" qJ ["self", "deep"]):∀ k,gE P w K mg base (2 * k+3) CR "take_tree" ["self", "deep"] (DH CR cB k)
 | 0=>by
  obtain⟨f,fd,F,hm,hb⟩:=DA.ex
  have no:gE P w K mg base 2 CR "take_arms" ["self", "deep"] (fun _ _ _ _=>False):=⟨f,fd,⟨fun _ _ _ _ h=>h.elim,fun _ _ _ _ _ _ _ _ _ _ _ _ _ h=>h.elim⟩,hm,hb⟩
  exact Gx (k:=0) B Z (aB 2) (fun k' h=>by cases h) gR lI lO lH no D
 | k+1=>by
  have hA:=Xn B Z (n:=2 * k+3) (k:=k) (by omega) gR lI (L6 B Z gR lI lO lH DA D k) DA
  exact Gx (k:=k+1) (n:=2 * k+3+1) B Z (by omega) (fun k' h=>by cases h;rfl) gR lI lO lH hA D
inductive MP (CR cB:Addr) (vs:List V) (H:Hp) (Q:VK) (E:XK):Prop
 | mk (r dx:Addr) (tx:Str) (b:Bool) (z0:vs = [.ref r]) (z1:lZ CR H r dx tx b 0) (z2:(∀ t,fE b 30 tx.cps.toList=some (t, [])->t.parts<=120->∀ v H',bU r H H'->bJ H' t v->Q v H')) (z3:((∀ t,fE b 30 tx.cps.toList=some (t, [])->120 < t.parts)->∀ H',bU r H H'->E (.ref cB) none H')):MP CR cB vs H Q E
def E7 (CR cB:Addr):Sp:=fun vs H Q E=>MP CR cB vs H Q E
theorem SN (Z:qz K mg CR cB) (acg:∀ b l t r,fE b 30 l=some (t,r)->t.depth<=30) (gR:gE P w K mg base 1 CR "ahead" ["self"] (sL CR)) (qN:gE P w K mg base 63 CR "take_tree" ["self", "deep"] (DH CR cB 30))
  (oH:cS P w K mg base 30 "parts" ["tree"] (Bn 30)) (D:Def K mg "read_whole" sY ["reader"]):f9 P w K mg base 64 "read_whole" ["reader"] (E7 CR cB):=by
 have eK:=Z.eK
 have cR:=Z.cR
 have kH:=Z.kH
 refine D.pe yL (fun vs H Q E h => ?_) (fun f a8 A outer s H vs Q E hr h => ?_)
 ·obtain⟨r,dx,tx,b,rfl,_⟩:=h;rfl
 obtain⟨r,dx,tx,b,rfl,rd,q1,q2⟩:=h
 refine⟨_,(ao (aR (i:=1) yL.nd rfl (aH rfl) (nG qN cR hr (by omega) (eG fun _ _ _ z=>z) (aq 0) (ae ai ag)))
  (ao (a6 (aC nV (oA gR cR hr (by omega) (eG fun _ _ _ z=>z) (aq 0)) ay (aQ _)) (aw (eg eK rfl (fun _ _ _ _ _ _ _ I hx q=>iK I hx q) (ae ay ag) rfl)) aJ)
  (ao (a6 (aC lp (aG oH hr (by omega) rfl (ae (aq 1) ag)) (c8 kH rfl) (aQ _)) (aw (eg eK rfl (fun _ _ _ _ _ _ _ I hx q=>iK I hx q) (ae (gF (cN ay (cN (j5 (c8 kH rfl)) (cN ay lE)))) ag) rfl)) aJ)
  (aw (aW (aq 1)))))),?_⟩
 try dsimp only[bZ]
 have h0:cJ tx 0=tx.cps.toList:=rfl
 refine⟨_,rfl,r,dx,_,rfl,rd.1,rfl,r,dx,tx,b,0,rfl,rd,fun t l1 e1 v H1 p1 GP LS QF UB => ?_,fun e1 H' kb=>q2 (fun t e=>by rw[h0,e]at e1;cases e1) H' kb⟩
 rw[h0]at e1
 refine⟨_,rfl,r,dx,_,rfl,LS.1,rfl,r,dx,tx,b,p1,rfl,LS,rfl,_,rfl,i0 (fun fo => ?_) (fun heq => ?_)⟩
 ·refine⟨(show 1<=sizeLine by decide),q2 (fun t' e => ?_) H1 GP⟩
  rw[e1]at e
  cases e
  exact absurd (by rw[QF];exact congrArg V.str (dY rfl)) fo
 ·have hl:l1 = []:=by
   have:=u6 heq
   rw[QF]at this
   cases l1 with
   | nil=>rfl
   | cons c r=>simp at this
  subst hl
  refine⟨_,rfl,v,t,rfl,UB,acg _ _ _ _ e1,_,_,rfl,rfl,_,rfl,aY (fun h4 => ?_) (fun h4 => ?_)⟩
  ·exact⟨by decide,_,rfl,by decide,_,rfl,by decide,_,rfl,by decide,_,rfl,by decide,fun z=>⟨(show 1<=sizeLine by decide),q2 (fun t' e=>by rw[e1]at e;cases e;omega) H1 GP⟩⟩
  ·exact⟨_,rfl,q1 t e1 (by omega) v H1 GP UB⟩
inductive Rb (cB:Addr) (b:Bool) (vs:List V) (H:Hp) (Q:VK) (E:XK):Prop
 | mk (tx:Str) (z0:vs = [.str tx]) (z1:tx.length<=100000) (z2:(∀ t,fE b 30 tx.cps.toList=some (t, [])->t.parts<=120->∀ v H',aT H H'->bJ H' t v->Q v H')) (z3:((∀ t,fE b 30 tx.cps.toList=some (t, [])->120 < t.parts)->∀ H',aT H H'->E (.ref cB) none H')):Rb cB b vs H Q E
def wo (cB:Addr) (b:Bool):Sp:=fun vs H Q E=>Rb cB b vs H Q E
theorem qI {H H':Hp}{x dx:Addr}{o1 o2:HO} (hx:H x=none) (hd:H dx=none) (k:bU x (aO (aO H dx o1) x o2) H'):aT H H':=fun a o e=>by
 have n1:a≠x:=fun z=>by rw[z,hx]at e;cases e
 have n2:a≠dx:=fun z=>by rw[z,hd]at e;cases e
 exact k a o n1 (by rw[bh n1,bh n2];exact e)
theorem Xh (Z:qz K mg CR cB) (jI:yA P w K mg base 1 "Reader" CR ["self", "text", "with_holes"] (IJ CR)) (tW:f9 P w K mg base 64 "read_whole" ["reader"] (E7 CR cB)) (D:Def K mg "read" IT ["text"]) :
  f9 P w K mg base 65 "read" ["text"] (wo cB false):=by
 refine D.pe Wx (fun vs H Q E h => ?_) (fun f a8 A outer s H vs Q E hr h => ?_)
 ·obtain⟨tx,rfl,_⟩:=h;rfl
 obtain⟨tx,rfl,hz,q1,q2⟩:=h
 refine⟨_,(aw (aW (fJ tW hr (by omega) (eG fun _ _ _ z=>z) rfl (ae (zO jI hr (by omega) (eG fun _ _ _ z=>z) rfl (ae (aq 0) (ae jN ag))) ag)))),?_⟩
 try dsimp only[bZ]
 refine⟨_,rfl,fun x dx hx yW fo=>⟨x,dx,tx,false,rfl,av,rfl,?_⟩⟩
 rw[kr]
 exact⟨x,dx,tx,false,rfl,⟨av,bA _,hz⟩,fun t e hp v H' kb tr=>q1 t e hp v H' (qI hx yW kb) tr,fun h H' kb=>q2 h H' (qI hx yW kb)⟩
theorem DX (Z:qz K mg CR cB) (jI:yA P w K mg base 1 "Reader" CR ["self", "text", "with_holes"] (IJ CR)) (tW:f9 P w K mg base 64 "read_whole" ["reader"] (E7 CR cB)) (D:Def K mg "read_pattern" qg ["text"]) :
  f9 P w K mg base 65 "read_pattern" ["text"] (wo cB true):=by
 refine D.pe DO (fun vs H Q E h => ?_) (fun f a8 A outer s H vs Q E hr h => ?_)
 ·obtain⟨tx,rfl,_⟩:=h;rfl
 obtain⟨tx,rfl,hz,q1,q2⟩:=h
 refine⟨_,(aw (aW (fJ tW hr (by omega) (eG fun _ _ _ z=>z) rfl (ae (zO jI hr (by omega) (eG fun _ _ _ z=>z) rfl (ae (aq 0) (ae jN ag))) ag)))),?_⟩
 try dsimp only[bZ]
 refine⟨_,rfl,fun x dx hx yW fo=>⟨x,dx,tx,true,rfl,av,rfl,?_⟩⟩
 rw[kr]
 exact⟨x,dx,tx,true,rfl,⟨av,bA _,hz⟩,fun t e hp v H' kb tr=>q1 t e hp v H' (qI hx yW kb) tr,fun h H' kb=>q2 h H' (qI hx yW kb)⟩
structure yx (K:aj) (mg:Str->Option Value) (CU d5:Addr):Prop where
 cU:pP K CU
 D4:gD K CU "title"
 Xv:gD K CU "weight"
 ab5:gD K CU "left"
 Zj:gD K CU "right"
 ab6:gD K CU "asks"
 jn:∃ t,mg "LETTERS" = some (.str "abcdefghijklmnopqrstuvwxyz" t)
 jJ:∃ t,mg "MOST_WEIGHT" = some (.int 1000000000000 t)
 fW:∃ t,mg "MOST_RULE_PARTS" = some (.int 12 t)
 ip:∃ t,mg "MOST_LEFT_KNOTS" = some (.int 3 t)
 lS:∃ t,mg "MOST_ASKS" = some (.int 4 t)
 lP:∃ t,mg "MOST_MASK" = some (.int 7 t)
 eX:∃ t,mg "MOST_LETTERS" = some (.int 8 t)
 d9:Exc K mg "NoRule" d5
theorem abw:∀ c,c < 128->¬ (97<=c∧c<=122)->dE ("abcdefghijklmnopqrstuvwxyz" : Str) ⟨#[c]⟩ 0 ("abcdefghijklmnopqrstuvwxyz" : Str).length 1 = []:=by decide +kernel
inductive KC (vs:List V) (H:Hp) (Q:VK):Prop
 | mk (z:Str) (z0:vs = [.str z]) (z1:(∀ c∈z.cps.toList,c < 128)) (z2:z.length<=1000) (z3:∀ b:Bool,(b=true↔dW z)->Q (.bl b) H):KC  vs H Q
def xx:Sp:=fun vs H Q _=>KC  vs H Q
inductive IwI (H:Hp) (z:Str) (i:Nat) (σ : St) (H':Hp):Prop
 | mk (o:Option V) (e : σ = [some (.str z),o]) (eh:H'=H) (al:∀ j c,j < i->z.cps.toList[j]? = some c->97<=c∧c<=122)
theorem NJ (B:hJ mg) (Z:yx K mg CU d5) (D:Def K mg "is_word" zH ["text"]):cS P w K mg base 1 "is_word" ["text"] xx:=by
 have jn:=Z.jn
 have eX:=Z.eX
 refine D.eL DP (fun vs H Q E h => ?_) (fun f a8 A outer s H vs Q E hr h => ?_)
 ·obtain⟨z,rfl,_⟩:=h;rfl
 obtain⟨z,rfl,FK,dX,q⟩:=h
 refine⟨_,(ao (a6 (PW.ji (pw_orQ (aC cb (aq 0) ay (aQ _)) (pw_or1Q (aC lp (b8 kJ rfl B.iC bR (ae (aq 0) ag)) (c8 eX rfl) (aQ _))))) (aw (aW jN)) aJ)
  (ao (iz eO rfl (LZ (aq 0)) (dI (i:=1) DP.nd rfl (aH rfl))
  (aw (a6 (aC zP (aq 1) (mq jn rfl) (by with_unfolding_all rfl)) (aw (aW jN)) aJ)))
  (aw (aW jN)))),?_⟩
 try dsimp only[bZ]
 have N2:z.cps.all (· < 128)=true:=by
  rw[<- Dy]
  exact eU.mpr fun c u9=>decide_eq_true (FK c u9)
 refine jr (fun b Hc=>Hc=H∧(b=true->¬ dW z)∧(b=false->1<=z.length∧z.length<=8)) (fun Qc qc=>⟨_,rfl,rfl,_,rfl,aY (fun e=>qc _ _ ⟨rfl,fun _ w => ?_,fun x=>nomatch x⟩) (fun e=>⟨_,rfl,z,rfl,a9 dX (by decide),_,_,rfl,rfl,_,rfl,qc _ _ ⟨rfl,fun x w => ?_,fun x => ?_⟩⟩)⟩) ?_ ?_
 ·have:=V.str.inj e
  rw[this]at w
  exact absurd w.1 (by decide)
 ·have:=of_decide_eq_true x
  have:=w.2.1
  omega
 ·have:=of_decide_eq_false x
  refine⟨Nat.pos_of_ne_zero fun h0=>e ?_,by omega⟩
  have:z = "" := dY (by
   have:z.cps.toList = []:=jE.mp (by rw[<- bK];exact h0)
   rw[this];rfl)
  rw[this]
 ·rintro Hc ⟨rfl,hn,_⟩
  exact q false ⟨fun x=>(nomatch x),fun w=>absurd w (hn rfl)⟩
 rintro H ⟨rfl,_,hl⟩
 obtain⟨l1,l8⟩:=hl rfl
 dsimp only[fe]
 refine⟨_,rfl,z,rfl,N2,?_⟩
 refine MA (IwI H z) (IwI.mk none rfl rfl fun j c hj=>absurd hj (i6 _)) ?_ ?_
 ·rintro i c σ H' u9 ⟨o,rfl,rfl,al⟩
  dsimp only[bc]
  have hm:=bB u9
  by_cases Mp:97<=c∧c<=122
  ·have e:=XZ (c - 97) (by omega)
   rw[show 97+(c - 97)=c by omega]at e
   refine⟨_,rfl,_,_,rfl,rfl,_,rfl,?_⟩
   rw[e]
   refine eW (IwI.mk _ rfl rfl fun j d hj hd => ?_)
   by_cases ej:j=i
   ·rw[ej,u9]at hd
    cases hd
    exact Mp
   ·exact al j d (by omega) hd
  ·refine⟨_,rfl,_,_,rfl,rfl,_,rfl,?_⟩
   rw[abw c (FK c hm) Mp]
   exact gB (q false ⟨fun x=>(nomatch x),fun w=>absurd (w.2.2 c hm) Mp⟩)
 ·rintro σ H' ⟨o,rfl,rfl,al⟩
  refine q true ⟨fun _=>⟨l1,l8,fun c hc => ?_⟩,fun _=>rfl⟩
  obtain⟨j,hj⟩:=lB hc
  have tV:=(bt.mp hj).1
  exact al j c (by rw[bK];exact tV) hj
theorem kC {z:Str}{hs:List Str}:Vb (.str z) (hs.map V.str)=decide (z∈hs):=by
 unfold Vb
 induction hs with
 | nil=>rfl
 | cons x l ih =>
  rw[b0,jK,ih]
  have e:Av (.str x) (.str z)=decide (x=z):=by
   show (x == z)=_
   rw[j0,beq_iff_eq,decide_eq_true_iff]
  rw[e,j0,pR,decide_eq_true_iff,decide_eq_true_iff,decide_eq_true_iff,aK]
  exact⟨fun h=>h.elim (fun h => .inl h.symm) .inr,fun h=>h.elim (fun h => .inl h.symm) .inr⟩
theorem iT (hs:List Str):(hs.map V.str).all mZ=true:=by
 rw[eU]
 intro y hy
 obtain⟨z,_,rfl⟩:=fD.mp hy
 rfl
def NO:T->Bool
 | .of _ _=>true
 | _=>false
def HZ (l r:T):Prop:=NO l=true∧l.parts<=12∧r.parts<=12∧pT l<=3∧∀ h∈raw r,h∈raw l
theorem tK {t:T}{h:Str}:h∈j6 t []↔h∈raw t:=by unfold j6;rw[JE];simp
inductive Ky (d5:Addr) (vs:List V) (H:Hp) (Q:VK) (E:XK):Prop
 | mk (v u:V) (l r:T) (ev:vs = [v,u]) (hv:bJ H l v) (hu:bJ H r u) (dl:l.depth<=14) (dr:r.depth<=14) (pl:l.parts<=100) (pr:r.parts<=100) (q1:HZ l r->∀ H',aT H H'->Q .b9 H') (q2:¬ HZ l r->∀ H',aT H H'->E (.ref d5) none H'):Ky d5 vs H Q E
def OP (d5:Addr):Sp:=fun vs H Q E=>Ky d5 vs H Q E
inductive RpI (H:Hp) (a:V) (u:V) (l:Addr) (lt:T) (hs:List Str) (i:Nat) (σ : St) (H':Hp):Prop
 | mk (o:Option V) (e : σ = [some a,some u,some (.ref l),o]) (eh:H'=H) (al:∀ j h,j < i->hs[j]? = some h->h∈raw lt)
theorem zT (B:hJ mg) (Z:yx K mg CU d5) (oH:cS P w K mg base 14 "parts" ["tree"] (Bn 14)) (wR:cS P w K mg base 14 "knots" ["pattern"] (Cv 14)) (qt:cS P w K mg base 15 "holes" ["pattern"] (Fd 15))
  (D:Def K mg "refuse_patterns" nk ["left", "right"]):f9 P w K mg base 16 "refuse_patterns" ["left", "right"] (OP d5):=by
 have d9:=Z.d9
 have fW:=Z.fW
 have ip:=Z.ip
 refine D.pe mi (fun vs H Q E h => ?_) (fun f a8 A outer s H vs Q E hr h => ?_)
 ·obtain⟨v,u,l,r,rfl,_⟩:=h;rfl
 obtain⟨v,u,l,r,rfl,hv,hu,dl,dr,pl,pr,q1,q2⟩:=h
 refine⟨_,(ao (a6 (aC nV (aP a7 (aq 0) ai (fun _ _=>rfl)) ay (aQ _)) (aw (eg d9 rfl (fun _ _ _ _ _ _ _ I hx q=>iK I hx q) (ae ay ag) rfl)) aJ)
  (ao (a6 (PW.ji (pw_orQ (aC lp (aG oH hr (by omega) rfl (ae (aq 0) ag)) (c8 fW rfl) (aQ _)) (pw_or1Q (aC lp (aG oH hr (by omega) rfl (ae (aq 1) ag)) (c8 fW rfl) (aQ _))))) (aw (eg d9 rfl (fun _ _ _ _ _ _ _ I hx q=>iK I hx q) (ae (gF (cN ay (cN (j5 (c8 fW rfl)) (cN ay lE)))) ag) rfl)) aJ)
  (ao (a6 (aC lp (aG wR hr (by omega) rfl (ae (aq 0) ag)) (c8 ip rfl) (aQ _)) (aw (eg d9 rfl (fun _ _ _ _ _ _ _ I hx q=>iK I hx q) (ae (gF (cN ay (cN (j5 (c8 ip rfl)) (cN ay lE)))) ag) rfl)) aJ)
  (ao (aR (i:=2) mi.nd rfl (aH rfl) (aG qt hr (by omega) rfl (ae (aq 0) ag)))
  (aw (iz kq rfl (k9 (aG qt hr (by omega) rfl (ae (aq 1) ag))) (dI (i:=3) mi.nd rfl (aH rfl))
  (aw (a6 (aC zQ (aq 3) (aq 2) (by with_unfolding_all rfl)) (aw (eg d9 rfl (fun _ _ _ _ _ _ _ I hx q=>iK I hx q) (ae ay ag) rfl)) aJ)))))))),?_⟩
 try dsimp only[bZ]
 refine jr (fun b Hc=>Hc=H∧(b=true↔¬ NO l=true)) (fun Qc qc => ?_) ?_ ?_
 ·cases l with
  | num n =>
   rw[bJ]at hv
   obtain⟨a,rfl,h⟩:=hv
   exact⟨_,rfl,a,_,0,_,rfl,rfl,aU.of h,ax (j:=0) rfl,rfl,_,rfl,qc _ _ ⟨rfl,⟨fun _ x=>(nomatch x),fun _=>rfl⟩⟩⟩
  | name n =>
   rw[bJ]at hv
   obtain⟨a,rfl,h⟩:=hv
   exact⟨_,rfl,a,_,0,_,rfl,rfl,aU.of h,ax (j:=0) rfl,rfl,_,rfl,qc _ _ ⟨rfl,⟨fun _ x=>(nomatch x),fun _=>rfl⟩⟩⟩
  | any n =>
   rw[bJ]at hv
   obtain⟨a,rfl,h⟩:=hv
   exact⟨_,rfl,a,_,0,_,rfl,rfl,aU.of h,ax (j:=0) rfl,rfl,_,rfl,qc _ _ ⟨rfl,⟨fun _ x=>(nomatch x),fun _=>rfl⟩⟩⟩
  | of x ts =>
   rw[bJ]at hv
   obtain⟨a,b,vs,rfl,h,_⟩:=hv
   exact⟨_,rfl,a,_,0,_,rfl,rfl,aU.of h,ax (j:=0) rfl,rfl,_,rfl,qc _ _ ⟨rfl,⟨fun x=>(nomatch x),fun x=>absurd rfl x⟩⟩⟩
 ·rintro Hc ⟨rfl,hn⟩
  exact⟨(show 1<=sizeLine by decide),q2 (fun p=>hn.mp rfl p.1) _ (aT.refl _)⟩
 rintro H ⟨rfl,Vo⟩
 have Vo:NO l=true:=by
  cases e:NO l with
  | true=>rfl
  | false=>rw[e]at Vo;exact absurd (Vo.mpr (by decide)) (by decide)
 dsimp only[fe]
 refine jr (fun b Hc=>Hc=H∧(b=true↔¬ (l.parts<=12∧r.parts<=12))) (fun Qc qc=>⟨_,rfl,v,l,rfl,hv,dl,_,_,rfl,rfl,_,rfl,aY (fun e=>qc _ _ ⟨rfl,⟨fun _ x=>by omega,fun _=>rfl⟩⟩) (fun e=>⟨_,rfl,u,r,rfl,hu,dr,_,_,rfl,rfl,_,rfl,qc _ _ ⟨rfl,?_⟩⟩)⟩) ?_ ?_
 ·rw[decide_eq_true_iff]
  exact⟨fun x y=>by omega,fun x=>by omega⟩
 ·rintro Hc ⟨rfl,hn⟩
  exact⟨by decide,_,rfl,by decide,_,rfl,by decide,_,rfl,by decide,_,rfl,by decide,fun zz=>⟨(show 1<=sizeLine by decide),q2 (fun p=>hn.mp rfl ⟨p.2.1,p.2.2.1⟩) _ (aT.refl _)⟩⟩
 rintro H ⟨rfl,Vn⟩
 have Vn:l.parts<=12∧r.parts<=12:=me fun c=>nomatch Vn.mpr c
 dsimp only[fe]
 refine⟨_,rfl,v,l,rfl,hv,dl,_,_,rfl,rfl,_,rfl,aY (fun e => ?_) (fun e => ?_)⟩
 ·exact⟨by decide,_,rfl,by decide,_,rfl,by decide,_,rfl,by decide,_,rfl,by decide,fun zz=>⟨(show 1<=sizeLine by decide),q2 (fun p=>by have:=p.2.2.2.1;omega) _ (aT.refl _)⟩⟩
 dsimp only[fe]
 refine⟨_,rfl,v,l,rfl,hv,(by omega),(by omega),fun lh H1 s1 hlh => ?_⟩
 dsimp only[bc]
 refine⟨_,rfl,u,r,rfl,bP s1 hu,(by omega),(by omega),fun rh H2 s2 hrh=>⟨rh,rfl,⟨_,b6.of hrh⟩,?_⟩⟩
 have aeE:=s2 _ _ hlh
 have g2:=s1.trans s2
 refine yl (xs:=(j6 r []).map V.str) (RpI H2 v u lh l (j6 r [])) (RpI.mk none rfl rfl fun j h hj=>absurd hj (i6 _)) ?_ ?_ ?_
 ·rintro i σ H' _ ⟨o,rfl,rfl,_⟩
  exact b6.of hrh
 ·rintro i y σ H' hy ⟨o,rfl,rfl,al⟩
  rw[cf]at hy
  obtain⟨h,hh,rfl⟩:=nQ.mp hy
  dsimp only[bc]
  refine⟨_,rfl,_,rfl,lh,_,rfl,.inl (b6.of aeE),rfl,iT _,_,rfl,?_⟩
  rw[if_pos rfl,kC]
  by_cases hm:h∈j6 l []
  ·rw[decide_eq_true hm]
   refine eW (RpI.mk _ rfl rfl fun j d hj hd => ?_)
   by_cases ej:j=i
   ·rw[ej,hh]at hd
    cases hd
    exact tK.mp hm
   ·exact al j d (by omega) hd
  ·rw[decide_eq_false hm]
   exact gB ⟨(show 1<=sizeLine by decide),q2 (fun p=>hm (tK.mpr (p.2.2.2.2 h (tK.mp (bB hh))))) _ g2⟩
 ·rintro σ H' ⟨o,rfl,rfl,al⟩
  refine q1 ⟨Vo,Vn.1,Vn.2,by omega,fun h hh => ?_⟩ _ g2
  obtain⟨j,hj⟩:=lB (tK.mpr hh)
  have tV:=(bt.mp hj).1
  exact al j h (by rw[aA];exact tV) hj
inductive Ask where
 | free (h z:Str)
 | sign (h:Str) (m:Int)
 | num (h:Str)
def Ask.hole:Ask->Str
 | .free h _=>h
 | .sign h _=>h
 | .num h=>h
def iO (H:Hp) (v:V):Ask->Prop
 | .free h z=>∃ a,v = .ref a∧H a=some (.tup [.str "free",.str h,.str z])
 | .sign h m=>∃ a,v = .ref a∧H a=some (.tup [.str "sign",.str h,.int m])
 | .num h=>∃ a,v = .ref a∧H a=some (.tup [.str "number",.str h])
theorem iO.keep {H H':Hp}{v:V}{a:Ask} (k:∀ b ys,H b=some (.tup ys)->H' b=some (.tup ys)) (h:iO H v a):iO H' v a:=by
 cases a with
 | free x z=>obtain⟨b,e,h⟩:=h;exact⟨b,e,k _ _ h⟩
 | sign x m=>obtain⟨b,e,h⟩:=h;exact⟨b,e,k _ _ h⟩
 | num x=>obtain⟨b,e,h⟩:=h;exact⟨b,e,k _ _ h⟩
def Cq (z:Str):Prop:=(∀ c∈z.cps.toList,c < 128)∧z.length<=1000
theorem Mg {z:Str} (h:dW z):Cq z:=⟨fun c hc=>by have:=h.2.2 c hc;omega,by have:=h.2.1;omega⟩
def Us:Ask->Prop
 | .free _ z=>Cq z
 | _=>True
def BE (bs:List Str):Ask->Prop
 | .free h z=>h∈bs∧dW z
 | .sign h m=>h∈bs∧1<=m∧m<=7
 | .num h=>h∈bs
def K5 (bs:List Str) (as:List Ask):Prop:=as.length<=4∧∀ a∈as,BE bs a
theorem jO {α β : Type}{R : α -> β -> Prop}:∀ {xs:List α}{ys:List β}{i:Nat}{x : α},Paired R xs ys->xs[i]? = some x->∃ y,ys[i]? = some y∧R x y
 | _,_,_,_,.nil,h=>by simp at h
 | _,_,0,_,.cons r _,h=>⟨_,rfl,by simp at h;rw[<- h];exact r⟩
 | _,_,i+1,_,.cons _ t,h=>by
  obtain⟨y,hy,r⟩:=jO (i:=i) t (by simpa using h)
  exact⟨y,by simpa using hy,r⟩
inductive Kz (d5:Addr) (vs:List V) (H:Hp) (Q:VK) (E:XK):Prop
 | mk (A L:Addr) (cu:List V) (as:List Ask) (bs:List Str) (ev:vs = [.ref A,.ref L]) (hA:H A=some (.lst cu)) (hp:Paired (iO H) cu as) (ha:∀ a∈as,Us a) (hL:H L=some (.lst (bs.map V.str))) (vf:as.length<=100) (q1:K5 bs as->Q .b9 H) (q2:¬ K5 bs as->E (.ref d5) none H):Kz d5 vs H Q E
def OQ (d5:Addr):Sp:=fun vs H Q E=>Kz d5 vs H Q E
inductive Rm (H:Hp) (A L:Addr) (as:List Ask) (bs:List Str) (i:Nat) (σ : St) (H':Hp):Prop
 | mk (o:Option V) (e : σ = [some (.ref A),some (.ref L),o]) (eh:H'=H) (al:∀ j a,j < i->as[j]? = some a->BE bs a)
theorem Fx (B:hJ mg) (Z:yx K mg CU d5) (jQ:cS P w K mg base 1 "is_word" ["text"] xx) (D:Def K mg "refuse_asks" rD ["asks", "bound"]):f9 P w K mg base 2 "refuse_asks" ["asks", "bound"] (OQ d5):=by
 have d9:=Z.d9
 have lS:=Z.lS
 have lP:=Z.lP
 refine D.pe wq (fun vs H Q E h => ?_) (fun f a8 A outer s H vs Q E hr h => ?_)
 ·obtain⟨A,L,cu,as,bs,rfl,_⟩:=h;rfl
 obtain⟨A,L,cu,as,bs,rfl,hA,hp,TK,hL,vf,q1,q2⟩:=h
 refine⟨_,(ao (a6 (aC lp (b8 cO rfl B.iC bR (ae (aq 0) ag)) (c8 lS rfl) (aQ _)) (aw (eg d9 rfl (fun _ _ _ _ _ _ _ I hx q=>iK I hx q) (ae (gF (cN ay (cN (j5 (c8 lS rfl)) (cN ay lE)))) ag) rfl)) aJ)
  (aw (iz kq rfl (k9 (aq 0)) (dI (i:=2) wq.nd rfl (aH rfl))
  (ao (a6 (aC zQ (aP a7 (aq 2) ai (fun _ _=>rfl)) (aq 1) (by with_unfolding_all rfl)) (aw (eg d9 rfl (fun _ _ _ _ _ _ _ I hx q=>iK I hx q) (ae ay ag) rfl)) aJ)
  (ao (a6 (PW.ji (pw_andQ (aC cb (aP a7 (aq 2) ai (fun _ _=>rfl)) ay (aQ _)) (pw_and1Q (sM (lK (aG jQ hr (by omega) rfl (ae (aP a7 (aq 2) ai (fun _ _=>rfl)) ag))))))) (aw (eg d9 rfl (fun _ _ _ _ _ _ _ I hx q=>iK I hx q) (ae ay ag) rfl)) aJ)
  (aw (a6 (PW.ji (pw_andQ (aC cb (aP a7 (aq 2) ai (fun _ _=>rfl)) ay (aQ _)) (pw_and1Q (PW.ji (pw_orQ (aC ll (aP a7 (aq 2) ai (fun _ _=>rfl)) ai (aQ _)) (pw_or1Q (aC lp (aP a7 (aq 2) ai (fun _ _=>rfl)) (c8 lP rfl) (aQ _)))))))) (aw (eg d9 rfl (fun _ _ _ _ _ _ _ I hx q=>iK I hx q) (ae (gF (cN ay (cN (j5 (c8 lP rfl)) lE))) ag) rfl)) aJ))))))),?_⟩
 try dsimp only[bZ]
 have fu:=dw hp
 refine⟨_,rfl,A,cu,rfl,.inl (b6.of hA),_,_,rfl,rfl,_,rfl,aY (fun e => ?_) (fun e => ?_)⟩
 ·exact⟨by decide,_,rfl,by decide,_,rfl,by decide,_,rfl,by decide,_,rfl,by decide,fun zz=>⟨(show 1<=sizeLine by decide),q2 fun p=>by have:=p.1;omega⟩⟩
 have h4:as.length<=4:=by omega
 dsimp only[fe]
 refine⟨_,rfl,A,rfl,⟨_,b6.of hA⟩,?_⟩
 refine yl (xs:=cu) (Rm H A L as bs) (Rm.mk none rfl rfl fun j a hj=>absurd hj (i6 _)) ?_ ?_ ?_
 ·rintro i σ H' _ ⟨o,rfl,rfl,_⟩
  exact b6.of hA
 ·rintro i y σ H' hy ⟨o,rfl,rfl,al⟩
  obtain⟨k,hk,ha⟩:=jO hp hy
  have Vr:=bB hk
  have Zg:BE bs k->∀ j a,j < i+1->as[j]? = some a->BE bs a:=fun ok j a hj hja=>by
   by_cases ej:j=i
   ·rw[ej,hk]at hja
    cases hja
    exact ok
   ·exact al j a (by omega) hja
  have no:¬ BE bs k->E (.ref d5) none H':=fun n=>q2 fun p=>n (p.2 k Vr)
  dsimp only[bc]
  cases k with
  | free x z =>
   obtain⟨a,rfl,h⟩:=ha
   refine⟨_,rfl,a,_,1,_,rfl,rfl,aU.of h,ax (j:=1) rfl,_,rfl,L,_,rfl,.inl (b6.of hL),rfl,iT bs,_,rfl,?_⟩
   rw[if_pos rfl,kC]
   by_cases hx:x∈bs
   ·rw[decide_eq_true hx]
    refine eW ?_
    dsimp only[fe]
    obtain⟨z1,z2⟩:=(show Cq z from TK _ Vr)
    refine⟨_,rfl,a,_,0,_,rfl,rfl,aU.of h,ax (j:=0) rfl,rfl,_,rfl,aY (fun _ => ?_) (fun z=>absurd rfl z)⟩
    refine⟨_,rfl,a,_,2,_,rfl,rfl,aU.of h,ax (j:=2) rfl,z,rfl,z1,z2,fun b hb=>⟨_,rfl,?_⟩⟩
    cases b with
    | false=>exact gB ⟨(show 1<=sizeLine by decide),no fun p=>nomatch hb.mpr p.2⟩
    | true =>
     refine eW ?_
     dsimp only[fe]
     exact⟨_,rfl,a,_,0,_,rfl,rfl,aU.of h,ax (j:=0) rfl,rfl,_,rfl,aY (fun z=>absurd (V.str.inj z) (by decide)) (fun _=>eW (Rm.mk _ rfl rfl (Zg ⟨hx,hb.mp rfl⟩)))⟩
   ·rw[decide_eq_false hx]
    exact gB ⟨(show 1<=sizeLine by decide),no fun p=>hx p.1⟩
  | sign x m =>
   obtain⟨a,rfl,h⟩:=ha
   refine⟨_,rfl,a,_,1,_,rfl,rfl,aU.of h,ax (j:=1) rfl,_,rfl,L,_,rfl,.inl (b6.of hL),rfl,iT bs,_,rfl,?_⟩
   rw[if_pos rfl,kC]
   by_cases hx:x∈bs
   ·rw[decide_eq_true hx]
    refine eW ?_
    dsimp only[fe]
    refine⟨_,rfl,a,_,0,_,rfl,rfl,aU.of h,ax (j:=0) rfl,rfl,_,rfl,aY (fun z=>absurd (V.str.inj z) (by decide)) (fun _=>eW ?_)⟩
    dsimp only[fe]
    refine⟨_,rfl,a,_,0,_,rfl,rfl,aU.of h,ax (j:=0) rfl,rfl,_,rfl,aY (fun _ => ?_) (fun z=>absurd rfl z)⟩
    refine⟨_,rfl,a,_,2,_,rfl,rfl,aU.of h,ax (j:=2) rfl,_,_,rfl,rfl,_,rfl,aY (fun z=>gB ?_) (fun z1 => ?_)⟩
    ·exact⟨by decide,_,rfl,by decide,_,rfl,by decide,_,rfl,by decide,fun zz=>⟨(show 1<=sizeLine by decide),no fun p=>by have:=p.2.1;omega⟩⟩
    refine⟨_,rfl,a,_,2,_,rfl,rfl,aU.of h,ax (j:=2) rfl,_,_,rfl,rfl,_,rfl,aY (fun z => ?_) (fun z2=>Rm.mk _ rfl rfl (Zg ⟨hx,by omega,by omega⟩))⟩
    exact⟨by decide,_,rfl,by decide,_,rfl,by decide,_,rfl,by decide,fun zz=>⟨(show 1<=sizeLine by decide),no fun p=>by have:=p.2.2;omega⟩⟩
   ·rw[decide_eq_false hx]
    exact gB ⟨(show 1<=sizeLine by decide),no fun p=>hx p.1⟩
  | num x =>
   obtain⟨a,rfl,h⟩:=ha
   refine⟨_,rfl,a,_,1,_,rfl,rfl,aU.of h,ax (j:=1) rfl,_,rfl,L,_,rfl,.inl (b6.of hL),rfl,iT bs,_,rfl,?_⟩
   rw[if_pos rfl,kC]
   by_cases hx:x∈bs
   ·rw[decide_eq_true hx]
    refine eW ?_
    dsimp only[fe]
    refine⟨_,rfl,a,_,0,_,rfl,rfl,aU.of h,ax (j:=0) rfl,rfl,_,rfl,aY (fun z=>absurd (V.str.inj z) (by decide)) (fun _=>eW ?_)⟩
    dsimp only[fe]
    exact⟨_,rfl,a,_,0,_,rfl,rfl,aU.of h,ax (j:=0) rfl,rfl,_,rfl,aY (fun z=>absurd (V.str.inj z) (by decide)) (fun _=>eW (Rm.mk _ rfl rfl (Zg hx)))⟩
   ·rw[decide_eq_false hx]
    exact gB ⟨(show 1<=sizeLine by decide),no fun p=>hx p⟩
 ·rintro σ H' ⟨o,rfl,rfl,al⟩
  refine q1 ⟨h4,fun a ha => ?_⟩
  obtain⟨j,hj⟩:=lB ha
  have tV:=(bt.mp hj).1
  exact al j a (by omega) hj
def Ex (z:Str) (wt:Int) (l r:T) (as:List Ask):Prop:=dW z∧(1<=wt∧wt<=1000000000000)∧HZ l r∧K5 (j6 l []) as
inductive BB (CU d5:Addr) (vs:List V) (H:Hp) (Q:VK) (E:XK):Prop
 | mk (o dx A:Addr) (z:Str) (wt:Int) (vl vr:V) (l r:T) (cu:List V) (as:List Ask) (ev:vs = [.ref o,.str z,.int wt,vl,vr,.ref A]) (ho:H o=some (.ins CU dx [])) (hz:Cq z) (hl:bJ H l vl) (hr:bJ H r vr) (dl:l.depth<=14) (dr:r.depth<=14) (pl:l.parts<=100) (pr:r.parts<=100)
  (hA:H A=some (.lst cu)) (hp:Paired (iO H) cu as) (ha:∀ a∈as,Us a) (vf:as.length<=100)
  (q1:Ex z wt l r as->∀ H' A2,(∀ b u,b≠o->H b=some u->H' b=some u)->H A2=none->H' A2=some (.lst cu)->H' o=some (.ins CU dx [("title",.str z),("weight",.int wt),("left",vl),("right",vr),("asks",.ref A2)])->Q .b9 H')
  (q2:¬ Ex z wt l r as->∀ H',aT H H'->E (.ref d5) none H'):BB CU d5 vs H Q E
def LB (CU d5:Addr):Sp:=fun vs H Q E=>BB CU d5 vs H Q E
theorem SS (B:hJ mg) (Z:yx K mg CU d5) (jQ:cS P w K mg base 1 "is_word" ["text"] xx) (nq:f9 P w K mg base 16 "refuse_patterns" ["left", "right"] (OP d5)) (rK:f9 P w K mg base 2 "refuse_asks" ["asks", "bound"] (OQ d5)) (qt:cS P w K mg base 15 "holes" ["pattern"] (Fd 15))
  (D:yD K mg "Rule" CU "Rule.__init__" qf ["self", "title", "weight", "left", "right", "asks"]):yA P w K mg base 17 "Rule" CU ["self", "title", "weight", "left", "right", "asks"] (LB CU d5):=by
 have d9:=Z.d9
 have jJ:=Z.jJ
 refine D.eL R1 (fun vs H Q E h => ?_) (fun f a8 A outer s H vs Q E hr h => ?_)
 ·obtain⟨o,dx,A,z,wt,vl,vr,l,r,cu,as,rfl,_⟩:=h;rfl
 obtain⟨o,dx,A,z,wt,vl,vr,l,r,cu,as,rfl,ho,hz,hl,yU,dl,dr,pl,pr,hA,hp,TK,vf,q,q2⟩:=h
 refine⟨_,(ao (a6 (sM (lK (aG jQ hr (by omega) rfl (ae (aq 1) ag)))) (aw (eg d9 rfl (fun _ _ _ _ _ _ _ I hx q=>iK I hx q) (ae ay ag) rfl)) aJ)
  (ao (a6 (PW.ji (pw_orQ (aC ll (aq 2) ai (aQ _)) (pw_or1Q (aC lp (aq 2) (c8 jJ rfl) (aQ _))))) (aw (eg d9 rfl (fun _ _ _ _ _ _ _ I hx q=>iK I hx q) (ae (gF (cN ay (cN (j5 (c8 jJ rfl)) lE))) ag) rfl)) aJ)
  (ao (fh (fJ nq hr (by omega) (eG fun _ _ _ z=>z) rfl (ae (aq 3) (ae (aq 4) ag))))
  (ao (fh (fJ rK hr (by omega) (eG fun _ _ _ z=>z) rfl (ae (aq 5) (ae (aG qt hr (by omega) rfl (ae (aq 3) ag)) ag))))
  (ao (mP (aq 0) (aq 1) rfl)
  (ao (mP (aq 0) (aq 2) rfl)
  (ao (mP (aq 0) (aq 3) rfl)
  (ao (mP (aq 0) (aq 4) rfl)
  (aw (mP (aq 0) (gG Kp rfl B.NL yu (ae (aq 5) ag)) rfl)))))))))),?_⟩
 try dsimp only[bZ]
 refine⟨_,rfl,z,rfl,hz.1,hz.2,fun b hb=>⟨_,rfl,?_⟩⟩
 cases b with
 | false=>exact gB ⟨(show 1<=sizeLine by decide),q2 (fun p=>nomatch hb.mpr p.1) _ (aT.refl _)⟩
 | true =>
 have hw:dW z:=hb.mp rfl
 refine eW ?_
 dsimp only[fe]
 refine⟨_,rfl,_,_,rfl,rfl,_,rfl,aY (fun e=>gB ?_) (fun e1=>⟨_,rfl,_,_,rfl,rfl,_,rfl,aY (fun e => ?_) (fun e2 => ?_)⟩)⟩
 ·exact⟨by decide,_,rfl,by decide,_,rfl,by decide,_,rfl,by decide,fun zz=>⟨(show 1<=sizeLine by decide),q2 (fun p=>by have:=p.2.1.1;omega) _ (aT.refl _)⟩⟩
 ·exact⟨by decide,_,rfl,by decide,_,rfl,by decide,_,rfl,by decide,fun zz=>⟨(show 1<=sizeLine by decide),q2 (fun p=>by have:=p.2.1.2;omega) _ (aT.refl _)⟩⟩
 have w12:1<=wt∧wt<=1000000000000:=⟨by omega,by omega⟩
 dsimp only[fe]
 refine⟨_,rfl,_,rfl,Ky.mk vl vr l r rfl hl yU dl dr pl pr (fun pok H1 s1 => ?_) (fun n H' s'=>q2 (fun p=>n p.2.2.1) _ s')⟩
 refine⟨_,rfl,_,rfl,vl,l,rfl,bP s1 hl,(by omega),(by omega),fun lh H2 s2 hlh => ?_⟩
 have g2:=s1.trans s2
 refine Kz.mk A lh cu as (j6 l []) rfl (g2 _ _ hA) (Paired.j7 hp fun _ _ y=>y.keep fun b ys=>g2 _ _) TK hlh vf (fun aok => ?_) (fun n=>q2 (fun p=>n p.2.2.2) _ g2)
 have ho2:=g2 _ _ ho
 have hAo:A≠o:=u5 hA ho (fun z=>nomatch z)
 have k2:∀ b u,b≠o->H b=some u->H2 b=some u:=fun b u _ h=>g2 _ _ h
 have f2:∀ b,H2 b=none->H b=none:=fun b h=>g2.free h
 refine⟨_,rfl,_,rfl,o,CU,dx,_,rfl,ho2,Z.cU,Z.D4,by decide,?_⟩
 refine⟨_,rfl,_,rfl,o,CU,dx,_,rfl,av,Z.cU,Z.Xv,(show 1 < 1000 by decide),?_⟩
 rw[kr]
 refine⟨_,rfl,_,rfl,o,CU,dx,_,rfl,av,Z.cU,Z.ab5,(show 2 < 1000 by decide),?_⟩
 rw[kr]
 refine⟨_,rfl,_,rfl,o,CU,dx,_,rfl,av,Z.cU,Z.Zj,(show 3 < 1000 by decide),?_⟩
 rw[kr]
 refine⟨_,rfl,A,cu,rfl,.inl (b6.of (by rw[bh hAo];exact g2 _ _ hA)),fun A2 ra => ?_⟩
 have TN:A2≠o:=fun e=>by rw[e,av]at ra;cases ra
 have aaP:H A2=none:=f2 _ (by rw[bh TN]at ra;exact ra)
 refine⟨_,rfl,o,CU,dx, [("title",.str z),("weight",.int wt),("left",vl),("right",vr)],rfl,(by rw[bh (cK TN),av];rfl),Z.cU,Z.ab6,(show 4 < 1000 by decide),?_⟩
 refine q ⟨hw,w12,pok,aok⟩ _ A2 (fun b u n h => ?_) aaP ?_ av
 ·rw[bh n,bh (dC h aaP),bh n];exact k2 b u n h
 ·rw[bh TN];exact av
theorem rj {xs:List V}{i:Int} (h0:0<=i) (h1:i < xs.length):∃ v,nK xs i=some v∧v∈xs:=by
 have hi:i.toNat < xs.length:=by omega
 have z:nK xs ((i.toNat:Nat):Int)=some xs[i.toNat]:=ax (aF hi)
 rw[show ((i.toNat:Nat):Int)=i by omega]at z
 exact⟨_,z,lA hi⟩
theorem Me (ss:List Str):uq ", " ss=bw ", " ss:=by
 unfold uq
 rw[wZ]
theorem E4 {ss:List Str}{M:Nat} (h:∀ s∈ss,s.length<=M):(bw ", " ss).length<=ss.length * (M+2):=by
 have h1:=kc ", " ss
 have h2:∀ ss:List Str,(∀ s∈ss,s.length<=M)->(ss.map (·.length)).sum<=ss.length * M:=fun ss=>by
  induction ss with
  | nil=>intro _;exact bA _
  | cons u ss ih =>
   intro hu
   have z:=ih fun v hv=>hu v (aL _ hv)
   have zu:=hu u aV
   rw[b0,nW,bg,Nat.succ_mul]
   omega
 have h3:=h2 ss h
 have e2:(", " : Str).length=2:=rfl
 rw[e2]at h1
 rw[Nat.mul_add]
 omega
theorem FA {M:Nat}:∀ {ss:List Str},(∀ s∈ss,s.length<=M)->(ss.map (·.length)).sum<=ss.length * M
 | [],_=>bA _
 | s :: ss,h=>by
  have z:=FA (ss:=ss) fun v hv=>h v (aL _ hv)
  have zs:=h s aV
  rw[b0,nW,bg,Nat.succ_mul]
  omega
def sD:List Str := ["-", "0", "-0", "+", "-+", "0+", "-0+"]
def fM (m:Int):Str:=sD.getD (m - 1).toNat ""
def ju:Ask->Str
 | .free h z => "free ?" ++ h ++ " " ++ z
 | .sign h m => "sign ?" ++ h ++ " " ++ fM m
 | .num h => "number ?" ++ h
structure Dw (bs:List Str) (a:Ask):Prop where
 ok:BE bs a
 w:dW a.hole
theorem Td (m:Int):(fM m).length<=3:=by
 unfold fM
 rw[cG]
 cases h:sD[(m - 1).toNat]? with
 | none=>exact bA _
 | some z =>
  have:∀ z∈sD,z.length<=3:=by decide +kernel
  exact this z (bB h)
def qV (z:Str) (wt:Int) (l r:T):Str:=z ++ " " ++ aI (toString wt) ++ ": " ++ l.shown ++ " = " ++ r.shown
def jM (z:Str) (wt:Int) (l r:T) (as:List Ask):Str:=if 0 < as.length then qV z wt l r ++ " if " ++ bw ", " (as.map ju) else qV z wt l r
structure i5 (z:Str) (wt:Int) (l r:T) (as:List Ask):Prop where
 ok:Ex z wt l r as
 l_:l.Ok
 r_:r.Ok
 dl:l.depth<=14
 dr:r.depth<=14
 ws:∀ a∈as,dW a.hole
 hw:∀ h∈raw l,dW h
structure yC (H:Hp) (d:Addr) (z:Str) (wt:Int) (vl vr:V) (l r:T) (AL:Addr) (cu:List V) (as:List Ask):Prop where
 hd:H d=some (.tup [.str z,.int wt,vl,vr,.ref AL])
 hl:bJ H l vl
 hr:bJ H r vr
 hA:H AL=some (.lst cu)
 hp:Paired (iO H) cu as
theorem kX {H H':Hp}{cu:List V}{as:List Ask} (s:aT H H') (h:Paired (iO H) cu as):Paired (iO H') cu as:=Paired.j7 h fun _ _ z=>z.keep fun b ys=>s _ _
theorem yC.same {H H':Hp}{d:Addr}{z:Str}{wt:Int}{vl vr:V}{l r:T}{AL:Addr}{cu:List V}{as:List Ask} (s:aT H H') (h:yC H d z wt vl vr l r AL cu as):yC H' d z wt vl vr l r AL cu as:=⟨s _ _ h.hd,bP s h.hl,bP s h.hr,s _ _ h.hA,kX s h.hp⟩
theorem il {t:T} (h:t.Ok) (hp:t.parts<=12):t.shown.length<=838:=by
 have:=zC t h
 omega
theorem yw {bs:List Str}{a:Ask} (h:Dw bs a):(ju a).length<=23:=by
 have h8:=h.w.2.1
 cases a with
 | free x z =>
  have h8':x.length<=8:=h8
  have:=h.ok.2.2.1
  show ("free ?" ++ x ++ " " ++ z:Str).length<=23
  rw[au,au,au]
  show 6+x.length+1+z.length<=23
  omega
 | sign x m =>
  have h8':x.length<=8:=h8
  have:=Td m
  show ("sign ?" ++ x ++ " " ++ fM m:Str).length<=23
  rw[au,au,au]
  show 6+x.length+1+(fM m).length<=23
  omega
 | num x =>
  have h8':x.length<=8:=h8
  show ("number ?" ++ x:Str).length<=23
  rw[au]
  show 8+x.length<=23
  omega
def O0 (z:Str) (wt:Int) (vl vr:V) (A:Addr):List (Str × V) := [("title",.str z),("weight",.int wt),("left",vl),("right",vr),("asks",.ref A)]
theorem i5.AH {z:Str}{wt:Int}{l r:T}{as:List Ask} (g:i5 z wt l r as) {a:Ask} (h:a∈as):Dw (j6 l []) a:=⟨g.ok.2.2.2.2 a h,g.ws a h⟩
theorem i5.vf {z:Str}{wt:Int}{l r:T}{as:List Ask} (g:i5 z wt l r as):as.length<=4:=g.ok.2.2.2.1
theorem i5.pl {z:Str}{wt:Int}{l r:T}{as:List Ask} (g:i5 z wt l r as):l.parts<=12:=g.ok.2.2.1.2.1
theorem i5.pr {z:Str}{wt:Int}{l r:T}{as:List Ask} (g:i5 z wt l r as):r.parts<=12:=g.ok.2.2.1.2.2.1
theorem Wq {ys:List V}{ss:List Str} (h:Paired (fun v (s:Str)=>v=V.str s) ys ss):ys=ss.map V.str:=by
 induction h with
 | nil=>rfl
 | cons e _ ih=>rw[e,ih];rfl
theorem qj {v:V}{i:Nat}{rest:TS}{D:Ends}{σ : St}{H:Hp} (h:rest D (σ.set i (some v)) H):oS (zw (tC v) (bc i)) rest D σ H:=h
def tJ (m:Int):Nat->Str
 | 0 => ""
 | i+1=>if xn m (1 * 2 ^ i)≠0 then tJ m i ++ ⟨#[("-0+" : Str).cps.toList.getD i 0]⟩ else tJ m i
theorem Zm {m:Int} (h1:1<=m) (h7:m<=7):tJ m 3=fM m:=by
 rcases(by omega:m=1∨m=2∨m=3∨m=4∨m=5∨m=6∨m=7) with rfl | rfl | rfl | rfl | rfl | rfl | rfl <;> decide +kernel
theorem L9 (m:Int):∀ i,(tJ m i).length<=i
 | 0=>bA _
 | i+1=>by
  have:=L9 m i
  rw[tJ]
  split
  ·rw[au]
   show (tJ m i).length+1<=i+1
   omega
  ·omega
inductive Rc (vs:List V) (H:Hp) (Q:VK):Prop
 | mk (m:Int) (z0:vs = [.int m]) (z1:1<=m) (z2:m<=7) (z3:∀ H',aT H H'->Q (.str (fM m)) H'):Rc  vs H Q
def OT:Sp:=fun vs H Q _=>Rc  vs H Q
inductive Rp (H:Hp) (m:Int) (i:Nat) (σ : St) (H':Hp):Prop
 | mk (x2 x3:Option V) (e : σ = [some (.int m),some (.str (tJ m i)),x2,x3]) (sm:aT H H'):Rp H m i σ H'
theorem Jq (B:hJ mg) (kI:∃ t,mg "MASK_SIGNS" = some (.str "-0+" t)) (D:Def K mg "show_mask" vD ["mask"]):cS P w K mg base 1 "show_mask" ["mask"] OT:=by
 refine D.eL mh (fun vs H Q E h => ?_) (fun f a8 A outer s H vs Q E hr h => ?_)
 ·obtain⟨m,rfl,_⟩:=h;rfl
 obtain⟨m,rfl,h1,h7,q⟩:=h
 refine⟨_,(ao (aR (i:=1) mh.nd rfl (aH rfl) ay)
  (ao (iz eO rfl (GJ rfl B.yo (ae (mq kI rfl) ag)) (Fu rfl (oz (dI (i:=2) mh.nd rfl (aH rfl)) (oz (dI (i:=3) mh.nd rfl (aH rfl)) Ft)))
  (aw (a6 (O6 (aX Y9 (aq 0) (aX Pq ai (aq 2))) (fun _=>rfl)) (aw (Fs (i:=1) mh.nd rfl (aH rfl) (aq 3) XC)) aJ)))
  (aw (aW (aq 1))))),?_⟩
 try dsimp only[bZ]
 refine qj ?_
 refine⟨"-0+",rfl,by decide +kernel,?_⟩
 refine G4 (Rp H m) (Rp.mk none none rfl (aT.refl _)) ?_ ?_
 ·rintro i c p σ H2 hc ⟨x2,x3,rfl,s2⟩ hp
  have hi:i < 3:=(bt.mp hc).1
  have s3:=s2.trans (aD hp (.tup [.int (i:Int),.str ⟨#[c]⟩]))
  have ec:("-0+" : Str).cps.toList.getD i 0=c:=by rw[cG,hc];rfl
  refine⟨p,_,rfl,aU.of av,rfl,_,_,rfl,_,_,rfl,rfl,?_⟩
  dsimp only[bc]
  have ml:=L9 m i
  refine⟨_,rfl,_,rfl,_,_,rfl,rfl,⟨by omega,by omega,by decide⟩,_,_,rfl,rfl,_,rfl,?_⟩
  rw[fZ]
  by_cases hb:xn m (1 * 2 ^ i)=0
  ·have:tJ m (i+1)=tJ m i:=by rw[tJ,if_neg (fun z=>z hb)]
   rw[hb]
   refine eW (Rp.mk _ _ (by rw[this];rfl) s3)
  ·have:tJ m (i+1)=tJ m i ++ ⟨#[c]⟩:=by rw[tJ,if_pos hb,ec]
   rw[bne_iff_ne.mpr hb]
   refine gB ⟨_,rfl,_,rfl,_,_,rfl,rfl,?_,Rp.mk _ _ (by rw[this];rfl) s3⟩
   exact a9 (show (tJ m i).length+1<=1000 by omega) (by decide)
 ·rintro σ H2 ⟨x2,x3,rfl,s2⟩
  refine⟨_,rfl,?_⟩
  rw[show tJ m ("-0+" : Str).length=fM m from Zm h1 h7]
  exact q _ s2
inductive abB (K:aj) (vs:List V) (H:Hp) (Q:VK):Prop
 | mk (a:Addr) (ns:List Int) (k:Int) (z0:vs = [.ref a,.int k]) (z1:b6 K H a (ns.map V.int)) (z2:0<=k) (z3:Q (.int (if k < ns.length then ns.getD k.toNat 0 else 0)) H):abB K vs H Q
def RW (K:aj):Sp:=fun vs H Q _=>abB K vs H Q
theorem ab4 (B:hJ mg) (D:Def K mg "_law_at" R5 ["_law_script", "_law_k"]):cS P w K mg base 1 "_law_at" ["_law_script", "_law_k"] (RW K):=by
 refine D.eL abR (fun vs H Q E h => ?_) (fun f a8 A outer s H vs Q E hr h => ?_)
 ·obtain⟨a,ns,k,rfl,_⟩:=h;rfl
 obtain⟨a,ns,k,rfl,hS,h0,q⟩:=h
 refine⟨_,(ao (a6 (aC ll (aq 1) (b8 cO rfl B.iC bR (ae (aq 0) ag)) (aQ _)) (aw (aW (aP gj (aq 0) (aq 1) (fun _ _=>rfl)))) aJ)
  (aw (aW ai))),?_⟩
 try dsimp only[bZ]
 refine⟨_,rfl,_,rfl,a,_,rfl,.inl hS,k,_,rfl,rfl,_,rfl,?_⟩
 refine aY (fun c => ?_) (fun c => ?_)
 ·rw[aA]at c
  have hk:k.toNat < ns.length:=by omega
  have ek:((k.toNat:Nat):Int)=k:=by omega
  have ha:nK (ns.map V.int) k=some (.int ns[k.toNat]):=by
   have z:nK (ns.map V.int) ((k.toNat:Nat):Int)=some (.int ns[k.toNat]):=ax (by rw[cf,aF hk];rfl)
   rw[ek]at z
   exact z
  rw[if_pos c,cG,aF hk]at q
  exact⟨_,rfl,_,rfl,a,_,k,_,rfl,rfl,hS,ha,q⟩
 ·rw[aA]at c
  rw[if_neg c]at q
  exact q
inductive Rg (vs:List V) (H:Hp) (Q:VK):Prop
 | mk (c f m:Int) (z0:vs = [.int c,.int f,.int m]) (z1:0<=f) (z2:f < 2 ^ 60) (z3:0 < m) (z4:∀ r:Int,0<=r->r < m->Q (.int r) H):Rg  vs H Q
def oW:Sp:=fun vs H Q _=>Rg  vs H Q
theorem Xl (D:Def K mg "_law_draw" IW ["_law_cell", "_law_factor", "_law_many"]):cS P w K mg base 1 "_law_draw" ["_law_cell", "_law_factor", "_law_many"] oW:=by
 refine D.eL Wz (fun vs H Q E h => ?_) (fun f a8 A outer s H vs Q E hr h => ?_)
 ·obtain⟨c,f,m,rfl,_⟩:=h;rfl
 obtain⟨c,fc,m,rfl,f0,f1,m0,q⟩:=h
 refine⟨_,(aw (aW (aX h9 (aX wD (aX h9 (aX Jo (aX js (aX h9 (aq 0) ai) ai) (aq 1)) ai) ai) (aq 2)))),?_⟩
 try dsimp only[bZ]
 have p1:0<=c % 2147483647:=dH _ (by decide)
 have p2:c % 2147483647 < 2147483647:=dz _ (by decide)
 exact⟨_,rfl,_,_,rfl,rfl,eu,_,_,rfl,rfl,_,rfl,_,_,rfl,rfl,.inl ⟨by omega,by omega⟩,_,_,rfl,rfl,eu,_,_,rfl,rfl,N9,_,rfl,_,_,rfl,rfl,m0,q _ (dH _ (by omega)) (dz _ m0)⟩
def dR (s v:Int):Str:=hV (sg (s / 64 % 26)) (s / 8 % (1+s % 8)).toNat ++ sg ((s / 1664+v) % 26) ++ hV (sg (s / 64 % 26)) (1+s % 8 - 1 - s / 8 % (1+s % 8)).toNat
theorem uS (i:Int) (n:Nat):(hV (sg i) n).cps.toList=dM n (97+i.toNat):=by
 unfold hV sg
 simp
theorem uR (s v:Int):(dR s v).cps.toList=dM (s / 8 % (1+s % 8)).toNat (97+(s / 64 % 26).toNat) ++ [97+((s / 1664+v) % 26).toNat] ++ dM (1+s % 8 - 1 - s / 8 % (1+s % 8)).toNat (97+(s / 64 % 26).toNat):=by
 unfold dR
 rw[bN,bN,uS,uS]
 rfl
theorem iy (s v:Int):dW (dR s v):=by
 have a1:0<=s % 8:=dH _ (by decide)
 have a2:s % 8 < 8:=dz _ (by decide)
 have b1:0<=s / 64 % 26:=dH _ (by decide)
 have b2:s / 64 % 26 < 26:=dz _ (by decide)
 have c1:0<=(s / 1664+v) % 26:=dH _ (by decide)
 have c2:(s / 1664+v) % 26 < 26:=dz _ (by decide)
 have d1:0<=s / 8 % (1+s % 8):=dH _ (by omega)
 have d2:s / 8 % (1+s % 8) < 1+s % 8:=dz _ (by omega)
 have el:(dR s v).length=(1+s % 8).toNat:=by
  rw[bK,uR,aM,aM,gX,gX,i7]
  generalize s / 8 % (1+s % 8)=d at d1 d2
  omega
 refine⟨by rw[el];omega,by rw[el];omega,fun c hc => ?_⟩
 rw[uR]at hc
 rcases aZ.mp hc with hc | hc
 ·rcases aZ.mp hc with hc | hc
  ·have:=(A5.mp hc).2
   omega
  ·have:=bI.mp hc
   omega
 ·have:=(A5.mp hc).2
  omega
theorem Oy {s:Int}{i j:Nat} (hi:i < 26) (hj:j < 26) (h:dR s i=dR s j):i=j:=by
 have e:=congrArg (fun z:Str=>z.cps.toList) h
 rw[uR,uR]at e
 have e2:=List.append_cancel_left (List.append_cancel_right e)
 have e3:=(nX e2).1
 have c1:0<=(s / 1664+i) % 26:=dH _ (by decide)
 have c2:0<=(s / 1664+j) % 26:=dH _ (by decide)
 omega
def eF (ns:List Int):Int:=if (0:Int) < ns.length then ns.getD 0 0 else 0
inductive MO (K:aj) (vs:List V) (H:Hp) (Q:VK):Prop
 | mk (a:Addr) (ns:List Int) (v:Int) (z0:vs = [.ref a,.int v]) (z1:b6 K H a (ns.map V.int)) (z2:Q (.str (dR (eF ns) v)) H):MO K vs H Q
def p8 (K:aj):Sp:=fun vs H Q _=>MO K vs H Q
theorem Xd (qu:cS P w K mg base 1 "_law_at" ["_law_script", "_law_k"] (RW K)) (D:Def K mg "_law_word" IP ["_law_script", "_law_which"]):cS P w K mg base 2 "_law_word" ["_law_script", "_law_which"] (p8 K):=by
 refine D.eL qb (fun vs H Q E h => ?_) (fun f a8 A outer s H vs Q E hr h => ?_)
 ·obtain⟨a,ns,v,rfl,_⟩:=h;rfl
 obtain⟨a,ns,v,rfl,hS,q⟩:=h
 refine⟨_,(ao (aR (i:=2) qb.nd rfl (aH rfl) ay)
  (ao (aR (i:=3) qb.nd rfl (aH rfl) (aG qu hr (by omega) rfl (ae (aq 0) (ae ai ag))))
  (ao (aR (i:=4) qb.nd rfl (aH rfl) (aX js ai (aX h9 (aq 3) ai)))
  (ao (aR (i:=5) qb.nd rfl (aH rfl) (aX h9 (aX wD (aq 3) ai) (aq 4)))
  (ao (aR (i:=6) qb.nd rfl (aH rfl) (aP wJ (aq 2) (aX h9 (aX wD (aq 3) ai) ai) (fun _ _=>rfl)))
  (ao (aR (i:=7) qb.nd rfl (aH rfl) (aP wJ (aq 2) (aX h9 (aX js (aX wD (aq 3) ai) (aq 1)) ai) (fun _ _=>rfl)))
  (aw (aW (aX bX (aX bX (aX B3 (aq 6) (aq 5)) (aq 7)) (aX B3 (aq 6) (aX o9 (aX o9 (aq 4) ai) (aq 5)))))))))))),?_⟩
 try dsimp only[bZ]
 refine qj ?_
 refine⟨_,rfl,a,ns,0,rfl,hS,Int.le_refl _,?_⟩
 show oS _ _ _ _ _
 have es:(if (0:Int) < ns.length then ns.getD (0:Int).toNat 0 else 0)=eF ns:=rfl
 rw[es]
 generalize eF ns=sd at q
 have a1:0<=sd % 8:=dH _ (by decide)
 have a2:sd % 8 < 8:=dz _ (by decide)
 have b1:0<=sd / 64 % 26:=dH _ (by decide)
 have b2:sd / 64 % 26 < 26:=dz _ (by decide)
 have c1:0<=(sd / 1664+v) % 26:=dH _ (by decide)
 have c2:(sd / 1664+v) % 26 < 26:=dz _ (by decide)
 have d1:0<=sd / 8 % (1+sd % 8):=dH _ (by omega)
 have d2:sd / 8 % (1+sd % 8) < 1+sd % 8:=dz _ (by omega)
 refine⟨_,rfl,_,_,rfl,rfl,eu,_,_,rfl,rfl,?_⟩
 refine⟨_,rfl,_,_,rfl,rfl,N9,_,rfl,_,_,rfl,rfl,by omega,?_⟩
 refine⟨_,rfl,_,rfl,_,_,rfl,rfl,N9,_,_,rfl,rfl,eu,_,_,_,rfl,rfl,by decide,Q5 b1 b2,?_⟩
 refine⟨_,rfl,_,rfl,_,_,rfl,rfl,N9,_,rfl,_,_,rfl,rfl,_,_,rfl,rfl,eu,_,_,_,rfl,rfl,by decide,Q5 c1 c2,?_⟩
 have t1:(hV (sg (sd / 64 % 26)) (sd / 8 % (1+sd % 8)).toNat).length<=8:=by rw[bK,uS,gX];omega
 have t2:(hV (sg (sd / 64 % 26)) (1+sd % 8 - 1 - sd / 8 % (1+sd % 8)).toNat).length<=8:=by rw[bK,uS,gX];omega
 refine⟨_,rfl,_,rfl,_,_,rfl,rfl,by omega,by omega,by show (1:Nat)<=1000;decide,_,rfl,_,_,rfl,rfl,?_,_,rfl,_,rfl,_,_,rfl,rfl,_,rfl,_,_,rfl,rfl,_,_,rfl,rfl,by omega,by omega,by show (1:Nat)<=1000;decide,_,_,rfl,rfl,?_,q⟩
 ·exact a9 (show (hV (sg (sd / 64 % 26)) (sd / 8 % (1+sd % 8)).toNat).length+1<=1000 by omega) (by decide)
 ·rw[au]
  exact a9 (show (hV (sg (sd / 64 % 26)) (sd / 8 % (1+sd % 8)).toNat).length+1+(hV (sg (sd / 64 % 26)) (1+sd % 8 - 1 - sd / 8 % (1+sd % 8)).toNat).length<=1000 by omega) (by decide)
structure ko (n:Nat) (t:T):Prop where
 ok:t.Ok
 parts:t.parts<=n
 Ta:63 ∉ t.shown.cps.toList
theorem Fw:∀ {ts:List T}{t:T},t∈ts->t.parts<=T.dO ts
 | u :: ts,t,h=>by
  rw[T.dO]
  rcases aK.mp h with rfl | h
  ·omega
  ·have:=Fw h;omega
theorem Cd:∀ (k:Nat) (t:T),t.depth<=k->t.depth<=t.parts
 | 0,t,h=>by have:=kW t;omega
 | k+1,.num n,_=>by rw[T.depth,T.parts];exact aB _
 | k+1,.name n,_=>by rw[T.depth,T.parts];exact aB _
 | k+1,.any n,_=>by rw[T.depth,T.parts];exact aB _
 | k+1,.of x ts,h=>by
  rw[T.depth]at h
  rw[T.depth,T.parts]
  have:T.gp ts<=T.dO ts:=sF fun t ht=>by
   have h1:=Cd k t (by have:=jc ht;omega)
   have h2:=Fw ht
   omega
  omega
theorem ko.dep {n:Nat}{t:T} (h:ko n t):t.depth<=n:=by
 have:=Cd t.depth t (aB _)
 have:=h.parts
 omega
theorem Xu {x:Str}{ts:List T} (hx:dW x) (h:∀ t∈ts,63 ∉ t.shown.cps.toList) (h1:1<=ts.length):63 ∉ (T.of x ts).shown.cps.toList:=by
 have Xw:∀ ts:List T,(∀ t∈ts,63 ∉ t.shown.cps.toList)->63 ∉ more ts:=fun ts=>by
  induction ts with
  | nil=>intro _ z;cases z
  | cons t ts ih =>
   intro h z
   rw[more]at z
   rcases aK.mp z with z | z
   ·cases z
   rcases aK.mp z with z | z
   ·cases z
   rcases aZ.mp z with z | z
   ·exact h t aV z
   ·exact ih (fun u hu=>h u (aL _ hu)) z
 cases ts with
 | nil=>exact absurd h1 (by decide)
 | cons t ts =>
  rw[p9]
  intro z
  rcases aZ.mp z with z | z
  ·exact eV hx (by decide) z
  rcases aK.mp z with z | z
  ·cases z
  rcases aZ.mp z with z | z
  ·exact h t aV z
  rcases aZ.mp z with z | z
  ·exact Xw ts (fun u hu=>h u (aL _ hu)) z
  ·cases bI.mp z
theorem Im {n:Int} (h1 : -(10 ^ 60) < n) (h2:n < 10 ^ 60):ko 1 (.num n):=⟨by rw[T.Ok];exact⟨h1,h2⟩,by rw[T.parts];exact aB _,fun z=>by rw[T.shown]at z;have:=oB n 63 z;omega⟩
theorem OH {x:Str} (h:dW x):ko 1 (.name x):=⟨by rw[T.Ok];exact h,by rw[T.parts];exact aB _,by rw[T.shown];exact eV h (by decide)⟩
inductive F5 (K:aj) (vs:List V) (H:Hp) (Q:VK):Prop
 | mk (a:Addr) (ns:List Int) (c:Int) (ev:vs = [.ref a,.int c]) (hS:b6 K H a (ns.map V.int)) (q:∀ v t H',aT H H'->bJ H' t v->ko 1 t->Q v H'):F5 K vs H Q
def LG (K:aj):Sp:=fun vs H Q _=>F5 K vs H Q
theorem Xi (de:cS P w K mg base 1 "_law_draw" ["_law_cell", "_law_factor", "_law_many"] oW) (fN:cS P w K mg base 2 "_law_word" ["_law_script", "_law_which"] (p8 K)) (D:Def K mg "_law_leaf" IU ["_law_script", "_law_cell"]):cS P w K mg base 3 "_law_leaf" ["_law_script", "_law_cell"] (LG K):=by
 refine D.eL LM (fun vs H Q E h => ?_) (fun f a8 A outer s H vs Q E hr h => ?_)
 ·obtain⟨a,ns,c,rfl,_⟩:=h;rfl
 obtain⟨a,ns,c,rfl,hS,q⟩:=h
 refine⟨_,(ao (aR (i:=2) LM.nd rfl (aH rfl) (aG de hr (by omega) rfl (ae (aq 1) (ae ai (ae ai ag)))))
  (ao (a6 (aC cb (aq 2) ai (aQ _)) (aw (aW (aS (ae ay (ae (aX o9 (aX h9 (aq 1) (aX o9 (aX Jo ai (aX DV ai ai)) ai)) (aX o9 (aX DV ai ai) ai)) ag))))) aJ)
  (ao (a6 (aC cb (aq 2) ai (aQ _)) (aw (aW (aS (ae ay (ae (aX o9 (aG de hr (by omega) rfl (ae (aq 1) (ae ai (ae ai ag)))) ai) ag))))) aJ)
  (aw (aW (aS (ae ay (ae (aG fN hr (by omega) rfl (ae (aq 0) (ae (aG de hr (by omega) rfl (ae (aq 1) (ae ai (ae ai ag)))) ag))) ag)))))))),?_⟩
 try dsimp only[bZ]
 refine⟨_,rfl,c,_,_,rfl,by decide,by decide,by decide,fun r r0 r1 => ?_⟩
 dsimp only[bc]
 refine⟨_,rfl,rfl,_,rfl,aY (fun _ => ?_) (fun _ => ?_)⟩
 ·have e60:(2:Int) * 10 ^ (60:Int).toNat - 1=2 * (10 ^ 60 - 1)+1:=by decide
  have p0:=dH c (show (2:Int) * 10 ^ (60:Int).toNat - 1≠0 by decide)
  have p1:=dz c (show (0:Int) < 2 * 10 ^ (60:Int).toNat - 1 by decide)
  refine⟨_,rfl,10,60,rfl,rfl,⟨by decide,by decide,by decide⟩,_,_,rfl,rfl,.inl ⟨by decide,by decide⟩,_,_,rfl,rfl,_,_,rfl,rfl,(by decide:(0:Int) < 2 * 10 ^ (60:Int).toNat - 1),10,60,rfl,rfl,⟨by decide,by decide,by decide⟩,_,_,rfl,rfl,_,_,rfl,rfl,(show 2<=sizeLine by decide),fun p hp => ?_⟩
  have e1:(10:Int) ^ (60:Int).toNat=10 ^ 60:=rfl
  rw[e1]at p0 p1
  refine q _ (.num _) _ (aD hp _) (by rw[bJ];exact⟨p,rfl,av⟩) (Im ?_ ?_)
  ·rw[e1];omega
  ·rw[e1];omega
 refine⟨_,rfl,rfl,_,rfl,aY (fun _ => ?_) (fun _ => ?_)⟩
 ·refine⟨_,rfl,c,_,_,rfl,by decide,by decide,by decide,fun u u0 u1=>⟨_,_,rfl,rfl,(show 2<=sizeLine by decide),fun p hp => ?_⟩⟩
  exact q _ (.num _) _ (aD hp _) (by rw[bJ];exact⟨p,rfl,av⟩) (Im (by omega) (by omega))
 ·refine⟨_,rfl,_,rfl,c,_,_,rfl,by decide,by decide,by decide,fun u u0 u1=>⟨a,ns,u,rfl,hS,(show 2<=sizeLine by decide),fun p hp => ?_⟩⟩
  exact q _ (.name _) _ (aD hp _) (by rw[bJ];exact⟨p,rfl,av⟩) (OH (iy _ _))
inductive F6 (K:aj) (vs:List V) (H:Hp) (Q:VK):Prop
 | mk (a b:Addr) (ns:List Int) (c:Int) (us:List V) (ts:List T) (ev:vs = [.ref a,.int c,.ref b]) (hS:b6 K H a (ns.map V.int)) (hb:H b=some (.tup us)) (ht:dS H ts us) (q:∀ v x H',aT H H'->bJ H' (.of x ts) v->dW x->Q v H'):F6 K vs H Q
def LH (K:aj):Sp:=fun vs H Q _=>F6 K vs H Q
theorem Dz:∀ z∈(["plus", "times", "plus", "times", "bind"]:List Str),dW z:=by
 show ∀ z∈(["plus", "times", "plus", "times", "bind"]:List Str),1<=z.length∧z.length<=8∧∀ c∈z.cps.toList,97<=c∧c<=122
 decide +kernel
theorem Mf:dW "neg" := by
 show 1<=("neg" : Str).length∧("neg" : Str).length<=8∧∀ c∈("neg" : Str).cps.toList,97<=c∧c<=122
 decide +kernel
theorem Xj (B:hJ mg) (de:cS P w K mg base 1 "_law_draw" ["_law_cell", "_law_factor", "_law_many"] oW) (fN:cS P w K mg base 2 "_law_word" ["_law_script", "_law_which"] (p8 K)) (D:Def K mg "_law_knot" IV ["_law_script", "_law_cell", "_law_arms"]):cS P w K mg base 3 "_law_knot" ["_law_script", "_law_cell", "_law_arms"] (LH K):=by
 refine D.eL LN (fun vs H Q E h => ?_) (fun f a8 A outer s H vs Q E hr h => ?_)
 ·obtain⟨a,b,ns,c,us,ts,rfl,_⟩:=h;rfl
 obtain⟨a,b,ns,c,us,ts,rfl,hS,hb,ht,q⟩:=h
 refine⟨_,(ao (aR (i:=3) LN.nd rfl (aH rfl) (aG de hr (by omega) rfl (ae (aq 1) (ae ai (ae ai ag)))))
  (ao (a6 (PW.ji (pw_andQ (aC cb (b8 cO rfl B.iC bR (ae (aq 2) ag)) ai (aQ _)) (pw_and1Q (aC ll (aq 3) ai (aQ _))))) (aw (aW (aS (ae ay (ae ay (ae (aq 2) ag)))))) aJ)
  (ao (a6 (PW.ji (pw_andQ (aC cb (b8 cO rfl B.iC bR (ae (aq 2) ag)) ai (aQ _)) (pw_and1Q (aC ll (aq 3) ai (aQ _))))) (aw (aW (aS (ae ay (ae (aP a7 (aS (jk (L := ["plus", "times", "plus", "times", "bind"]) (by decide +kernel))) (aq 3) (fun _ _=>rfl)) (ae (aq 2) ag)))))) aJ)
  (aw (aW (aS (ae ay (ae (aG fN hr (by omega) rfl (ae (aq 0) (ae (aX h9 (aq 3) ai) ag))) (ae (aq 2) ag))))))))),?_⟩
 try dsimp only[bZ]
 have eZ:∀ (x:Str) (H1:Hp) (p:Addr),aT H H1->H1 p=none->dW x->Q (.ref p) (aO H1 p (.tup [.str "of",.str x,.ref b])):=fun x H1 p s1 hp hx=>by
  have g:=s1.trans (aD hp (.tup [.str "of",.str x,.ref b]))
  refine q _ x _ g ?_ hx
  rw[bJ]
  exact⟨p,b,us,rfl,av,g _ _ hb,xu g ht⟩
 refine⟨_,rfl,c,_,_,rfl,by decide,by decide,by decide,fun r r0 r1 => ?_⟩
 dsimp only[bc]
 refine jr (fun _ Hc=>Hc=H) (fun Qc qc=>⟨_,rfl,b,_,rfl,.inr (aU.of hb),rfl,_,rfl,aY (fun _=>⟨_,rfl,_,_,rfl,rfl,_,rfl,qc _ _ rfl⟩) (fun _=>qc _ _ rfl)⟩) (fun Hc h => ?_) (fun Hc h => ?_)
 ·subst h
  exact⟨_,rfl,(show 3<=sizeLine by decide),fun p hp=>eZ _ _ p (aT.refl _) hp Mf⟩
 subst h
 dsimp only[fe]
 refine jr (fun bb H1=>H1=Hc∧(bb=true->r < 5)) (fun Qc qc=>⟨_,rfl,b,_,rfl,.inr (aU.of hb),rfl,_,rfl,aY (fun _=>⟨_,rfl,_,_,rfl,rfl,_,rfl,qc _ _ ⟨rfl,fun z=>of_decide_eq_true z⟩⟩) (fun _=>qc _ _ ⟨rfl,fun z=>nomatch z⟩)⟩) (fun H1 h => ?_) (fun H1 h => ?_)
 ·obtain⟨rfl,h5⟩:=h
  obtain⟨v,hv,ZY⟩:=rj (xs:=(["plus", "times", "plus", "times", "bind"]:List Str).map V.str) r0 (h5 rfl)
  obtain⟨z,hz,rfl⟩:=fD.mp ZY
  refine⟨(show 5<=sizeLine by decide),fun l hl=>⟨_,rfl,l,_,_,_,rfl,rfl,aU.of av,hv,_,rfl,(show 3<=sizeLine by decide),fun p hp=>eZ z _ p (aD hl _) hp (Dz z hz)⟩⟩
 obtain⟨rfl, -⟩:=h
 dsimp only[fe]
 exact⟨_,rfl,_,rfl,_,_,rfl,rfl,eu,a,ns,_,rfl,hS,_,rfl,(show 3<=sizeLine by decide),fun p hp=>eZ _ _ p (aT.refl _) hp (iy _ _)⟩
structure pD (y:Str) (l r:T):Prop where
 pat:HZ l r
 l_:l.Ok
 r_:r.Ok
 dl:l.depth<=14
 dr:r.depth<=14
 hw:∀ h∈raw l,dW h
 first:∃ x t ts,l = .of x (t :: ts)∧(t = .any y∨∃ z,t = .name z)
theorem fO {H:Hp}:dS H [] []:=by rw[dS]
theorem cD {H:Hp}{t:T}{ts:List T}{v:V}{vs:List V} (h:bJ H t v) (hs:dS H ts vs):dS H (t :: ts) (v :: vs):=by rw[dS];exact⟨_,_,rfl,h,hs⟩
theorem iZ {H:Hp}{us:List V}{ts:List T}{x:Str}{b p:Addr} (hb:H b=none) (ht:dS H ts us) (hp:(aO H b (.tup us)) p=none):aT H (aO (aO H b (.tup us)) p (.tup [.str "of",.str x,.ref b]))∧bJ (aO (aO H b (.tup us)) p (.tup [.str "of",.str x,.ref b])) (.of x ts) (.ref p):=by
 have g1:=aD hb (.tup us)
 have g2:=aD hp (.tup [.str "of",.str x,.ref b])
 refine⟨g1.trans g2,?_⟩
 rw[bJ]
 exact⟨p,b,us,rfl,av,g2 _ _ av,xu (g1.trans g2) ht⟩
theorem zo:dW "plus" := Dz _ (by decide +kernel)
theorem EN:dW "times" := Dz _ (by decide +kernel)
theorem LK {ya yb x z:Str} (ha:dW ya) (hb:dW yb) (hx:dW x) (hz:dW z):pD ya (.of x [.any ya,.any yb]) (.of z [.any yb,.any ya]):=by
 refine⟨⟨rfl,?_,?_,?_,?_⟩,?_,?_,?_,?_,?_,_,_,_,rfl,.inl rfl⟩ <;> simp[T.parts,T.dO,T.depth,T.gp,T.Ok,T.uz,pT,lW,raw,hG,ha,hb,hx,hz]
theorem Yu {ya x z:Str} (ha:dW ya) (hx:dW x) (hz:dW z):pD ya (.of x [.any ya]) (.of z [.any ya]):=by
 refine⟨⟨rfl,?_,?_,?_,?_⟩,?_,?_,?_,?_,?_,_,_,_,rfl,.inl rfl⟩ <;> simp[T.parts,T.dO,T.depth,T.gp,T.Ok,T.uz,pT,lW,raw,hG,ha,hx,hz]
theorem Wt {ya x:Str} (ha:dW ya) (hx:dW x):pD ya (.of x [.any ya]) (.any ya):=by
 refine⟨⟨rfl,?_,?_,?_,?_⟩,?_,?_,?_,?_,?_,_,_,_,rfl,.inl rfl⟩ <;> simp[T.parts,T.dO,T.depth,T.gp,T.Ok,T.uz,pT,lW,raw,hG,ha,hx]
theorem Ws {ya x:Str}{n:Int} (ha:dW ya) (hx:dW x) (h1 : -(10 ^ 60) < n) (h2:n < 10 ^ 60):pD ya (.of x [.any ya]) (.num n):=by
 refine⟨⟨rfl,?_,?_,?_,?_⟩,?_,by rw[T.Ok];exact⟨h1,h2⟩,?_,?_,?_,_,_,_,rfl,.inl rfl⟩ <;> simp[T.parts,T.dO,T.depth,T.gp,T.Ok,T.uz,pT,lW,raw,hG,ha,hx]
theorem Wr {ya x y:Str} (hx:dW x) (hy:dW y):pD ya (.of x [.name y]) (.of "plus" [.name y,.num 1]):=by
 refine⟨⟨rfl,?_,?_,?_,?_⟩,?_,?_,?_,?_,?_,_,_,_,rfl,.inr ⟨_,rfl⟩⟩ <;> simp[T.parts,T.dO,T.depth,T.gp,T.Ok,T.uz,pT,lW,raw,hG,hx,hy,zo]
theorem RZ {ya yb yc:Str} (ha:dW ya) (hb:dW yb) (hc:dW yc):pD ya (.of "times" [.any ya,.of "plus" [.any yb,.any yc]]) (.of "plus" [.of "times" [.any ya,.any yb],.of "times" [.any ya,.any yc]]):=by
 refine⟨⟨rfl,?_,?_,?_,?_⟩,?_,?_,?_,?_,?_,_,_,_,rfl,.inl rfl⟩ <;> simp[T.parts,T.dO,T.depth,T.gp,T.Ok,T.uz,pT,lW,raw,hG,ha,hb,hc,zo,EN]
theorem RY {ya yb x:Str} (ha:dW ya) (hb:dW yb) (hx:dW x):pD ya (.of "plus" [.any ya,.of x [.any yb]]) (.of "plus" [.any yb,.any ya]):=by
 refine⟨⟨rfl,?_,?_,?_,?_⟩,?_,?_,?_,?_,?_,_,_,_,rfl,.inl rfl⟩ <;> simp[T.parts,T.dO,T.depth,T.gp,T.Ok,T.uz,pT,lW,raw,hG,ha,hb,hx,zo]
theorem RX {ya yb x y:Str} (ha:dW ya) (hb:dW yb) (hx:dW x) (hy:dW y):pD ya (.of x [.any ya,.any yb]) (.of x [.any yb,.name y,.any ya]):=by
 refine⟨⟨rfl,?_,?_,?_,?_⟩,?_,?_,?_,?_,?_,_,_,_,rfl,.inl rfl⟩ <;> simp[T.parts,T.dO,T.depth,T.gp,T.Ok,T.uz,pT,lW,raw,hG,ha,hb,hx,hy]
inductive F1 (K:aj) (vs:List V) (H:Hp) (Q:VK):Prop
 | mk (a:Addr) (ns:List Int) (c:Int) (ev:vs = [.ref a,.int c]) (hS:b6 K H a (ns.map V.int)) (q:∀ p vl vr l r H',aT H H'->H' p=some (.tup [vl,vr])->bJ H' l vl->bJ H' r vr->pD (dR (eF ns) 20) l r->Q (.ref p) H'):F1 K vs H Q
def Ly (K:aj):Sp:=fun vs H Q _=>F1 K vs H Q
theorem SR (de:cS P w K mg base 1 "_law_draw" ["_law_cell", "_law_factor", "_law_many"] oW) (fN:cS P w K mg base 2 "_law_word" ["_law_script", "_law_which"] (p8 K)) (D:Def K mg "_law_sides" Ff ["_law_script", "_law_cell"]):cS P w K mg base 3 "_law_sides" ["_law_script", "_law_cell"] (Ly K):=by
 refine D.eL n8 (fun vs H Q E h => ?_) (fun f a8 A outer s H vs Q E hr h => ?_)
 ·obtain⟨a,ns,c,rfl,_⟩:=h;rfl
 obtain⟨a,ns,c,rfl,hS,q⟩:=h
 refine⟨_,(ao (aR (i:=2) n8.nd rfl (aH rfl) (aS (ae ay (ae (aG fN hr (by omega) rfl (ae (aq 0) (ae ai ag))) ag))))
  (ao (aR (i:=3) n8.nd rfl (aH rfl) (aS (ae ay (ae (aG fN hr (by omega) rfl (ae (aq 0) (ae ai ag))) ag))))
  (ao (aR (i:=4) n8.nd rfl (aH rfl) (aS (ae ay (ae (aG fN hr (by omega) rfl (ae (aq 0) (ae ai ag))) ag))))
  (ao (aR (i:=5) n8.nd rfl (aH rfl) (aG fN hr (by omega) rfl (ae (aq 0) (ae (aG de hr (by omega) rfl (ae (aq 1) (ae ai (ae ai ag)))) ag))))
  (ao (aR (i:=6) n8.nd rfl (aH rfl) (aG de hr (by omega) rfl (ae (aq 1) (ae ai (ae ai ag)))))
  (ao (a6 (aC cb (aq 6) ai (aQ _)) (ao (aR (i:=7) n8.nd rfl (aH rfl) (aS (ae ay (ae (aG fN hr (by omega) rfl (ae (aq 0) (ae (aG de hr (by omega) rfl (ae (aq 1) (ae ai (ae ai ag)))) ag))) ag))))
  (aw (aW (aS (ae (aS (ae ay (ae (aq 5) (ae (aS (ae (aq 7) ag)) ag)))) (ae (aS (ae ay (ae ay (ae (aS (ae (aq 7) (ae (aS (ae ay (ae ai ag))) ag))) ag)))) ag)))))) aJ)
  (ao (a6 (aC cb (aq 6) ai (aQ _)) (aw (aW (aS (ae (aS (ae ay (ae ay (ae (aS (ae (aq 2) (ae (aq 3) ag))) ag)))) (ae (aS (ae ay (ae ay (ae (aS (ae (aq 3) (ae (aq 2) ag))) ag)))) ag))))) aJ)
  (ao (a6 (aC cb (aq 6) ai (aQ _)) (aw (aW (aS (ae (aS (ae ay (ae ay (ae (aS (ae (aq 2) ag)) ag)))) (ae (aS (ae ay (ae (aq 5) (ae (aS (ae (aq 2) ag)) ag)))) ag))))) aJ)
  (ao (a6 (aC cb (aq 6) ai (aQ _)) (aw (aW (aS (ae (aS (ae ay (ae ay (ae (aS (ae (aq 2) (ae (aq 3) ag))) ag)))) (ae (aS (ae ay (ae ay (ae (aS (ae (aq 3) (ae (aq 2) ag))) ag)))) ag))))) aJ)
  (ao (a6 (aC cb (aq 6) ai (aQ _)) (aw (aW (aS (ae (aS (ae ay (ae ay (ae (aS (ae (aq 2) (ae (aS (ae ay (ae ay (ae (aS (ae (aq 3) (ae (aq 4) ag))) ag)))) ag))) ag)))) (ae (aS (ae ay (ae ay (ae (aS (ae (aS (ae ay (ae ay (ae (aS (ae (aq 2) (ae (aq 3) ag))) ag)))) (ae (aS (ae ay (ae ay (ae (aS (ae (aq 2) (ae (aq 4) ag))) ag)))) ag))) ag)))) ag))))) aJ)
  (ao (a6 (aC cb (aq 6) ai (aQ _)) (aw (aW (aS (ae (aS (ae ay (ae (aq 5) (ae (aS (ae (aq 2) ag)) ag)))) (ae (aq 2) ag))))) aJ)
  (ao (a6 (aC cb (aq 6) ai (aQ _)) (aw (aW (aS (ae (aS (ae ay (ae ay (ae (aS (ae (aq 2) (ae (aS (ae ay (ae (aq 5) (ae (aS (ae (aq 3) ag)) ag)))) ag))) ag)))) (ae (aS (ae ay (ae ay (ae (aS (ae (aq 3) (ae (aq 2) ag))) ag)))) ag))))) aJ)
  (ao (a6 (aC cb (aq 6) ai (aQ _)) (aw (aW (aS (ae (aS (ae ay (ae (aq 5) (ae (aS (ae (aq 2) ag)) ag)))) (ae (aS (ae ay (ae (aX o9 (aG de hr (by omega) rfl (ae (aq 1) (ae ai (ae ai ag)))) ai) ag))) ag))))) aJ)
  (aw (aW (aS (ae (aS (ae ay (ae (aq 5) (ae (aS (ae (aq 2) (ae (aq 3) ag))) ag)))) (ae (aS (ae ay (ae (aq 5) (ae (aS (ae (aq 3) (ae (aS (ae ay (ae (aG fN hr (by omega) rfl (ae (aq 0) (ae ai ag))) ag))) (ae (aq 2) ag)))) ag)))) ag)))))))))))))))))),?_⟩
 try dsimp only[bZ]
 have eZ:∀ (l r:T) (vl vr:V) (H5:Hp),aT H H5->bJ H5 l vl->bJ H5 r vr->pD (dR (eF ns) 20) l r->∀ p,H5 p=none->Q (.ref p) (aO H5 p (.tup [vl,vr])):=fun l r vl vr H5 s5 hl yU g p hp =>
  q p vl vr l r _ (s5.trans (aD hp _)) av (bP (aD hp _) hl) (bP (aD hp _) yU) g
 have wa:=iy (eF ns) 20
 have wb:=iy (eF ns) 21
 have wc:=iy (eF ns) 22
 refine⟨_,rfl,a,ns,20,rfl,hS,(show 2<=sizeLine by decide),fun pa ha => ?_⟩
 dsimp only[bc]
 have s1:=aD ha (.tup [.str "any",.str (dR (eF ns) 20)])
 have ta:bJ (aO H pa (.tup [.str "any",.str (dR (eF ns) 20)])) (.any (dR (eF ns) 20)) (.ref pa):=by rw[bJ];exact⟨pa,rfl,av⟩
 generalize aO H pa (.tup [.str "any",.str (dR (eF ns) 20)])=H1 at s1 ta ⊢
 refine⟨_,rfl,a,ns,21,rfl,s1.seq hS,(show 2<=sizeLine by decide),fun pb hb => ?_⟩
 dsimp only[bc]
 have s2:=aD hb (.tup [.str "any",.str (dR (eF ns) 21)])
 have tb:bJ (aO H1 pb (.tup [.str "any",.str (dR (eF ns) 21)])) (.any (dR (eF ns) 21)) (.ref pb):=by rw[bJ];exact⟨pb,rfl,av⟩
 generalize aO H1 pb (.tup [.str "any",.str (dR (eF ns) 21)])=H2 at s2 tb ⊢
 refine⟨_,rfl,a,ns,22,rfl,(s1.trans s2).seq hS,(show 2<=sizeLine by decide),fun pc hc => ?_⟩
 dsimp only[bc]
 have s3:=aD hc (.tup [.str "any",.str (dR (eF ns) 22)])
 have tc:bJ (aO H2 pc (.tup [.str "any",.str (dR (eF ns) 22)])) (.any (dR (eF ns) 22)) (.ref pc):=by rw[bJ];exact⟨pc,rfl,av⟩
 generalize aO H2 pc (.tup [.str "any",.str (dR (eF ns) 22)])=H3 at s3 tc ⊢
 have g3:=s1.trans (s2.trans s3)
 have ta3:=bP (s2.trans s3) ta
 have tb3:=bP s3 tb
 have sh:∀ {H5:Hp},aT H3 H5->bJ H5 (.any (dR (eF ns) 20)) (.ref pa):=fun s=>bP s ta3
 have BY:∀ {H5:Hp},aT H3 H5->bJ H5 (.any (dR (eF ns) 21)) (.ref pb):=fun s=>bP s tb3
 have tc':∀ {H5:Hp},aT H3 H5->bJ H5 (.any (dR (eF ns) 22)) (.ref pc):=fun s=>bP s tc
 refine⟨_,rfl,_,rfl,c,_,_,rfl,by decide,by decide,by decide,fun u u0 u1=>⟨a,ns,u,rfl,g3.seq hS,?_⟩⟩
 have wx:=iy (eF ns) u
 generalize dR (eF ns) u=x at wx
 dsimp only[bc]
 refine⟨_,rfl,c,_,_,rfl,by decide,by decide,by decide,fun k k0 k1 => ?_⟩
 dsimp only[bc]
 -- 8
 refine⟨_,rfl,rfl,_,rfl,aY (fun _ => ?_) (fun _ => ?_)⟩
 ·refine⟨_,rfl,_,rfl,c,_,_,rfl,by decide,by decide,by decide,fun u2 _ _=>⟨a,ns,u2,rfl,g3.seq hS,(show 2<=sizeLine by decide),fun pn hn => ?_⟩⟩
  have wy:=iy (eF ns) u2
  generalize dR (eF ns) u2=y at wy hn ⊢
  dsimp only[bc]
  have s4:=aD hn (.tup [.str "name",.str y])
  have tn:bJ (aO H3 pn (.tup [.str "name",.str y])) (.name y) (.ref pn):=by rw[bJ];exact⟨pn,rfl,av⟩
  refine⟨_,rfl,_,rfl,(show 1<=sizeLine by decide),fun b1 pU=>⟨(show 3<=sizeLine by decide),fun p1 dn=>⟨_,rfl,(show 2<=sizeLine by decide),fun n1 Qb=>⟨(show 2<=sizeLine by decide),fun b2 qZ=>⟨(show 3<=sizeLine by decide),fun p2 i3=>⟨(show 2<=sizeLine by decide),fun p hp => ?_⟩⟩⟩⟩⟩⟩
  obtain⟨m1,t1⟩:=iZ (x:=x) pU (cD tn fO) dn
  have m2:=aD Qb (.tup [.str "num",.int 1])
  obtain⟨m3,t3⟩:=iZ (x := "plus") (ts := [.name y,.num 1]) qZ (cD (bP (m1.trans m2) tn) (cD (by rw[bJ];exact⟨n1,rfl,av⟩) fO)) i3
  exact eZ _ _ _ _ _ (g3.trans (s4.trans (m1.trans (m2.trans m3)))) (bP (m2.trans m3) t1) t3 (Wr wx wy) p hp
 -- 0
 refine⟨_,rfl,rfl,_,rfl,aY (fun _ => ?_) (fun _ => ?_)⟩
 ·refine⟨_,rfl,_,rfl,(show 2<=sizeLine by decide),fun b1 pU=>⟨(show 3<=sizeLine by decide),fun p1 dn=>⟨_,rfl,_,rfl,(show 2<=sizeLine by decide),fun b2 qZ=>⟨(show 3<=sizeLine by decide),fun p2 i3=>⟨(show 2<=sizeLine by decide),fun p hp => ?_⟩⟩⟩⟩⟩
  obtain⟨m1,t1⟩:=iZ (x := "plus") pU (cD (sh (aT.refl _)) (cD (BY (aT.refl _)) fO)) dn
  obtain⟨m3,t3⟩:=iZ (x := "plus") qZ (cD (BY m1) (cD (sh m1) fO)) i3
  exact eZ _ _ _ _ _ (g3.trans (m1.trans m3)) (bP m3 t1) t3 (LK wa wb zo zo) p hp
 -- 1
 refine⟨_,rfl,rfl,_,rfl,aY (fun _ => ?_) (fun _ => ?_)⟩
 ·refine⟨_,rfl,(show 1<=sizeLine by decide),fun b1 pU=>⟨(show 3<=sizeLine by decide),fun p1 dn=>⟨_,rfl,_,rfl,(show 1<=sizeLine by decide),fun b2 qZ=>⟨(show 3<=sizeLine by decide),fun p2 i3=>⟨(show 2<=sizeLine by decide),fun p hp => ?_⟩⟩⟩⟩⟩
  obtain⟨m1,t1⟩:=iZ (x := "neg") pU (cD (sh (aT.refl _)) fO) dn
  obtain⟨m3,t3⟩:=iZ (x:=x) qZ (cD (sh m1) fO) i3
  exact eZ _ _ _ _ _ (g3.trans (m1.trans m3)) (bP m3 t1) t3 (Yu wa Mf wx) p hp
 -- 2
 refine⟨_,rfl,rfl,_,rfl,aY (fun _ => ?_) (fun _ => ?_)⟩
 ·refine⟨_,rfl,_,rfl,(show 2<=sizeLine by decide),fun b1 pU=>⟨(show 3<=sizeLine by decide),fun p1 dn=>⟨_,rfl,_,rfl,(show 2<=sizeLine by decide),fun b2 qZ=>⟨(show 3<=sizeLine by decide),fun p2 i3=>⟨(show 2<=sizeLine by decide),fun p hp => ?_⟩⟩⟩⟩⟩
  obtain⟨m1,t1⟩:=iZ (x := "times") pU (cD (sh (aT.refl _)) (cD (BY (aT.refl _)) fO)) dn
  obtain⟨m3,t3⟩:=iZ (x := "times") qZ (cD (BY m1) (cD (sh m1) fO)) i3
  exact eZ _ _ _ _ _ (g3.trans (m1.trans m3)) (bP m3 t1) t3 (LK wa wb EN EN) p hp
 -- 3
 refine⟨_,rfl,rfl,_,rfl,aY (fun _ => ?_) (fun _ => ?_)⟩
 ·refine⟨_,rfl,_,rfl,_,rfl,(show 2<=sizeLine by decide),fun b1 pU=>⟨(show 3<=sizeLine by decide),fun p1 dn=>⟨(show 2<=sizeLine by decide),fun b2 qZ=>⟨(show 3<=sizeLine by decide),fun p2 i3=>⟨_,rfl,_,rfl,(show 2<=sizeLine by decide),fun b3 hb3=>⟨(show 3<=sizeLine by decide),fun p3 mw=>⟨_,rfl,_,rfl,(show 2<=sizeLine by decide),fun b4 hb4=>⟨(show 3<=sizeLine by decide),fun p4 u7=>⟨(show 2<=sizeLine by decide),fun b5 hb5=>⟨(show 3<=sizeLine by decide),fun p5 oF=>⟨(show 2<=sizeLine by decide),fun p hp => ?_⟩⟩⟩⟩⟩⟩⟩⟩⟩⟩⟩
  obtain⟨m1,t1⟩:=iZ (x := "plus") pU (cD (BY (aT.refl _)) (cD (tc' (aT.refl _)) fO)) dn
  obtain⟨m2,t2⟩:=iZ (x := "times") qZ (cD (sh m1) (cD t1 fO)) i3
  have n2:=m1.trans m2
  obtain⟨m3,t3⟩:=iZ (x := "times") hb3 (cD (sh n2) (cD (BY n2) fO)) mw
  have n3:=n2.trans m3
  obtain⟨m4,t4⟩:=iZ (x := "times") hb4 (cD (sh n3) (cD (tc' n3) fO)) u7
  obtain⟨m5,t5⟩:=iZ (x := "plus") hb5 (cD (bP m4 t3) (cD t4 fO)) oF
  exact eZ _ _ _ _ _ (g3.trans (n3.trans (m4.trans m5))) (bP (m3.trans (m4.trans m5)) t2) t5 (RZ wa wb wc) p hp
 -- 4
 refine⟨_,rfl,rfl,_,rfl,aY (fun _ => ?_) (fun _ => ?_)⟩
 ·refine⟨_,rfl,_,rfl,(show 1<=sizeLine by decide),fun b1 pU=>⟨(show 3<=sizeLine by decide),fun p1 dn=>⟨_,rfl,(show 2<=sizeLine by decide),fun p hp => ?_⟩⟩⟩
  obtain⟨m1,t1⟩:=iZ (x:=x) pU (cD (sh (aT.refl _)) fO) dn
  exact eZ _ _ _ _ _ (g3.trans m1) t1 (sh m1) (Wt wa wx) p hp
 -- 5
 refine⟨_,rfl,rfl,_,rfl,aY (fun _ => ?_) (fun _ => ?_)⟩
 ·refine⟨_,rfl,_,rfl,_,rfl,(show 1<=sizeLine by decide),fun b1 pU=>⟨(show 3<=sizeLine by decide),fun p1 dn=>⟨(show 2<=sizeLine by decide),fun b2 qZ=>⟨(show 3<=sizeLine by decide),fun p2 i3=>⟨_,rfl,_,rfl,(show 2<=sizeLine by decide),fun b3 hb3=>⟨(show 3<=sizeLine by decide),fun p3 mw=>⟨(show 2<=sizeLine by decide),fun p hp => ?_⟩⟩⟩⟩⟩⟩⟩
  obtain⟨m1,t1⟩:=iZ (x:=x) pU (cD (BY (aT.refl _)) fO) dn
  obtain⟨m2,t2⟩:=iZ (x := "plus") qZ (cD (sh m1) (cD t1 fO)) i3
  have n2:=m1.trans m2
  obtain⟨m3,t3⟩:=iZ (x := "plus") hb3 (cD (BY n2) (cD (sh n2) fO)) mw
  exact eZ _ _ _ _ _ (g3.trans (n2.trans m3)) (bP m3 t2) t3 (RY wa wb wx) p hp
 -- 6
 refine⟨_,rfl,rfl,_,rfl,aY (fun _ => ?_) (fun _ => ?_)⟩
 ·refine⟨_,rfl,_,rfl,(show 1<=sizeLine by decide),fun b1 pU=>⟨(show 3<=sizeLine by decide),fun p1 dn=>⟨_,rfl,c,_,_,rfl,by decide,by decide,by decide,fun u2 v0 v1=>⟨_,_,rfl,rfl,(show 2<=sizeLine by decide),fun n1 Qb=>⟨(show 2<=sizeLine by decide),fun p hp => ?_⟩⟩⟩⟩⟩
  obtain⟨m1,t1⟩:=iZ (x:=x) pU (cD (sh (aT.refl _)) fO) dn
  have m2:=aD Qb (.tup [.str "num",.int (u2 - 2)])
  exact eZ _ _ _ _ _ (g3.trans (m1.trans m2)) (bP m2 t1) (by rw[bJ];exact⟨n1,rfl,av⟩) (Ws wa wx (by omega) (by omega)) p hp
 -- else
 refine⟨_,rfl,_,rfl,_,rfl,(show 2<=sizeLine by decide),fun b1 pU=>⟨(show 3<=sizeLine by decide),fun p1 dn=>⟨_,rfl,_,rfl,_,rfl,a,ns,1,rfl,?_,(show 2<=sizeLine by decide),fun n1 Qb=>⟨_,rfl,(show 3<=sizeLine by decide),fun b2 qZ=>⟨(show 3<=sizeLine by decide),fun p2 i3=>⟨(show 2<=sizeLine by decide),fun p hp => ?_⟩⟩⟩⟩⟩⟩
 ·exact(g3.trans ((aD pU _).trans (aD dn _))).seq hS
 obtain⟨m1,t1⟩:=iZ (x:=x) pU (cD (sh (aT.refl _)) (cD (BY (aT.refl _)) fO)) dn
 have m2:=aD Qb (.tup [.str "name",.str (dR (eF ns) 1)])
 have n2:=m1.trans m2
 obtain⟨m3,t3⟩:=iZ (x:=x) (ts := [.any (dR (eF ns) 21),.name (dR (eF ns) 1),.any (dR (eF ns) 20)]) qZ (cD (BY n2) (cD (by rw[bJ];exact⟨n1,rfl,av⟩) (cD (sh n2) fO))) i3
 exact eZ _ _ _ _ _ (g3.trans (n2.trans m3)) (bP (m2.trans m3) t1) t3 (RX wa wb wx (iy _ _)) p hp
def Gq:Ask->Prop
 | .free _ z=>dW z
 | .sign _ m=>1<=m∧m<=7
 | .num _=>True
inductive F7 (K:aj) (vs:List V) (H:Hp) (Q:VK):Prop
 | mk (a:Addr) (ns:List Int) (c:Int) (ev:vs = [.ref a,.int c]) (hS:b6 K H a (ns.map V.int)) (q:∀ A cu as H',aT H H'->H A=none->H' A=some (.lst cu)->Paired (iO H') cu as->(∀ k∈as,k.hole=dR (eF ns) 20∧Gq k)->as.length<=3->Q (.ref A) H'):F7 K vs H Q
def LI (K:aj):Sp:=fun vs H Q _=>F7 K vs H Q
inductive Cr (H:Hp) (A:Addr) (y:Str) (st:St) (n:Nat) (σ : St) (H':Hp):Prop
 | mk (cu:List V) (as:List Ask) (e : σ = st) (sm:aT H H') (hA:H' A=some (.lst cu)) (hp:Paired (iO H') cu as) (ok:∀ k∈as,k.hole=y∧Gq k) (len:as.length<=n):Cr H A y st n σ H'
theorem FX {H H' dF:Hp}{A:Addr}{y:Str}{st:St}{n:Nat}{cu:List V}{as:List Ask}{v:V}{k:Ask} (Aq:H A=none) (sm:aT H H') (hA:H' A=some (.lst cu)) (hp:Paired (iO H') cu as) (ok:∀ k∈as,k.hole=y∧Gq k) (len:as.length<=n) (s2:aT H' dF) (hv:iO dF v k) (hk:k.hole=y∧Gq k):Cr H A y st (n+1) st (aO dF A (.lst (cu ++ [v]))):=by
 have ra:=s2 _ _ hA
 have kp:=jt (o' := .lst (cu ++ [v])) ra trivial
 refine Cr.mk (cu ++ [v]) (as ++ [k]) rfl ((sm.trans s2).put Aq) av (ke (Paired.j7 hp fun _ _ z=>(z.keep fun b ys=>s2 _ _).keep kp) (hv.keep kp)) (fun u hu => ?_) (by rw[aM];exact iG len)
 rcases aZ.mp hu with z | z
 ·exact ok u z
 ·rw[bI.mp z];exact hk
theorem Xm (B:hJ mg) (de:cS P w K mg base 1 "_law_draw" ["_law_cell", "_law_factor", "_law_many"] oW) (fN:cS P w K mg base 2 "_law_word" ["_law_script", "_law_which"] (p8 K)) (D:Def K mg "_law_asks" IX ["_law_script", "_law_cell"]):cS P w K mg base 3 "_law_asks" ["_law_script", "_law_cell"] (LI K):=by
 refine D.eL Bq (fun vs H Q E h => ?_) (fun f a8 A outer s H vs Q E hr h => ?_)
 ·obtain⟨a,ns,c,rfl,_⟩:=h;rfl
 obtain⟨a,ns,c,rfl,hS,q⟩:=h
 refine⟨_,(ao (aR (i:=2) Bq.nd rfl (aH rfl) (aG fN hr (by omega) rfl (ae (aq 0) (ae ai ag))))
  (ao (aR (i:=3) Bq.nd rfl (aH rfl) (aG de hr (by omega) rfl (ae (aq 1) (ae ai (ae ai ag)))))
  (ao (aR (i:=4) Bq.nd rfl (aH rfl) (gi ag))
  (ao (a6 (PW.ji (pw_andQ (aC cb (aX h9 (aq 3) ai) ai (aQ _)) (pw_and1Q (aC ll (aq 3) ai (aQ _))))) (aw (fh (fq cV cQ cP gQ (aq 4) (ae (aS (ae ay (ae (aq 2) (ae (aG fN hr (by omega) rfl (ae (aq 0) (ae (aG de hr (by omega) rfl (ae (aq 1) (ae ai (ae ai ag)))) ag))) ag)))) ag)))) aJ)
  (ao (a6 (PW.ji (pw_orQ (aC cb (aq 3) ai (aQ _)) (pw_orQ (aC cb (aq 3) ai (aQ _)) (pw_or1Q (aC cb (aq 3) ai (aQ _)))))) (aw (fh (fq cV cQ cP gQ (aq 4) (ae (aS (ae ay (ae (aq 2) (ae (aX js ai (aG de hr (by omega) rfl (ae (aq 1) (ae ai (ae ai ag))))) ag)))) ag)))) aJ)
  (ao (a6 (aC cb (aq 3) ai (aQ _)) (aw (fh (fq cV cQ cP gQ (aq 4) (ae (aS (ae ay (ae (aq 2) ag))) ag)))) aJ)
  (aw (aW (aq 4))))))))),?_⟩
 try dsimp only[bZ]
 refine⟨_,rfl,a,ns,20,rfl,hS,?_⟩
 have wy:=iy (eF ns) 20
 generalize dR (eF ns) 20=y at wy q ⊢
 dsimp only[bc]
 refine⟨_,rfl,c,_,_,rfl,by decide,by decide,by decide,fun k k0 k1 => ?_⟩
 dsimp only[bc]
 refine⟨bA _,fun A1 Aq => ?_⟩
 dsimp only[bc]
 have s1:=aD Aq (.lst [])
 have Ap:=av (H:=H) (a:=A1) (o := .lst [])
 generalize aO H A1 (.lst [])=H1 at s1 Ap ⊢
 refine kz (Cr H A1 y [some (.ref a),some (.int c),some (.str y),some (.int k),some (.ref A1)] 1) ?_ (fun key => ?_)
 rotate_left
 ·have no:Cr H A1 y [some (.ref a),some (.int c),some (.str y),some (.int k),some (.ref A1)] 1 [some (.ref a),some (.int c),some (.str y),some (.int k),some (.ref A1)] H1:=Cr.mk [] [] rfl s1 Ap .nil (fun u hu=>nomatch hu) (bA _)
  refine jr (fun _ Hc=>Hc=H1) (fun Qc qc=>⟨_,rfl,_,_,rfl,rfl,eu,rfl,_,rfl,aY (fun _=>⟨_,rfl,_,_,rfl,rfl,_,rfl,qc _ _ rfl⟩) (fun _=>qc _ _ rfl)⟩) (fun Hc h => ?_) (fun Hc h=>by subst h;exact key _ _ no)
  subst h
  refine⟨_,rfl,.inl ⟨rfl,_,b6.of Ap⟩,_,rfl,_,rfl,_,rfl,c,_,_,rfl,by decide,by decide,by decide,fun u _ _=>⟨a,ns,u,rfl,s1.seq hS,(show 3<=sizeLine by decide),fun p hp => ?_⟩⟩
  have g:=aD hp (.tup [.str "free",.str y,.str (dR (eF ns) u)])
  exact⟨A1, [],.ref p,rfl,rfl,g _ _ Ap,(by decide),key _ _ (FX (n:=0) (k := .free y (dR (eF ns) u)) Aq s1 Ap .nil (fun u hu=>nomatch hu) (aB _) g ⟨p,rfl,av⟩ ⟨rfl,iy _ _⟩)⟩
 rintro bC H2 ⟨cu,as,rfl,s2,ra,i3,Zf,l2⟩
 have aeQ:=dw i3
 refine kz (Cr H A1 y [some (.ref a),some (.int c),some (.str y),some (.int k),some (.ref A1)] 2) ?_ (fun key => ?_)
 rotate_left
 ·refine jr (fun _ Hc=>Hc=H2) (fun Qc qc=>⟨_,rfl,rfl,_,rfl,aY (fun _=>qc _ _ rfl) (fun _=>⟨_,rfl,rfl,_,rfl,aY (fun _=>qc _ _ rfl) (fun _=>⟨_,rfl,rfl,_,rfl,qc _ _ rfl⟩)⟩)⟩) (fun Hc h => ?_) (fun Hc h=>by subst h;exact key _ _ (Cr.mk cu as rfl s2 ra i3 Zf (by omega)))
  subst h
  refine⟨_,rfl,.inl ⟨rfl,_,b6.of ra⟩,_,rfl,_,rfl,c,_,_,rfl,by decide,by decide,by decide,fun u u0 u1=>⟨_,_,rfl,rfl,(show 3<=sizeLine by decide),fun p hp => ?_⟩⟩
  have g:=aD hp (.tup [.str "sign",.str y,.int (1+u)])
  exact⟨A1,cu,.ref p,rfl,rfl,g _ _ ra,gP (by omega),key _ _ (FX (n:=1) (k := .sign y (1+u)) Aq s2 ra i3 Zf l2 g ⟨p,rfl,av⟩ ⟨rfl,by omega,by omega⟩)⟩
 clear aeQ l2 Zf i3 ra s2
 rintro bC H3 ⟨cu,as,rfl,s3,Mw,mw,U3,l3⟩
 have ahH:=dw mw
 refine kz (Cr H A1 y [some (.ref a),some (.int c),some (.str y),some (.int k),some (.ref A1)] 3) ?_ (fun key => ?_)
 rotate_left
 ·refine⟨_,rfl,rfl,_,rfl,aY (fun _ => ?_) (fun _=>key _ _ (Cr.mk cu as rfl s3 Mw mw U3 (by omega)))⟩
  refine⟨_,rfl,.inl ⟨rfl,_,b6.of Mw⟩,_,rfl,(show 2<=sizeLine by decide),fun p hp => ?_⟩
  have g:=aD hp (.tup [.str "number",.str y])
  exact⟨A1,cu,.ref p,rfl,rfl,g _ _ Mw,gP (by omega),key _ _ (FX (n:=2) (k := .num y) Aq s3 Mw mw U3 l3 g ⟨p,rfl,av⟩ ⟨rfl,trivial⟩)⟩
 rintro bC H4 ⟨cu,as,rfl,s4,hA4,u7,ok4,l4⟩
 exact⟨_,rfl,q A1 cu as H4 s4 Aq hA4 u7 ok4 l4⟩
inductive BA (K:aj) (vs:List V) (H:Hp) (Q:VK):Prop
 | mk (a:Addr) (ns:List Int) (c v:Int) (ev:vs = [.ref a,.int c,.int v]) (hS:b6 K H a (ns.map V.int)) (q:∀ d wt vl vr l r AL cu as H',aT H H'->H AL=none->yC H' d (dR (eF ns) v) wt vl vr l r AL cu as->i5 (dR (eF ns) v) wt l r as->Q (.ref d) H'):BA K vs H Q
def Fb (K:aj):Sp:=fun vs H Q _=>BA K vs H Q
theorem WB {y z:Str}{wt:Int}{l r:T}{as:List Ask} (g:pD y l r) (hz:dW z) (w1:1<=wt) (w2:wt<=1000000000000) (vf:as.length<=3) (ok:∀ k∈as,k.hole=y∧Gq k) (hy:dW y) (GX:as = []∨y∈raw l):i5 z wt l r as:=by
 have tT:∀ k∈as,k.hole∈j6 l []:=fun k hk=>by
  rcases GX with rfl | h
  ·cases hk
  ·rw[(ok k hk).1];exact tK.mpr h
 refine⟨⟨hz,⟨w1,w2⟩,g.pat,by omega,fun k hk => ?_⟩,g.l_,g.r_,g.dl,g.dr,fun k hk=>by rw[(ok k hk).1];exact hy,g.hw⟩
 have h1:=tT k hk
 have h2:=(ok k hk).2
 cases k with
 | free x u=>exact⟨h1,h2⟩
 | sign x m=>exact⟨h1,h2⟩
 | num x=>exact h1
inductive V0 (H:Hp) (pre:V->St) (y:Str) (l:T) (σ : St) (H':Hp):Prop
 | mk (A:Addr) (cu:List V) (as:List Ask) (e : σ = pre (.ref A)) (sm:aT H H') (fr:H A=none) (hA:H' A=some (.lst cu)) (hp:Paired (iO H') cu as) (ok:∀ k∈as,k.hole=y∧Gq k) (len:as.length<=3) (GX:as = []∨y∈raw l):V0 H pre y l σ H'
theorem Xg (B:hJ mg) (fN:cS P w K mg base 2 "_law_word" ["_law_script", "_law_which"] (p8 K)) (FH:cS P w K mg base 3 "_law_sides" ["_law_script", "_law_cell"] (Ly K)) (J0:cS P w K mg base 3 "_law_asks" ["_law_script", "_law_cell"] (LI K)) (D:Def K mg "_law_rule" IS ["_law_script", "_law_cell", "_law_which"]):cS P w K mg base 4 "_law_rule" ["_law_script", "_law_cell", "_law_which"] (Fb K):=by
 refine D.eL Bp (fun vs H Q E h => ?_) (fun f a8 A outer s H vs Q E hr h => ?_)
 ·obtain⟨a,ns,c,v,rfl,_⟩:=h;rfl
 obtain⟨a,ns,c,v,rfl,hS,q⟩:=h
 refine⟨_,(ao (aR (i:=3) Bp.nd rfl (aH rfl) (aG FH hr (by omega) rfl (ae (aq 0) (ae (aq 1) ag))))
  (ao (aR (i:=4) Bp.nd rfl (aH rfl) (aG J0 hr (by omega) rfl (ae (aq 0) (ae (aq 1) ag))))
  (ao (a6 (aC cb (aP a7 (aP a7 (aP a7 (aP a7 (aq 3) ai (fun _ _=>rfl)) ai (fun _ _=>rfl)) ai (fun _ _=>rfl)) ai (fun _ _=>rfl)) ay (aQ _)) (aw (aR (i:=4) Bp.nd rfl (aH rfl) (gi ag))) aJ)
  (aw (aW (aS (ae (aG fN hr (by omega) rfl (ae (aq 0) (ae (aq 2) ag))) (ae (aX js ai (aX h9 (aq 1) (aX DV ai ai))) (ae (aP a7 (aq 3) ai (fun _ _=>rfl)) (ae (aP a7 (aq 3) ai (fun _ _=>rfl)) (ae (aq 4) ag))))))))))),?_⟩
 try dsimp only[bZ]
 refine⟨_,rfl,_,rfl,F1.mk a ns c rfl hS fun p vl vr l r H1 s1 hp hl yU g => ?_⟩
 dsimp only[bc]
 refine⟨_,rfl,_,rfl,F7.mk a ns c rfl (s1.seq hS) fun A1 cu as H2 s2 frA hA Af ok vf => ?_⟩
 dsimp only[bc]
 have i3:=s2 _ _ hp
 have Ca:=bP s2 hl
 have Vq:=hl
 have wy:=iy (eF ns) 20
 generalize dR (eF ns) 20=y at g ok wy
 refine kz (V0 H1 (fun u => [some (.ref a),some (.int c),some (.int v),some (.ref p),some u]) y l) ?_ (fun key => ?_)
 rotate_left
 ·obtain⟨x,t,ts,el,et⟩:=g.first
  rw[el,bJ]at Ca
  obtain⟨al,bl,us,rfl,h1,h2,h3⟩:=Ca
  rw[dS]at h3
  obtain⟨v0,i8,rfl,h4,_⟩:=h3
  rcases et with rfl | ⟨z,rfl⟩
  ·rw[bJ]at h4
   obtain⟨a0,rfl,h5⟩:=h4
   refine⟨_,rfl,p,_,0,_,rfl,rfl,aU.of i3,ax (j:=0) rfl,al,_,2,_,rfl,rfl,aU.of h1,ax (j:=2) rfl,bl,_,0,_,rfl,rfl,aU.of h2,ax (j:=0) rfl,a0,_,0,_,rfl,rfl,aU.of h5,ax (j:=0) rfl,rfl,_,rfl,aY (fun z=>absurd (V.str.inj z) (by decide)) (fun _ => ?_)⟩
   exact key _ _ (V0.mk A1 cu as rfl s2 frA hA Af ok vf (.inr (by rw[el,raw,hG,raw];exact lz _ aV)))
  ·rw[bJ]at h4
   obtain⟨a0,rfl,h5⟩:=h4
   refine⟨_,rfl,p,_,0,_,rfl,rfl,aU.of i3,ax (j:=0) rfl,al,_,2,_,rfl,rfl,aU.of h1,ax (j:=2) rfl,bl,_,0,_,rfl,rfl,aU.of h2,ax (j:=0) rfl,a0,_,0,_,rfl,rfl,aU.of h5,ax (j:=0) rfl,rfl,_,rfl,aY (fun _ => ?_) (fun z=>absurd rfl z)⟩
   refine⟨bA _,fun A2 ra=>key _ _ (V0.mk A2 [] [] rfl (s2.trans (aD ra _)) (s2.free ra) av .nil (fun k hk=>nomatch hk) (bA _) (.inl rfl))⟩
 rintro bC H3 ⟨A3,afc,as3,rfl,s3,VE,Mw,mw,U3,aeZ,GX⟩
 have oC:=s3 _ _ hp
 have y0:=dH c (show (10:Int) ^ (12:Int).toNat≠0 by decide)
 have y1:=dz c (show (0:Int) < 10 ^ (12:Int).toNat by decide)
 refine⟨_,rfl,_,rfl,a,ns,v,rfl,(s1.trans s3).seq hS,_,rfl,10,12,rfl,rfl,⟨by decide,by decide,by decide⟩,_,_,rfl,rfl,(by decide:(0:Int) < 10 ^ (12:Int).toNat),_,_,rfl,rfl,_,rfl,p,_,0,_,rfl,rfl,aU.of oC,ax (j:=0) rfl,_,rfl,p,_,1,_,rfl,rfl,aU.of oC,ax (j:=1) rfl,_,rfl,(show 5<=sizeLine by decide),fun d hd => ?_⟩
 have eb:(10:Int) ^ (12:Int).toNat=1000000000000:=by decide
 rw[eb]at y0 y1 ⊢
 have g4:=aD hd (.tup [.str (dR (eF ns) v),.int (1+c % 1000000000000),vl,vr,.ref A3])
 exact q d _ vl vr l r A3 afc as3 _ (s1.trans (s3.trans g4)) (s1.free VE) ⟨av,bP (s3.trans g4) Vq,bP (s3.trans g4) yU,g4 _ _ Mw,kX g4 mw⟩ (WB g (iy _ _) (by omega) (by omega) aeZ U3 wy GX)
def O5 (i:Nat):Int:=([1,2,4]:List Int).getD i 1
theorem YF:∀ i:Nat,i < 3->nK [V.int 1,V.int 2,V.int 4] (0+(i:Int))=some (.int (O5 i)):=fun i hi=>by
 rcases(show i=0∨i=1∨i=2 by omega) with rfl | rfl | rfl <;> rfl
theorem WE (i:Nat):0 < O5 i∧O5 i < 1073741824:=by
 rcases(show i=0∨i=1∨i=2∨3<=i by omega) with rfl | rfl | rfl | h
 ·decide
 ·decide
 ·decide
 ·unfold O5
  rw[cG,kS (by simpa using h)]
  decide
def zW (m:Int):Nat->Str
 | 0 => ""
 | i+1=>if m / O5 i % 2=1 then zW m i ++ ⟨#[("-0+" : Str).cps.toList.getD i 0]⟩ else zW m i
theorem Zn {m:Int} (h1:1<=m) (h7:m<=7):zW m 3=fM m:=by
 rcases(by omega:m=1∨m=2∨m=3∨m=4∨m=5∨m=6∨m=7) with rfl | rfl | rfl | rfl | rfl | rfl | rfl <;> decide +kernel
theorem Ma (m:Int):∀ i,(zW m i).length<=i
 | 0=>bA _
 | i+1=>by
  have:=Ma m i
  rw[zW]
  split
  ·rw[au]
   show (zW m i).length+1<=i+1
   omega
  ·omega
theorem Q4 (a b c:Str):a ++ b ++ c=a ++ (b ++ c):=by
 refine dY ?_
 simp only[bN,bH]
theorem XW (a:Str):a ++ ("" : Str)=a:=by
 refine dY ?_
 rw[bN]
 exact dh _
inductive AQ (vs:List V) (H:Hp) (Q:VK):Prop
 | mk (v:V) (a:Ask) (bs:List Str) (ev:vs = [v]) (hv:iO H v a) (ok:Dw bs a) (q:∀ H',aT H H'->Q (.str (ju a)) H'):AQ vs H Q
def GG:Sp:=fun vs H Q _=>AQ vs H Q
inductive Nb (H:Hp) (v:V) (b:Str) (m:Int) (i:Nat) (σ : St) (H':Hp):Prop
 | mk (x2:Option V) (e : σ = [some v,some (.str (b ++ zW m i)),x2]) (sm:aT H H'):Nb H v b m i σ H'
theorem Li (B:hJ mg) (D:Def K mg "_law_ask_text" xJ ["_law_ask"]):cS P w K mg base 1 "_law_ask_text" ["_law_ask"] GG:=by
 refine D.eL lJ (fun vs H Q E h => ?_) (fun f a8 A outer s H vs Q E hr h => ?_)
 ·obtain⟨v,a,bs,rfl,_⟩:=h;rfl
 obtain⟨v,a,bs,rfl,hv,ok,q⟩:=h
 refine⟨_,(ao (aR (i:=1) lJ.nd rfl (aH rfl) (aX bX (aX bX (aP a7 (aq 0) ai (fun _ _=>rfl)) ay) (aP a7 (aq 0) ai (fun _ _=>rfl))))
  (ao (a6 (aC cb (aP a7 (aq 0) ai (fun _ _=>rfl)) ay (aQ _)) (aw (aR (i:=1) lJ.nd rfl (aH rfl) (aX bX (aX bX (aq 1) ay) (aP a7 (aq 0) ai (fun _ _=>rfl))))) aJ)
  (ao (a6 (aC cb (aP a7 (aq 0) ai (fun _ _=>rfl)) ay (aQ _)) (ao (aR (i:=1) lJ.nd rfl (aH rfl) (aX bX (aq 1) ay))
  (aw (iz eO rfl (o7 rfl B.zL (ae ai ag)) (dI (i:=2) lJ.nd rfl (aH rfl))
  (aw (a6 (aC cb (aX h9 (aX wD (aP a7 (aq 0) ai (fun _ _=>rfl)) (aP a7 (aS (ae ai (ae ai (ae ai ag)))) (aq 2) (fun _ _=>rfl))) ai) ai (aQ _)) (aw (aR (i:=1) lJ.nd rfl (aH rfl) (aX bX (aq 1) (aP wJ ay (aq 2) (fun _ _=>rfl))))) aJ))))) aJ)
  (aw (aW (aq 1)))))),?_⟩
 try dsimp only[bZ]
 have big:(1000:Nat)<=sizeLine:=by decide
 have w8:=ok.w.2.1
 cases a with
 | free h z =>
  obtain⟨a,rfl,ha⟩:=hv
  have h8:h.length<=8:=w8
  have z8:=ok.ok.2.2.1
  refine⟨_,rfl,a,_,0,_,rfl,rfl,aU.of ha,ax (j:=0) rfl,_,_,rfl,rfl,?_,_,rfl,a,_,1,_,rfl,rfl,aU.of ha,ax (j:=1) rfl,_,_,rfl,rfl,?_,?_⟩
  ·show 4+2<=sizeLine;omega
  ·rw[au];show 4+2+h.length<=sizeLine;omega
  dsimp only[bc]
  refine kz (fun σ H' => σ = [some (.ref a),some (.str ("free" ++ " ?" ++ h ++ " " ++ z)),none]∧H'=H) ?_ (fun key => ?_)
  rotate_left
  ·refine⟨_,rfl,a,_,0,_,rfl,rfl,aU.of ha,ax (j:=0) rfl,rfl,_,rfl,aY (fun _ => ?_) (fun z=>absurd rfl z)⟩
   refine⟨_,rfl,_,_,rfl,rfl,?_,_,rfl,a,_,2,_,rfl,rfl,aU.of ha,ax (j:=2) rfl,_,_,rfl,rfl,?_,key _ _ ⟨rfl,rfl⟩⟩
   ·rw[au,au];show 4+2+h.length+1<=sizeLine;omega
   ·rw[au,au,au];show 4+2+h.length+1+z.length<=sizeLine;omega
  rintro σ H' ⟨rfl,rfl⟩
  refine⟨_,rfl,a,_,0,_,rfl,rfl,aU.of ha,ax (j:=0) rfl,rfl,_,rfl,aY (fun z=>absurd (V.str.inj z) (by decide)) (fun _=>⟨_,rfl,q _ (aT.refl _)⟩)⟩
 | sign h k =>
  obtain⟨a,rfl,ha⟩:=hv
  have h8:h.length<=8:=w8
  refine⟨_,rfl,a,_,0,_,rfl,rfl,aU.of ha,ax (j:=0) rfl,_,_,rfl,rfl,?_,_,rfl,a,_,1,_,rfl,rfl,aU.of ha,ax (j:=1) rfl,_,_,rfl,rfl,?_,?_⟩
  ·show 4+2<=sizeLine;omega
  ·rw[au];show 4+2+h.length<=sizeLine;omega
  dsimp only[bc]
  refine⟨_,rfl,a,_,0,_,rfl,rfl,aU.of ha,ax (j:=0) rfl,rfl,_,rfl,aY (fun z=>absurd (V.str.inj z) (by decide)) (fun _ => ?_)⟩
  dsimp only[fe]
  refine kz (Nb H (.ref a) ("sign" ++ " ?" ++ h ++ " ") k 3) ?_ (fun key => ?_)
  rotate_left
  ·refine⟨_,rfl,a,_,0,_,rfl,rfl,aU.of ha,ax (j:=0) rfl,rfl,_,rfl,aY (fun _ => ?_) (fun z=>absurd rfl z)⟩
   refine⟨_,rfl,_,_,rfl,rfl,?_,?_⟩
   ·rw[au,au];show 4+2+h.length+1<=sizeLine;omega
   dsimp only[bc]
   have lb:("sign" ++ " ?" ++ h ++ " " : Str).length<=20:=by
    rw[au,au,au];show 4+2+h.length+1<=20;omega
   have e0:("sign" ++ " ?" ++ h ++ " " : Str) = "sign" ++ " ?" ++ h ++ " " ++ zW k 0:=(XW _).symm
   generalize ("sign" ++ " ?" ++ h ++ " " : Str)=b at lb e0 key ⊢
   refine⟨3,rfl,by decide,by decide,?_⟩
   refine G3 (lo:=0) (n:=3) (Nb H (.ref a) b k) (Nb.mk none (by rw[<- e0];rfl) (aT.refl _)) ?_ (fun σ H' h=>key _ _ h)
   rintro i σ H' hi ⟨x2,rfl,s1⟩
   dsimp only[bc]
   have ml:=Ma k i
   refine⟨_,rfl,a,_,2,_,rfl,rfl,aU.of (s1 _ _ ha),ax (j:=2) rfl,(show 3<=sizeLine by decide),fun l hl=>⟨_,rfl,l,_,_,_,rfl,rfl,aU.of av,YF i hi,_,_,rfl,rfl,WE i,_,_,rfl,rfl,eu,rfl,_,rfl,aY (fun c => ?_) (fun c => ?_)⟩⟩
   ·have s2:=s1.trans (aD hl (.tup [.int 1,.int 2,.int 4]))
    have hc:("-0+" : Str).cps.toList[i]? = some (("-0+" : Str).cps.toList.getD i 0):=by
     rcases(show i=0∨i=1∨i=2 by omega) with rfl | rfl | rfl <;> rfl
    refine⟨_,rfl,_,rfl,_,_,_,rfl,rfl,by decide,by rw[show (0:Int)+(i:Int)=((i:Nat):Int) by omega];exact ax hc,_,_,rfl,rfl,?_,Nb.mk (some (.int (0+(i:Int)))) ?_ s2⟩
    ·rw[au];show b.length+(zW k i).length+1<=sizeLine;omega
    ·rw[zW,if_pos (V.int.inj c), <- Q4]
     rfl
   ·refine Nb.mk (some (.int (0+(i:Int)))) ?_ (s1.trans (aD hl _))
    rw[zW,if_neg (fun z=>c (by rw[z]))]
    rfl
  rintro σ H' ⟨x2,rfl,s1⟩
  rw[Zn ok.ok.2.1 ok.ok.2.2]
  exact⟨_,rfl,q _ s1⟩
 | num h =>
  obtain⟨a,rfl,ha⟩:=hv
  have h8:h.length<=8:=w8
  refine⟨_,rfl,a,_,0,_,rfl,rfl,aU.of ha,ax (j:=0) rfl,_,_,rfl,rfl,?_,_,rfl,a,_,1,_,rfl,rfl,aU.of ha,ax (j:=1) rfl,_,_,rfl,rfl,?_,?_⟩
  ·show 6+2<=sizeLine;omega
  ·rw[au];show 6+2+h.length<=sizeLine;omega
  dsimp only[bc]
  refine⟨_,rfl,a,_,0,_,rfl,rfl,aU.of ha,ax (j:=0) rfl,rfl,_,rfl,aY (fun z=>absurd (V.str.inj z) (by decide)) (fun _ => ?_)⟩
  refine⟨_,rfl,a,_,0,_,rfl,rfl,aU.of ha,ax (j:=0) rfl,rfl,_,rfl,aY (fun z=>absurd (V.str.inj z) (by decide)) (fun _=>⟨_,rfl,q _ (aT.refl _)⟩)⟩
theorem Po:∀ {ts:List T}{t:T},t∈ts->t.parts<=T.dO ts:=Fw
def Bl (n:Nat):Sp:=fun vs H Q _=>∃ v t,vs = [v]∧bJ H t v∧t.Ok∧t.depth<=n∧t.parts<=10000∧∀ H',aT H H'->Q (.str t.shown) H'
theorem Jp (B:hJ mg) (D:Def K mg "_law_shown" Br ["_law_tree"]):∀ n,cS P w K mg base n "_law_shown" ["_law_tree"] (Bl n)
 | 0=>by
  obtain⟨fa,fd,F,hm,hb⟩:=D.ex
  have no:∀ vs H Q E, ¬ Bl 0 vs H Q E:=fun vs H Q E h=>by
   obtain⟨v,t,_,_,_,z,_⟩:=h
   have:=kW t
   omega
  exact⟨fa,fd,⟨fun vs H Q E h=>absurd h (no vs H Q E),fun A outer s H args us vs Q E _ _ _ _ h=>absurd h (no vs H Q E)⟩,hm,F.kp,hb⟩
 | n+1=>by
  have kF:=Jp B D n
  refine D.eL R0 (fun vs H Q E h => ?_) (fun f a8 A outer s H vs Q E hr h => ?_)
  ·obtain⟨v,t,rfl,_⟩:=h;rfl
  obtain⟨v,t,rfl,hT,br,hd,hp,q⟩:=h
  have hsl:=zC t br
  have big:(1000000:Nat)<=sizeLine:=by decide
  refine⟨_,(ao (a6 (aC cb (aP a7 (aq 0) ai (fun _ _=>rfl)) ay (aQ _)) (aw (aW (gG mC rfl B.Iz rg (ae (aP a7 (aq 0) ai (fun _ _=>rfl)) ag)))) aJ)
  (ao (a6 (aC cb (aP a7 (aq 0) ai (fun _ _=>rfl)) ay (aQ _)) (aw (aW (aP a7 (aq 0) ai (fun _ _=>rfl)))) aJ)
  (ao (a6 (aC cb (aP a7 (aq 0) ai (fun _ _=>rfl)) ay (aQ _)) (aw (aW (aX bX ay (aP a7 (aq 0) ai (fun _ _=>rfl))))) aJ)
  (aw (aW (aX bX (aX bX (aX bX (aP a7 (aq 0) ai (fun _ _=>rfl)) ay) (fq ck kP kO Bu ay (ae (tu (te:=(k7 _ _ _ (sx _ sT))) (own := ["_law_arm"]) (caps := []) (jd (az Br) ["_law_tree"] rfl rfl rfl (by decide +kernel)) (wz (aP a7 (aq 0) ai (fun _ _=>rfl))) rfl (fun _ _ _=>dI (i:=0) (show (["_law_arm"]:List Str).Nodup by decide +kernel) rfl (aH rfl)) (fun _ _ _=>(aG kF hr (by omega) rfl (ae (aq 0) ag)))) ag))) ay)))))),?_⟩
  try dsimp only[bZ]
  cases t with
  | num k =>
   rw[bJ]at hT
   rw[T.Ok]at br
   rw[T.shown]at q
   obtain⟨a,rfl,h⟩:=hT
   refine⟨_,rfl,a,_,0,_,rfl,rfl,aU.of h,ax (j:=0) rfl,rfl,_,rfl,aY (fun _ => ?_) (fun z=>absurd rfl z)⟩
   exact⟨_,rfl,a,_,1,_,rfl,rfl,aU.of h,ax (j:=1) rfl,k,rfl,wG br.1 br.2,q _ (aT.refl _)⟩
  | name x =>
   rw[bJ]at hT
   rw[T.shown]at q
   obtain⟨a,rfl,h⟩:=hT
   refine⟨_,rfl,a,_,0,_,rfl,rfl,aU.of h,ax (j:=0) rfl,rfl,_,rfl,aY (fun z=>absurd (V.str.inj z) (by decide)) (fun _ => ?_)⟩
   refine⟨_,rfl,a,_,0,_,rfl,rfl,aU.of h,ax (j:=0) rfl,rfl,_,rfl,aY (fun _ => ?_) (fun z=>absurd rfl z)⟩
   exact⟨_,rfl,a,_,1,_,rfl,rfl,aU.of h,ax (j:=1) rfl,q _ (aT.refl _)⟩
  | any x =>
   rw[bJ]at hT
   rw[T.Ok]at br
   rw[T.shown]at q
   obtain⟨a,rfl,h⟩:=hT
   refine⟨_,rfl,a,_,0,_,rfl,rfl,aU.of h,ax (j:=0) rfl,rfl,_,rfl,aY (fun z=>absurd (V.str.inj z) (by decide)) (fun _ => ?_)⟩
   refine⟨_,rfl,a,_,0,_,rfl,rfl,aU.of h,ax (j:=0) rfl,rfl,_,rfl,aY (fun z=>absurd (V.str.inj z) (by decide)) (fun _ => ?_)⟩
   refine⟨_,rfl,a,_,0,_,rfl,rfl,aU.of h,ax (j:=0) rfl,rfl,_,rfl,aY (fun _ => ?_) (fun z=>absurd rfl z)⟩
   have hz:("?" : Str).length+x.length<=sizeLine:=by
    have:=br.2.1
    have e1:("?" : Str).length=1:=rfl
    omega
   exact⟨_,rfl,a,_,1,_,rfl,rfl,aU.of h,ax (j:=1) rfl,_,_,rfl,rfl,hz,q _ (aT.refl _)⟩
  | of x ts =>
   rw[bJ]at hT
   rw[T.Ok]at br
   rw[T.depth]at hd
   rw[T.parts]at hp
   rw[T.shown]at q
   obtain⟨a,b,vs,rfl,h,hb,J2⟩:=hT
   obtain⟨hx,tU,Vp,FE⟩:=br
   have dX:=sJ J2
   have hln:=xB ts FE
   have hxl:=hx.2.1
   have tV:=kc ", " (T.fV ts)
   have e2:(", " : Str).length=2:=rfl
   have e1:("(" : Str).length=1:=rfl
   have QJ:(")" : Str).length=1:=rfl
   rw[e2]at tV
   have ej:uq ", " (T.fV ts)=bw ", " (T.fV ts):=Me _
   refine⟨_,rfl,a,_,0,_,rfl,rfl,aU.of h,ax (j:=0) rfl,rfl,_,rfl,aY (fun z=>absurd (V.str.inj z) (by decide)) (fun _ => ?_)⟩
   refine⟨_,rfl,a,_,0,_,rfl,rfl,aU.of h,ax (j:=0) rfl,rfl,_,rfl,aY (fun z=>absurd (V.str.inj z) (by decide)) (fun _ => ?_)⟩
   refine⟨_,rfl,a,_,0,_,rfl,rfl,aU.of h,ax (j:=0) rfl,rfl,_,rfl,aY (fun z=>absurd (V.str.inj z) (by decide)) (fun _ => ?_)⟩
   refine⟨_,rfl,a,_,1,_,rfl,rfl,aU.of h,ax (j:=1) rfl,_,_,rfl,rfl,?_,rfl,_,rfl,a,_,2,_,rfl,rfl,aU.of h,ax (j:=2) rfl,b,rfl,⟨vs,aU.of hb⟩,?_⟩
   ·rw[e1];omega
   refine QQ (ys:=(T.fV ts).map V.str) (aU.of hb) (by omega) (by rw[aA,xA,aA,dX]) (fun i y z hy hz H' sm Q' q' => ?_) (fun D2 H3 vd s3 jB => ?_)
   ·obtain⟨ti,yT,J3⟩:=zq J2 hy
    have tT:ti∈ts:=bB yT
    have d1:=jc tT
    have p1:=Po tT
    rw[cf,xA,cf,yT]at hz
    cases hz
    exact⟨_,rfl,y,ti,rfl,bP sm J3,ql.mp FE ti tT,by omega,by omega,fun H3 s3=>q' _ s3⟩
   refine⟨", ",D2,T.fV ts,rfl,rfl,b6.of jB,by rw[e2];omega,_,_,rfl,rfl,?_,_,_,rfl,rfl,?_,?_⟩
   ·rw[ej,au,e1];omega
   ·rw[ej,au,au,e1,QJ];omega
   ·rw[ej]
    exact q _ s3
inductive pC (vs:List V) (H:Hp) (Q:VK):Prop
 | mk (d AL:Addr) (z:Str) (wt:Int) (vl vr:V) (l r:T) (cu:List V) (as:List Ask) (ev:vs = [.ref d]) (jS:yC H d z wt vl vr l r AL cu as) (g:i5 z wt l r as) (q:∀ H',aT H H'->Q (.str (jM z wt l r as)) H'):pC vs H Q
def xw:Sp:=fun vs H Q _=>pC vs H Q
def dA:Ask->L2.D
 | .free h z => .tup [.str "free",.str h,.str z]
 | .sign h m => .tup [.str "sign",.str h,.int m]
 | .num h => .tup [.str "number",.str h]
mutual
def dT:T->L2.D
 | .num n => .tup [.str "num",.int n]
 | .name x => .tup [.str "name",.str x]
 | .any x => .tup [.str "any",.str x]
 | .of x ts => .tup [.str "of",.str x,.tup (Ax ts)]
def Ax:List T->List L2.D
 | [] => []
 | t :: ts=>dT t :: Ax ts
end
theorem XO {H:Hp}{v:V}{a:Ask} (h:iO H v a):Den H (dA a) v:=by
 cases a with
 | free x z =>
  obtain⟨p,rfl,hp⟩:=h
  rw[dA,Den]
  refine⟨p,_,rfl,hp,?_⟩
  simp only[kg,Den]
  exact⟨_,_,rfl,rfl,_,_,rfl,rfl,_,_,rfl,rfl,rfl⟩
 | sign x m =>
  obtain⟨p,rfl,hp⟩:=h
  rw[dA,Den]
  refine⟨p,_,rfl,hp,?_⟩
  simp only[kg,Den]
  exact⟨_,_,rfl,rfl,_,_,rfl,rfl,_,_,rfl,.inl rfl,rfl⟩
 | num x =>
  obtain⟨p,rfl,hp⟩:=h
  rw[dA,Den]
  refine⟨p,_,rfl,hp,?_⟩
  simp only[kg,Den]
  exact⟨_,_,rfl,rfl,_,_,rfl,rfl,rfl⟩
theorem QL {H:Hp}{cu:List V}{as:List Ask} (h:Paired (iO H) cu as):kg H (as.map dA) cu:=by
 induction h with
 | nil=>rw[mG,kg]
 | cons e _ ih=>rw[b0,kg];exact⟨_,_,rfl,XO e,ih⟩
mutual
theorem aa5 {H:Hp}:∀ {t:T}{v:V},bJ H t v->Den H (dT t) v
 | .num n,v,h=>by
  rw[bJ]at h
  obtain⟨a,rfl,h⟩:=h
  rw[dT,Den]
  refine⟨a,_,rfl,h,?_⟩
  simp only[kg,Den]
  exact⟨_,_,rfl,rfl,_,_,rfl,.inl rfl,rfl⟩
 | .name n,v,h=>by
  rw[bJ]at h
  obtain⟨a,rfl,h⟩:=h
  rw[dT,Den]
  refine⟨a,_,rfl,h,?_⟩
  simp only[kg,Den]
  exact⟨_,_,rfl,rfl,_,_,rfl,rfl,rfl⟩
 | .any n,v,h=>by
  rw[bJ]at h
  obtain⟨a,rfl,h⟩:=h
  rw[dT,Den]
  refine⟨a,_,rfl,h,?_⟩
  simp only[kg,Den]
  exact⟨_,_,rfl,rfl,_,_,rfl,rfl,rfl⟩
 | .of x ts,v,h=>by
  rw[bJ]at h
  obtain⟨a,b,us,rfl,h,hb,hT⟩:=h
  rw[dT,Den]
  refine⟨a,_,rfl,h,?_⟩
  have z:=FO hT
  simp only[kg,Den]
  exact⟨_,_,rfl,rfl,_,_,rfl,rfl,_,_,rfl,⟨b,us,rfl,hb,z⟩,rfl⟩
theorem FO {H:Hp}:∀ {ts:List T}{vs:List V},dS H ts vs->kg H (Ax ts) vs
 | [],vs,h=>by rw[dS]at h;rw[Ax,kg];exact h
 | t :: ts,vs,h=>by
  rw[dS]at h
  obtain⟨u,us,rfl,h1,h2⟩:=h
  rw[Ax,kg]
  exact⟨u,us,rfl,aa5 h1,FO h2⟩
end
mutual
theorem XR:∀ t:T,(dT t).deep<=2 * t.depth
 | .num n=>by rw[dT,T.depth];simp[D.deep,D.jx]
 | .name n=>by rw[dT,T.depth];simp[D.deep,D.jx]
 | .any n=>by rw[dT,T.depth];simp[D.deep,D.jx]
 | .of x ts=>by
  have:=Dc ts
  rw[dT,T.depth]
  simp only[D.deep,D.jx]
  omega
theorem Dc:∀ ts:List T,D.jx (Ax ts)<=2 * T.gp ts
 | []=>by rw[Ax,D.jx];exact bA _
 | t :: ts=>by
  have:=XR t
  have:=Dc ts
  rw[Ax,D.jx,T.gp]
  omega
end
theorem G8:∀ as:List Ask,D.jx (as.map dA)<=1
 | []=>by rw[mG,D.jx];decide
 | a :: as=>by
  have:=G8 as
  rw[b0,D.jx]
  have:(dA a).deep<=1:=by cases a <;> simp[dA,D.deep,D.jx]
  omega
theorem Jr (B:hJ mg) (kF:cS P w K mg base 14 "_law_shown" ["_law_tree"] (Bl 14)) (yi:cS P w K mg base 1 "_law_ask_text" ["_law_ask"] GG) (D:Def K mg "_law_rule_text" qL ["_law_rule_here"]):cS P w K mg base 15 "_law_rule_text" ["_law_rule_here"] xw:=by
 refine D.eL oX (fun vs H Q E h => ?_) (fun f a8 A outer s H vs Q E hr h => ?_)
 ·obtain⟨d,AL,z,wt,vl,vr,l,r,cu,as,rfl,_⟩:=h;rfl
 obtain⟨d,AL,z,wt,vl,vr,l,r,cu,as,rfl,jS,g,q⟩:=h
 refine⟨_,(ao (aR (i:=1) oX.nd rfl (aH rfl) (aX bX (aX bX (aG kF hr (by omega) rfl (ae (aP a7 (aq 0) ai (fun _ _=>rfl)) ag)) ay) (aG kF hr (by omega) rfl (ae (aP a7 (aq 0) ai (fun _ _=>rfl)) ag))))
  (ao (aR (i:=2) oX.nd rfl (aH rfl) (aX bX (aX bX (aX bX (aX bX (aP a7 (aq 0) ai (fun _ _=>rfl)) ay) (gG mC rfl B.Iz rg (ae (aP a7 (aq 0) ai (fun _ _=>rfl)) ag))) ay) (aq 1)))
  (ao (a6 (aC (Pr (Ux hr)) (aP a7 (aq 0) ai (fun _ _=>rfl)) (gi ag) (aQ _)) (aw (aR (i:=2) oX.nd rfl (aH rfl) (aX bX (aX bX (aq 2) ay) (fq ck kP kO Bu ay (ae (tu (te:=(k7 _ _ _ (sx _ sT))) (own := ["_law_ask"]) (caps := []) (jd (az qL) ["_law_rule_here", "_law_sides_here", "_law_told"] rfl rfl rfl (by decide +kernel)) (k9 (aP a7 (aq 0) ai (fun _ _=>rfl))) rfl (fun _ _ _=>dI (i:=0) (show (["_law_ask"]:List Str).Nodup by decide +kernel) rfl (aH rfl)) (fun _ _ _=>(aG yi hr (by omega) rfl (ae (aq 0) ag)))) ag))))) aJ)
  (aw (aW (aq 2)))))),?_⟩
 try dsimp only[bZ]
 have nl:=mS (n:=wt) (by have:=g.ok.2.1.1;omega) (by have:=g.ok.2.1.2;omega)
 have ng:=wG (n:=wt) (by have:=g.ok.2.1.1;omega) (by have:=g.ok.2.1.2;omega)
 have z8:=g.ok.1.2.1
 have pl:=g.pl
 have pr:=g.pr
 have lL:=il g.l_ pl
 have lR:=il g.r_ pr
 have vf:=g.vf
 have hd:=jS.hd
 have Mr:=dw jS.hp
 have big:(10000000:Nat)<=sizeLine:=by decide
 have e1:(" " : Str).length=1:=rfl
 have e2:(": " : Str).length=2:=rfl
 have e3:(" = " : Str).length=3:=rfl
 have e4:(" if " : Str).length=4:=rfl
 have e5:(", " : Str).length=2:=rfl
 refine⟨_,rfl,d,_,2,_,rfl,rfl,aU.of hd,ax (j:=2) rfl,vl,l,rfl,jS.hl,g.l_,g.dl,by omega,fun H1 s1=>⟨_,_,rfl,rfl,?_,_,rfl,d,_,3,_,rfl,rfl,aU.of (s1 _ _ hd),ax (j:=3) rfl,vr,r,rfl,bP s1 jS.hr,g.r_,g.dr,by omega,fun H2 s2=>⟨_,_,rfl,rfl,?_,?_⟩⟩⟩
 ·rw[e3];omega
 ·rw[au,e3];omega
 dsimp only[bc]
 have g2:=s1.trans s2
 have Kj:=jS.same g2
 have Ei:=Kj.hd
 have lw:(aI (toString wt)).length<=1000:=by omega
 have ls:(l.shown ++ " = " ++ r.shown:Str).length<=2000:=by rw[au,au,e3];omega
 refine⟨_,rfl,d,_,0,_,rfl,rfl,aU.of Ei,ax (j:=0) rfl,_,_,rfl,rfl,?_,_,rfl,d,_,1,_,rfl,rfl,aU.of Ei,ax (j:=1) rfl,wt,rfl,ng,_,_,rfl,rfl,?_,_,_,rfl,rfl,?_,_,rfl,_,_,rfl,rfl,?_,?_⟩
 ·rw[e1];omega
 ·rw[au,e1];show z.length+1+(aI (toString wt)).length<=_;omega
 ·rw[au,au,e1,e2];show z.length+1+(aI (toString wt)).length+2<=_;omega
 ·rw[au,au,au,e1,e2];show z.length+1+(aI (toString wt)).length+2+_<=_;omega
 have es:z ++ " " ++ aI (toString wt) ++ ": " ++ (l.shown ++ " = " ++ r.shown)=qV z wt l r:=by
  unfold qV
  refine dY ?_
  simp only[bN,bH]
 have l0:(qV z wt l r).length<=5000:=by
  rw[<- es,au,au,au,au,e1,e2]
  omega
 rw[es]
 dsimp only[bc]
 refine jr (fun b Hc=>aT H2 Hc∧b = !cu.isEmpty) (fun Qc qc => ?_) (fun Hc h => ?_) (fun Hc h => ?_)
 ·refine⟨_,rfl,d,_,4,_,rfl,rfl,aU.of Ei,ax (j:=4) rfl,bA _,fun N hN => ?_⟩
  have s3:=aD hN (.lst [])
  refine⟨as.map dA, [],.inr ⟨?_,?_⟩,a9 (G8 as) (by decide),_,rfl,qc _ _ ⟨s3,?_⟩⟩
  ·rw[Den];exact⟨AL,cu,rfl,s3 _ _ Kj.hA,QL (kX s3 Kj.hp)⟩
  ·rw[Den];exact⟨N, [],rfl,av,by rw[kg]⟩
  ·cases cu with
   | nil =>
    have:as = []:=dB (by simpa using Mr.symm)
    rw[this]
    simp
   | cons v l =>
    have:as.map dA ≠ []:=fun z=>by
     have:=congrArg qR z
     rw[aA, <- Mr]at this
     simp at this
    rw[decide_eq_false this]
    rfl
 ·obtain⟨s3,he⟩:=h
  have g3:=g2.trans s3
  have N7:=jS.same g3
  have fo:0 < as.length:=by
   cases cu with
   | nil=>cases he
   | cons v l=>rw[bg]at Mr;omega
  have qY:∀ s∈as.map ju,s.length<=23:=fun s hs=>by
   obtain⟨k,hk,rfl⟩:=fD.mp hs
   exact yw (g.AH hk)
  have tV:=E4 qY
  have hll:=FA qY
  rw[aA]at tV hll
  refine⟨_,rfl,_,_,rfl,rfl,?_,rfl,_,rfl,d,_,4,_,rfl,rfl,aU.of N7.hd,ax (j:=4) rfl,AL,rfl,⟨cu,b6.of N7.hA⟩,?_⟩
  ·show (qV z wt l r).length+4<=sizeLine;omega
  refine pq (R:=fun _ v (s:Str)=>v=V.str s) (bs:=as.map ju) (fun _ _ _ _ _ h=>h) (b6.of N7.hA) (by omega) (by rw[aA];omega) (fun i x y hx hy dF Yp Q' q' => ?_) (fun D2 H3 ys vd s4 jB Mi => ?_)
  ·obtain⟨k,hk,hak⟩:=jO (kX Yp N7.hp) hx
   rw[cf,hk]at hy
   cases hy
   exact⟨_,rfl,AQ.mk x k (j6 l []) rfl hak (g.AH (bB hk)) fun H4 s4=>q' _ _ s4 rfl⟩
  rw[Wq Mi]at jB
  have ej:=Me (as.map ju)
  refine⟨", ",D2,as.map ju,rfl,rfl,b6.of jB,?_,_,_,rfl,rfl,?_,_,rfl,?_⟩
  ·rw[aA,e5];omega
  ·rw[ej,au,e4];show (qV z wt l r).length+4+_<=sizeLine;omega
  ·have e:=q _ (g3.trans s4)
   unfold jM at e
   rw[if_pos fo, <- ej]at e
   exact e
 ·obtain⟨s3,he⟩:=h
  refine⟨_,rfl,?_⟩
  have e:=q _ (g2.trans s3)
  unfold jM at e
  rw[if_neg (by
   cases cu with
   | nil=>simp at Mr;omega
   | cons v l=>cases he)]at e
  exact e
theorem Ip:∀ (H H':Hp) (v:V) (t:T),(∀ c ys,H c=some (.tup ys)->H' c=some (.tup ys))->bJ H t v->bJ H' t v:=fun _ _ _ _ k h=>ik k h
inductive rV (H:Hp) (v:V) (t:T):Prop
 | mk (p:Addr) (u:V) (e:v = .ref p) (hp:H p=some (.tup [u,.int (t.parts:Int)])) (ht:bJ H t u) (g:ko 12 t):rV H v t
theorem rV.keep {H H':Hp}{v:V}{t:T} (k:∀ c ys,H c=some (.tup ys)->H' c=some (.tup ys)) (h:rV H v t):rV H' v t:=by
 obtain⟨p,u,e,hp,ht,g⟩:=h
 exact⟨p,u,e,k _ _ hp,ik k ht,g⟩
theorem kU {H H':Hp}{vs:List V}{ts:List T} (s:aT H H') (h:Paired (rV H) vs ts):Paired (rV H') vs ts:=Paired.j7 h fun _ _ z=>z.keep fun c ys=>s _ _
theorem WV {α β γ : Type}{R : α -> β -> Prop}{ys:List α}{us:List γ} (h:Paired (fun v _=>∃ t,R v t) ys us):∃ ts,Paired R ys ts:=by
 induction h with
 | nil=>exact⟨[],.nil⟩
 | cons e _ ih =>
  obtain⟨t,ht⟩:=e
  obtain⟨ts,P6⟩:=ih
  exact⟨t :: ts,.cons ht P6⟩
theorem Ln {β : Type}{R:Hp->V -> β -> Prop}{n:Nat}{lo:Int}{g:Nat -> β}{te:TE}{σ : St}{caps:List (Str × Nat)}{H:Hp}{Q:VK} (kp:∀ (H H':Hp) v b,(∀ c ys,H c=some (.tup ys)->H' c=some (.tup ys))->R H v b->R H' v b) (hz:n<=1000)
  (wO:∀ (i:Nat),i < n->∀ H',aT H H'->∀ Q':VK,(∀ y dF,aT H' dF->R dF y (g i)->Q' y dF)->te (some (.int (lo+i)) :: jD σ caps) H' Q')
  (hq:∀ D H' ys,H D=none->aT H H'->H' D=some (.lst ys)->Paired (R H') ys ((fU n).map g)->Q (.ref D) H') :
  yJ (Hq lo n) (bc 0) te (dM 1 none ++ jD σ caps) H Q:=by
 intro D hD
 refine⟨fun i m τ zs H'=>m=n - i∧i<=n∧(∃ o, τ = o :: jD σ caps)∧Paired (R H') zs ((fU i).map g)∧aT H H'∧H' D=some (.lst zs),⟨n,by simp,bA _,⟨none,rfl⟩,.nil,aD hD _,av⟩,?_⟩
 rintro i m τ zs H' ⟨rfl,hi,⟨o,rfl⟩,qY,sm,jB⟩
 refine⟨jB,?_⟩
 have hlz:=dw qY
 rw[aA,nB]at hlz
 by_cases e9:i < n
 ·refine .inr ⟨e9,gP (by omega),fun x dF y => ?_⟩
  obtain⟨e,y⟩:=y
  subst e y
  show te (some (.int (lo+i)) :: jD σ caps) _ _
  refine wO i e9 _ sm _ (fun v H2 s2 hv => ?_)
  have vd:=s2 _ _ jB
  have k2:∀ b ys,H2 b=some (.tup ys)->(aO H2 D (.lst (zs ++ [v]))) b=some (.tup ys):=fun b ys e=>by rw[bh (u5 e vd (fun z=>nomatch z))];exact e
  refine⟨vd,n - (i+1),by omega,rfl,e9,⟨_,rfl⟩,?_,(sm.trans s2).put hD,av⟩
  rw[pH,df]
  exact ke (Paired.j7 qY fun v b r=>kp _ _ v b k2 (kp _ _ v b (fun c ys=>s2 _ _) r)) (kp _ _ _ _ k2 hv)
 ·have e:i=n:=by omega
  subst e
  exact .inl ⟨aB _,hq D H' zs hD sm jB qY⟩
theorem Km (ns:List Int) (lo hi:Option Int):∃ ms:List Int,rR (ns.map V.int) lo hi=ms.map V.int∧ms.length<=ns.length:=by
 refine⟨(ns.drop (HT.dG (ns.map V.int).length 0 lo)).take (HT.dG (ns.map V.int).length (ns.map V.int).length hi - HT.dG (ns.map V.int).length 0 lo),?_,?_⟩
 ·unfold rR
  rw[y6,List.map_drop]
 ·rw[eA,dN];omega
def Ai (ns:List Int) (b:Int) (k:Int):Option V:=if k % 2=b then some (.int (ns.getD k.toNat 0)) else none
theorem G0 (ns:List Int) (b:Int) (n:Nat):∃ ms:List Int,((fU n).filterMap fun i:Nat=>Ai ns b (0+i))=ms.map V.int∧ms.length<=n:=by
 induction n with
 | zero=>exact⟨[],rfl,aB _⟩
 | succ n ih =>
  obtain⟨ms,e,l⟩:=ih
  rw[pH,cM,e,eE,rm]
  unfold Ai
  split
  ·split at *
   ·rename_i h1 h2
    exact⟨ms,by simp,by omega⟩
   ·exact⟨ms,by simp,by omega⟩
  ·rename_i v h
   split at h
   ·cases h
    exact⟨ms ++ [ns.getD ((0:Int)+(n:Int)).toNat 0],by rw[df];rfl,by rw[aM];exact iG l⟩
   ·cases h
theorem GZ (ns:List Int) (b:Int) (i:Nat):(Ai ns b (0+(i:Int))).isSome=decide (V.int (((0:Int)+(i:Int)) % 2)=V.int b):=by
 unfold Ai
 by_cases c:((0:Int)+(i:Int)) % 2=b
 ·rw[if_pos c,c]
  simp
 ·rw[if_neg c]
  exact(decide_eq_false fun z=>c (V.int.inj z)).symm
theorem Mq {ns:List Int}{b:Int}{i:Nat}{v:V} (hi:i < ns.length) (h:Ai ns b (0+(i:Int))=some v):True∧nK (ns.map V.int) (0+(i:Int))=some v:=by
 unfold Ai at h
 split at h
 ·cases h
  have e:(0:Int)+(i:Int)=((i:Nat):Int):=by omega
  rw[e,fZ]
  exact⟨trivial,ax (by rw[cf,cG,aF hi];rfl)⟩
 ·cases h
theorem Pn (t:T):1<=t.parts:=by
 cases t with
 | num n=>rw[T.parts];decide
 | name n=>rw[T.parts];decide
 | any n=>rw[T.parts];decide
 | of x ts=>rw[T.parts];omega
theorem Yt:∀ z∈([1,1,2,2,2,2,3,4]:List Int),1<=z∧z<=4:=by decide
theorem ints_of {ys:List V}{ss:List Int} (h:Paired (fun v (s:Int)=>v=V.int s) ys ss):ys=ss.map V.int:=by
 induction h with
 | nil=>rfl
 | cons e _ ih=>rw[e,ih];rfl
theorem GA:∀ us:List T,(us.map fun t=>(t.parts:Int)).sum=(T.dO us:Int)
 | []=>by rw[T.dO];rfl
 | t :: us=>by rw[b0,nW,GA us,T.dO];omega
theorem DE {H:Hp}{vs:List V}{ts:List T} (h:Paired (fun v t=>bJ H t v) vs ts):dS H ts vs:=by
 induction h with
 | nil=>rw[dS]
 | cons e _ ih=>rw[dS];exact⟨_,_,rfl,e,ih⟩
theorem DU {α β : Type}{R : α -> β -> Prop}{xs:List α}{ys:List β} (h:Paired R xs ys):∀ {i:Nat}{y : β},ys[i]? = some y->∃ x,xs[i]? = some x∧R x y:=by
 induction h with
 | nil=>intro i y e;cases e
 | cons h _ ih =>
  intro i y e
  cases i with
  | zero=>cases e;exact⟨_,rfl,h⟩
  | succ i=>exact ih e
theorem rV.g {H:Hp}{v:V}{t:T} (h:rV H v t):ko 12 t:=by
 obtain⟨p,u,e,hp,ht,g⟩:=h
 exact g
inductive F0 (K:aj) (vs:List V) (H:Hp) (Q:VK):Prop
 | mk (a:Addr) (ns:List Int) (ev:vs = [.ref a,.int 12]) (hS:b6 K H a (ns.map V.int)) (Cb:ns.length<=63) (q:∀ A us ts H',aT H H'->H' A=some (.lst us)->Paired (fun v t=>bJ H' t v) us ts->(∀ t∈ts,ko 12 t)->us.length<=63->Q (.ref A) H'):F0 K vs H Q
def Lx (K:aj):Sp:=fun vs H Q _=>F0 K vs H Q
inductive MM (H:Hp) (a R:Addr) (i:Nat) (σ : St) (H':Hp):Prop
 | mk (x3 x4 x5 x6:Option V) (dP:List V) (ts:List T) (e : σ = [some (.ref a),some (.int 12),some (.ref R),x3,x4,x5,x6]) (sm:aT H H') (hR:H' R=some (.lst dP)) (hp:Paired (rV H') dP ts) (len:dP.length<=i):MM H a R i σ H'
theorem Il {H H' dF:Hp}{a R:Addr}{i:Nat}{σ : St}{x3 x4 x5 x6:Option V}{dP:List V}{ts:List T}{v:V}{t:T} (Ao:H R=none) (e : σ = [some (.ref a),some (.int 12),some (.ref R),x3,x4,x5,x6]) (sm:aT H H') (hR:H' R=some (.lst dP)) (hp:Paired (rV H') dP ts) (len:dP.length<=i) (s2:aT H' dF) (hv:rV dF v t):MM H a R (i+1) σ (aO dF R (.lst (dP ++ [v]))):=by
 have Qn:=s2 _ _ hR
 have kp:=jt (o' := .lst (dP ++ [v])) Qn trivial
 exact MM.mk x3 x4 x5 x6 (dP ++ [v]) (ts ++ [t]) e ((sm.trans s2).put Ao) av (ke (Paired.j7 (kU s2 hp) fun _ _ z=>z.keep kp) (hv.keep kp)) (by rw[aM];exact iG len)
theorem SQ (B:hJ mg) (de:cS P w K mg base 1 "_law_draw" ["_law_cell", "_law_factor", "_law_many"] oW) (JY:cS P w K mg base 3 "_law_leaf" ["_law_script", "_law_cell"] (LG K)) (JZ:cS P w K mg base 3 "_law_knot" ["_law_script", "_law_cell", "_law_arms"] (LH K)) (D:Def K mg "_law_trees" oy ["_law_script", "_law_most"]):cS P w K mg base 4 "_law_trees" ["_law_script", "_law_most"] (Lx K):=by
 refine D.eL qd (fun vs H Q E h => ?_) (fun f a8 A outer s H vs Q E hr h => ?_)
 ·obtain⟨a,ns,rfl,_⟩:=h;rfl
 obtain⟨a,ns,rfl,hS,Cb,q⟩:=h
 refine⟨_,(ao (aR (i:=2) qd.nd rfl (uy rfl) (gi ag))
  (ao (iz eO rfl (k9 (jj Bo (GL (te:=(nF (Nv K) _ _)) (ct:=(HN (nF _ (nF _ _ _) _))) (own := ["_law_k"]) (caps := [("_law_script",0)]) (jd (az oy) ["_law_script", "_law_most", "_law_rows", "_law_cell", "_law_size", "_law_arms", "_law_many"] rfl rfl rfl (by decide +kernel)) (o7 rfl B.zL (ae (b8 cO rfl B.iC bR (ae (aq 0) ag)) ag)) rfl (fun _ _ _=>dI (i:=0) (show (["_law_k", "_law_script"]:List Str).Nodup by decide +kernel) rfl (aH rfl)) (fun _ _ _=>(aC cb (aX h9 (aq 0) ai) ai (aQ _))) (fun _ _ _=>(aP gj (aq 1) (aq 0) (fun _ _=>rfl)))) sO (hZ ai))) (dI (i:=3) qd.nd rfl (uy rfl))
  (aw (a6 (PW.ji (pw_orQ (aC (SK hr.OB) (aq 2) (gi ag) (aQ _)) (pw_or1Q (aC ll (aG de hr (by omega) rfl (ae (aq 3) (ae ai (ae ai ag)))) ai (aQ _))))) (aw (fh (fq cV cQ cP gQ (aq 2) (ae (aS (ae (aG JY hr (by omega) rfl (ae (aq 0) (ae (aq 3) ag))) (ae ai ag))) ag)))) (ao (aR (i:=4) qd.nd rfl (aH rfl) (aP a7 (aS (ae ai (ae ai (ae ai (ae ai (ae ai (ae ai (ae ai (ae ai ag))))))))) (aG de hr (by omega) rfl (ae (aq 3) (ae ai (ae ai ag)))) (fun _ _=>rfl)))
  (ao (B2 (i:=5) qd.nd rfl rfl (te:=(nF (Nv K) _ (k7 _ _ _ (sx _ (sx (nF _ (nF _ _ _) _) (sx (ON (fun xs H Q=>Oo K xs H Q) (sx _ sT)) sT)))))) (own := ["_law_j"]) (caps := [("_law_rows",2),("_law_cell",3)]) (jd (az oy) ["_law_script", "_law_most", "_law_rows", "_law_cell", "_law_size", "_law_arms", "_law_many"] rfl rfl rfl (by decide +kernel)) (o7 rfl B.zL (ae (aq 4) ag)) rfl (fun _ _ _=>dI (i:=0) (show (["_law_j", "_law_rows", "_law_cell"]:List Str).Nodup by decide +kernel) rfl (aH rfl)) (fun _ _ _=>(aP gj (aq 1) (aG de hr (by omega) rfl (ae (aq 2) (ae (aX Jo (aX js (aq 0) ai) ai) (ae (b8 cO rfl B.iC bR (ae (aq 1) ag)) ag)))) (fun _ _=>rfl))) rfl)
  (ao (aR (i:=6) qd.nd rfl (aH rfl) (aX js ai (b8 (QV rfl) rfl B.adQ QZ (ae (tu (te:=(nF (Nu K) _ _)) (own := ["_law_arm"]) (caps := []) (jd (az oy) ["_law_script", "_law_most", "_law_rows", "_law_cell", "_law_size", "_law_arms", "_law_many"] rfl rfl rfl (by decide +kernel)) (k9 (aq 5)) rfl (fun _ _ _=>dI (i:=0) (show (["_law_arm"]:List Str).Nodup by decide +kernel) rfl (aH rfl)) (fun _ _ _=>(aP a7 (aq 0) ai (fun _ _=>rfl)))) ag))))
  (aw (a6 (aC ab3 (aq 6) (aq 1) (aQ _)) (aw (fh (fq cV cQ cP gQ (aq 2) (ae (aS (ae (aG JZ hr (by omega) rfl (ae (aq 0) (ae (aq 3) (ae (gG yX rfl B.Ij vS (ae (tu (te:=(nF (Nu K) _ _)) (own := ["_law_arm"]) (caps := []) (jd (az oy) ["_law_script", "_law_most", "_law_rows", "_law_cell", "_law_size", "_law_arms", "_law_many"] rfl rfl rfl (by decide +kernel)) (k9 (aq 5)) rfl (fun _ _ _=>dI (i:=0) (show (["_law_arm"]:List Str).Nodup by decide +kernel) rfl (aH rfl)) (fun _ _ _=>(aP a7 (aq 0) ai (fun _ _=>rfl)))) ag)) ag)))) (ae (aq 6) ag))) ag)))) aJ))))))))
  (aw (aW (tu (te:=(nF (Nu K) _ _)) (own := ["_law_row_here"]) (caps := []) (jd (az oy) ["_law_script", "_law_most", "_law_rows", "_law_cell", "_law_size", "_law_arms", "_law_many"] rfl rfl rfl (by decide +kernel)) (k9 (aq 2)) rfl (fun _ _ _=>dI (i:=0) (show (["_law_row_here"]:List Str).Nodup by decide +kernel) rfl (aH rfl)) (fun _ _ _=>(aP a7 (aq 0) ai (fun _ _=>rfl)))))))),?_⟩
 try dsimp only[bZ]
 refine⟨bA _,fun R Ao => ?_⟩
 dsimp only[bc]
 have s1:=aD Ao (.lst [])
 have An:=av (H:=H) (a:=R) (o := .lst [])
 generalize aO H R (.lst [])=H1 at s1 An ⊢
 have hl:(ns.map V.int).length=ns.length:=aA ..
 refine⟨_,rfl,a,_,rfl,.inl (s1.seq hS),_,rfl,by omega,by omega,?_⟩
 rw[fZ,hl]
 refine Az (Ai ns 1) (by omega) (fun i hi H' sm R' k' => ?_) (fun i v hi hv H' sm Q' q' => ?_) (fun D2 H2 vd s2 jB => ?_)
 ·refine⟨_,rfl,_,_,rfl,rfl,eu,rfl,_,rfl,?_⟩
  rw[<- GZ ns]
  exact k' _ (aT.refl _)
 ·obtain⟨hv,ha⟩:=Mq hi hv
  exact⟨_,rfl,_,rfl,a,_,_,_,rfl,rfl,(s1.trans sm).seq hS,ha,q' _ (aT.refl _)⟩
 obtain⟨ms,em,lm⟩:=G0 ns 1 ns.length
 rw[em]at jB
 refine⟨_,rfl,D2,_,rfl,b6.of jB,fun C hC => ?_⟩
 obtain⟨cs,ec,lc⟩:=Km ms none (some 32)
 rw[ec]
 have s3:=aD hC (.lst (cs.map V.int))
 have Kc:=av (H:=H2) (a:=C) (o := .lst (cs.map V.int))
 have G1:=s3 _ _ (s2 _ _ An)
 generalize aO H2 C (.lst (cs.map V.int))=H3 at s3 Kc G1 ⊢
 have g3:=s1.trans (s2.trans s3)
 have VA:C≠R:=fun e=>by rw[e]at hC;rw[s2 _ _ An]at hC;cases hC
 have hCl:(cs.map V.int).length=cs.length:=aA ..
 refine⟨C,rfl,⟨_,b6.of Kc⟩,?_⟩
 refine yl (xs:=cs.map V.int) (fun i σ H'=>MM H a R i σ H'∧H' C=some (.lst (cs.map V.int))) ⟨MM.mk none none none none [] [] rfl g3 G1 .nil (aB _),Kc⟩ (fun i σ H' _ h=>b6.of h.2) ?_ ?_
 ·rintro i x σ H' hx ⟨⟨x3,x4,x5,x6,dP,ts,rfl,sm,hR,hp,len⟩,Mv⟩
  have hi:i < cs.length:=by have:=(bt.mp hx).1;omega
  obtain⟨c,hc,rfl⟩:∃ c,cs[i]? = some c∧x = .int c:=by
   rw[cf]at hx
   cases e:cs[i]? with
   | none=>rw[e]at hx;cases hx
   | some c=>rw[e]at hx;cases hx;exact⟨c,rfl,rfl⟩
  dsimp only[bc]
  have Mr:=dw hp
  refine jr (fun b Hc=>aT H' Hc∧(b=false->dP ≠ [])) (fun Qc qc => ?_) (fun Hc h => ?_) (fun Hc h => ?_)
  ·refine⟨_,rfl,bA _,fun N hN => ?_⟩
   have s4:=aD hN (.lst [])
   refine⟨R,N,dP,rfl,rfl,s4 _ _ hR,av,_,rfl,?_⟩
   cases hrv:dP with
   | nil=>exact gB (qc _ _ ⟨s4,fun z=>nomatch z⟩)
   | cons v l=>exact eW ⟨_,rfl,c,_,_,rfl,by decide,by decide,by decide,fun u u0 u1=>⟨_,_,rfl,rfl,_,rfl,qc _ _ ⟨s4,fun _ z=>by rw[hrv]at z;cases z⟩⟩⟩
  ·obtain⟨s4, -⟩:=h
   have wU:=s4 _ _ hR
   refine⟨_,rfl,.inl ⟨rfl,_,b6.of wU⟩,_,rfl,_,rfl,F5.mk a ns c rfl ((sm.trans s4).seq hS) fun v t H5 s5 ht g=>⟨(show 2<=sizeLine by decide),fun p yV => ?_⟩⟩
   have s6:=aD yV (.tup [v,.int 1])
   have p1:t.parts=1:=EC g.parts (Pn t)
   refine⟨R,dP,.ref p,rfl,rfl,s6 _ _ (s5 _ _ wU),gP (by omega),Il Ao rfl sm hR hp len (s4.trans (s5.trans s6)) (t:=t) ⟨p,v,rfl,by rw[p1];exact av,bP s6 ht,⟨g.ok,by omega,g.Ta⟩⟩,?_⟩
   rw[bh VA]
   exact s6 _ _ (s5 _ _ (s4 _ _ Mv))
  ·obtain⟨s4,fo⟩:=h
   have fo:=fo rfl
   have wU:=s4 _ _ hR
   have dX:0 < dP.length:=List.length_pos_iff.mpr fo
   refine⟨(show 8<=sizeLine by decide),fun L hL=>⟨_,rfl,c,_,_,rfl,by decide,by decide,by decide,fun u u0 u1 => ?_⟩⟩
   obtain⟨v,hv,ZY⟩:=rj (xs:=([1,1,2,2,2,2,3,4]:List Int).map V.int) u0 u1
   obtain⟨z,hz,rfl⟩:=fD.mp ZY
   have z14:1<=z∧z<=4:=Yt z hz
   have s5:=s4.trans (aD hL (.tup (([1,1,2,2,2,2,3,4]:List Int).map V.int)))
   refine⟨L,_,_,_,rfl,rfl,aU.of av,hv,?_⟩
   have e5:(aO Hc L (.tup (([1,1,2,2,2,2,3,4]:List Int).map V.int))) R=some (.lst dP):=s5 _ _ hR
   show oS _ _ _ _ (aO Hc L (.tup (([1,1,2,2,2,2,3,4]:List Int).map V.int)))
   generalize aO Hc L (.tup (([1,1,2,2,2,2,3,4]:List Int).map V.int))=H5 at s5 e5 ⊢
   have oF:=kU s5 hp
   refine⟨_,rfl,_,rfl,by omega,by omega,?_⟩
   refine Ln (R:=fun H v (_:Unit)=>∃ t,rV H v t) (g:=fun _=>()) (fun H H' v b k h=>h.imp fun t ht=>ht.keep k) (by omega) (fun j hj H6 s6 Q' q' => ?_) (fun A6 H6 ys hA6 s6 Qq Mi => ?_)
   ·refine⟨_,rfl,_,rfl,_,rfl,_,_,rfl,rfl,_,_,rfl,rfl,.inl ⟨by omega,by omega⟩,_,rfl,R,_,rfl,.inl (b6.of (s6 _ _ e5)),c,_,_,rfl,by omega,by omega,by omega,fun r r0 r1 => ?_⟩
    obtain⟨y,hy,hym⟩:=rj (xs:=dP) r0 r1
    obtain⟨k,hk,hky⟩:=l7 hym
    obtain⟨t,ht,hT⟩:=jO (kU s6 oF) (show dP[k]? = some y by rw[aF hk,hky])
    exact⟨R,dP,r,y,rfl,rfl,b6.of (s6 _ _ e5),hy,q' _ _ (aT.refl _) ⟨t,hT⟩⟩
   have ZU:=dw Mi
   rw[aA,nB]at ZU
   obtain⟨us,Vj⟩:=WV Mi
   have Z1:=dw Vj
   have e6:=s6 _ _ e5
   refine⟨_,rfl,A6,rfl,⟨ys,b6.of Qq⟩,?_⟩
   refine pq (R:=fun _ v (n:Int)=>v=V.int n) (bs:=us.map fun t=>(t.parts:Int)) (fun _ _ _ _ _ h=>h) (b6.of Qq) (by omega) (by rw[aA];omega) (fun j x y hx hy H7 s7 Q' q' => ?_) (fun A7 H7 zs hA7 s7 aaO qY => ?_)
   ·obtain⟨t,ht,hT⟩:=jO (kU s7 Vj) hx
    rw[cf,ht]at hy
    cases hy
    obtain⟨p,u,rfl,yV,_⟩:=hT
    exact⟨_,rfl,p,_,1,_,rfl,rfl,aU.of yV,ax (j:=1) rfl,q' _ _ (aT.refl _) rfl⟩
   rw[ints_of qY]at aaO
   refine⟨A7,_,rfl,b6.of aaO,_,_,rfl,rfl,?_⟩
   rw[GA]
   have aaN:=s7 _ _ Qq
   have aeu:=kU s7 Vj
   have e7:=s7 _ _ e6
   have g7:=s5.trans (s6.trans s7)
   show oS _ _ _ _ _
   refine⟨_,rfl,_,rfl,_,_,rfl,rfl,_,rfl,aY (fun cm => ?_) (fun _ => ?_)⟩
   ·refine⟨_,rfl,.inl ⟨rfl,_,b6.of e7⟩,_,rfl,_,rfl,_,rfl,A6,rfl,⟨ys,b6.of aaN⟩,?_⟩
    refine pq (R:=fun H v t=>bJ H t v) (bs:=us) (fun H H' v t=>Ip H H' v t) (b6.of aaN) (by omega) (by omega) (fun j x y hx hy H8 s8 Q' q' => ?_) (fun A8 H8 ws hA8 s8 TM Ve => ?_)
    ·obtain⟨t,ht,hT⟩:=jO (kU s8 aeu) hx
     rw[ht]at hy
     cases hy
     obtain⟨p,u,rfl,yV,P5,_⟩:=hT
     exact⟨_,rfl,p,_,0,_,rfl,rfl,aU.of yV,ax (j:=0) rfl,q' _ _ (aT.refl _) P5⟩
    refine⟨A8,ws,rfl,.inl ⟨b6.of TM,fun T9 hT9 => ?_⟩⟩
    have s9:=aD hT9 (.tup ws)
    refine F6.mk a T9 ns c ws us rfl ((sm.trans (g7.trans (s8.trans s9))).seq hS) av (DE (Paired.j7 Ve fun _ _ h=>bP s9 h)) fun v x KP si ht hx=>⟨_,rfl,(show 2<=sizeLine by decide),fun p yV => ?_⟩
    have zI:=aD yV (.tup [v,.int (1+(T.dO us:Int))])
    have gg:=g7.trans (s8.trans (s9.trans (si.trans zI)))
    have ep:((T.of x us).parts:Int)=1+(T.dO us:Int):=by rw[T.parts];omega
    have okG:∀ t∈us,ko 12 t:=fun t ht=>by
     obtain⟨j,hj,e⟩:=l7 ht
     obtain⟨y,_,hT⟩:=DU Vj (show us[j]? = some t by rw[aF hj,e])
     exact hT.g
    refine⟨R,dP,.ref p,rfl,rfl,gg _ _ hR,gP (by omega),Il Ao rfl sm hR hp len gg (t := .of x us) ⟨p,v,rfl,by rw[ep];exact av,bP zI ht,⟨?_,?_,Xu hx (fun t ht=>(okG t ht).Ta) (by omega)⟩⟩,?_⟩
    ·rw[T.Ok,ql]
     exact⟨hx,by omega,by omega,fun t ht=>(okG t ht).ok⟩
    ·rw[T.parts];omega
    ·rw[bh VA]
     exact gg _ _ Mv
   ·exact⟨MM.mk _ _ _ _ dP ts rfl (sm.trans g7) (g7 _ _ hR) (kU g7 hp) (by omega),g7 _ _ Mv⟩
 ·rintro σ H' ⟨⟨x3,x4,x5,x6,dP,ts,rfl,sm,hR,hp,len⟩, -⟩
  have Mr:=dw hp
  refine⟨_,rfl,R,rfl,⟨dP,b6.of hR⟩,?_⟩
  refine pq (R:=fun H v t=>bJ H t v) (bs:=ts) (fun H H' v t=>Ip H H' v t) (b6.of hR) (by omega) (by omega) (fun j x y hx hy H8 s8 Q' q' => ?_) (fun A8 H8 ws hA8 s8 TM Ve => ?_)
  ·obtain⟨t,ht,hT⟩:=jO (kU s8 hp) hx
   rw[ht]at hy
   cases hy
   obtain⟨p,u,rfl,yV,P5,_⟩:=hT
   exact⟨_,rfl,p,_,0,_,rfl,rfl,aU.of yV,ax (j:=0) rfl,q' _ _ (aT.refl _) P5⟩
  have Vf:=dw Ve
  refine q A8 ws ts H8 (sm.trans s8) TM Ve (fun t ht => ?_) (by omega)
  obtain⟨j,hj,e⟩:=l7 ht
  obtain⟨y,_,hT⟩:=DU hp (show ts[j]? = some t by rw[aF hj,e])
  exact hT.g
inductive Od
 | rule (z:Str) (wt:Int) (l r:T) (as:List Ask)
 | cost (k:Str) (n:Int)
 | grow (a b:Int)
 | pair (x:Str) (t u:T)
 | one (x:Str) (t:T)
def mR:List Str := ["tell", "same", "why"]
def oP:List Str := ["put", "cheap", "shared", "sign", "names", "number"]
def Od.title:Od->Option Str
 | .rule z _ _ _ _=>some z
 | _=>none
def pG:Od->Prop
 | .rule z wt l r as=>i5 z wt l r as
 | .cost k n=>(dW k∨k = "#" ∨ k = "@")∧1<=n∧n<=1000000000000
 | .grow a b=>(0<=a∧a<=100)∧1<=b∧b<=1000
 | .pair x t u=>x∈mR∧ko 12 t∧ko 12 u
 | .one x t=>x∈oP∧ko 12 t
inductive kQ (R:Addr) (H:Hp):V->Od->Prop
 | rule (p d AL:Addr) (vl vr:V) (cu:List V) (z:Str) (wt:Int) (l r:T) (as:List Ask) (hp:H p=some (.tup [.str "rule",.ref d])) (jS:yC H d z wt vl vr l r AL cu as) (ne:AL≠R):kQ R H (.ref p) (.rule z wt l r as)
 | cost (p:Addr) (k:Str) (n:Int) (hp:H p=some (.tup [.str "cost",.str k,.int n])):kQ R H (.ref p) (.cost k n)
 | grow (p:Addr) (a b:Int) (hp:H p=some (.tup [.str "grow",.int a,.int b])):kQ R H (.ref p) (.grow a b)
 | pair (p:Addr) (v1 v2:V) (x:Str) (t u:T) (hp:H p=some (.tup [.str x,v1,v2])) (h1:bJ H t v1) (h2:bJ H u v2):kQ R H (.ref p) (.pair x t u)
 | one (p:Addr) (v1:V) (x:Str) (t:T) (hp:H p=some (.tup [.str x,v1])) (h1:bJ H t v1):kQ R H (.ref p) (.one x t)
theorem kQ.same {R:Addr} {H H':Hp}{v:V}{o:Od} (s:aT H H') (h:kQ R H v o):kQ R H' v o:=by
 cases h with
 | rule p d AL vl vr cu z wt l r as hp jS ne=>exact .rule p d AL vl vr cu z wt l r as (s _ _ hp) (jS.same s) ne
 | cost p k n hp=>exact .cost p k n (s _ _ hp)
 | grow p a b hp=>exact .grow p a b (s _ _ hp)
 | pair p v1 v2 x t u hp h1 h2=>exact .pair p v1 v2 x t u (s _ _ hp) (bP s h1) (bP s h2)
 | one p v1 x t hp h1=>exact .one p v1 x t (s _ _ hp) (bP s h1)
theorem kQ.put {R:Addr}{H:Hp}{v:V}{o:Od}{xs ys:List V} (hR:H R=some (.lst xs)) (h:kQ R H v o):kQ R (aO H R (.lst ys)) v o:=by
 have kp:=jt (o' := .lst ys) hR trivial
 cases h with
 | rule p d AL vl vr cu z wt l r as hp jS ne=>exact .rule p d AL vl vr cu z wt l r as (kp _ _ hp) ⟨kp _ _ jS.hd,ik kp jS.hl,ik kp jS.hr,by rw[bh ne];exact jS.hA,Paired.j7 jS.hp fun _ _ z=>z.keep kp⟩ ne
 | cost p k n hp=>exact .cost p k n (kp _ _ hp)
 | grow p a b hp=>exact .grow p a b (kp _ _ hp)
 | pair p v1 v2 x t u hp h1 h2=>exact .pair p v1 v2 x t u (kp _ _ hp) (ik kp h1) (ik kp h2)
 | one p v1 x t hp h1=>exact .one p v1 x t (kp _ _ hp) (ik kp h1)
theorem Jn {R:Addr} {H H':Hp}{vs:List V}{os:List Od} (s:aT H H') (h:Paired (kQ R H) vs os):Paired (kQ R H') vs os:=Paired.j7 h fun _ _ z=>z.same s
theorem wA:∀ x∈mR,x ≠ "rule" ∧ x ≠ "cost" ∧ x ≠ "grow" := by decide +kernel
theorem wj:∀ x∈oP,x ≠ "rule" ∧ x ≠ "cost" ∧ x ≠ "grow" := by decide +kernel
theorem kQ.first {R:Addr}{H:Hp}{v:V}{o:Od} (g:pG o) (h:kQ R H v o):∃ p x ys,v = .ref p∧H p=some (.tup (.str x :: ys))∧(x = "rule" ∧ (∃ z,o.title=some z)∨x ≠ "rule" ∧ o.title=none):=by
 cases h with
 | rule p d AL vl vr cu z wt l r as hp jS ne=>exact⟨p,_,_,rfl,hp,.inl ⟨rfl,z,rfl⟩⟩
 | cost p k n hp=>exact⟨p,_,_,rfl,hp,.inr ⟨by decide,rfl⟩⟩
 | grow p a b hp=>exact⟨p,_,_,rfl,hp,.inr ⟨by decide,rfl⟩⟩
 | pair p v1 v2 x t u hp h1 h2=>exact⟨p,_,_,rfl,hp,.inr ⟨(wA x g.1).1,rfl⟩⟩
 | one p v1 x t hp h1=>exact⟨p,_,_,rfl,hp,.inr ⟨(wj x g.1).1,rfl⟩⟩
inductive F4 (K:aj) (vs:List V) (H:Hp) (Q:VK):Prop
 | mk (a A:Addr) (ns:List Int) (c j:Int) (us:List V) (ts:List T) (ev:vs = [.ref a,.int c,.ref A,.int j]) (hS:b6 K H a (ns.map V.int)) (hA:H A=some (.lst us)) (ht:Paired (fun v t=>bJ H t v) us ts) (g:∀ t∈ts,ko 12 t) (l0:0 < us.length) (l1:us.length<=63) (q:∀ v o H',aT H H'->(∀ R,H R≠none->kQ R H' v o)->pG o->(∀ z,o.title=some z->z=dR (eF ns) j∧j < 20)->Q v H'):F4 K vs H Q
def LF (K:aj):Sp:=fun vs H Q _=>F4 K vs H Q
theorem Ts:dW "plus" := Dz _ (by decide)
theorem Wm {r:Int} (r0:0<=r) (r6:r < 6) (n1:r≠1) (n2:r≠2):∃ x,nK (mR.map V.str) (r - 3)=some (.str x)∧x∈mR:=by
 rcases(show r=0∨r=3∨r=4∨r=5 by omega) with rfl | rfl | rfl | rfl
 ·exact⟨"tell",rfl,by decide⟩
 ·exact⟨"tell",rfl,by decide⟩
 ·exact⟨"same",rfl,by decide⟩
 ·exact⟨"why",rfl,by decide⟩
theorem SU (B:hJ mg) (de:cS P w K mg base 1 "_law_draw" ["_law_cell", "_law_factor", "_law_many"] oW) (fN:cS P w K mg base 2 "_law_word" ["_law_script", "_law_which"] (p8 K)) (wQ:cS P w K mg base 4 "_law_rule" ["_law_script", "_law_cell", "_law_which"] (Fb K)) (D:Def K mg "_law_order" Fh ["_law_script", "_law_cell", "_law_trees_here", "_law_titles"]):cS P w K mg base 5 "_law_order" ["_law_script", "_law_cell", "_law_trees_here", "_law_titles"] (LF K):=by
 refine D.eL qe (fun vs H Q E h => ?_) (fun f a8 A outer s H vs Q E hr h => ?_)
 ·obtain⟨a,A,ns,c,j,us,ts,rfl,_⟩:=h;rfl
 obtain⟨a,A,ns,c,j,us,ts,rfl,hS,hA,ht,g,l0,l1,q⟩:=h
 refine⟨_,(ao (aR (i:=4) qe.nd rfl (aH rfl) (aP gj (aq 2) (aG de hr (by omega) rfl (ae (aq 1) (ae ai (ae (b8 cO rfl B.iC bR (ae (aq 2) ag)) ag)))) (fun _ _=>rfl)))
  (ao (aR (i:=5) qe.nd rfl (aH rfl) (aP gj (aq 2) (aG de hr (by omega) rfl (ae (aq 1) (ae ai (ae (b8 cO rfl B.iC bR (ae (aq 2) ag)) ag)))) (fun _ _=>rfl)))
  (ao (aR (i:=6) qe.nd rfl (aH rfl) (aG de hr (by omega) rfl (ae (aq 1) (ae ai (ae ai ag)))))
  (ao (a6 (PW.ji (pw_andQ (aC cb (aq 6) ai (aQ _)) (pw_and1Q (aC ll (aq 3) ai (aQ _))))) (aw (aW (aS (ae ay (ae (aG wQ hr (by omega) rfl (ae (aq 0) (ae (aq 1) (ae (aq 3) ag)))) ag))))) aJ)
  (ao (a6 (aC cb (aq 6) ai (aQ _)) (ao (aR (i:=7) qe.nd rfl (aH rfl) (aG fN hr (by omega) rfl (ae (aq 0) (ae (aG de hr (by omega) rfl (ae (aq 1) (ae ai (ae ai ag)))) ag))))
  (ao (aR (i:=8) qe.nd rfl (aH rfl) (aP a7 (aS (ae ay (ae ay (ae ay (ae (aq 7) ag))))) (aG de hr (by omega) rfl (ae (aq 1) (ae ai (ae ai ag)))) (fun _ _=>rfl)))
  (aw (aW (aS (ae ay (ae (aq 8) (ae (aX js ai (aX h9 (aq 1) (aX DV ai ai))) ag)))))))) aJ)
  (ao (a6 (aC cb (aq 6) ai (aQ _)) (aw (aW (aS (ae ay (ae (aG de hr (by omega) rfl (ae (aq 1) (ae ai (ae ai ag)))) (ae (aX js ai (aG de hr (by omega) rfl (ae (aq 1) (ae ai (ae ai ag))))) ag)))))) aJ)
  (ao (a6 (aC ll (aq 6) ai (aQ _)) (aw (aW (aS (ae (aP a7 (aS (jk (L := ["tell", "same", "why"]) (by decide +kernel))) (aX o9 (aq 6) ai) (fun _ _=>rfl)) (ae (aq 4) (ae (aq 5) ag)))))) aJ)
  (ao (a6 (aC ll (aq 6) ai (aQ _)) (aw (aW (aS (ae (aP a7 (aS (jk (L := ["put", "cheap", "shared", "sign", "names", "number"]) (by decide +kernel))) (aX o9 (aq 6) ai) (fun _ _=>rfl)) (ae (aq 4) ag))))) aJ)
  (aw (aW (aS (ae ay (ae (aq 5) ag))))))))))))),?_⟩
 try dsimp only[bZ]
 have at_:∀ {r:Int}{y:V},nK us r=some y->y∈us->∃ t,bJ H t y∧ko 12 t:=fun {r y} _ hm=>by
  obtain⟨k,hk,hky⟩:=l7 hm
  obtain⟨t,Vl,hT⟩:=jO ht (show us[k]? = some y by rw[aF hk,hky])
  exact⟨t,hT,g t (bB Vl)⟩
 refine⟨_,rfl,_,rfl,_,rfl,A,_,rfl,.inl (b6.of hA),c,_,_,rfl,by decide,by decide,by omega,fun r1 r10 r11 => ?_⟩
 obtain⟨y1,ZW,B9⟩:=rj (xs:=us) r10 r11
 obtain⟨t1,Vl,g1⟩:=at_ ZW B9
 refine⟨A,us,r1,y1,rfl,rfl,b6.of hA,ZW,?_⟩
 dsimp only[bc]
 refine⟨_,rfl,_,rfl,_,rfl,A,_,rfl,.inl (b6.of hA),c,_,_,rfl,by decide,by decide,by omega,fun r2 r20 r21 => ?_⟩
 obtain⟨y2,ZV,Ml⟩:=rj (xs:=us) r20 r21
 obtain⟨t2,ht2,g2⟩:=at_ ZV Ml
 refine⟨A,us,r2,y2,rfl,rfl,b6.of hA,ZV,?_⟩
 dsimp only[bc]
 clear ZW B9 ZV Ml r10 r11 r20 r21 at_
 refine⟨_,rfl,c,_,_,rfl,by decide,by decide,by decide,fun r r0 r14 => ?_⟩
 dsimp only[bc]
 refine jr (fun b H1=>H1=H∧(b=true->j < 20)) (fun Qc qc=>⟨_,rfl,rfl,_,rfl,aY (fun _=>⟨_,rfl,_,_,rfl,rfl,_,rfl,qc _ _ ⟨rfl,fun z=>of_decide_eq_true z⟩⟩) (fun _=>qc _ _ ⟨rfl,fun z=>nomatch z⟩)⟩) (fun H1 h => ?_) (fun H1 h => ?_)
 ·obtain⟨rfl,B7⟩:=h
  have B7:=B7 rfl
  refine⟨_,rfl,_,rfl,_,rfl,BA.mk a ns c j rfl hS fun d wt vl vr l r AL cu as H2 s2 fr jS gr=>⟨(show 2<=sizeLine by decide),fun p hp => ?_⟩⟩
  have s3:=aD hp (.tup [.str "rule",.ref d])
  exact q (.ref p) (.rule _ wt l r as) _ (s2.trans s3) (fun R hR => .rule p d AL vl vr cu _ wt l r as av (jS.same s3) (fun e=>hR (by rw[<- e];exact fr))) gr (fun z hz=>⟨(bD hz).symm,B7⟩)
 obtain⟨rfl, -⟩:=h
 dsimp only[fe]
 refine⟨_,rfl,rfl,_,rfl,aY (fun _ => ?_) (fun n1 => ?_)⟩
 ·refine⟨_,rfl,_,rfl,c,_,_,rfl,by decide,by decide,by decide,fun u u0 u1=>⟨a,ns,u,rfl,hS,?_⟩⟩
  have wx:=iy (eF ns) u
  generalize dR (eF ns) u=x at wx ⊢
  dsimp only[bc]
  refine⟨_,rfl,(show 4<=sizeLine by decide),fun L hL=>⟨_,rfl,c,_,_,rfl,by decide,by decide,by decide,fun e e0 e1 => ?_⟩⟩
  obtain⟨k,hk,Vr⟩:=rj (xs:=(["#", "@", "plus",x]:List Str).map V.str) e0 e1
  obtain⟨k,JS,rfl⟩:=fD.mp Vr
  have gk:dW k∨k = "#" ∨ k = "@" := by
   rcases aK.mp JS with z | JS
   ·exact .inr (.inl z)
   rcases aK.mp JS with z | JS
   ·exact .inr (.inr z)
   rcases aK.mp JS with z | JS
   ·rw[z];exact .inl Ts
   ·rw[bI.mp JS];exact .inl wx
  refine⟨L,_,_,_,rfl,rfl,aU.of av,hk,?_⟩
  have s1:=aD hL (.tup ((["#", "@", "plus",x]:List Str).map V.str))
  show oS _ _ _ _ (aO H1 L (.tup ((["#", "@", "plus",x]:List Str).map V.str)))
  generalize aO H1 L (.tup ((["#", "@", "plus",x]:List Str).map V.str))=H2 at s1 ⊢
  have y0:=dH c (show (10:Int) ^ (12:Int).toNat≠0 by decide)
  have y1:=dz c (show (0:Int) < 10 ^ (12:Int).toNat by decide)
  have eb:(10:Int) ^ (12:Int).toNat=1000000000000:=by decide
  refine⟨_,rfl,_,rfl,10,12,rfl,rfl,⟨by decide,by decide,by decide⟩,_,_,rfl,rfl,(by decide:(0:Int) < 10 ^ (12:Int).toNat),_,_,rfl,rfl,(show 3<=sizeLine by decide),fun p hp => ?_⟩
  exact q (.ref p) (.cost k (1+c % 10 ^ (12:Int).toNat)) _ (s1.trans (aD hp _)) (fun R _ => .cost p k _ av) ⟨gk,by omega,by omega⟩ (fun z hz=>nomatch hz)
 dsimp only[fe]
 refine⟨_,rfl,rfl,_,rfl,aY (fun _ => ?_) (fun n2 => ?_)⟩
 ·refine⟨_,rfl,c,_,_,rfl,by decide,by decide,by decide,fun u u0 u1=>⟨_,rfl,c,_,_,rfl,by decide,by decide,by decide,fun x x0 x1=>⟨_,_,rfl,rfl,(show 3<=sizeLine by decide),fun p hp => ?_⟩⟩⟩
  exact q (.ref p) (.grow u (1+x)) _ (aD hp _) (fun R _ => .grow p u _ av) ⟨⟨u0,by omega⟩,by omega,by omega⟩ (fun z hz=>nomatch hz)
 dsimp only[fe]
 refine⟨_,rfl,_,_,rfl,rfl,_,rfl,aY (fun r6 => ?_) (fun n6 => ?_)⟩
 ·obtain⟨x,hx,ZX⟩:=Wm r0 r6 (fun z=>n1 (by rw[z])) (fun z=>n2 (by rw[z]))
  refine⟨(show 3<=sizeLine by decide),fun L hL=>⟨_,rfl,_,_,rfl,rfl,L,_,_,_,rfl,rfl,aU.of av,hx,_,rfl,_,rfl,(show 3<=sizeLine by decide),fun p hp => ?_⟩⟩
  have s1:=(aD hL (.tup (mR.map V.str))).trans (aD hp (.tup [.str x,y1,y2]))
  exact q (.ref p) (.pair x t1 t2) _ s1 (fun R _ => .pair p y1 y2 x t1 t2 av (bP s1 Vl) (bP s1 ht2)) ⟨ZX,g1,g2⟩ (fun z hz=>nomatch hz)
 dsimp only[fe]
 refine⟨_,rfl,_,_,rfl,rfl,_,rfl,aY (fun r12 => ?_) (fun _ => ?_)⟩
 ·obtain⟨x,hx,ZX⟩:=rj (xs:=oP.map V.str) (i:=r - 6) (by omega) (show r - 6 < 6 by omega)
  obtain⟨x,hxn,rfl⟩:=fD.mp ZX
  refine⟨(show 6<=sizeLine by decide),fun L hL=>⟨_,rfl,_,_,rfl,rfl,L,_,_,_,rfl,rfl,aU.of av,hx,_,rfl,(show 2<=sizeLine by decide),fun p hp => ?_⟩⟩
  have s1:=(aD hL (.tup (oP.map V.str))).trans (aD hp (.tup [.str x,y1]))
  exact q (.ref p) (.one x t1) _ s1 (fun R _ => .one p y1 x t1 av (bP s1 Vl)) ⟨hxn,g1⟩ (fun z hz=>nomatch hz)
 dsimp only[fe]
 refine⟨_,rfl,(show 2<=sizeLine by decide),fun p hp => ?_⟩
 have s1:=aD hp (.tup [.str "put",y2])
 exact q (.ref p) (.one "put" t2) _ s1 (fun R _ => .one p y2 "put" t2 av (bP s1 ht2)) ⟨by decide,g2⟩ (fun z hz=>nomatch hz)
inductive MR (d5:Addr) (vs:List V) (H:Hp) (Q:VK) (E:XK):Prop
 | mk (x y:Str) (ev:vs = [.str x,.str y]) (hy:(y.length == 0)=false) (ya:(reprText y).length<=1000) (hx:x.length<=100000)
  (q1:∀ a b,a5 x y=(a,y,b)->∀ p H',aT H H'->H' p=some (.tup [.str a,.str b])->Q (.ref p) H') (q2:a5 x y=(x,cF,cF)->∀ H',aT H H'->E (.ref d5) none H'):MR d5 vs H Q E
def E9 (d5:Addr):Sp:=fun vs H Q E=>MR d5 vs H Q E
theorem Lf (B:hJ mg) (Z:yx K mg CU d5) (D:Def K mg "split_at" xF ["text", "sign"]):f9 P w K mg base 1 "split_at" ["text", "sign"] (E9 d5):=by
 have d9:=Z.d9
 refine D.pe B1 (fun vs H Q E h => ?_) (fun f a8 A outer s H vs Q E hr h => ?_)
 ·obtain⟨x,y,rfl,_⟩:=h;rfl
 obtain⟨x,y,rfl,hy,ya,hx,q1,q2⟩:=h
 refine⟨_,(ao (aR (i:=2) B1.nd rfl (aH rfl) (fq ck fA fz kA (aq 0) (ae (aq 1) ag)))
  (ao (a6 (aC cb (aP a7 (aq 2) ai (fun _ _=>rfl)) ay (aQ _)) (aw (eg d9 rfl (fun _ _ _ _ _ _ _ I hx q=>iK I hx q) (ae (gF (cN (Jk (aq 1)) (cN ay lE))) ag) rfl)) aJ)
  (aw (aW (aS (ae (aP a7 (aq 2) ai (fun _ _=>rfl)) (ae (aP a7 (aq 2) ai (fun _ _=>rfl)) ag))))))),?_⟩
 try dsimp only[bZ]
 refine⟨_,rfl,rfl,_,rfl,x,y,rfl,rfl,hy,a9 hx (by decide),fun p hp => ?_⟩
 rcases NC x y with⟨a,b,e,ex⟩ | e
 ·rw[e]
  dsimp only[bc]
  refine⟨_,rfl,p,_,1,_,rfl,rfl,aU.of av,ax (j:=1) rfl,rfl,_,rfl,aY (fun z => ?_) (fun _ => ?_)⟩
  ·have:y = "" := V.str.inj z
   rw[this]at hy
   exact absurd hy (by decide)
  refine⟨_,rfl,p,_,0,_,rfl,rfl,aU.of av,ax (j:=0) rfl,_,rfl,p,_,2,_,rfl,rfl,aU.of av,ax (j:=2) rfl,(show 2<=sizeLine by decide),fun t ht => ?_⟩
  exact q1 a b e t _ ((aD hp _).trans (aD ht _)) av
 ·rw[e]
  dsimp only[bc]
  refine⟨_,rfl,p,_,1,_,rfl,rfl,aU.of av,ax (j:=1) rfl,rfl,_,rfl,aY (fun _ => ?_) (fun z=>absurd rfl z)⟩
  exact⟨by decide,_,rfl,y,rfl,ya,_,rfl,ya,_,rfl,by decide,fun z=>⟨(show 1<=sizeLine by decide),q2 e _ (aD hp _)⟩⟩
theorem p7 {x y a b:Str}{H:Hp}{Q:VK}{E:XK} (hy:(y.length == 0)=false) (ya:(reprText y).length<=1000) (hx:x.length<=100000) (e:a5 x y=(a,y,b)) (q:∀ p H',aT H H'->H' p=some (.tup [.str a,.str b])->Q (.ref p) H'):E9 d5 [.str x,.str y] H Q E :=
 ⟨x,y,rfl,hy,ya,hx,fun a' b' e'=>by rw[e]at e';cases e';exact q,fun e'=>by
  rw[e]at e'
  have:=congrArg (fun z:Str × Str × Str=>z.2.1) e'
  have:y=cF:=this
  rw[this]at hy
  exact absurd hy (by decide)⟩
theorem mB (m:Nat):(aI (toString (m:Int))).cps.toList=dg m:=qW m
def cnt (x:Str):Bool := !x.cps.toList.isEmpty && decide (x.cps.toList.length<=60) && (x.cps.toList[0]? != some 48 || x.cps.toList == [48]) && x.cps.toList.all fun c=>decide (48<=c) && decide (c<=57)
structure K4 (x:Str):Prop where
 ne:x.cps.toList ≠ []
 len:x.length<=60
 hd:x.cps.toList[0]? = some 48->x.cps.toList = [48]
theorem QU {x:Str} (c:K4 x) (hd:ir x.cps.toList):cnt x=true:=by
 unfold cnt
 have h1:x.cps.toList.isEmpty=false:=by cases e:x.cps.toList with | nil=>exact absurd e c.ne | cons _ _=>rfl
 have h2:x.cps.toList.length<=60:=by rw[<- bK];exact c.len
 rw[h1,decide_eq_true h2]
 have h3:(x.cps.toList[0]? != some 48 || x.cps.toList == [48])=true:=by
  by_cases e:x.cps.toList[0]? = some 48
  ·rw[c.hd e];rfl
  ·rw[bne_iff_ne.mpr e,Bool.true_or]
 rw[h3]
 exact eU.mpr fun c hc=>by rw[decide_eq_true (hd c hc).1,decide_eq_true (hd c hc).2];rfl
theorem QR {x:Str} (h:cnt x=true):K4 x∧ir x.cps.toList:=by
 unfold cnt at h
 simp only[eC,pR,su,decide_eq_true_eq,bne_iff_ne,beq_iff_eq,eU]at h
 obtain⟨⟨⟨h1,h2⟩,h3⟩,h4⟩:=h
 refine⟨⟨(fun e=>by rw[e]at h1;cases h1),(by rw[bK];exact h2),fun e => ?_⟩,fun c hc=>h4 c hc⟩
 rcases h3 with h3 | h3
 ·exact absurd e h3
 ·exact h3
inductive xc (vs:List V) (H:Hp) (Q:VK):Prop
 | mk (x:Str) (ev:vs = [.str x]) (hx:Cq x) (q1:cnt x=true->∀ m:Nat,x=aI (toString (m:Int))->Q (.int (m:Int)) H) (q2:cnt x=false->Q .b9 H):xc vs H Q
def Fe:Sp:=fun vs H Q _=>xc vs H Q
inductive V2 (H:Hp) (x:Str) (i:Nat) (σ : St) (H':Hp):Prop
 | mk (o:Option V) (e : σ = [some (.str x),o]) (eh:H'=H) (al:∀ j c,j < i->x.cps.toList[j]? = some c->48<=c∧c<=57):V2 H x i σ H'
theorem HI (B:hJ mg) (iS:∃ t,mg "FIGURES" = some (.str "0123456789" t)) (fR:∃ t,mg "MOST_FIGURES" = some (.int 60 t)) (D:Def K mg "read_count" tj ["text"]):cS P w K mg base 1 "read_count" ["text"] Fe:=by
 refine D.eL yN (fun vs H Q E h => ?_) (fun f a8 A outer s H vs Q E hr h => ?_)
 ·obtain⟨x,rfl,_⟩:=h;rfl
 obtain⟨x,rfl,⟨N2,dX⟩,q1,q2⟩:=h
 refine⟨_,(ao (a6 (PW.ji (pw_orQ (aC cb (aq 0) ay (aQ _)) (pw_orQ (aC lp (b8 kJ rfl B.iC bR (ae (aq 0) ag)) (c8 fR rfl) (aQ _)) (pw_or1Q (PW.ji (pw_andQ (aC cb (aP wJ (aq 0) ai (fun _ _=>rfl)) ay (aQ _)) (pw_and1Q (aC nV (aq 0) ay (aQ _))))))))) (aw (aW iA)) aJ)
  (ao (iz eO rfl (LZ (aq 0)) (dI (i:=1) yN.nd rfl (aH rfl))
  (aw (a6 (aC zP (aq 1) (mq iS rfl) (by with_unfolding_all rfl)) (aw (aW iA)) aJ)))
  (aw (aW (gG yY rfl B.NQ vh (ae (aq 0) ag)))))),?_⟩
 try dsimp only[bZ]
 have FK:x.cps.all (· < 128)=true:=by
  rw[<- Dy]
  exact eU.mpr fun c hc=>decide_eq_true (N2 c hc)
 have no:¬ K4 x->cnt x=false:=fun n=>sv.mpr fun h=>n (QR h).1
 refine jr (fun b Hc=>Hc=H∧(b=false->K4 x)∧(b=true->¬ K4 x)) (fun Qc qc => ?_) (fun Hc h => ?_) (fun Hc h => ?_)
 ·refine⟨_,rfl,rfl,_,rfl,aY (fun z=>qc _ _ ⟨rfl,(fun x=>nomatch x),fun _ c => ?_⟩) (fun ne => ?_)⟩
  ·have:x = "" := V.str.inj z
   exact c.ne (by rw[this];rfl)
  refine⟨_,rfl,x,rfl,a9 dX (by decide),_,_,rfl,rfl,_,rfl,aY (fun z=>qc _ _ ⟨rfl,(fun x=>nomatch x),fun _ c=>absurd c.len (by omega)⟩) (fun Zu => ?_)⟩
  have fo:x.cps.toList ≠ []:=fun z=>ne (congrArg V.str (dY z))
  obtain⟨c,r,ecr⟩:∃ c r,x.cps.toList=c :: r:=by
   cases e:x.cps.toList with
   | nil=>exact absurd e fo
   | cons c r=>exact⟨c,r,rfl⟩
  have GU:x.cps.toList[0]? = some c:=by rw[ecr];rfl
  refine⟨_,rfl,_,_,_,rfl,rfl,a9 dX (by decide),ax (j:=0) GU,rfl,_,rfl,aY (fun z => ?_) (fun n0=>qc _ _ ⟨rfl,fun _=>⟨fo,by omega,fun e => ?_⟩,fun z=>nomatch z⟩)⟩
  ·have e48 : [c] = [48]:=congrArg (fun z:Str=>z.cps.toList) (V.str.inj z)
   refine⟨_,rfl,rfl,_,rfl,qc _ _ ⟨rfl,fun e=>⟨fo,by omega,fun _ => ?_⟩,fun e k => ?_⟩⟩
   ·have e1:V.str x=V.str "0" := me fun c=>by
     rw[decide_eq_false c]at e
     cases e
    exact congrArg (fun z:Str=>z.cps.toList) (V.str.inj e1)
   ·have:x.cps.toList = [48]:=k.hd (by rw[GU,(nX e48).1])
    have:x = "0" := dY this
    rw[this,decide_eq_true rfl]at e
    cases e
  ·rw[GU]at e
   exact absurd (by rw[bD e];rfl) n0
 ·obtain⟨rfl,_,n⟩:=h
  exact q2 (no (n rfl))
 obtain⟨rfl,JW, -⟩:=h
 have ct:=JW rfl
 have Zu:=ct.len
 dsimp only[fe]
 refine⟨_,rfl,x,rfl,FK,?_⟩
 refine MA (V2 Hc x) (V2.mk none rfl rfl fun j c hj=>absurd hj (i6 _)) ?_ ?_
 ·rintro i d σ H' Ah ⟨o,rfl,rfl,al⟩
  dsimp only[bc]
  refine⟨_,rfl,_,_,rfl,rfl,_,rfl,?_⟩
  have hf:=nv ("0123456789" : Str) d
  rw[C6]at hf
  rw[show (!(dE ("0123456789" : Str) ⟨#[d]⟩ 0 ("0123456789" : Str).length 1).isEmpty)=eI d from hf]
  cases hi:eI d with
  | true =>
   have h48:=of_decide_eq_true hi
   refine eW (V2.mk _ rfl rfl fun j c hj hc => ?_)
   by_cases ej:j=i
   ·rw[ej,Ah]at hc
    cases hc
    exact h48
   ·exact al j c (by omega) hc
  | false=>exact gB (q2 (sv.mpr fun h=>of_decide_eq_false hi ((QR h).2 d (bB Ah))))
 ·rintro σ H' ⟨o,rfl,rfl,al⟩
  have hd:ir x.cps.toList:=fun c hc=>by
   obtain⟨j,hj⟩:=lB hc
   have tV:=(bt.mp hj).1
   exact al j c (by rw[bK];exact tV) hj
  have hint:intText? x=some ((cT x.cps.toList:Nat):Int):=yy hd ct.ne (by omega)
  exact⟨_,rfl,_,_,rfl,hint,by omega,q1 (QU ct hd) _ (count_is ct.ne hd ct.hd)⟩
theorem MH {m:Nat} (h:m < 10 ^ 59):cnt (aI (toString (m:Int)))=true∧Cq (aI (toString (m:Int))):=by
 have ec:=mB m
 have Zu:(aI (toString (m:Int))).length<=60:=by
  rw[ofString_length]
  exact int_text_length_le10 (a:=(m:Int)) (k:=59) (by decide) (by rw[Int.natAbs_natCast];exact h)
 have hd:ir (aI (toString (m:Int))).cps.toList:=by rw[ec];exact iU m
 refine⟨QU ⟨by rw[ec];exact Bz m,Zu,fun e => ?_⟩ hd,fun c hc=>by have:=hd c hc;omega,by omega⟩
 rw[ec]at e ⊢
 exact FN m (by rw[List.head?_eq_getElem?];exact e)
theorem Kn {m:Nat}{H:Hp}{Q:VK} (h:m < 10 ^ 59) (q:Q (.int (m:Int)) H):xc [.str (aI (toString (m:Int)))] H Q:=by
 obtain⟨h1,h2⟩:=MH h
 refine⟨_,rfl,h2,fun _ m' e => ?_,fun e=>by rw[h1]at e;cases e⟩
 have:dg m=dg m':=by rw[<- mB,e,mB]
 have:m=m':=by rw[<- nI m,this,nI m']
 rw[<- this]
 exact q
theorem QP {n:Int}{H:Hp}{Q:VK} (h0:0<=n) (h:n<=1000000000000) (q:Q (.int n) H):xc [.str (aI (toString n))] H Q:=by
 obtain⟨m,rfl⟩:=eJ h0
 exact Kn (gW (show m<=1000000000000 by omega) (by decide)) q
def zX (t:Str):Nat->Int
 | 0=>0
 | i+1=>if ("-0+" : Str).cps.toList.getD i 0∈t.cps.toList then za (zX t i) (1 * 2 ^ i) else zX t i
theorem Zo {m:Int} (h1:1<=m) (h7:m<=7):zX (fM m) 3=m:=by
 rcases(by omega:m=1∨m=2∨m=3∨m=4∨m=5∨m=6∨m=7) with rfl | rfl | rfl | rfl | rfl | rfl | rfl <;> decide +kernel
inductive MT (vs:List V) (H:Hp) (Q:VK):Prop
 | mk (m:Int) (z0:vs = [.str (fM m)]) (z1:1<=m) (z2:m<=7) (z3:∀ H',aT H H'->Q (.int m) H'):MT  vs H Q
def LA:Sp:=fun vs H Q _=>MT  vs H Q
inductive Rl (H:Hp) (x:Str) (i:Nat) (σ : St) (H':Hp):Prop
 | mk (x2 x3:Option V) (e : σ = [some (.str x),some (.int (zX x i)),x2,x3]) (sm:aT H H'):Rl H x i σ H'
theorem Ju (B:hJ mg) (kI:∃ t,mg "MASK_SIGNS" = some (.str "-0+" t)) (vK:cS P w K mg base 1 "show_mask" ["mask"] OT) (D:Def K mg "read_mask" vF ["text"]):cS P w K mg base 2 "read_mask" ["text"] LA:=by
 refine D.eL mj (fun vs H Q E h => ?_) (fun f a8 A outer s H vs Q E hr h => ?_)
 ·obtain⟨m,rfl,_⟩:=h;rfl
 obtain⟨m,rfl,h1,h7,q⟩:=h
 refine⟨_,(ao (aR (i:=1) mj.nd rfl (aH rfl) ai)
  (ao (iz eO rfl (GJ rfl B.yo (ae (mq kI rfl) ag)) (Fu rfl (oz (dI (i:=2) mj.nd rfl (aH rfl)) (oz (dI (i:=3) mj.nd rfl (aH rfl)) Ft)))
  (aw (a6 (aC zR (aq 3) (aq 0) (by with_unfolding_all rfl)) (aw (aR (i:=1) mj.nd rfl (aH rfl) (aX ab2 (aq 1) (aX Pq ai (aq 2))))) aJ)))
  (ao (a6 (aC nV (aG vK hr (by omega) rfl (ae (aq 1) ag)) (aq 0) (aQ _)) (aw mn) aJ)
  (aw (aW (aq 1)))))),?_⟩
 try dsimp only[bZ]
 refine qj ?_
 refine⟨"-0+",rfl,by decide +kernel,?_⟩
 refine G4 (Rl H (fM m)) (Rl.mk none none rfl (aT.refl _)) ?_ ?_
 ·rintro i c p σ H2 hc ⟨x2,x3,rfl,s2⟩ hp
  have hi:i < 3:=(bt.mp hc).1
  have s3:=s2.trans (aD hp (.tup [.int (i:Int),.str ⟨#[c]⟩]))
  have ec:("-0+" : Str).cps.toList.getD i 0=c:=by rw[cG,hc];rfl
  refine⟨p,_,rfl,aU.of av,rfl,_,_,rfl,_,_,rfl,rfl,?_⟩
  dsimp only[bc]
  have hf:=nv (fM m) c
  refine⟨_,rfl,_,rfl,_,_,rfl,rfl,_,rfl,?_⟩
  rw[hf]
  by_cases hb:c∈(fM m).cps.toList
  ·have:zX (fM m) (i+1)=za (zX (fM m) i) (1 * 2 ^ i):=by rw[zX,ec,if_pos hb]
   rw[decide_eq_true hb]
   refine gB ⟨_,rfl,_,rfl,_,_,rfl,rfl,⟨by omega,by omega,by decide⟩,_,_,rfl,rfl,Rl.mk (some (.int (i:Int))) (some (.str ⟨#[c]⟩)) ?_ s3⟩
   rw[this,fZ]
   rfl
  ·have:zX (fM m) (i+1)=zX (fM m) i:=by rw[zX,ec,if_neg hb]
   rw[decide_eq_false hb]
   exact eW (Rl.mk _ _ (by rw[this];rfl) s3)
 ·rintro σ H2 ⟨x2,x3,rfl,s2⟩
  rw[show zX (fM m) ("-0+" : Str).length=m from Zo h1 h7]
  refine⟨_,rfl,m,rfl,h1,h7,fun H3 s3=>⟨_,rfl,rfl,_,rfl,i0 (fun z=>absurd rfl z) (fun _=>⟨_,rfl,q _ (s2.trans s3)⟩)⟩⟩
theorem vz (h:Str):wY ("?" ++ h) "?" = true:=by
 unfold wY
 rw[ur,bN,au]
 show (decide (0+1<=1+h.length) && ((63 :: h.cps.toList).drop 0).take 1 == [63])=true
 rw[decide_eq_true (by omega)]
 rfl
theorem xy (h:Str):oI ("?" ++ h) (some 1) none=h:=by
 refine dY ?_
 have hl:("?" ++ h:Str).length=1+h.length:=by rw[au];rfl
 rw[GH,HT.Cy,show HT.dG ("?" ++ h:Str).length 0 (some (1:Int))=1 by rw[show (1:Int)=((1:Nat):Int) from rfl,HT.wu];omega,bN]
 show ((63 :: h.cps.toList).drop 1).take _=_
 rw[List.drop_one,qD]
 exact eS (by rw[<- bK];omega)
theorem U8 (a b c:Str):bw " " [a,b,c]=a ++ " " ++ b ++ " " ++ c:=by
 refine dY ?_
 rw[bw,bw,bw]
 ·simp only[bN,bH]
 ·intro z;cases z
 ·intro z;cases z
theorem ab8 (a b:Str):bw " " [a,b]=a ++ " " ++ b:=by
 rw[bw,bw]
 intro z;cases z
theorem FD {h:Str} (hw:dW h):32 ∉ ("?" ++ h:Str).cps.toList:=by
 rw[bN]
 intro z
 rcases aZ.mp z with z | z
 ·cases bI.mp z
 ·exact eV hw (by decide) z
theorem Xy (m:Int):32 ∉ (fM m).cps.toList:=by
 unfold fM
 rw[cG]
 cases h:sD[(m - 1).toNat]? with
 | none=>exact fun z=>nomatch z
 | some z =>
  have:∀ z∈sD,32 ∉ z.cps.toList:=by decide +kernel
  exact this z (bB h)
def AG:Ask->List Str
 | .free h z => ["free", "?" ++ h,z]
 | .sign h m => ["sign", "?" ++ h,fM m]
 | .num h => ["number", "?" ++ h]
theorem Q2 {bs:List Str}{a:Ask} (g:Dw bs a):vk (ju a) " " = AG a:=by
 have hk:ix (" " : Str)=1:=by decide +kernel
 have hy:(" " : Str).cps.toList[0]? = some 32:=rfl
 have hw:=g.w
 cases a with
 | free h z =>
  have hw:dW h:=hw
  have hz:=g.ok.2
  have e:ju (.free h z)=bw " " (AG (.free h z)):=by
   show "free ?" ++ h ++ " " ++ z=bw " " ["free", "?" ++ h,z]
   rw[U8]
   refine dY ?_
   simp only[bN,bH]
   rfl
  rw[e]
  refine oV hk hy (show 1<=3 by decide) fun u hu => ?_
  rcases aK.mp hu with rfl | hu
  ·decide +kernel
  rcases aK.mp hu with rfl | hu
  ·exact FD hw
  rw[bI.mp hu];exact eV hz (by decide)
 | sign h m =>
  have hw:dW h:=hw
  have e:ju (.sign h m)=bw " " (AG (.sign h m)):=by
   show "sign ?" ++ h ++ " " ++ fM m=bw " " ["sign", "?" ++ h,fM m]
   rw[U8]
   refine dY ?_
   simp only[bN,bH]
   rfl
  rw[e]
  refine oV hk hy (show 1<=3 by decide) fun u hu => ?_
  rcases aK.mp hu with rfl | hu
  ·decide +kernel
  rcases aK.mp hu with rfl | hu
  ·exact FD hw
  rw[bI.mp hu];exact Xy m
 | num h =>
  have hw:dW h:=hw
  have e:ju (.num h)=bw " " (AG (.num h)):=by
   show "number ?" ++ h=bw " " ["number", "?" ++ h]
   rw[ab8]
   refine dY ?_
   simp only[bN,bH]
   rfl
  rw[e]
  refine oV hk hy (show 1<=2 by decide) fun u hu => ?_
  rcases aK.mp hu with rfl | hu
  ·decide +kernel
  rw[bI.mp hu];exact FD hw
inductive KA (vs:List V) (H:Hp) (Q:VK):Prop
 | mk (a:Ask) (bs:List Str) (ev:vs = [.str (ju a)]) (g:Dw bs a) (q:∀ v H',aT H H'->iO H' v a->Q v H'):KA vs H Q
def OS:Sp:=fun vs H Q _=>KA vs H Q
theorem Lh (B:hJ mg) (vM:cS P w K mg base 2 "read_mask" ["text"] LA) (D:Def K mg "read_ask" xH ["text"]):cS P w K mg base 3 "read_ask" ["text"] OS:=by
 refine D.eL vB (fun vs H Q E h => ?_) (fun f a8 A outer s H vs Q E hr h => ?_)
 ·obtain⟨a,bs,rfl,_⟩:=h;rfl
 obtain⟨a,bs,rfl,g,q⟩:=h
 refine⟨_,(ao (aR (i:=1) vB.nd rfl (aH rfl) (fq ck nP nO CW (aq 0) (ae ay ag)))
  (ao (a6 (PW.ji (pw_orQ (aC ll (b8 cO rfl B.iC bR (ae (aq 1) ag)) ai (aQ _)) (pw_or1Q (sM (lK (fq ck PySem.F.slot_str_startswith PySem.F.type_str_startswith HJ (aP gj (aq 1) ai (fun _ _=>rfl)) (ae ay ag))))))) (aw mn) aJ)
  (ao (aR (i:=2) vB.nd rfl (aH rfl) (jj zB (aP gj (aq 1) ai (fun _ _=>rfl)) (hZ ai) sO))
  (ao (a6 (PW.ji (pw_andQ (aC cb (aP gj (aq 1) ai (fun _ _=>rfl)) ay (aQ _)) (pw_and1Q (aC cb (b8 cO rfl B.iC bR (ae (aq 1) ag)) ai (aQ _))))) (aw (aW (aS (ae ay (ae (aq 2) (ae (aP gj (aq 1) ai (fun _ _=>rfl)) ag)))))) aJ)
  (ao (a6 (PW.ji (pw_andQ (aC cb (aP gj (aq 1) ai (fun _ _=>rfl)) ay (aQ _)) (pw_and1Q (aC cb (b8 cO rfl B.iC bR (ae (aq 1) ag)) ai (aQ _))))) (aw (aW (aS (ae ay (ae (aq 2) (ae (aG vM hr (by omega) rfl (ae (aP gj (aq 1) ai (fun _ _=>rfl)) ag)) ag)))))) aJ)
  (ao (a6 (PW.ji (pw_andQ (aC cb (aP gj (aq 1) ai (fun _ _=>rfl)) ay (aQ _)) (pw_and1Q (aC cb (b8 cO rfl B.iC bR (ae (aq 1) ag)) ai (aQ _))))) (aw (aW (aS (ae ay (ae (aq 2) ag))))) aJ)
  (aw mn))))))),?_⟩
 try dsimp only[bZ]
 have big:(1000:Nat)<=sizeLine:=by decide
 have al:=yw g
 have h8:=g.w.2.1
 have e:=Q2 g
 refine⟨_,rfl,rfl,ju a, " ",rfl,rfl,by decide,by omega,fun l hl => ?_⟩
 rw[e]
 have s1:=aD hl (.lst ((AG a).map V.str))
 have tU:=av (H:=H) (a:=l) (o := .lst ((AG a).map V.str))
 generalize aO H l (.lst ((AG a).map V.str))=H1 at s1 tU ⊢
 dsimp only[bc]
 have hS:b6 K H1 l ((AG a).map V.str):=b6.of tU
 cases a with
 | free h z =>
  have h8:h.length<=8:=h8
  have hq:("?" ++ h:Str).length<=sizeLine:=by rw[au];show 1+h.length<=_;omega
  refine⟨_,rfl,l,_,rfl,.inl hS,_,_,rfl,rfl,_,rfl,aY (fun z=>absurd (show (3:Int) < 2 from z) (by decide)) (fun _ => ?_)⟩
  refine⟨_,rfl,l,_,_,_,rfl,rfl,hS,ax (j:=1) rfl,rfl,_,_,rfl,rfl,?_⟩
  rw[vz]
  refine⟨_,rfl,eW ?_⟩
  refine⟨_,rfl,l,_,_,_,rfl,rfl,hS,ax (j:=1) rfl,_,rfl,_,rfl,hq,?_⟩
  rw[xy]
  dsimp only[bc]
  refine⟨_,rfl,l,_,_,_,rfl,rfl,hS,ax (j:=0) rfl,rfl,_,rfl,aY (fun _ => ?_) (fun z=>absurd rfl z)⟩
  refine⟨_,rfl,l,_,rfl,.inl hS,rfl,_,rfl,aY (fun _ => ?_) (fun z=>absurd rfl z)⟩
  refine⟨_,rfl,_,rfl,l,_,_,_,rfl,rfl,hS,ax (j:=2) rfl,(show 3<=sizeLine by decide),fun p hp => ?_⟩
  exact q _ _ (s1.trans (aD hp _)) ⟨p,rfl,av⟩
 | sign h m =>
  have h8:h.length<=8:=h8
  have hq:("?" ++ h:Str).length<=sizeLine:=by rw[au];show 1+h.length<=_;omega
  refine⟨_,rfl,l,_,rfl,.inl hS,_,_,rfl,rfl,_,rfl,aY (fun z=>absurd (show (3:Int) < 2 from z) (by decide)) (fun _ => ?_)⟩
  refine⟨_,rfl,l,_,_,_,rfl,rfl,hS,ax (j:=1) rfl,rfl,_,_,rfl,rfl,?_⟩
  rw[vz]
  refine⟨_,rfl,eW ?_⟩
  refine⟨_,rfl,l,_,_,_,rfl,rfl,hS,ax (j:=1) rfl,_,rfl,_,rfl,hq,?_⟩
  rw[xy]
  dsimp only[bc]
  refine⟨_,rfl,l,_,_,_,rfl,rfl,hS,ax (j:=0) rfl,rfl,_,rfl,aY (fun z=>absurd (V.str.inj z) (by decide)) (fun _=>eW ?_)⟩
  dsimp only[fe]
  refine⟨_,rfl,l,_,_,_,rfl,rfl,hS,ax (j:=0) rfl,rfl,_,rfl,aY (fun _ => ?_) (fun z=>absurd rfl z)⟩
  refine⟨_,rfl,l,_,rfl,.inl hS,rfl,_,rfl,aY (fun _ => ?_) (fun z=>absurd rfl z)⟩
  refine⟨_,rfl,_,rfl,l,_,_,_,rfl,rfl,hS,ax (j:=2) rfl,m,rfl,g.ok.2.1,g.ok.2.2,fun H2 s2=>⟨(show 3<=sizeLine by decide),fun p hp => ?_⟩⟩
  exact q _ _ (s1.trans (s2.trans (aD hp _))) ⟨p,rfl,av⟩
 | num h =>
  have h8:h.length<=8:=h8
  have hq:("?" ++ h:Str).length<=sizeLine:=by rw[au];show 1+h.length<=_;omega
  refine⟨_,rfl,l,_,rfl,.inl hS,_,_,rfl,rfl,_,rfl,aY (fun z=>absurd (show (2:Int) < 2 from z) (by decide)) (fun _ => ?_)⟩
  refine⟨_,rfl,l,_,_,_,rfl,rfl,hS,ax (j:=1) rfl,rfl,_,_,rfl,rfl,?_⟩
  rw[vz]
  refine⟨_,rfl,eW ?_⟩
  refine⟨_,rfl,l,_,_,_,rfl,rfl,hS,ax (j:=1) rfl,_,rfl,_,rfl,hq,?_⟩
  rw[xy]
  dsimp only[bc]
  refine⟨_,rfl,l,_,_,_,rfl,rfl,hS,ax (j:=0) rfl,rfl,_,rfl,aY (fun z=>absurd (V.str.inj z) (by decide)) (fun _=>eW ?_)⟩
  dsimp only[fe]
  refine⟨_,rfl,l,_,_,_,rfl,rfl,hS,ax (j:=0) rfl,rfl,_,rfl,aY (fun z=>absurd (V.str.inj z) (by decide)) (fun _=>eW ?_)⟩
  dsimp only[fe]
  refine⟨_,rfl,l,_,_,_,rfl,rfl,hS,ax (j:=0) rfl,rfl,_,rfl,aY (fun _ => ?_) (fun z=>absurd rfl z)⟩
  refine⟨_,rfl,l,_,rfl,.inl hS,rfl,_,rfl,aY (fun _ => ?_) (fun z=>absurd rfl z)⟩
  refine⟨_,rfl,(show 2<=sizeLine by decide),fun p hp => ?_⟩
  exact q _ _ (s1.trans (aD hp _)) ⟨p,rfl,av⟩
inductive MS (d5:Addr) (vs:List V) (H:Hp) (Q:VK) (E:XK):Prop
 | mk (x:Str) (ev:vs = [.str x]) (hx:x.length<=100000) (q1:∀ t,fE true 30 x.cps.toList=some (t, [])->t.parts<=120->∀ v H',aT H H'->bJ H' t v->Q v H') (q2:(∀ t,fE true 30 x.cps.toList=some (t, [])->120 < t.parts)->∀ a C' H',aT H H'->H' a=some (pV a C' none)->E (.ref d5) (some a) H'):MS d5 vs H Q E
def Fc (d5:Addr):Sp:=fun vs H Q E=>MS d5 vs H Q E
theorem Js (B:hJ mg) (Z:yx K mg CU d5) (qx:mg "NoTree" = some (.ref cB)) (mNT:fG K (.ref cB) (.ref cB)=some true) (FI:f9 P w K mg base 65 "read_pattern" ["text"] (wo cB true)) (D:Def K mg "read_side" vE ["text"]):f9 P w K mg base 66 "read_side" ["text"] (Fc d5):=by
 have d9:=Z.d9
 refine D.pe IL (fun vs H Q E h => ?_) (fun f a8 A outer s H vs Q E hr h => ?_)
 ·obtain⟨x,rfl,_⟩:=h;rfl
 obtain⟨x,rfl,hx,q1,q2⟩:=h
 refine⟨_,(aw (Sg ⟨rfl,rfl⟩ rfl qx (WI (sC FI hr (by omega) rfl (ae (aq 0) ag))) (fun ea=>(aw (Nx d9 aaX (ae ay ag) rfl))))),?_⟩
 try dsimp only[bZ]
 exact⟨_,rfl,x,rfl,hx,fun t e hp v H' s' tr=>q1 t e hp v H' s' tr,fun n H1 s1=>⟨cB,rfl,mNT,fun ea lG=>⟨(show 1<=sizeLine by decide),.inl ⟨cB,av⟩,q2 n ea cB _ (s1.trans (aD lG _)) av⟩⟩⟩
theorem LJ {t:T}{H:Hp}{Q:VK}{E:XK} (ok:t.Ok) (hp:t.parts<=12) (hd:t.depth<=14) (q:∀ v H',aT H H'->bJ H' t v->Q v H'):Fc d5 [.str t.shown] H Q E:=by
 have st:Stop []:=fun c hc=>nomatch hc
 have e:=Fp true 30 t ok (by omega) (.inl rfl) [] st
 rw[dh]at e
 have sl:=il ok hp
 refine⟨_,rfl,by omega,fun t' e' _ v H' s' tr => ?_,fun n=>absurd (n t e) (by omega)⟩
 rw[e]at e'
 cases e'
 exact q v H' s' tr
def nS (r:T) (as:List Ask):Str:=if 0 < as.length then r.shown ++ " if " ++ bw ", " (as.map ju) else r.shown
theorem uZ (z:Str) (wt:Int) (l r:T) (as:List Ask):(jM z wt l r as).cps.toList=(z ++ " " ++ aI (toString wt)).cps.toList ++ ((": " : Str).cps.toList ++ (l.shown ++ " = " ++ nS r as).cps.toList):=by
 unfold jM nS qV
 by_cases h:0 < as.length
 ·rw[if_pos h,if_pos h]
  simp only[bN,bH]
 ·rw[if_neg h,if_neg h]
  simp only[bN,bH]
theorem ae6 {z:Str}{wt:Int}{l r:T}{as:List Ask} (hz:dW z):a5 (jM z wt l r as) (": " : Str)=(z ++ " " ++ aI (toString wt),(": " : Str),l.shown ++ " = " ++ nS r as):=by
 refine yr (j:=0) (c:=58) (uZ z wt l r as) rfl (fun h => ?_) (fun i hi=>absurd hi (i6 _))
 rw[bN,bN]at h
 rcases aZ.mp h with h | h
 ·rcases aZ.mp h with h | h
  ·exact eV hz (by decide) h
  ·cases bI.mp h
 ·have:=oB wt 58 h
  omega
theorem ae5 {z:Str}{W:Str} (hz:dW z):a5 (z ++ " " ++ W) (" " : Str)=(z,(" " : Str),W) :=
 yr (j:=0) (c:=32) (by rw[bN,bN,bH]) rfl (eV hz (by decide)) (fun i hi=>absurd hi (i6 _))
theorem aa9 {l:T}{R:Str} (hl:l.Ok):a5 (l.shown ++ " = " ++ R) (" = " : Str)=(l.shown,(" = " : Str),R) :=
 yr (j:=1) (c:=61) (by rw[bN,bN,bH]) rfl (mM hl (by decide +kernel)) (fun i hi=>by
  have:i=0:=by omega
  subst this
  exact fun e=>absurd (bD e) (by decide))
theorem ae4 {r:T}{as:List Ask} (hr:r.Ok):a5 (nS r as) (" if " : Str)=(r.shown,(if 0 < as.length then (" if " : Str) else cF),(if 0 < as.length then bw ", " (as.map ju) else cF)):=by
 unfold nS
 by_cases h:0 < as.length
 ·rw[if_pos h,if_pos h,if_pos h]
  exact Tt hr (by rw[bN,bN,bH])
 ·rw[if_neg h,if_neg h,if_neg h]
  exact Kl (acb hr)
theorem Te (m:Int):44 ∉ (fM m).cps.toList:=by
 unfold fM
 rw[cG]
 cases h:sD[(m - 1).toNat]? with
 | none=>exact fun z=>nomatch z
 | some z =>
  have:∀ z∈sD,44 ∉ z.cps.toList:=by decide +kernel
  exact this z (bB h)
theorem XU {bs:List Str}{a:Ask} (g:Dw bs a):44 ∉ (ju a).cps.toList:=by
 have hw:=g.w
 have key:∀ (p h q:Str),44 ∉ p.cps.toList->dW h->44 ∉ q.cps.toList->44 ∉ (p ++ h ++ " " ++ q:Str).cps.toList:=fun p h q hp hh hq z=>by
  rw[bN,bN,bN]at z
  rcases aZ.mp z with z | z
  ·rcases aZ.mp z with z | z
   ·rcases aZ.mp z with z | z
    ·exact hp z
    ·exact eV hh (by decide) z
   ·cases bI.mp z
  ·exact hq z
 cases a with
 | free h z=>exact key "free ?" h z (by decide +kernel) hw (eV g.ok.2 (by decide))
 | sign h m=>exact key "sign ?" h (fM m) (by decide +kernel) hw (Te m)
 | num h =>
  have hw:dW h:=hw
  show 44 ∉ ("number ?" ++ h:Str).cps.toList
  rw[bN]
  intro z
  rcases aZ.mp z with z | z
  ·exact absurd z (by decide +kernel)
  ·exact eV hw (by decide) z
abbrev Oh:List Str := ["a 0: f(?a) = ?a", "a 1: ?a = f(?a)", "a 1 f(?a) = ?a", "a 1: f(?a) = ?b", "a 1: f(?a) = ?a if", ""]
inductive Ur (x:Str):Prop
 | a (e:a5 x ": " = (x,cF,cF)):Ur x
 | b (h0 h1 n0 n1 s0 s1:Str) (m:Nat) (l:T) (e1:a5 x ": " = (h0,(": " : Str),h1)) (e2:a5 h0 " " = (n0,(" " : Str),n1)) (e3:a5 h1 " = " = (s0,(" = " : Str),s1)) (en:n1=aI (toString (m:Int))) (hm:m<=1) (hn:Cq n0) (e4:a5 s1 " if " = (s1,cF,cF)) (ls:h0.length<=100∧h1.length<=100∧s0.length<=100∧s1.length<=100) (hl:fE true 30 s0.cps.toList=some (l, [])) (pl:l.parts<=12∧l.depth<=14)
  (r:(fE true 30 s1.cps.toList).all (fun p => !p.2.isEmpty)=true∨∃ r,fE true 30 s1.cps.toList=some (r, [])∧(r.parts<=12∧r.depth<=14)∧¬ Ex n0 m l r []):Ur x
theorem T8:∀ x∈Oh,Ur x:=by
 have A:Cq ("a" : Str):=⟨by decide +kernel,by decide⟩
 have L:∀ a b c d:Nat,a<=100->b<=100->c<=100->d<=100->a<=100∧b<=100∧c<=100∧d<=100:=fun _ _ _ _ h1 h2 h3 h4=>⟨h1,h2,h3,h4⟩
 intro x hx
 simp only[aK,Dq,or_false]at hx
 rcases hx with rfl | rfl | rfl | rfl | rfl | rfl
 ·exact .b "a 0" "f(?a) = ?a" "a" "0" "f(?a)" "?a" 0 (.of "f" [.any "a"]) (by decide +kernel) (by decide +kernel) (by decide +kernel) (by decide +kernel) (by decide) A (by decide +kernel) (by decide) rfl (by decide +kernel) (.inr ⟨.any "a",rfl,by decide +kernel,fun h=>absurd h.2.1.1 (by decide)⟩)
 ·exact .b "a 1" "?a = f(?a)" "a" "1" "?a" "f(?a)" 1 (.any "a") (by decide +kernel) (by decide +kernel) (by decide +kernel) (by decide +kernel) (by decide) A (by decide +kernel) (by decide) rfl (by decide +kernel) (.inr ⟨.of "f" [.any "a"],rfl,by decide +kernel,fun h=>absurd h.2.2.1.1 (by decide +kernel)⟩)
 ·exact .a (by decide +kernel)
 ·exact .b "a 1" "f(?a) = ?b" "a" "1" "f(?a)" "?b" 1 (.of "f" [.any "a"]) (by decide +kernel) (by decide +kernel) (by decide +kernel) (by decide +kernel) (by decide) A (by decide +kernel) (by decide) rfl (by decide +kernel) (.inr ⟨.any "b",rfl,by decide +kernel,fun h=>absurd (h.2.2.1.2.2.2.2 "b" (by decide +kernel)) (by decide +kernel)⟩)
 ·exact .b "a 1" "f(?a) = ?a if" "a" "1" "f(?a)" "?a if" 1 (.of "f" [.any "a"]) (by decide +kernel) (by decide +kernel) (by decide +kernel) (by decide +kernel) (by decide) A (by decide +kernel) (by decide) rfl (by decide +kernel) (.inl (by decide +kernel))
 ·exact .a (by decide +kernel)
theorem Q0:∀ x∈Oh,x.length<=100:=by decide +kernel
inductive w5 (CU d5:Addr) (vs:List V) (H:Hp) (Q:VK) (E:XK):Prop
 | ok (z:Str) (wt:Int) (l r:T) (as:List Ask) (ev:vs = [.str (jM z wt l r as)]) (g:i5 z wt l r as) (q:∀ o dx A2 vl vr cu H',aT H H'->H A2=none->H' o=some (.ins CU dx (O0 z wt vl vr A2))->bJ H' l vl->bJ H' r vr->H' A2=some (.lst cu)->Paired (iO H') cu as->Q (.ref o) H'):w5 CU d5 vs H Q E
 | no (x:Str) (ev:vs = [.str x]) (hx:x∈Oh) (q:∀ m H',aT H H'->(∀ a,m=some a->∃ C',H' a=some (pV a C' none))->E (.ref d5) m H'):w5 CU d5 vs H Q E
def Lz (CU d5:Addr):Sp:=fun vs H Q E=>w5 CU d5 vs H Q E
theorem abu {bs:List Str}{as:List Ask} (h:∀ a∈as,Dw bs a):∀ a∈as,Us a:=fun a ha=>by
 have:=(h a ha).ok
 cases a with
 | free x z=>exact Mg this.2
 | sign x m=>trivial
 | num x=>trivial
theorem OZ {H H':Hp}{x dx:Addr}{o1 o2:HO} (hx:H x=none) (hd:H dx=none) (k:∀ b u,b≠x->(aO (aO H dx o1) x o2) b=some u->H' b=some u):aT H H':=fun a o e=>by
 have n1:a≠x:=fun z=>by rw[z,hx]at e;cases e
 have n2:a≠dx:=fun z=>by rw[z,hd]at e;cases e
 exact k a o n1 (by rw[bh n1,bh n2];exact e)
inductive V1 (H:Hp) (pre:V->St) (as:List Ask) (σ : St) (H':Hp):Prop
 | mk (A:Addr) (cu:List V) (e : σ = pre (.ref A)) (sm:aT H H') (hA:H' A=some (.lst cu)) (hp:Paired (iO H') cu as):V1 H pre as σ H'
theorem Jt (B:hJ mg) (Z:yx K mg CU d5) (pf:f9 P w K mg base 1 "split_at" ["text", "sign"] (E9 d5)) (kG:cS P w K mg base 1 "read_count" ["text"] Fe) (yh:cS P w K mg base 3 "read_ask" ["text"] OS) (qO:f9 P w K mg base 66 "read_side" ["text"] (Fc d5)) (vP:yA P w K mg base 17 "Rule" CU ["self", "title", "weight", "left", "right", "asks"] (LB CU d5))
  (D:Def K mg "read_rule" qM ["line"]):f9 P w K mg base 67 "read_rule" ["line"] (Lz CU d5):=by
 have d9:=Z.d9
 refine D.pe iP (fun vs H Q E h => ?_) (fun f a8 A outer s H vs Q E hr h => ?_)
 ·rcases h with⟨z,wt,l,r,as,rfl,_⟩ | ⟨x,rfl,_⟩ <;> rfl
 refine⟨_,(ao (aR (i:=1) iP.nd rfl (aH rfl) (fJ pf hr (by omega) (eG fun _ _ _ z=>z) rfl (ae (aq 0) (ae ay ag))))
  (ao (aR (i:=2) iP.nd rfl (aH rfl) (fJ pf hr (by omega) (eG fun _ _ _ z=>z) rfl (ae (aP a7 (aq 1) ai (fun _ _=>rfl)) (ae ay ag))))
  (ao (aR (i:=3) iP.nd rfl (aH rfl) (fJ pf hr (by omega) (eG fun _ _ _ z=>z) rfl (ae (aP a7 (aq 1) ai (fun _ _=>rfl)) (ae ay ag))))
  (ao (aR (i:=4) iP.nd rfl (aH rfl) (aG kG hr (by omega) rfl (ae (aP a7 (aq 2) ai (fun _ _=>rfl)) ag)))
  (ao (a6 (aC wC (aq 4) iA (aQ _)) (aw (eg d9 rfl (fun _ _ _ _ _ _ _ I hx q=>iK I hx q) (ae ay ag) rfl)) aJ)
  (ao (aR (i:=5) iP.nd rfl (aH rfl) (fq ck fA fz kA (aP a7 (aq 3) ai (fun _ _=>rfl)) (ae ay ag)))
  (ao (aR (i:=6) iP.nd rfl (aH rfl) (gi ag))
  (ao (a6 (aC nV (aP a7 (aq 5) ai (fun _ _=>rfl)) ay (aQ _)) (aw (B2 (i:=6) iP.nd rfl rfl (te:=(k7 _ _ _ (sx _ sT))) (own := ["text"]) (caps := []) (jd (az qM) ["line", "head", "named", "sides", "weight", "asked", "asks"] rfl rfl rfl (by decide +kernel)) (k9 (fq ck nP nO CW (aP a7 (aq 5) ai (fun _ _=>rfl)) (ae ay ag))) rfl (fun _ _ _=>dI (i:=0) (show (["text"]:List Str).Nodup by decide +kernel) rfl (aH rfl)) (fun _ _ _=>(aG yh hr (by omega) rfl (ae (aq 0) ag))) rfl)) aJ)
  (aw (aW (zO vP hr (by omega) (eG fun _ _ _ z=>z) rfl (ae (aP a7 (aq 2) ai (fun _ _=>rfl)) (ae (aq 4) (ae (fJ qO hr (by omega) (eG fun _ _ _ z=>z) rfl (ae (aP a7 (aq 3) ai (fun _ _=>rfl)) ag)) (ae (fJ qO hr (by omega) (eG fun _ _ _ z=>z) rfl (ae (aP a7 (aq 5) ai (fun _ _=>rfl)) ag)) (ae (aq 6) ag)))))))))))))))),?_⟩
 try dsimp only[bZ]
 rcases h with⟨z,wt,l,r,as,rfl,g,q⟩ | ⟨x,rfl,hx,q⟩
 rotate_left
 ·have xl:=Q0 x hx
  have big:(10000000:Nat)<=sizeLine:=by decide
  have JB:∀ {H':Hp} (a:Addr),(none:Option Addr)=some a->∃ C',H' a=some (pV a C' none):=fun a z=>nomatch z
  rcases T8 x hx with e | ⟨h0,h1,n0,n1,s0,s1,m,l,e1,e2,e3,en,hm,hn,e4,⟨z1,z2,z3,z4⟩,hl,pl,yU⟩
  ·refine⟨_,rfl,x,_,rfl,by decide,by decide +kernel,by omega,fun a b e' => ?_,fun _ H' s'=>q none H' s' JB⟩
   rw[e]at e'
   have:cF.length=(": " : Str).length:=congrArg (fun z:Str × Str × Str=>z.2.1.length) e'
   exact absurd this (by decide)
  refine⟨_,rfl,p7 (by decide) (by decide +kernel) (by omega) e1 fun p1 H1 s1' dn => ?_⟩
  dsimp only[bc]
  refine⟨_,rfl,p1,_,0,_,rfl,rfl,aU.of dn,ax (j:=0) rfl,p7 (by decide) (by decide +kernel) (by omega) e2 fun p2 H2 s2' i3 => ?_⟩
  dsimp only[bc]
  refine⟨_,rfl,p1,_,1,_,rfl,rfl,aU.of (s2' _ _ dn),ax (j:=1) rfl,p7 (by decide) (by decide +kernel) (by omega) e3 fun p3 H3 s3' mw => ?_⟩
  dsimp only[bc]
  subst en
  have JO:=s3' _ _ i3
  refine⟨_,rfl,p2,_,1,_,rfl,rfl,aU.of JO,ax (j:=1) rfl,Kn (gW hm (by decide)) ?_⟩
  dsimp only[bc]
  refine⟨_,rfl,rfl,_,rfl,aY (fun z=>nomatch z) (fun _ => ?_)⟩
  refine⟨_,rfl,p3,_,1,_,rfl,rfl,aU.of mw,ax (j:=1) rfl,rfl,_,_,rfl,rfl,by decide,by omega,fun p5 oF => ?_⟩
  rw[e4]
  have s5:=aD oF (.tup [.str s1,.str cF,.str cF])
  have C2:=av (H:=H3) (a:=p5) (o := .tup [.str s1,.str cF,.str cF])
  dsimp only at C2 s5 ⊢
  generalize aO H3 p5 (.tup [.str s1,.str cF,.str cF])=H5 at s5 C2 ⊢
  refine⟨bA _,fun A0 Aq => ?_⟩
  dsimp only[bc]
  have s6:=aD Aq (.lst [])
  have Ap:=av (H:=H5) (a:=A0) (o := .lst [])
  have Ag:=s6 _ _ C2
  generalize aO H5 A0 (.lst [])=H6 at s6 Ap Ag ⊢
  refine⟨_,rfl,p5,_,1,_,rfl,rfl,aU.of Ag,ax (j:=1) rfl,rfl,_,rfl,i0 (fun fo=>absurd rfl fo) (fun _ => ?_)⟩
  have g36:=s5.trans s6
  have g6:=s1'.trans (s2'.trans (s3'.trans g36))
  refine⟨_,rfl,p2,_,0,_,rfl,rfl,aU.of (g36 _ _ JO),ax (j:=0) rfl,_,rfl,_,rfl,p3,_,0,_,rfl,rfl,aU.of (g36 _ _ mw),ax (j:=0) rfl,s0,rfl,by omega,fun l' e' _ vl H9 s9 ZZ => ?_,fun n=>absurd (n l hl) (by omega)⟩
  rw[hl]at e'
  cases e'
  refine⟨_,rfl,p5,_,0,_,rfl,rfl,aU.of (s9 _ _ Ag),ax (j:=0) rfl,s1,rfl,by omega,fun r e' _ vr KP si Vg => ?_,fun n a C' H' s' ha=>q (some a) H' (g6.trans (s9.trans s')) fun b hb=>⟨C',by cases hb;exact ha⟩⟩
  rcases yU with yU | ⟨r',iu,Z6,hr3⟩
  ·rw[e']at yU
   exact Dv (show false=true from yU)
  rw[iu]at e'
  cases e'
  refine⟨_,rfl,fun x dx hx yW fo => ?_⟩
  have Mx:=g6.trans (s9.trans si)
  have kx:aT KP (aO (aO KP dx (.own x)) x (.ins CU dx [])):=(aD yW _).trans (aD (by rw[bh (cK fo)];exact hx) _)
  exact BB.mk x dx A0 n0 m vl vr l r [] [] rfl av hn (bP kx (bP si ZZ)) (bP kx Vg) pl.2 Z6.2 (by omega) (by omega) (kx _ _ (si _ _ (s9 _ _ Ap))) .nil (fun _ h=>nomatch h) (bA _) (fun h=>absurd h hr3) (fun _ H' s'=>q none H' (Mx.trans (kx.trans s')) JB)
 have hz:=g.ok.1
 have w1:=g.ok.2.1.1
 have w2:=g.ok.2.1.2
 have vf:=g.vf
 have lL:=il g.l_ g.pl
 have lR:=il g.r_ g.pr
 have z8:=hz.2.1
 have nl:=mS (n:=wt) (by omega) (by omega)
 have e1:(" " : Str).length=1:=rfl
 have e2:(": " : Str).length=2:=rfl
 have e3:(" = " : Str).length=3:=rfl
 have e4:(" if " : Str).length=4:=rfl
 have qY:∀ s∈as.map ju,s.length<=23:=fun s hs=>by
  obtain⟨k,hk,rfl⟩:=fD.mp hs
  exact yw (g.AH hk)
 have tV:=E4 qY
 rw[aA]at tV
 have tl:(nS r as).length<=2000:=by
  unfold nS
  split
  ·rw[au,au,e4];omega
  ·omega
 have hl:(l.shown ++ " = " ++ nS r as).length<=4000:=by rw[au,au,e3];omega
 have ha:(z ++ " " ++ aI (toString wt)).length<=1000:=by rw[au,au,e1];omega
 have hs:(jM z wt l r as).length<=10000:=by
  rw[bK,uZ,aM,aM, <- bK, <- bK, <- bK,e2]
  omega
 have big:(10000000:Nat)<=sizeLine:=by decide
 refine⟨_,rfl,p7 (by decide) (by decide +kernel) (by omega) (ae6 hz) fun p1 H1 s1 dn => ?_⟩
 dsimp only[bc]
 refine⟨_,rfl,p1,_,0,_,rfl,rfl,aU.of dn,ax (j:=0) rfl,p7 (by decide) (by decide +kernel) (by omega) (ae5 hz) fun p2 H2 s2 i3 => ?_⟩
 dsimp only[bc]
 refine⟨_,rfl,p1,_,1,_,rfl,rfl,aU.of (s2 _ _ dn),ax (j:=1) rfl,p7 (by decide) (by decide +kernel) (by omega) (aa9 g.l_) fun p3 H3 s3 mw => ?_⟩
 dsimp only[bc]
 have JO:=s3 _ _ i3
 refine⟨_,rfl,p2,_,1,_,rfl,rfl,aU.of JO,ax (j:=1) rfl,QP (by omega) w2 ?_⟩
 dsimp only[bc]
 refine⟨_,rfl,rfl,_,rfl,aY (fun z=>nomatch z) (fun _ => ?_)⟩
 refine⟨_,rfl,p3,_,1,_,rfl,rfl,aU.of mw,ax (j:=1) rfl,rfl,_,_,rfl,rfl,by decide,by omega,fun p5 oF => ?_⟩
 rw[ae4 g.r_]
 have s5:=aD oF (.tup [.str r.shown,.str (if 0 < as.length then (" if " : Str) else cF),.str (if 0 < as.length then bw ", " (as.map ju) else cF)])
 have C2:=av (H:=H3) (a:=p5) (o := .tup [.str r.shown,.str (if 0 < as.length then (" if " : Str) else cF),.str (if 0 < as.length then bw ", " (as.map ju) else cF)])
 dsimp only at C2 s5 ⊢
 generalize aO H3 p5 (.tup [.str r.shown,.str (if 0 < as.length then (" if " : Str) else cF),.str (if 0 < as.length then bw ", " (as.map ju) else cF)])=H5 at s5 C2 ⊢
 refine⟨bA _,fun A0 Aq => ?_⟩
 dsimp only[bc]
 have s6:=aD Aq (.lst [])
 have Ap:=av (H:=H5) (a:=A0) (o := .lst [])
 have Ag:=s6 _ _ C2
 generalize aO H5 A0 (.lst [])=H6 at s6 Ap Ag ⊢
 refine kz (V1 H6 (fun v => [some (.str (jM z wt l r as)),some (.ref p1),some (.ref p2),some (.ref p3),some (.int wt),some (.ref p5),some v]) as) ?_ (fun key => ?_)
 rotate_left
 ·refine⟨_,rfl,p5,_,1,_,rfl,rfl,aU.of Ag,ax (j:=1) rfl,rfl,_,rfl,i0 (fun fo => ?_) (fun heq => ?_)⟩
  ·have mr:0 < as.length:=by
    by_cases h:0 < as.length
    ·exact h
    ·rw[if_neg h]at fo;exact absurd rfl fo
   refine⟨_,rfl,p5,_,2,_,rfl,rfl,aU.of Ag,ax (j:=2) rfl,rfl,_,_,rfl,rfl,by decide,?_,fun D0 hD0=>⟨D0,rfl,⟨_,b6.of av⟩,?_⟩⟩
   ·rw[if_pos mr];omega
   rw[if_pos mr,oV (c:=44) (by decide +kernel) rfl (by rw[aA];omega) (fun u hu=>by
    obtain⟨k,hk,rfl⟩:=fD.mp hu
    exact XU (g.AH hk))]
   have s7:=aD hD0 (.lst ((as.map ju).map V.str))
   refine pq (R:=fun H v a=>iO H v a) (bs:=as) (fun _ _ _ _ k h=>h.keep k) (b6.of av) (by rw[aA,aA];omega) (by rw[aA,aA]) (fun i x y hx hy dF Yp Q' q' => ?_) (fun D2 H8 ys vd s8 jB Mi => ?_)
   ·rw[cf,cf,hy]at hx
    cases hx
    exact⟨_,rfl,KA.mk y (j6 l []) rfl (g.AH (bB hy)) fun v H9 s9 hv=>q' v H9 s9 hv⟩
   exact key _ _ (V1.mk D2 ys rfl (s7.trans s8) jB Mi)
  ·have mr:¬ 0 < as.length:=fun h=>by
    rw[if_pos h]at heq
    exact absurd (V.str.inj heq) (by decide)
   have:as = []:=jE.mp (by omega)
   subst this
   exact key _ _ (V1.mk A0 [] rfl (aT.refl _) Ap .nil)
 rintro bC H8 ⟨Al,cu,rfl,s8,Qq,fu⟩
 have g38:=s5.trans (s6.trans s8)
 have g8:=s1.trans (s2.trans (s3.trans g38))
 refine⟨_,rfl,p2,_,0,_,rfl,rfl,aU.of (g38 _ _ JO),ax (j:=0) rfl,_,rfl,_,rfl,p3,_,0,_,rfl,rfl,aU.of (g38 _ _ mw),ax (j:=0) rfl,LJ g.l_ g.pl g.dl fun vl H9 s9 ZZ=>⟨_,rfl,p5,_,0,_,rfl,rfl,aU.of (s9 _ _ (s8 _ _ Ag)),ax (j:=0) rfl,LJ g.r_ g.pr g.dr fun vr KP si Vg=>⟨_,rfl,fun x dx hx yW fo => ?_⟩⟩⟩
 have Mx:=g8.trans (s9.trans si)
 have aeV:=si _ _ (s9 _ _ Qq)
 have Z9:=kX (s9.trans si) fu
 have Vh:=bP si ZZ
 have kx:aT KP (aO (aO KP dx (.own x)) x (.ins CU dx [])):=(aD yW _).trans (aD (by rw[bh (cK fo)];exact hx) _)
 refine BB.mk x dx Al z wt vl vr l r cu as rfl av (Mg hz) (bP kx Vh) (bP kx Vg) g.dl g.dr (by have:=g.pl;omega) (by have:=g.pr;omega) (kx _ _ aeV) (kX kx Z9) (abu fun a ha=>g.AH ha) (by omega) (fun _ RG A2 k ra aeU ho => ?_) (fun n=>absurd g.ok n)
 have zI:=OZ hx yW k
 exact⟨rfl,q x dx A2 vl vr cu RG (Mx.trans zI) ((Mx.trans kx).free ra) ho (bP zI Vh) (bP zI Vg) aeU (kX zI Z9)⟩
def GN:Od->Str
 | .rule z wt l r as => "rule " ++ jM z wt l r as
 | .cost k n => "cost " ++ k ++ " " ++ aI (toString n)
 | .grow a b => "grow " ++ aI (toString a) ++ " " ++ aI (toString b)
 | .pair x t u=>x ++ " " ++ t.shown ++ " = " ++ u.shown
 | .one x t=>x ++ " " ++ t.shown
theorem Ja {z:Str}{wt:Int}{l r:T}{as:List Ask} (g:i5 z wt l r as):(jM z wt l r as).length<=10000:=by
 have hz:=g.ok.1
 have w1:=g.ok.2.1.1
 have w2:=g.ok.2.1.2
 have vf:=g.vf
 have lL:=il g.l_ g.pl
 have lR:=il g.r_ g.pr
 have z8:=hz.2.1
 have nl:=mS (n:=wt) (by omega) (by omega)
 have e1:(" " : Str).length=1:=rfl
 have e2:(": " : Str).length=2:=rfl
 have e3:(" = " : Str).length=3:=rfl
 have e4:(" if " : Str).length=4:=rfl
 have qY:∀ s∈as.map ju,s.length<=23:=fun s hs=>by
  obtain⟨k,hk,rfl⟩:=fD.mp hs
  exact yw (g.AH hk)
 have tV:=E4 qY
 rw[aA]at tV
 have tl:(nS r as).length<=2000:=by
  unfold nS
  split
  ·rw[au,au,e4];omega
  ·omega
 have hl:(l.shown ++ " = " ++ nS r as).length<=4000:=by rw[au,au,e3];omega
 have ha:(z ++ " " ++ aI (toString wt)).length<=1000:=by rw[au,au,e1];omega
 rw[bK,uZ,aM,aM, <- bK, <- bK, <- bK,e2]
 omega
theorem Jm:∀ x∈mR,x.length<=8:=by decide +kernel
theorem Io:∀ x∈oP,x.length<=8:=by decide +kernel
theorem De {k:Str} (h:dW k∨k = "#" ∨ k = "@"):k.length<=8:=by
 rcases h with h | rfl | rfl
 ·exact h.2.1
 ·decide
 ·decide
inductive Ol (vs:List V) (H:Hp) (Q:VK):Prop
 | mk (R:Addr) (v:V) (o:Od) (ev:vs = [v]) (hv:kQ R H v o) (g:pG o) (q:∀ H',aT H H'->Q (.str (GN o)) H'):Ol vs H Q
def UO:Sp:=fun vs H Q _=>Ol vs H Q
theorem Zb (B:hJ mg) (j9:cS P w K mg base 15 "_law_rule_text" ["_law_rule_here"] xw) (kF:cS P w K mg base 14 "_law_shown" ["_law_tree"] (Bl 14)) (D:Def K mg "_law_row" Nr ["_law_order_here"]):cS P w K mg base 16 "_law_row" ["_law_order_here"] UO:=by
 refine D.eL Yx (fun vs H Q E h => ?_) (fun f a8 A outer s H vs Q E hr h => ?_)
 ·obtain⟨R,v,o,rfl,_⟩:=h;rfl
 obtain⟨R,v,o,rfl,hv,g,q⟩:=h
 refine⟨_,(ao (a6 (aC cb (aP a7 (aq 0) ai (fun _ _=>rfl)) ay (aQ _)) (aw (aW (aX bX ay (aG j9 hr (by omega) rfl (ae (aP a7 (aq 0) ai (fun _ _=>rfl)) ag))))) aJ)
  (ao (a6 (aC cb (aP a7 (aq 0) ai (fun _ _=>rfl)) ay (aQ _)) (aw (aW (aX bX (aX bX (aX bX ay (aP a7 (aq 0) ai (fun _ _=>rfl))) ay) (gG mC rfl B.Iz rg (ae (aP a7 (aq 0) ai (fun _ _=>rfl)) ag))))) aJ)
  (ao (a6 (aC cb (aP a7 (aq 0) ai (fun _ _=>rfl)) ay (aQ _)) (aw (aW (aX bX (aX bX (aX bX ay (gG mC rfl B.Iz rg (ae (aP a7 (aq 0) ai (fun _ _=>rfl)) ag))) ay) (gG mC rfl B.Iz rg (ae (aP a7 (aq 0) ai (fun _ _=>rfl)) ag))))) aJ)
  (ao (a6 (aC cb (b8 cO rfl B.iC bR (ae (aq 0) ag)) ai (aQ _)) (aw (aW (aX bX (aX bX (aX bX (aX bX (aP a7 (aq 0) ai (fun _ _=>rfl)) ay) (aG kF hr (by omega) rfl (ae (aP a7 (aq 0) ai (fun _ _=>rfl)) ag))) ay) (aG kF hr (by omega) rfl (ae (aP a7 (aq 0) ai (fun _ _=>rfl)) ag))))) aJ)
  (aw (aW (aX bX (aX bX (aP a7 (aq 0) ai (fun _ _=>rfl)) ay) (aG kF hr (by omega) rfl (ae (aP a7 (aq 0) ai (fun _ _=>rfl)) ag))))))))),?_⟩
 try dsimp only[bZ]
 have big:(10000000:Nat)<=sizeLine:=by decide
 have e1:(" " : Str).length=1:=rfl
 have e3:(" = " : Str).length=3:=rfl
 have e5:("rule " : Str).length=5:=rfl
 have e6:("cost " : Str).length=5:=rfl
 have e7:("grow " : Str).length=5:=rfl
 cases hv with
 | rule p d AL vl vr cu z wt l r as hp jS ne =>
  refine⟨_,rfl,p,_,0,_,rfl,rfl,aU.of hp,ax (j:=0) rfl,rfl,_,rfl,aY (fun _ => ?_) (fun z=>absurd rfl z)⟩
  have:=Ja g
  exact⟨_,rfl,p,_,1,_,rfl,rfl,aU.of hp,ax (j:=1) rfl,pC.mk d AL z wt vl vr l r cu as rfl jS g fun H1 s1=>⟨_,_,rfl,rfl,by rw[e5];omega,q _ s1⟩⟩
 | cost p k n hp =>
  have k8:=De g.1
  have nl:=mS (n:=n) (by have:=g.2.1;omega) (by have:=g.2.2;omega)
  have ng:=wG (n:=n) (by have:=g.2.1;omega) (by have:=g.2.2;omega)
  refine⟨_,rfl,p,_,0,_,rfl,rfl,aU.of hp,ax (j:=0) rfl,rfl,_,rfl,aY (fun z=>absurd (V.str.inj z) (by decide)) (fun _ => ?_)⟩
  refine⟨_,rfl,p,_,0,_,rfl,rfl,aU.of hp,ax (j:=0) rfl,rfl,_,rfl,aY (fun _ => ?_) (fun z=>absurd rfl z)⟩
  refine⟨_,rfl,p,_,1,_,rfl,rfl,aU.of hp,ax (j:=1) rfl,_,_,rfl,rfl,?_,_,_,rfl,rfl,?_,_,rfl,p,_,2,_,rfl,rfl,aU.of hp,ax (j:=2) rfl,n,rfl,ng,_,_,rfl,rfl,?_,q _ (aT.refl _)⟩
  ·rw[e6];omega
  ·rw[au,e6,e1];omega
  ·rw[au,au,e6,e1];show 5+k.length+1+(aI (toString n)).length<=_;omega
 | grow p a b hp =>
  have nl:=mS (n:=a) (by have:=g.1.1;omega) (by have:=g.1.2;omega)
  have ng:=wG (n:=a) (by have:=g.1.1;omega) (by have:=g.1.2;omega)
  have nl2:=mS (n:=b) (by have:=g.2.1;omega) (by have:=g.2.2;omega)
  have ng2:=wG (n:=b) (by have:=g.2.1;omega) (by have:=g.2.2;omega)
  refine⟨_,rfl,p,_,0,_,rfl,rfl,aU.of hp,ax (j:=0) rfl,rfl,_,rfl,aY (fun z=>absurd (V.str.inj z) (by decide)) (fun _ => ?_)⟩
  refine⟨_,rfl,p,_,0,_,rfl,rfl,aU.of hp,ax (j:=0) rfl,rfl,_,rfl,aY (fun z=>absurd (V.str.inj z) (by decide)) (fun _ => ?_)⟩
  refine⟨_,rfl,p,_,0,_,rfl,rfl,aU.of hp,ax (j:=0) rfl,rfl,_,rfl,aY (fun _ => ?_) (fun z=>absurd rfl z)⟩
  refine⟨_,rfl,p,_,1,_,rfl,rfl,aU.of hp,ax (j:=1) rfl,a,rfl,ng,_,_,rfl,rfl,?_,_,_,rfl,rfl,?_,_,rfl,p,_,2,_,rfl,rfl,aU.of hp,ax (j:=2) rfl,b,rfl,ng2,_,_,rfl,rfl,?_,q _ (aT.refl _)⟩
  ·rw[e7];show 5+(aI (toString a)).length<=_;omega
  ·rw[au,e7,e1];show 5+(aI (toString a)).length+1<=_;omega
  ·rw[au,au,e7,e1];show 5+(aI (toString a)).length+1+(aI (toString b)).length<=_;omega
 | pair p v1 v2 x t u hp h1 h2 =>
  obtain⟨n1,n2,n3⟩:=wA x g.1
  have x8:=Jm x g.1
  have d1:=g.2.1.dep
  have d2:=g.2.2.dep
  have p1:=g.2.1.parts
  have p2:=g.2.2.parts
  have lt:=il g.2.1.ok p1
  have lu:=il g.2.2.ok p2
  refine⟨_,rfl,p,_,0,_,rfl,rfl,aU.of hp,ax (j:=0) rfl,rfl,_,rfl,aY (fun z=>absurd (V.str.inj z) n1) (fun _ => ?_)⟩
  refine⟨_,rfl,p,_,0,_,rfl,rfl,aU.of hp,ax (j:=0) rfl,rfl,_,rfl,aY (fun z=>absurd (V.str.inj z) n2) (fun _ => ?_)⟩
  refine⟨_,rfl,p,_,0,_,rfl,rfl,aU.of hp,ax (j:=0) rfl,rfl,_,rfl,aY (fun z=>absurd (V.str.inj z) n3) (fun _ => ?_)⟩
  refine⟨_,rfl,p,_,rfl,.inr (aU.of hp),rfl,_,rfl,aY (fun _ => ?_) (fun z=>absurd rfl z)⟩
  refine⟨_,rfl,p,_,0,_,rfl,rfl,aU.of hp,ax (j:=0) rfl,_,_,rfl,rfl,?_,_,rfl,p,_,1,_,rfl,rfl,aU.of hp,ax (j:=1) rfl,v1,t,rfl,h1,g.2.1.ok,by omega,by omega,fun H1 s1=>⟨_,_,rfl,rfl,?_,_,_,rfl,rfl,?_,_,rfl,p,_,2,_,rfl,rfl,aU.of (s1 _ _ hp),ax (j:=2) rfl,v2,u,rfl,bP s1 h2,g.2.2.ok,by omega,by omega,fun H2 s2=>⟨_,_,rfl,rfl,?_,q _ (s1.trans s2)⟩⟩⟩
  ·rw[e1];omega
  ·rw[au,e1];omega
  ·rw[au,au,e1,e3];omega
  ·rw[au,au,au,e1,e3];omega
 | one p v1 x t hp h1 =>
  obtain⟨n1,n2,n3⟩:=wj x g.1
  have x8:=Io x g.1
  have d1:=g.2.dep
  have p1:=g.2.parts
  have lt:=il g.2.ok p1
  refine⟨_,rfl,p,_,0,_,rfl,rfl,aU.of hp,ax (j:=0) rfl,rfl,_,rfl,aY (fun z=>absurd (V.str.inj z) n1) (fun _ => ?_)⟩
  refine⟨_,rfl,p,_,0,_,rfl,rfl,aU.of hp,ax (j:=0) rfl,rfl,_,rfl,aY (fun z=>absurd (V.str.inj z) n2) (fun _ => ?_)⟩
  refine⟨_,rfl,p,_,0,_,rfl,rfl,aU.of hp,ax (j:=0) rfl,rfl,_,rfl,aY (fun z=>absurd (V.str.inj z) n3) (fun _ => ?_)⟩
  refine⟨_,rfl,p,_,rfl,.inr (aU.of hp),rfl,_,rfl,aY (fun z=>absurd (show ((2:Nat):Int)=3 from V.int.inj z) (by decide)) (fun _ => ?_)⟩
  refine⟨_,rfl,p,_,0,_,rfl,rfl,aU.of hp,ax (j:=0) rfl,_,_,rfl,rfl,?_,_,rfl,p,_,1,_,rfl,rfl,aU.of hp,ax (j:=1) rfl,v1,t,rfl,h1,g.2.ok,by omega,by omega,fun H1 s1=>⟨_,_,rfl,rfl,?_,q _ s1⟩⟩
  ·rw[e1];omega
  ·rw[au,e1];omega
inductive Di (K:aj) (vs:List V) (H:Hp) (Q:VK):Prop
 | mk (a A:Addr) (ns:List Int) (us:List V) (ts:List T) (ev:vs = [.ref a,.ref A]) (hS:b6 K H a (ns.map V.int)) (Cb:ns.length<=63) (hA:H A=some (.lst us)) (ht:Paired (fun v t=>bJ H t v) us ts) (g:∀ t∈ts,ko 12 t) (l1:us.length<=63) (q:∀ R dP os (j:Nat) H',aT H H'->H' R=some (.lst dP)->Paired (kQ R H') dP os->(∀ o∈os,pG o)->os.filterMap Od.title=(fU j).map (fun k:Nat=>dR (eF ns) k)->j<=20->dP.length<=63->Q (.ref R) H'):Di K vs H Q
def IH (K:aj):Sp:=fun vs H Q _=>Di K vs H Q
inductive MW (H:Hp) (a A R:Addr) (ns:List Int) (i:Nat) (σ : St) (H':Hp):Prop
 | mk (x4:Option V) (dP:List V) (os:List Od) (j:Nat) (e : σ = [some (.ref a),some (.ref A),some (.ref R),some (.int (j:Int)),x4]) (sm:aT H H') (hR:H' R=some (.lst dP)) (hp:Paired (kQ R H') dP os) (g:∀ o∈os,pG o) (tt:os.filterMap Od.title=(fU j).map (fun k:Nat=>dR (eF ns) k)) (B7:j<=20) (len:dP.length<=i):MW H a A R ns i σ H'
theorem Pu (B:hJ mg) (FJ:cS P w K mg base 5 "_law_order" ["_law_script", "_law_cell", "_law_trees_here", "_law_titles"] (LF K)) (D:Def K mg "_law_orders" xI ["_law_script", "_law_trees_here"]):cS P w K mg base 6 "_law_orders" ["_law_script", "_law_trees_here"] (IH K):=by
 refine D.eL qU (fun vs H Q E h => ?_) (fun f a8 A outer s H vs Q E hr h => ?_)
 ·obtain⟨a,A,ns,us,ts,rfl,_⟩:=h;rfl
 obtain⟨a,A,ns,us,ts,rfl,hS,Cb,hA,ht,gt,l1,q⟩:=h
 refine⟨_,(ao (aR (i:=2) qU.nd rfl (aH rfl) (gi ag))
  (ao (aR (i:=3) qU.nd rfl (aH rfl) ai)
  (ao (iz eO rfl (k9 (jj Bo (GL (te:=(nF (Nv K) _ _)) (ct:=(HN (nF _ (nF _ _ _) _))) (own := ["_law_k"]) (caps := [("_law_script",0)]) (jd (az xI) ["_law_script", "_law_trees_here", "_law_rows", "_law_titles", "_law_cell"] rfl rfl rfl (by decide +kernel)) (o7 rfl B.zL (ae (b8 cO rfl B.iC bR (ae (aq 0) ag)) ag)) rfl (fun _ _ _=>dI (i:=0) (show (["_law_k", "_law_script"]:List Str).Nodup by decide +kernel) rfl (aH rfl)) (fun _ _ _=>(aC cb (aX h9 (aq 0) ai) ai (aQ _))) (fun _ _ _=>(aP gj (aq 1) (aq 0) (fun _ _=>rfl)))) sO (hZ ai))) (dI (i:=4) qU.nd rfl (aH rfl))
  (aw (a6 (aC (Pr (Ux hr)) (aq 1) (gi ag) (aQ _)) (ao (fh (fq cV cQ cP gQ (aq 2) (ae (aG FJ hr (by omega) rfl (ae (aq 0) (ae (aq 4) (ae (aq 1) (ae (aq 3) ag))))) ag)))
  (aw (aR (i:=3) qU.nd rfl (aH rfl) (aX js (aq 3) (gG QY rfl B.NQ vh (ae (Jl cb (aP a7 (aP gj (aq 2) (YW X8 ai) (fun _ _=>rfl)) ai (fun _ _=>rfl)) ay (aQ _)) ag)))))) aJ)))
  (aw (aW (aq 2)))))),?_⟩
 try dsimp only[bZ]
 refine⟨bA _,fun R Ao => ?_⟩
 dsimp only[bc]
 have s1:=aD Ao (.lst [])
 have An:=av (H:=H) (a:=R) (o := .lst [])
 generalize aO H R (.lst [])=H1 at s1 An ⊢
 have hl:(ns.map V.int).length=ns.length:=aA ..
 refine qj ?_
 refine⟨_,rfl,a,_,rfl,.inl (s1.seq hS),_,rfl,by omega,by omega,?_⟩
 rw[fZ,hl]
 refine Az (Ai ns 0) (by omega) (fun i hi H' sm R' k' => ?_) (fun i v hi hv H' sm Q' q' => ?_) (fun D2 H2 vd s2 jB => ?_)
 ·refine⟨_,rfl,_,_,rfl,rfl,eu,rfl,_,rfl,?_⟩
  rw[<- GZ ns]
  exact k' _ (aT.refl _)
 ·obtain⟨hv,ha⟩:=Mq hi hv
  exact⟨_,rfl,_,rfl,a,_,_,_,rfl,rfl,(s1.trans sm).seq hS,ha,q' _ (aT.refl _)⟩
 obtain⟨ms,em,lm⟩:=G0 ns 0 ns.length
 rw[em]at jB
 refine⟨_,rfl,D2,_,rfl,b6.of jB,fun C hC => ?_⟩
 obtain⟨cs,ec,lc⟩:=Km ms none (some 32)
 rw[ec]
 have s3:=aD hC (.lst (cs.map V.int))
 have Kc:=av (H:=H2) (a:=C) (o := .lst (cs.map V.int))
 have G1:=s3 _ _ (s2 _ _ An)
 generalize aO H2 C (.lst (cs.map V.int))=H3 at s3 Kc G1 ⊢
 have g3:=s1.trans (s2.trans s3)
 have VA:C≠R:=fun e=>by rw[e]at hC;rw[s2 _ _ An]at hC;cases hC
 have hCl:(cs.map V.int).length=cs.length:=aA ..
 refine⟨C,rfl,⟨_,b6.of Kc⟩,?_⟩
 refine yl (xs:=cs.map V.int) (fun i σ H'=>MW H a A R ns i σ H'∧H' C=some (.lst (cs.map V.int))) ⟨MW.mk none [] [] 0 rfl g3 G1 .nil (fun o ho=>nomatch ho) rfl (bA _) (aB _),Kc⟩ (fun i σ H' _ h=>b6.of h.2) ?_ ?_
 ·rintro i x σ H' hx ⟨⟨x4,dP,os,j,rfl,sm,hR,hp,go,tt,B7,len⟩,Mv⟩
  have hi:i < cs.length:=by have:=(bt.mp hx).1;omega
  obtain⟨c,hc,rfl⟩:∃ c,cs[i]? = some c∧x = .int c:=by
   rw[cf]at hx
   cases e:cs[i]? with
   | none=>rw[e]at hx;cases hx
   | some c=>rw[e]at hx;cases hx;exact⟨c,rfl,rfl⟩
  dsimp only[bc]
  have Z1:=dw ht
  refine jr (fun b Hc=>aT H' Hc∧b = !us.isEmpty) (fun Qc qc => ?_) (fun Hc h => ?_) (fun Hc h => ?_)
  ·refine⟨_,rfl,bA _,fun N hN => ?_⟩
   have s4:=aD hN (.lst [])
   have d12:T.gp ts<=12:=sF fun t ht=>(gt t ht).dep
   refine⟨Ax ts, [],.inr ⟨?_,?_⟩,a9 (Dc ts) (a9 (Nat.mul_le_mul_left 2 d12) (by decide)),_,rfl,qc _ _ ⟨s4,?_⟩⟩
   ·rw[Den];exact⟨A,us,rfl,s4 _ _ (sm _ _ hA),FO (DE (Paired.j7 ht fun _ _ z=>bP (sm.trans s4) z))⟩
   ·rw[Den];exact⟨N, [],rfl,av,by rw[kg]⟩
   ·cases ts with
    | nil =>
     have:us = []:=dB (by simpa using Z1)
     rw[this,Ax]
     simp
    | cons t l =>
     rw[Ax,decide_eq_false (fun z=>nomatch z)]
     cases us with
     | nil=>simp at Z1
     | cons v us=>rfl
  ·obtain⟨s4,he⟩:=h
   have l0:0 < us.length:=by
    cases us with
    | nil=>cases he
    | cons v l=>exact Nat.succ_pos _
   have g4:=sm.trans s4
   have wU:=s4 _ _ hR
   refine⟨_,rfl,.inl ⟨rfl,_,b6.of wU⟩,_,rfl,_,rfl,_,rfl,_,rfl,F4.mk a A ns c j us ts rfl (g4.seq hS) (g4 _ _ hA) (Paired.j7 ht fun _ _ z=>bP g4 z) gt l0 l1 fun v o H5 s5 hv gv tv => ?_⟩
   have hv:=hv R (by rw[wU];exact fun z=>nomatch z)
   have Ka:=s5 _ _ wU
   have oF:Paired (kQ R (aO H5 R (.lst (dP ++ [v])))) (dP ++ [v]) (os ++ [o]):=ke (Paired.j7 (Jn (s4.trans s5) hp) fun _ _ z=>z.put Ka) (hv.put Ka)
   have Vi:=hv.put (ys:=dP ++ [v]) Ka
   have s6:aT H (aO H5 R (.lst (dP ++ [v]))):=(g4.trans s5).put Ao
   have El:=av (H:=H5) (a:=R) (o := .lst (dP ++ [v]))
   have hC6:(aO H5 R (.lst (dP ++ [v]))) C=some (.lst (cs.map V.int)):=by
    rw[bh VA]
    exact s5 _ _ (s4 _ _ Mv)
   refine⟨R,dP,v,rfl,rfl,Ka,gP (by omega),?_⟩
   show oS _ _ _ _ (aO H5 R (.lst (dP ++ [v])))
   generalize aO H5 R (.lst (dP ++ [v]))=H6 at oF Vi s6 El hC6 ⊢
   have ol:(dP ++ [v]).length<=i+1:=by rw[aM];exact iG len
   have og:∀ u∈os ++ [o],pG u:=fun u hu=>by
    rcases aZ.mp hu with z | z
    ·exact go u z
    ·rw[bI.mp z];exact gv
   obtain⟨p,x,ys,rfl,hpx,hx⟩:=Vi.first gv
   refine⟨_,rfl,_,rfl,_,rfl,R,_,_,_,rfl,rfl,b6.of El,Uj _ _,p,_,0,_,rfl,rfl,aU.of hpx,ax (j:=0) rfl,rfl,_,rfl,_,_,rfl,rfl,?_⟩
   rcases hx with⟨rfl,z,hz⟩ | ⟨hx,hz⟩
   ·obtain⟨ez,jz⟩:=tv z hz
    refine⟨MW.mk (some (.int c)) _ (os ++ [o]) (j+1) ?_ s6 El oF og ?_ (by omega) ol,hC6⟩
    ·rw[show (((j+1:Nat)):Int)=(j:Int)+1 by omega]
     rfl
    ·rw[cM,tt,eE,hz,rm,pH,df,ez]
     rfl
   ·refine⟨MW.mk (some (.int c)) _ (os ++ [o]) j ?_ s6 El oF og ?_ B7 ol,hC6⟩
    ·rw[decide_eq_false (fun z=>hx (V.str.inj z))]
     rw[show (j:Int)=(j:Int)+0 by omega]
     rfl
    ·rw[cM,tt,eE,hz,rm,dh]
  ·obtain⟨s4,he⟩:=h
   exact⟨MW.mk _ dP os j rfl (sm.trans s4) (s4 _ _ hR) (Jn s4 hp) go tt B7 (by omega),s4 _ _ Mv⟩
 ·rintro σ H' ⟨⟨x4,dP,os,j,rfl,sm,hR,hp,go,tt,B7,len⟩, -⟩
  exact⟨_,rfl,q R dP os j H' sm hR hp go tt B7 (by omega)⟩
def sG (x:Str) (lo hi:Int):Bool := !cnt x || decide ((cT x.cps.toList:Int) < lo) || decide (hi < (cT x.cps.toList:Int))
inductive Ul (vs:List V) (H:Hp) (Q:VK):Prop
 | mk (x:Str) (lo hi:Int) (ev:vs = [.str x,.int lo,.int hi]) (hx:Cq x) (q1:sG x lo hi=false->∀ m:Nat,x=aI (toString (m:Int))->Q (.int (m:Int)) H) (q2:sG x lo hi=true->Q .b9 H):Ul vs H Q
def RV:Sp:=fun vs H Q _=>Ul vs H Q
theorem DY (B:hJ mg) (kG:cS P w K mg base 1 "read_count" ["text"] Fe) (D:Def K mg "count_within" qi ["text", "low", "high"]):cS P w K mg base 2 "count_within" ["text", "low", "high"] RV:=by
 refine D.eL uY (fun vs H Q E h => ?_) (fun f a8 A outer s H vs Q E hr h => ?_)
 ·obtain⟨x,lo,hi,rfl,_⟩:=h;rfl
 obtain⟨x,lo,hi,rfl,hx,q1,q2⟩:=h
 refine⟨_,(ao (aR (i:=3) uY.nd rfl (aH rfl) (aG kG hr (by omega) rfl (ae (aq 0) ag)))
  (ao (a6 (PW.ji (pw_orQ (aC wC (aq 3) iA (aQ _)) (pw_orQ (aC ll (aq 3) (aq 1) (aQ _)) (pw_or1Q (aC lp (aq 3) (aq 2) (aQ _)))))) (aw (aW iA)) aJ)
  (aw (aW (aq 3))))),?_⟩
 try dsimp only[bZ]
 refine⟨_,rfl,xc.mk x rfl hx (fun c m e => ?_) (fun c => ?_)⟩
 ·have em:cT x.cps.toList=m:=by rw[e,mB];exact nI m
  have cw:sG x lo hi=(decide ((m:Int) < lo) || decide (hi < (m:Int))):=by unfold sG;rw[c,em];rfl
  dsimp only[bc]
  refine⟨_,rfl,rfl,_,rfl,aY (fun z=>nomatch z) (fun _ => ?_)⟩
  refine⟨_,rfl,_,rfl,_,_,rfl,rfl,_,rfl,aY (fun z => ?_) (fun z1 => ?_)⟩
  ·exact q2 (by rw[cw,decide_eq_true z];rfl)
  refine⟨_,rfl,_,rfl,_,_,rfl,rfl,_,rfl,aY (fun z => ?_) (fun z2 => ?_)⟩
  ·exact q2 (by rw[cw,decide_eq_true (show hi < (m:Int) by omega),uP])
  exact⟨_,rfl,q1 (by rw[cw,decide_eq_false z1,decide_eq_false (show ¬ hi < (m:Int) by omega)];rfl) m e⟩
 ·dsimp only[bc]
  exact⟨_,rfl,rfl,_,rfl,aY (fun _=>q2 (by unfold sG;rw[c];rfl)) (fun z=>absurd rfl z)⟩
theorem cw_ok {n lo hi:Int}{H:Hp}{Q:VK} (h0:0<=n) (h1:lo<=n) (h2:n<=hi) (h3:n<=1000000000000) (q:Q (.int n) H):Ul [.str (aI (toString n)),.int lo,.int hi] H Q:=by
 obtain⟨m,rfl⟩:=eJ h0
 obtain⟨c1,c2⟩:=MH (m:=m) (gW (show m<=1000000000000 by omega) (by decide))
 have em:cT (aI (toString (m:Int))).cps.toList=m:=by rw[mB];exact nI m
 refine⟨_,lo,hi,rfl,c2,fun _ m' e => ?_,fun e => ?_⟩
 ·have:m=m':=by rw[<- nI m, <- mB,e,mB,nI m']
  rw[<- this]
  exact q
 ·unfold sG at e
  rw[c1,em,decide_eq_false (show ¬ ((m:Nat):Int) < lo by omega),decide_eq_false (show ¬ hi < ((m:Nat):Int) by omega)]at e
  cases e
theorem ZH {k:Str} (h:dW k∨k = "#" ∨ k = "@"):32 ∉ k.cps.toList:=by
 rcases h with h | rfl | rfl
 ·exact eV h (by decide)
 ·decide +kernel
 ·decide +kernel
theorem T1 {k W:Str} (h:32 ∉ k.cps.toList):a5 (k ++ " " ++ W) (" " : Str)=(k,(" " : Str),W) :=
 yr (j:=0) (c:=32) (by rw[bN,bN,bH]) rfl h (fun i hi=>absurd hi (i6 _))
theorem Xs (n:Int):32 ∉ (aI (toString n)).cps.toList:=fun z=>by
 have:=oB n 32 z
 omega
theorem qm {n:Int} (h1:0<=n) (h2:n<=1000000000000):(aI (toString n)).length<=1000:=by
 have nl:=mS (n:=n) (by omega) (by omega)
 omega
abbrev Uh:List Str := ["plus 0", "# 01", "Plus 3", "plus  3", "plus 1000000000001", "@ -1", "## 1", "abcdefghi 1", "3"]
abbrev Ue:List Str := ["1", "01 2", "101 2", "1 0", "1 1001", "1 2 3", " 1 2", "-1 2"]
abbrev abm:List Str := ["x =y", "x", "x = ", "x = y = z"]
abbrev abl:List Str := ["", "x y", "f(x,y)", "x ", "?a", "X", "-0", "f()"]
def rT (x:Str):Bool:=x.cps.toList.all (fun c=>decide (c < 128)) && decide (x.length<=100)
theorem pB {x:Str} (h:rT x=true):Cq x∧x.length<=100:=by
 unfold rT at h
 simp only[eC,eU,decide_eq_true_eq]at h
 exact⟨⟨h.1,by omega⟩,h.2⟩
def Tq (x:Str):Bool:=decide (1<=x.length) && decide (x.length<=8) && x.cps.toList.all fun c=>decide (97<=c) && decide (c<=122)
theorem XB {x:Str} (h:dW x):Tq x=true:=by
 unfold Tq
 rw[decide_eq_true h.1,decide_eq_true h.2.1]
 exact eU.mpr fun c hc=>by rw[decide_eq_true (h.2.2 c hc).1,decide_eq_true (h.2.2 c hc).2];rfl
theorem Ug:∀ r∈Uh,rT r=true∧rT (a5 r " ").1=true∧rT (a5 r " ").2.2=true∧(sG (a5 r " ").2.2 1 1000000000000=true∨Tq (a5 r " ").1=false∧(a5 r " ").1 ∉ (["#", "@"]:List Str)):=by decide +kernel
theorem Ud:∀ r∈Ue,rT r=true∧rT (a5 r " ").1=true∧rT (a5 r " ").2.2=true∧(sG (a5 r " ").1 0 100=true∨sG (a5 r " ").2.2 1 1000=true):=by decide +kernel
def JA (x:Str):Bool:=rT x && (fE false 30 x.cps.toList).all fun p => !p.2.isEmpty
theorem Ub:∀ r∈abm,rT r=true∧rT (a5 r " = ").1=true∧rT (a5 r " = ").2.2=true∧(JA (a5 r " = ").1=true∨JA (a5 r " = ").2.2=true):=by decide +kernel
theorem Ua:∀ r∈abl,JA r=true:=by decide +kernel
inductive xb (vs:List V) (H:Hp) (Q:VK):Prop
 | ok (k:Str) (n:Int) (ev:vs = [.str (k ++ " " ++ aI (toString n))]) (gk:dW k∨k = "#" ∨ k = "@") (n1:1<=n) (n2:n<=1000000000000) (q:∀ p H',aT H H'->H' p=some (.tup [.str "cost",.str k,.int n])->Q (.ref p) H'):xb vs H Q
 | no (r:Str) (ev:vs = [.str r]) (h:r∈Uh) (q:∀ H',aT H H'->Q .b9 H'):xb vs H Q
def LD:Sp:=fun vs H Q _=>xb vs H Q
theorem Jw (B:hJ mg) (vR:∃ t,mg "MOST_COST" = some (.int 1000000000000 t)) (jQ:cS P w K mg base 1 "is_word" ["text"] xx) (iE:cS P w K mg base 2 "count_within" ["text", "low", "high"] RV) (D:Def K mg "read_cost" vH ["rest"]):cS P w K mg base 3 "read_cost" ["rest"] LD:=by
 refine D.eL o4 (fun vs H Q E h => ?_) (fun f a8 A outer s H vs Q E hr h => ?_)
 ·rcases h with⟨k,n,rfl,_⟩ | ⟨r,rfl,_⟩ <;> rfl
 refine⟨_,(ao (aR (i:=1) o4.nd rfl (aH rfl) (fq ck fA fz kA (aq 0) (ae ay ag)))
  (ao (aR (i:=2) o4.nd rfl (aH rfl) (aP a7 (aq 1) ai (fun _ _=>rfl)))
  (ao (aR (i:=3) o4.nd rfl (aH rfl) (aG iE hr (by omega) rfl (ae (aP a7 (aq 1) ai (fun _ _=>rfl)) (ae ai (ae (c8 vR rfl) ag)))))
  (ao (a6 (PW.ji (pw_orQ (aC wC (aq 3) iA (aQ _)) (pw_or1Q (sM (PW.ji (pw_orQ (lK (aG jQ hr (by omega) rfl (ae (aq 2) ag))) (pw_or1Q (aC zS (aq 2) (aS (jk (L := ["#", "@"]) (by decide +kernel))) (by with_unfolding_all rfl))))))))) (aw (aW iA)) aJ)
  (aw (aW (aS (ae ay (ae (aq 2) (ae (aq 3) ag)))))))))),?_⟩
 try dsimp only[bZ]
 rcases h with⟨k,n,rfl,gk,n1,n2,q⟩ | ⟨r,rfl,hb,q⟩
 rotate_left
 ·obtain⟨h0,h1,h2,h3⟩:=Ug r hb
  have big:(10000000:Nat)<=sizeLine:=by decide
  have l0:=(pB h0).2
  obtain⟨ak,lk⟩:=pB h1
  refine⟨_,rfl,rfl,_,_,rfl,rfl,by decide,by omega,fun p hp => ?_⟩
  generalize a5 r " " = pp at h1 h2 h3 ak lk ⊢
  obtain⟨k,sp,n⟩:=pp
  have s1:=aD hp (.tup [.str k,.str sp,.str n])
  have dn:=av (H:=H) (a:=p) (o := .tup [.str k,.str sp,.str n])
  dsimp only[bc]at s1 dn h1 h2 h3 ak lk ⊢
  generalize aO H p (.tup [.str k,.str sp,.str n])=H1 at s1 dn ⊢
  refine⟨_,rfl,p,_,0,_,rfl,rfl,aU.of dn,ax (j:=0) rfl,?_⟩
  dsimp only[bc]
  refine⟨_,rfl,p,_,2,_,rfl,rfl,aU.of dn,ax (j:=2) rfl,n,1,1000000000000,rfl,(pB h2).1,fun e m _ => ?_,fun _ => ?_⟩
  ·rcases h3 with h3 | ⟨h3,h4⟩
   ·rw[h3]at e;cases e
   dsimp only[bc]
   refine⟨_,rfl,rfl,_,rfl,aY (fun z=>nomatch z) (fun _ => ?_)⟩
   refine⟨_,rfl,k,rfl,ak.1,by omega,fun b hb => ?_⟩
   have:b=false:=by
    cases b with
    | false=>rfl
    | true=>rw[XB (hb.mp rfl)]at h3;cases h3
   subst this
   refine⟨_,rfl,eW ?_⟩
   refine⟨_,rfl,(show 2<=sizeLine by decide),fun L hL=>⟨L,(["#", "@"]:List Str).map V.str,rfl,.inr (aU.of av),rfl,iT _,_,rfl,?_⟩⟩
   rw[kC,decide_eq_false h4]
   exact gB (q _ (s1.trans (aD hL _)))
  ·dsimp only[bc]
   exact⟨_,rfl,rfl,_,rfl,aY (fun _=>q _ s1) (fun z=>absurd rfl z)⟩
 have k8:=De gk
 have nl:=qm (n:=n) (by omega) n2
 have big:(10000000:Nat)<=sizeLine:=by decide
 have e1:(" " : Str).length=1:=rfl
 refine⟨_,rfl,rfl,_,_,rfl,rfl,by decide,by rw[au,au,e1];omega,fun p hp => ?_⟩
 rw[T1 (ZH gk)]
 have s1:=aD hp (.tup [.str k,.str " ",.str (aI (toString n))])
 have dn:=av (H:=H) (a:=p) (o := .tup [.str k,.str " ",.str (aI (toString n))])
 dsimp only[bc]at s1 dn ⊢
 generalize aO H p (.tup [.str k,.str " ",.str (aI (toString n))])=H1 at s1 dn ⊢
 refine⟨_,rfl,p,_,0,_,rfl,rfl,aU.of dn,ax (j:=0) rfl,?_⟩
 dsimp only[bc]
 refine⟨_,rfl,p,_,2,_,rfl,rfl,aU.of dn,ax (j:=2) rfl,cw_ok (by omega) n1 n2 n2 ?_⟩
 dsimp only[bc]
 refine jr (fun b Hc=>aT H1 Hc∧b=false) (fun Qc qc => ?_) (fun Hc h=>by cases h.2) (fun Hc h => ?_)
 ·refine⟨_,rfl,rfl,_,rfl,aY (fun z=>nomatch z) (fun _ => ?_)⟩
  refine⟨_,rfl,k,rfl,?_,by omega,fun b hb => ?_⟩
  ·rcases gk with h | rfl | rfl
   ·exact fun c hc=>by have:=h.2.2 c hc;omega
   ·decide +kernel
   ·decide +kernel
  refine⟨b,rfl,?_⟩
  cases b with
  | true=>exact gB (qc _ _ ⟨aT.refl _,rfl⟩)
  | false =>
   refine eW ?_
   have kk:k∈(["#", "@"]:List Str):=by
    rcases gk with h | rfl | rfl
    ·exact nomatch hb.mpr h
    ·decide
    ·decide
   refine⟨_,rfl,(show 2<=sizeLine by decide),fun L hL=>⟨L,(["#", "@"]:List Str).map V.str,rfl,.inr (aU.of av),rfl,iT _,_,rfl,?_⟩⟩
   rw[kC,decide_eq_true kk]
   exact qc _ _ ⟨aD hL _,rfl⟩
 obtain⟨s2, -⟩:=h
 exact⟨_,rfl,_,rfl,(show 3<=sizeLine by decide),fun t ht=>q t _ (s1.trans (s2.trans (aD ht _))) av⟩
inductive xa (vs:List V) (H:Hp) (Q:VK):Prop
 | ok (a b:Int) (ev:vs = [.str (aI (toString a) ++ " " ++ aI (toString b))]) (a1:0<=a) (a2:a<=100) (b1:1<=b) (b2:b<=1000) (q:∀ p H',aT H H'->H' p=some (.tup [.str "grow",.int a,.int b])->Q (.ref p) H'):xa vs H Q
 | no (r:Str) (ev:vs = [.str r]) (h:r∈Ue) (q:∀ H',aT H H'->Q .b9 H'):xa vs H Q
def LC:Sp:=fun vs H Q _=>xa vs H Q
theorem Jv (B:hJ mg) (rP:∃ t,mg "MOST_ROUNDS" = some (.int 100 t)) (vQ:∃ t,mg "MOST_SIZE" = some (.int 1000 t)) (iE:cS P w K mg base 2 "count_within" ["text", "low", "high"] RV) (D:Def K mg "read_grow" vG ["rest"]):cS P w K mg base 3 "read_grow" ["rest"] LC:=by
 refine D.eL oZ (fun vs H Q E h => ?_) (fun f a8 A outer s H vs Q E hr h => ?_)
 ·rcases h with⟨a,b,rfl,_⟩ | ⟨r,rfl,_⟩ <;> rfl
 refine⟨_,(ao (aR (i:=1) oZ.nd rfl (aH rfl) (fq ck fA fz kA (aq 0) (ae ay ag)))
  (ao (aR (i:=2) oZ.nd rfl (aH rfl) (aG iE hr (by omega) rfl (ae (aP a7 (aq 1) ai (fun _ _=>rfl)) (ae ai (ae (c8 rP rfl) ag)))))
  (ao (aR (i:=3) oZ.nd rfl (aH rfl) (aG iE hr (by omega) rfl (ae (aP a7 (aq 1) ai (fun _ _=>rfl)) (ae ai (ae (c8 vQ rfl) ag)))))
  (ao (a6 (PW.ji (pw_orQ (aC wC (aq 2) iA (aQ _)) (pw_or1Q (aC wC (aq 3) iA (aQ _))))) (aw (aW iA)) aJ)
  (aw (aW (aS (ae ay (ae (aq 2) (ae (aq 3) ag)))))))))),?_⟩
 try dsimp only[bZ]
 rcases h with⟨a,b,rfl,a1,a2,b1,b2,q⟩ | ⟨r,rfl,hb,q⟩
 rotate_left
 ·obtain⟨h0,h1,h2,h3⟩:=Ud r hb
  have big:(10000000:Nat)<=sizeLine:=by decide
  have l0:=(pB h0).2
  refine⟨_,rfl,rfl,_,_,rfl,rfl,by decide,by omega,fun p hp => ?_⟩
  generalize a5 r " " = pp at h1 h2 h3 ⊢
  obtain⟨k,sp,n⟩:=pp
  have s1:=aD hp (.tup [.str k,.str sp,.str n])
  have dn:=av (H:=H) (a:=p) (o := .tup [.str k,.str sp,.str n])
  dsimp only[bc]at s1 dn h1 h2 h3 ⊢
  generalize aO H p (.tup [.str k,.str sp,.str n])=H1 at s1 dn ⊢
  refine⟨_,rfl,p,_,0,_,rfl,rfl,aU.of dn,ax (j:=0) rfl,k,0,100,rfl,(pB h1).1,fun e m _ => ?_,fun e => ?_⟩
  ·dsimp only[bc]
   refine⟨_,rfl,p,_,2,_,rfl,rfl,aU.of dn,ax (j:=2) rfl,n,1,1000,rfl,(pB h2).1,fun e2 m2 _ => ?_,fun _ => ?_⟩
   ·rcases h3 with h3 | h3
    ·rw[h3]at e;cases e
    ·rw[h3]at e2;cases e2
   dsimp only[bc]
   refine⟨_,rfl,rfl,_,rfl,aY (fun z=>nomatch z) (fun _ => ?_)⟩
   exact⟨_,rfl,rfl,_,rfl,aY (fun _=>q _ s1) (fun z=>absurd rfl z)⟩
  ·dsimp only[bc]
   refine⟨_,rfl,p,_,2,_,rfl,rfl,aU.of dn,ax (j:=2) rfl,n,1,1000,rfl,(pB h2).1,fun _ m2 _ => ?_,fun _ => ?_⟩
   ·exact⟨_,rfl,rfl,_,rfl,aY (fun _=>q _ s1) (fun z=>absurd rfl z)⟩
   ·exact⟨_,rfl,rfl,_,rfl,aY (fun _=>q _ s1) (fun z=>absurd rfl z)⟩
 have na:=qm (n:=a) a1 (by omega)
 have nb:=qm (n:=b) (by omega) (by omega)
 have big:(10000000:Nat)<=sizeLine:=by decide
 have e1:(" " : Str).length=1:=rfl
 refine⟨_,rfl,rfl,_,_,rfl,rfl,by decide,by rw[au,au,e1];omega,fun p hp => ?_⟩
 rw[T1 (Xs a)]
 have s1:=aD hp (.tup [.str (aI (toString a)),.str " ",.str (aI (toString b))])
 have dn:=av (H:=H) (a:=p) (o := .tup [.str (aI (toString a)),.str " ",.str (aI (toString b))])
 dsimp only[bc]at s1 dn ⊢
 generalize aO H p (.tup [.str (aI (toString a)),.str " ",.str (aI (toString b))])=H1 at s1 dn ⊢
 refine⟨_,rfl,p,_,0,_,rfl,rfl,aU.of dn,ax (j:=0) rfl,cw_ok a1 a1 a2 (by omega) ?_⟩
 dsimp only[bc]
 refine⟨_,rfl,p,_,2,_,rfl,rfl,aU.of dn,ax (j:=2) rfl,cw_ok (by omega) b1 b2 (by omega) ?_⟩
 dsimp only[bc]
 refine⟨_,rfl,rfl,_,rfl,aY (fun z=>nomatch z) (fun _ => ?_)⟩
 refine⟨_,rfl,rfl,_,rfl,aY (fun z=>nomatch z) (fun _ => ?_)⟩
 exact⟨_,rfl,_,rfl,(show 3<=sizeLine by decide),fun t ht=>q t _ (s1.trans (aD ht _)) av⟩
inductive iW (CU R:Addr) (H:Hp):V->Od->Prop
 | rule (p o dx A2:Addr) (vl vr:V) (cu:List V) (z:Str) (wt:Int) (l r:T) (as:List Ask) (hp:H p=some (.tup [.str "rule",.ref o])) (ho:H o=some (.ins CU dx (O0 z wt vl vr A2))) (hl:bJ H l vl) (hr:bJ H r vr) (hA:H A2=some (.lst cu)) (ha:Paired (iO H) cu as) (ne:A2≠R):iW CU R H (.ref p) (.rule z wt l r as)
 | cost (p:Addr) (k:Str) (n:Int) (hp:H p=some (.tup [.str "cost",.str k,.int n])):iW CU R H (.ref p) (.cost k n)
 | grow (p:Addr) (a b:Int) (hp:H p=some (.tup [.str "grow",.int a,.int b])):iW CU R H (.ref p) (.grow a b)
 | pair (p:Addr) (v1 v2:V) (x:Str) (t u:T) (hp:H p=some (.tup [.str x,v1,v2])) (h1:bJ H t v1) (h2:bJ H u v2):iW CU R H (.ref p) (.pair x t u)
 | one (p:Addr) (v1:V) (x:Str) (t:T) (hp:H p=some (.tup [.str x,v1])) (h1:bJ H t v1):iW CU R H (.ref p) (.one x t)
theorem iW.NM {R:Addr} {H H':Hp}{v:V}{o:Od} (kt:∀ c ys,H c=some (.tup ys)->H' c=some (.tup ys)) (ki:∀ c C d fs,H c=some (.ins C d fs)->H' c=some (.ins C d fs)) (kl:∀ c ys,c≠R->H c=some (.lst ys)->H' c=some (.lst ys)) (h:iW CU R H v o):iW CU R H' v o:=by
 cases h with
 | rule p o dx A2 vl vr cu z wt l r as hp ho hl hr hA ha ne=>exact .rule p o dx A2 vl vr cu z wt l r as (kt _ _ hp) (ki _ _ _ _ ho) (ik kt hl) (ik kt hr) (kl _ _ ne hA) (Paired.j7 ha fun _ _ z=>z.keep kt) ne
 | cost p k n hp=>exact .cost p k n (kt _ _ hp)
 | grow p a b hp=>exact .grow p a b (kt _ _ hp)
 | pair p v1 v2 x t u hp h1 h2=>exact .pair p v1 v2 x t u (kt _ _ hp) (ik kt h1) (ik kt h2)
 | one p v1 x t hp h1=>exact .one p v1 x t (kt _ _ hp) (ik kt h1)
theorem iW.same {R:Addr} {H H':Hp}{v:V}{o:Od} (s:aT H H') (h:iW CU R H v o):iW CU R H' v o:=h.NM (fun _ _=>s _ _) (fun _ _ _ _=>s _ _) (fun _ _ _=>s _ _)
theorem iW.put {R:Addr}{H:Hp}{v:V}{o:Od}{xs ys:List V} (hR:H R=some (.lst xs)) (h:iW CU R H v o):iW CU R (aO H R (.lst ys)) v o :=
 h.NM (jt (o' := .lst ys) hR trivial) (fun c C d fs e=>by rw[bh (u5 e hR (fun z=>nomatch z))];exact e) (fun c ys ne e=>by rw[bh ne];exact e)
theorem iW.putD {R D:Addr}{H:Hp}{v:V}{o:Od} {ks ks':List (Key × V)} (hD:H D=some (.dK ks)) (h:iW CU R H v o):iW CU R (aO H D (.dK ks')) v o :=
 h.NM (fun c ys e=>by rw[bh (u5 e hD (fun z=>nomatch z))];exact e) (fun c C d fs e=>by rw[bh (u5 e hD (fun z=>nomatch z))];exact e) (fun c ys _ e=>by rw[bh (u5 e hD (fun z=>nomatch z))];exact e)
def yQ:Od->Str
 | .rule _ _ _ _ _ => "rule"
 | .cost _ _ => "cost"
 | .grow _ _ => "grow"
 | .pair x _ _=>x
 | .one x _=>x
def D1:Od->Str
 | .rule z wt l r as=>jM z wt l r as
 | .cost k n=>k ++ " " ++ aI (toString n)
 | .grow a b=>aI (toString a) ++ " " ++ aI (toString b)
 | .pair _ t u=>t.shown ++ " = " ++ u.shown
 | .one _ t=>t.shown
theorem DZ (o:Od):GN o=yQ o ++ " " ++ D1 o:=by
 refine dY ?_
 cases o with
 | rule z wt l r as=>show ("rule " ++ jM z wt l r as:Str).cps.toList=("rule" ++ " " ++ jM z wt l r as:Str).cps.toList;simp only[bN,bH];rfl
 | cost k n=>show ("cost " ++ k ++ " " ++ aI (toString n):Str).cps.toList=("cost" ++ " " ++ (k ++ " " ++ aI (toString n)):Str).cps.toList;simp only[bN,bH];rfl
 | grow a b=>show ("grow " ++ aI (toString a) ++ " " ++ aI (toString b):Str).cps.toList=("grow" ++ " " ++ (aI (toString a) ++ " " ++ aI (toString b)):Str).cps.toList;simp only[bN,bH];rfl
 | pair x t u=>show (x ++ " " ++ t.shown ++ " = " ++ u.shown:Str).cps.toList=(x ++ " " ++ (t.shown ++ " = " ++ u.shown):Str).cps.toList;simp only[bN,bH]
 | one x t=>rfl
theorem Xa:∀ x∈mR,32 ∉ x.cps.toList∧10 ∉ x.cps.toList:=by decide +kernel
theorem Wk:∀ x∈oP,32 ∉ x.cps.toList∧10 ∉ x.cps.toList:=by decide +kernel
theorem Pz {o:Od} (g:pG o):32 ∉ (yQ o).cps.toList∧10 ∉ (yQ o).cps.toList:=by
 cases o with
 | rule z wt l r as=>exact(show 32 ∉ ("rule" : Str).cps.toList∧10 ∉ ("rule" : Str).cps.toList by decide +kernel)
 | cost k n=>exact(show 32 ∉ ("cost" : Str).cps.toList∧10 ∉ ("cost" : Str).cps.toList by decide +kernel)
 | grow a b=>exact(show 32 ∉ ("grow" : Str).cps.toList∧10 ∉ ("grow" : Str).cps.toList by decide +kernel)
 | pair x t u=>exact Xa x g.1
 | one x t=>exact Wk x g.1
theorem Xp {o:Od} (g:pG o):(yQ o).length<=8:=by
 cases o with
 | rule z wt l r as=>exact(show ("rule" : Str).length<=8 by decide)
 | cost k n=>exact(show ("cost" : Str).length<=8 by decide)
 | grow a b=>exact(show ("grow" : Str).length<=8 by decide)
 | pair x t u=>exact Jm x g.1
 | one x t=>exact Io x g.1
theorem Xq {o:Od} (g:pG o):(D1 o).length<=10000:=by
 have e1:(" " : Str).length=1:=rfl
 have e3:(" = " : Str).length=3:=rfl
 cases o with
 | rule z wt l r as=>exact Ja g
 | cost k n =>
  have:=qm (n:=n) (by have:=g.2.1;omega) g.2.2
  have:=De g.1
  show (k ++ " " ++ aI (toString n):Str).length<=10000
  rw[au,au,e1];omega
 | grow a b =>
  have:=qm (n:=a) g.1.1 (by have:=g.1.2;omega)
  have:=qm (n:=b) (by have:=g.2.1;omega) (by have:=g.2.2;omega)
  show (aI (toString a) ++ " " ++ aI (toString b):Str).length<=10000
  rw[au,au,e1];omega
 | pair x t u =>
  have:=il g.2.1.ok g.2.1.parts
  have:=il g.2.2.ok g.2.2.parts
  show (t.shown ++ " = " ++ u.shown:Str).length<=10000
  rw[au,au,e3];omega
 | one x t =>
  have:=il g.2.ok g.2.parts
  show t.shown.length<=10000
  omega
theorem Fz {o:Od} (g:pG o):(GN o).length<=10100:=by
 have:=Xp g
 have:=Xq g
 have e1:(" " : Str).length=1:=rfl
 rw[DZ,au,au,e1]
 omega
theorem Fm {H:Hp}{Q:VK}{E:XK}{t:T} (g:ko 12 t) (q:∀ v H',aT H H'->bJ H' t v->Q v H'):wo cB false [.str t.shown] H Q E:=by
 have st:Stop []:=fun c hc=>nomatch hc
 have e:=Fp false 30 t g.ok (by have:=g.dep;omega) (.inr g.Ta) [] st
 rw[dh]at e
 have sl:=il g.ok g.parts
 refine⟨t.shown,rfl,by omega,fun t' e' yV v H' s' tr => ?_,fun h => ?_⟩
 ·rw[e]at e'
  cases e'
  exact q v H' s' tr
 ·have:=h t e
  have:=g.parts
  omega
theorem Fn {H:Hp}{Q:VK}{E:XK}{x:Str} (h:JA x=true) (q:∀ H',aT H H'->E (.ref cB) none H'):wo cB false [.str x] H Q E:=by
 unfold JA at h
 obtain⟨h1,h2⟩:=fk.mp h
 have no:∀ t,fE false 30 x.cps.toList≠some (t, []):=fun t e=>by
  rw[e]at h2
  exact Dv (show false=true from h2)
 exact⟨x,rfl,by have:=(pB h1).2;omega,fun t e=>absurd e (no t),fun _ H' s'=>q H' s'⟩
def Uc (w r:Str):Bool:=if w = "rule" then decide (r∈Oh) else if w = "cost" then decide (r∈Uh) else if w = "grow" then decide (r∈Ue) else if w∈mR then decide (r∈abm) else if w∈oP then decide (r∈abl) else true
def NoM (m:Option Addr) (H:Hp):Prop := ∀ a,m=some a->∃ C',H a=some (pV a C' none)
theorem JB {H:Hp}:NoM none H:=fun a z=>nomatch z
inductive uv (CU d5 cB:Addr) (vs:List V) (H:Hp) (Q:VK) (E:XK):Prop
 | ok (o:Od) (ev:vs = [.str (yQ o),.str (D1 o)]) (g:pG o) (q:∀ p H',aT H H'->(∀ R,H R≠none->iW CU R H' (.ref p) o)->Q (.ref p) H'):uv CU d5 cB vs H Q E
 | no (x r:Str) (ev:vs = [.str x,.str r]) (h:Uc x r=true) (hl:r.length<=100) (q1:∀ H',aT H H'->Q .b9 H') (q2:∀ c m H',(c = .ref d5∨c = .ref cB)->aT H H'->NoM m H'->E c m H'):uv CU d5 cB vs H Q E
def IG (CU d5 cB:Addr):Sp:=fun vs H Q E=>uv CU d5 cB vs H Q E
theorem HH {gA hX:Addr} (B:hJ mg) (ud:mg "PAIR_WORDS" = some (.ref gA)) (uc:mg "TREE_WORDS" = some (.ref hX)) (Jg:∀ H:Hp,aU K H gA (mR.map V.str)) (O4:∀ H:Hp,aU K H hX (oP.map V.str)) (vL:f9 P w K mg base 67 "read_rule" ["line"] (Lz CU d5)) (vO:cS P w K mg base 3 "read_cost" ["rest"] LD) (vN:cS P w K mg base 3 "read_grow" ["rest"] LC) (Am:f9 P w K mg base 65 "read" ["text"] (wo cB false)) (D:Def K mg "read_order" tf ["word", "rest"]):f9 P w K mg base 68 "read_order" ["word", "rest"] (IG CU d5 cB):=by
 refine D.pe yM (fun vs H Q E h => ?_) (fun f a8 A outer s H vs Q E hr h => ?_)
 ·rcases h with⟨o,rfl,_⟩ | ⟨x,r,rfl,_⟩ <;> rfl
 refine⟨_,(ao (a6 (aC cb (aq 0) ay (aQ _)) (aw (aW (aS (ae ay (ae (fJ vL hr (by omega) (eG fun _ _ _ z=>z) rfl (ae (aq 1) ag)) ag))))) aJ)
  (ao (a6 (aC cb (aq 0) ay (aQ _)) (aw (aW (aG vO hr (by omega) rfl (ae (aq 1) ag)))) aJ)
  (ao (a6 (aC cb (aq 0) ay (aQ _)) (aw (aW (aG vN hr (by omega) rfl (ae (aq 1) ag)))) aJ)
  (ao (a6 (aC zS (aq 0) (j4 (v := .ref gA) rfl ud rfl) (by with_unfolding_all rfl)) (ao (aR (i:=2) yM.nd rfl (aH rfl) (fq ck fA fz kA (aq 1) (ae ay ag)))
  (aw (aW (aS (ae (aq 0) (ae (fJ Am hr (by omega) (eG fun _ _ _ z=>z) rfl (ae (aP a7 (aq 2) ai (fun _ _=>rfl)) ag)) (ae (fJ Am hr (by omega) (eG fun _ _ _ z=>z) rfl (ae (aP a7 (aq 2) ai (fun _ _=>rfl)) ag)) ag))))))) aJ)
  (ao (a6 (aC zS (aq 0) (j4 (v := .ref hX) rfl uc rfl) (by with_unfolding_all rfl)) (aw (aW (aS (ae (aq 0) (ae (fJ Am hr (by omega) (eG fun _ _ _ z=>z) rfl (ae (aq 1) ag)) ag))))) aJ)
  (aw (aW iA))))))),?_⟩
 try dsimp only[bZ]
 rcases h with⟨o,rfl,g,q⟩ | ⟨x,r,rfl,hb,hl,q1,q2⟩
 rotate_left
 ·have big:(10000000:Nat)<=sizeLine:=by decide
  unfold Uc at hb
  refine⟨_,rfl,rfl,_,rfl,aY (fun z => ?_) (fun z1 => ?_)⟩
  ·rw[if_pos (V.str.inj z)]at hb
   exact⟨_,rfl,w5.no r rfl (of_decide_eq_true hb) fun m H' s' hm=>q2 _ m H' (.inl rfl) s' hm⟩
  rw[if_neg (fun e=>z1 (congrArg V.str e))]at hb
  refine⟨_,rfl,rfl,_,rfl,aY (fun z => ?_) (fun z2 => ?_)⟩
  ·rw[if_pos (V.str.inj z)]at hb
   exact⟨_,rfl,xb.no r rfl (of_decide_eq_true hb) q1⟩
  rw[if_neg (fun e=>z2 (congrArg V.str e))]at hb
  refine⟨_,rfl,rfl,_,rfl,aY (fun z => ?_) (fun z3 => ?_)⟩
  ·rw[if_pos (V.str.inj z)]at hb
   exact⟨_,rfl,xa.no r rfl (of_decide_eq_true hb) q1⟩
  rw[if_neg (fun e=>z3 (congrArg V.str e))]at hb
  refine⟨_,rfl,gA,_,rfl,.inr (Jg H),rfl,iT _,_,rfl,?_⟩
  rw[kC]
  by_cases z4:x∈mR
  ·rw[decide_eq_true z4]
   refine gB ?_
   rw[if_pos z4]at hb
   obtain⟨h0,h1,h2,h3⟩:=Ub r (of_decide_eq_true hb)
   refine⟨_,rfl,rfl,_,_,rfl,rfl,by decide,by omega,fun p hp => ?_⟩
   generalize a5 r " = " = pp at h1 h2 h3 ⊢
   obtain⟨k,sp,n⟩:=pp
   have s1:=aD hp (.tup [.str k,.str sp,.str n])
   have dn:=av (H:=H) (a:=p) (o := .tup [.str k,.str sp,.str n])
   dsimp only[bc]at s1 dn h1 h2 h3 ⊢
   generalize aO H p (.tup [.str k,.str sp,.str n])=H1 at s1 dn ⊢
   refine⟨_,rfl,_,rfl,p,_,0,_,rfl,rfl,aU.of dn,ax (j:=0) rfl,?_⟩
   rcases h3 with h3 | h3
   ·exact Fn h3 fun H' s'=>q2 _ none H' (.inr rfl) (s1.trans s') JB
   ·exact⟨k,rfl,by have:=(pB h1).2;omega,fun t e _ v H' s' tr=>⟨_,rfl,p,_,2,_,rfl,rfl,aU.of (s' _ _ dn),ax (j:=2) rfl,Fn h3 fun dF zJ=>q2 _ none dF (.inr rfl) (s1.trans (s'.trans zJ)) JB⟩,fun _ H' s'=>q2 _ none H' (.inr rfl) (s1.trans s') JB⟩
  rw[decide_eq_false z4]
  refine eW ?_
  rw[if_neg z4]at hb
  refine⟨_,rfl,hX,_,rfl,.inr (O4 H),rfl,iT _,_,rfl,?_⟩
  rw[kC]
  by_cases z5:x∈oP
  ·rw[decide_eq_true z5]
   refine gB ?_
   rw[if_pos z5]at hb
   exact⟨_,rfl,_,rfl,Fn (Ua r (of_decide_eq_true hb)) fun H' s'=>q2 _ none H' (.inr rfl) s' JB⟩
  rw[decide_eq_false z5]
  exact eW (q1 _ (aT.refl _))
 cases o with
 | rule z wt l r as =>
  refine⟨_,rfl,rfl,_,rfl,aY (fun _ => ?_) (fun z=>absurd rfl z)⟩
  refine⟨_,rfl,w5.ok z wt l r as rfl g fun o dx A2 vl vr cu H1 s1 fr ho hl yU hA hp=>⟨(show 2<=sizeLine by decide),fun p yV => ?_⟩⟩
  have s2:=aD yV (.tup [.str "rule",.ref o])
  exact q p _ (s1.trans s2) fun R hR => .rule p o dx A2 vl vr cu z wt l r as av (s2 _ _ ho) (bP s2 hl) (bP s2 yU) (s2 _ _ hA) (kX s2 hp) (fun e=>hR (by rw[<- e];exact fr))
 | cost k n =>
  refine⟨_,rfl,rfl,_,rfl,aY (fun z=>absurd (V.str.inj z) (show ¬ ("cost" : Str) = "rule" by decide)) (fun _ => ?_)⟩
  refine⟨_,rfl,rfl,_,rfl,aY (fun _ => ?_) (fun z=>absurd rfl z)⟩
  exact⟨_,rfl,xb.ok k n rfl g.1 g.2.1 g.2.2 fun p H' s' hp=>q p H' s' fun R _ => .cost p k n hp⟩
 | grow a b =>
  refine⟨_,rfl,rfl,_,rfl,aY (fun z=>absurd (V.str.inj z) (show ¬ ("grow" : Str) = "rule" by decide)) (fun _ => ?_)⟩
  refine⟨_,rfl,rfl,_,rfl,aY (fun z=>absurd (V.str.inj z) (show ¬ ("grow" : Str) = "cost" by decide)) (fun _ => ?_)⟩
  refine⟨_,rfl,rfl,_,rfl,aY (fun _ => ?_) (fun z=>absurd rfl z)⟩
  exact⟨_,rfl,xa.ok a b rfl g.1.1 g.1.2 g.2.1 g.2.2 fun p H' s' hp=>q p H' s' fun R _ => .grow p a b hp⟩
 | pair x t u =>
  obtain⟨n1,n2,n3⟩:=wA x g.1
  have lt:=il g.2.1.ok g.2.1.parts
  have lu:=il g.2.2.ok g.2.2.parts
  have big:(10000000:Nat)<=sizeLine:=by decide
  refine⟨_,rfl,rfl,_,rfl,aY (fun z=>absurd (V.str.inj z) n1) (fun _ => ?_)⟩
  refine⟨_,rfl,rfl,_,rfl,aY (fun z=>absurd (V.str.inj z) n2) (fun _ => ?_)⟩
  refine⟨_,rfl,rfl,_,rfl,aY (fun z=>absurd (V.str.inj z) n3) (fun _ => ?_)⟩
  refine⟨_,rfl,gA,_,rfl,.inr (Jg H),rfl,iT _,_,rfl,?_⟩
  rw[kC,decide_eq_true (show yQ (.pair x t u)∈mR from g.1)]
  refine gB ?_
  refine⟨_,rfl,rfl,_,_,rfl,rfl,by decide,?_,fun p hp => ?_⟩
  ·show (t.shown ++ " = " ++ u.shown:Str).length<=_
   rw[au,au];show t.shown.length+3+u.shown.length<=_;omega
  rw[show a5 (D1 (.pair x t u)) (" = " : Str)=(t.shown,(" = " : Str),u.shown) from aa9 g.2.1.ok]
  have s1:=aD hp (.tup [.str t.shown,.str " = ",.str u.shown])
  have dn:=av (H:=H) (a:=p) (o := .tup [.str t.shown,.str " = ",.str u.shown])
  dsimp only[bc]at s1 dn ⊢
  generalize aO H p (.tup [.str t.shown,.str " = ",.str u.shown])=H1 at s1 dn ⊢
  refine⟨_,rfl,_,rfl,p,_,0,_,rfl,rfl,aU.of dn,ax (j:=0) rfl,Fm g.2.1 fun v1 H2 s2 h1=>⟨_,rfl,p,_,2,_,rfl,rfl,aU.of (s2 _ _ dn),ax (j:=2) rfl,Fm g.2.2 fun v2 H3 s3 h2=>⟨(show 3<=sizeLine by decide),fun pp oC => ?_⟩⟩⟩
  have s4:=aD oC (.tup [.str x,v1,v2])
  exact q pp _ (s1.trans (s2.trans (s3.trans s4))) fun R _ => .pair pp v1 v2 x t u av (bP (s3.trans s4) h1) (bP s4 h2)
 | one x t =>
  obtain⟨n1,n2,n3⟩:=wj x g.1
  have np:yQ (.one x t) ∉ mR:=fun z=>by
   have:∀ y∈oP,y ∉ mR:=by decide +kernel
   exact this x g.1 z
  refine⟨_,rfl,rfl,_,rfl,aY (fun z=>absurd (V.str.inj z) n1) (fun _ => ?_)⟩
  refine⟨_,rfl,rfl,_,rfl,aY (fun z=>absurd (V.str.inj z) n2) (fun _ => ?_)⟩
  refine⟨_,rfl,rfl,_,rfl,aY (fun z=>absurd (V.str.inj z) n3) (fun _ => ?_)⟩
  refine⟨_,rfl,gA,_,rfl,.inr (Jg H),rfl,iT _,_,rfl,?_⟩
  rw[kC,decide_eq_false np]
  refine eW ?_
  refine⟨_,rfl,hX,_,rfl,.inr (O4 H),rfl,iT _,_,rfl,?_⟩
  rw[kC,decide_eq_true (show yQ (.one x t)∈oP from g.1)]
  refine gB ?_
  refine⟨_,rfl,_,rfl,Fm g.2 fun v1 H2 s2 h1=>⟨(show 2<=sizeLine by decide),fun pp oC => ?_⟩⟩
  have s4:=aD oC (.tup [.str x,v1])
  exact q pp _ (s2.trans s4) fun R _ => .one pp v1 x t av (bP s4 h1)
abbrev Ui:List Str := ["grow 1", "grow 01 2", "grow 101 2", "grow 1 0", "grow 1 1001", "grow 1 2 3", "grow  1 2", "grow -1 2"]
abbrev abq:List Str:=Ui ++ (["cost plus 0", "cost # 01", "cost Plus 3", "cost plus  3", "cost plus 1000000000001", "cost @ -1"]:List Str)
abbrev abp:List Str:=abq ++ (["cost ## 1", "cost abcdefghi 1", "cost 3", "put ", "put", "put x y", "put f(x,y)", "put x "]:List Str)
abbrev abo:List Str:=abp ++ (["tell x =y", "same x", "why x = ", "same x = y = z", "cheap ?a", " put x", "puts x", "number"]:List Str)
abbrev abn:List Str:=abo ++ (["names X", "sign -0", "shared f()", "rule a 0: f(?a) = ?a", "rule a 1: ?a = f(?a)", " ", "x"]:List Str)
abbrev afb:List Str:=abn ++ (["rule a 1 f(?a) = ?a", "rule a 1: f(?a) = ?b", "rule a 1: f(?a) = ?a if", "rule", "Put x"]:List Str)
abbrev AE:List Str:=afb
theorem Dg:∀ x∈AE,(x.length<=100∧x ≠ "" ∧ 10 ∉ x.cps.toList)∧(a5 x " ").2.2.length<=100∧Uc (a5 x " ").1 (a5 x " ").2.2=true:=by decide +kernel
def Om (CL:Addr) (n:Int) (H:Hp) (E:XK):Prop := ∀ d m H',aT H H'->H' d=some (.xd [("line",.int n)])->E (zk CL d) m H'
inductive w6 (CU CL:Addr) (vs:List V) (H:Hp) (Q:VK) (E:XK):Prop
 | ok (o:Od) (line:V) (ev:vs = [.str (GN o),line]) (g:pG o) (q:∀ p H',aT H H'->(∀ R,H R≠none->iW CU R H' (.ref p) o)->Q (.ref p) H'):w6 CU CL vs H Q E
 | no (x:Str) (n:Int) (ev:vs = [.str x,.int n]) (h:x∈AE) (q:Om CL n H E):w6 CU CL vs H Q E
def OR (CU CL:Addr):Sp:=fun vs H Q E=>w6 CU CL vs H Q E
theorem Lg (B:hJ mg) (yp:mg "NoRule" = some (.ref d5)) (qx:mg "NoTree" = some (.ref cB)) (m1:kN K (.ref d5) [.ref d5,.ref cB]=some true) (m2:kN K (.ref cB) [.ref d5,.ref cB]=some true) (ph:uF P w K mg base 1 "NoRow" CL ["self", "line"] "line") (tX:f9 P w K mg base 68 "read_order" ["word", "rest"] (IG CU d5 cB)) (D:Def K mg "read_row" xG ["row", "line"]):f9 P w K mg base 69 "read_row" ["row", "line"] (OR CU CL):=by
 refine D.pe vA (fun vs H Q E h => ?_) (fun f a8 A outer s H vs Q E hr h => ?_)
 ·rcases h with⟨o,line,rfl,_⟩ | ⟨x,n,rfl,_⟩ <;> rfl
 refine⟨_,(ao (aR (i:=2) vA.nd rfl (aH rfl) (fq ck fA fz kA (aq 0) (ae ay ag)))
  (ao (O8 ⟨rfl,rfl⟩ rfl yp rfl qx (Fq (i:=3) vA.nd rfl (aH rfl) (sC tX hr (by omega) rfl (ae (aP a7 (aq 2) ai (fun _ _=>rfl)) (ae (aP a7 (aq 2) ai (fun _ _=>rfl)) ag)))) (fun ea=>(aw (Le ph (hr.mark _) (by omega) XM (ae (aq 1) ag) rfl))))
  (ao (a6 (aC wC (aq 3) iA (aQ _)) (aw (DS ph hr.toN (by omega) rfl Qv (ae (aq 1) ag) rfl)) aJ)
  (aw (aW (aq 3)))))),?_⟩
 try dsimp only[bZ]
 rcases h with⟨o,line,rfl,g,q⟩ | ⟨x,n,rfl,hb,q⟩
 rotate_left
 ·obtain⟨⟨l0, -, -⟩,l2,ho⟩:=Dg x hb
  have big:(10000000:Nat)<=sizeLine:=by decide
  refine⟨_,rfl,rfl,_,_,rfl,rfl,by decide,by omega,fun p hp => ?_⟩
  generalize a5 x " " = pp at l2 ho ⊢
  obtain⟨k,sp,r⟩:=pp
  have s1:=aD hp (.tup [.str k,.str sp,.str r])
  have dn:=av (H:=H) (a:=p) (o := .tup [.str k,.str sp,.str r])
  dsimp only[bc]at s1 dn l2 ho ⊢
  generalize aO H p (.tup [.str k,.str sp,.str r])=H1 at s1 dn ⊢
  refine⟨_,rfl,p,_,0,_,rfl,rfl,aU.of dn,ax (j:=0) rfl,_,rfl,p,_,2,_,rfl,rfl,aU.of dn,ax (j:=2) rfl,uv.no k r rfl ho l2 (fun H2 s2 => ?_) (fun c m H2 hc s2 hm => ?_)⟩
  ·dsimp only[bc]
   refine⟨_,rfl,rfl,_,rfl,aY (fun _ => ?_) (fun z=>absurd rfl z)⟩
   exact⟨_,rfl,_,rfl,fun d hd=>q d none _ (s1.trans (s2.trans (aD hd _))) av⟩
  ·obtain⟨C,e,h⟩:∃ C,c = .ref C∧kN K (.ref C) [.ref d5,.ref cB]=some true:=by
    rcases hc with hc | hc
    ·exact⟨_,hc,m1⟩
    ·exact⟨_,hc,m2⟩
   refine⟨C,e,h,fun ea lG=>⟨_,rfl,_,rfl,?_,fun d hd=>q d (some ea) _ (s1.trans (s2.trans ((aD lG _).trans (aD hd _)))) av⟩⟩
   cases m with
   | none=>exact .inl ⟨C,av⟩
   | some a =>
    obtain⟨C',ha⟩:=hm a rfl
    have na:a≠ea:=fun z=>by rw[z,lG]at ha;cases ha
    exact .inr ⟨C,a,C',na,av,by rw[bh na];exact ha⟩
 have big:(10000000:Nat)<=sizeLine:=by decide
 have ol:=Fz g
 refine⟨_,rfl,rfl,_,_,rfl,rfl,by decide,by omega,fun p hp => ?_⟩
 rw[DZ,T1 (Pz g).1]
 have s1:=aD hp (.tup [.str (yQ o),.str " ",.str (D1 o)])
 have dn:=av (H:=H) (a:=p) (o := .tup [.str (yQ o),.str " ",.str (D1 o)])
 dsimp only[bc]at s1 dn ⊢
 generalize aO H p (.tup [.str (yQ o),.str " ",.str (D1 o)])=H1 at s1 dn ⊢
 refine⟨_,rfl,p,_,0,_,rfl,rfl,aU.of dn,ax (j:=0) rfl,_,rfl,p,_,2,_,rfl,rfl,aU.of dn,ax (j:=2) rfl,uv.ok o rfl g fun aq H2 s2 hv => ?_⟩
 dsimp only[bc]
 refine⟨_,rfl,rfl,_,rfl,aY (fun z=>nomatch z) (fun _ => ?_)⟩
 exact⟨_,rfl,q aq H2 (s1.trans s2) fun R hR=>hv R fun e=>hR (s1.free e)⟩
def rS:Option Od->Str
 | none => ""
 | some o=>GN o
theorem PH {z:Str}{wt:Int}{l r:T}{as:List Ask} (g:i5 z wt l r as):10 ∉ (jM z wt l r as).cps.toList:=by
 have hj:∀ ss:List Str,(∀ s∈ss,10 ∉ s.cps.toList)->10 ∉ (bw ", " ss).cps.toList:=fun ss=>by
  induction ss with
  | nil=>intro _ z;cases z
  | cons s ss ih =>
   intro h z
   cases ss with
   | nil=>rw[bw]at z;exact h s aV z
   | cons u us =>
    rw[bw]at z
    ·rw[bN,bN]at z
     rcases aZ.mp z with z | z
     ·rcases aZ.mp z with z | z
      ·exact h s aV z
      ·exact absurd z (by decide +kernel)
     ·exact ih (fun v hv=>h v (aL _ hv)) z
    ·intro e;cases e
 have aeM:∀ s∈as.map ju,10 ∉ s.cps.toList:=fun s hs=>by
  obtain⟨a,ha,rfl⟩:=fD.mp hs
  have ga:=g.AH ha
  have hw:=ga.w
  have key:∀ (p h q:Str),10 ∉ p.cps.toList->dW h->10 ∉ q.cps.toList->10 ∉ (p ++ h ++ " " ++ q:Str).cps.toList:=fun p h q hp hh hq z=>by
   rw[bN,bN,bN]at z
   rcases aZ.mp z with z | z
   ·rcases aZ.mp z with z | z
    ·rcases aZ.mp z with z | z
     ·exact hp z
     ·exact eV hh (by decide) z
    ·cases bI.mp z
   ·exact hq z
  cases a with
  | free h z=>exact key "free ?" h z (by decide +kernel) hw (eV ga.ok.2 (by decide))
  | sign h m =>
   refine key "sign ?" h (fM m) (by decide +kernel) hw ?_
   unfold fM
   rw[cG]
   cases h:sD[(m - 1).toNat]? with
   | none=>exact fun z=>nomatch z
   | some z =>
    have:∀ z∈sD,10 ∉ z.cps.toList:=by decide +kernel
    exact this z (bB h)
  | num h =>
   have hw:dW h:=hw
   show 10 ∉ ("number ?" ++ h:Str).cps.toList
   rw[bN]
   intro z
   rcases aZ.mp z with z | z
   ·exact absurd z (by decide +kernel)
   ·exact eV hw (by decide) z
 have hl:=mM g.l_ (c:=10) (by decide +kernel)
 have hr:=mM g.r_ (c:=10) (by decide +kernel)
 have hn:10 ∉ (aI (toString wt)).cps.toList:=fun z=>by
  have:=oB wt 10 z
  omega
 have hz:=eV g.ok.1 (c:=10) (by decide)
 have h2:=hj _ aeM
 have e0:10 ∉ (" " : Str).cps.toList:=by decide +kernel
 have e1:10 ∉ (": " : Str).cps.toList:=by decide +kernel
 have e2:10 ∉ (" = " : Str).cps.toList:=by decide +kernel
 have e3:10 ∉ (" if " : Str).cps.toList:=by decide +kernel
 rw[uZ]
 unfold nS
 intro z
 by_cases c:0 < as.length
 ·rw[if_pos c]at z
  simp only[bN,aZ]at z
  simp only[hl,hr,hn,hz,h2,e0,e1,e2,e3,or_self]at z
 ·rw[if_neg c]at z
  simp only[bN,aZ]at z
  simp only[hl,hr,hn,hz,e0,e1,e2,or_self]at z
theorem L8 {o:Od} (g:pG o):10 ∉ (GN o).cps.toList:=by
 have hw:=(Pz g).2
 have e0:10 ∉ (" " : Str).cps.toList:=by decide +kernel
 have e2:10 ∉ (" = " : Str).cps.toList:=by decide +kernel
 have num:∀ n:Int,10 ∉ (aI (toString n)).cps.toList:=fun n z=>by
  have:=oB n 10 z
  omega
 have hr:10 ∉ (D1 o).cps.toList:=by
  cases o with
  | rule z wt l r as=>exact PH g
  | cost k n =>
   have hk:10 ∉ k.cps.toList:=by
    rcases g.1 with h | rfl | rfl
    ·exact eV h (by decide)
    ·decide +kernel
    ·decide +kernel
   show 10 ∉ (k ++ " " ++ aI (toString n):Str).cps.toList
   intro z
   simp only[bN,aZ]at z
   simp only[hk,num,e0,or_self]at z
  | grow a b =>
   show 10 ∉ (aI (toString a) ++ " " ++ aI (toString b):Str).cps.toList
   intro z
   simp only[bN,aZ]at z
   simp only[num,e0,or_self]at z
  | pair x t u =>
   have h1:=mM g.2.1.ok (c:=10) (by decide +kernel)
   have h2:=mM g.2.2.ok (c:=10) (by decide +kernel)
   show 10 ∉ (t.shown ++ " = " ++ u.shown:Str).cps.toList
   intro z
   simp only[bN,aZ]at z
   simp only[h1,h2,e2,or_self]at z
  | one x t=>exact mM g.2.ok (c:=10) (by decide +kernel)
 rw[DZ]
 intro z
 simp only[bN,aZ]at z
 simp only[hw,hr,e0,or_self]at z
theorem PB (o:Od):GN o ≠ "" := fun z=>by
 have h:=congrArg sI z
 rw[DZ,au,au]at h
 have:(yQ o).length+1+(D1 o).length=0:=h
 omega
theorem TX {acc:List Str}{x:Str} (h:x ∉ acc):nY (nJ acc) (fF x:Key)=none:=by
 induction acc with
 | nil=>rfl
 | cons y l ih =>
  have hy:y≠x:=fun e=>h (by rw[e];exact aV)
  show nY ((fF y,V.bl true) :: nJ l) _=none
  rw[sQ (fun e=>hy (Ck e))]
  exact ih fun hm=>h (aL _ hm)
theorem TV {acc:List Str}{x:Str} (h:x∈acc):nY (nJ acc) (fF x:Key)=some (V.bl true):=by
 induction acc with
 | nil=>cases h
 | cons y l ih =>
  show nY ((fF y,V.bl true) :: nJ l) _=_
  by_cases e:y=x
  ·rw[xt (congrArg fF e)]
  ·rw[sQ (fun z=>e (Ck z))]
   rcases aK.mp h with z | z
   ·exact absurd z.symm e
   ·exact ih z
inductive vx (tt:List Str) (z:Str):Prop
 | bad (h:z∈AE):vx tt z
 | two (o:Od) (g:pG o) (e:z=GN o) (x:Str) (t:o.title=some x) (h:x∈tt):vx tt z
theorem vx.no {tt:List Str}{z:Str} (h:vx tt z):z.length<=10100∧z ≠ "" ∧ 10 ∉ z.cps.toList:=by
 rcases h with h | ⟨o,g,rfl,_⟩
 ·obtain⟨⟨h1,h2,h3⟩,_⟩:=Dg z h
  exact⟨by omega,h2,h3⟩
 ·exact⟨Fz g,PB o,L8 g⟩
structure Rows (zs:List Str) (rs:List (Option Od)):Prop where
 pre:∀ i,i < rs.length->zs[i]? = (rs[i]?).map rS
 le:rs.length<=zs.length
 h1:1<=zs.length
 h2:zs.length<=200
 hl:(bw "\n" zs).length<=5000000
 n10:∀ z∈zs,10 ∉ z.cps.toList
 g:∀ o,some o∈rs->pG o
 nd:((rs.filterMap id).filterMap Od.title).Nodup
 bad:∀ z,zs[rs.length]? = some z->vx ((rs.filterMap id).filterMap Od.title) z
inductive F3 (CU CL:Addr) (vs:List V) (H:Hp) (Q:VK) (E:XK):Prop
 | mk (zs:List Str) (rs:List (Option Od)) (ev:vs = [.str (bw "\n" zs)]) (r:Rows zs rs) (q1:rs.length=zs.length->∀ R dP H',aT H H'->H' R=some (.lst dP)->Paired (iW CU R H') dP (rs.filterMap id)->Q (.ref R) H') (q2:rs.length < zs.length->Om CL ((rs.length+1:Nat):Int) H E):F3 CU CL vs H Q E
def Bm (CU CL:Addr):Sp:=fun vs H Q E=>F3 CU CL vs H Q E
def sk (rs:List (Option Od)) (i:Nat):List Od:=(rs.take i).filterMap id
def qT (rs:List (Option Od)) (i:Nat):List Str:=(sk rs i).filterMap Od.title
theorem Kw {rs:List (Option Od)}{i:Nat} (h:rs[i]? = some none):sk rs (i+1)=sk rs i:=by
 unfold sk
 rw[fX,h,cM]
 exact dh _
theorem Dh {rs:List (Option Od)}{i:Nat}{o:Od} (h:rs[i]? = some (some o)):sk rs (i+1)=sk rs i ++ [o]:=by
 unfold sk
 rw[fX,h,cM]
 rfl
theorem RP (rs:List (Option Od)) (i:Nat):(rs.filterMap id).filterMap Od.title=qT rs i ++ (((rs.drop i).filterMap id).filterMap Od.title):=by
 unfold qT sk
 rw[<- cM, <- cM,d4]
theorem Wj (rs:List (Option Od)) (i:Nat):(qT rs i).length<=rs.length:=by
 unfold qT sk
 refine a9 (mH _ _) (a9 (mH _ _) ?_)
 rw[eA]
 omega
inductive Rj (CU:Addr) (H:Hp) (tx:Str) (R Dt L:Addr) (zs:List Str) (rs:List (Option Od)) (i:Nat) (σ : St) (H':Hp):Prop
 | mk (x3 x4 x5:Option V) (dP:List V) (e : σ = [some (.str tx),some (.ref R),some (.ref Dt),x3,x4,x5]) (sm:aT H H') (hR:H' R=some (.lst dP)) (hp:Paired (iW CU R H') dP (sk rs i)) (hD:H' Dt=some (.dK (nJ (qT rs i)))) (hL:H' L=some (.lst (zs.map V.str))) (len:dP.length<=i) (le:i<=rs.length):Rj CU H tx R Dt L zs rs i σ H'
inductive Rk (CU:Addr) (H:Hp) (R Dt L:Addr) (zs:List Str) (rs:List (Option Od)) (i:Nat) (o:Od) (aq:Addr) (dP:List V) (st:St) (σ : St) (H':Hp):Prop
 | mk (e : σ = st) (sm:aT H H') (hR:H' R=some (.lst dP)) (hp:Paired (iW CU R H') dP (sk rs i)) (hv:iW CU R H' (.ref aq) o) (hD:H' Dt=some (.dK (nJ (qT rs (i+1))))) (hL:H' L=some (.lst (zs.map V.str))):Rk CU H R Dt L zs rs i o aq dP st σ H'
theorem HG (B:hJ mg) (Z:yx K mg CU d5) (ph:uF P w K mg base 1 "NoRow" CL ["self", "line"] "line") (yg:f9 P w K mg base 69 "read_row" ["row", "line"] (OR CU CL)) (D:Def K mg "read_sheet" sZ ["text"]):f9 P w K mg base 70 "read_sheet" ["text"] (Bm CU CL):=by
 refine D.pe jH (fun vs H Q E h => ?_) (fun f a8 A outer s H vs Q E hr h => ?_)
 ·obtain⟨zs,rs,rfl,_⟩:=h;rfl
 obtain⟨zs,rs,rfl,w0,q1,q2⟩:=h
 have nd:=w0.nd
 have g:=w0.g
 have hl:=w0.hl
 have h2:=w0.h2
 have le0:=w0.le
 refine⟨_,(ao (aR (i:=1) jH.nd rfl (aH rfl) (gi ag))
  (ao (aR (i:=2) jH.nd rfl (aH rfl) GK)
  (ao (iz kq rfl (Pf rfl B.yo (ae (fq ck nP nO CW (aq 0) (ae ay ag)) ag)) (Fu rfl (oz (dI (i:=3) jH.nd rfl (aH rfl)) (oz (dI (i:=4) jH.nd rfl (aH rfl)) Ft)))
  (aw (a6 (aC nV (aq 4) ay (aQ _)) (ao (aR (i:=5) jH.nd rfl (aH rfl) (fJ yg hr (by omega) (eG fun _ _ _ z=>z) rfl (ae (aq 4) (ae (aq 3) ag))))
  (ao (a6 (aC cb (aP a7 (aq 5) ai (fun _ _=>rfl)) ay (aQ _)) (ao (a6 (WH (W9 (NS hr) (fQ (aP a7 (aq 5) ai (fun _ _=>rfl)) rfl) (aq 2)) (by with_unfolding_all rfl)) (aw (DS ph hr.toN (by omega) rfl Qv (ae (aq 3) ag) rfl)) aJ)
  (aw (Jh (NS hr) (aq 2) (fQ (aP a7 (aq 5) ai (fun _ _=>rfl)) rfl) jN rfl))) aJ)
  (aw (fh (fq cV cQ cP gQ (aq 1) (ae (aq 5) ag)))))) aJ)))
  (aw (aW (aq 1)))))),?_⟩
 try dsimp only[bZ]
 have big:(10000000:Nat)<=sizeLine:=by decide
 refine⟨bA _,fun R Ao => ?_⟩
 dsimp only[bc]
 have s1:=aD Ao (.lst [])
 have An:=av (H:=H) (a:=R) (o := .lst [])
 generalize aO H R (.lst [])=H1 at s1 An ⊢
 refine fun Dt Vx => ?_
 dsimp only[bc]
 have hD0:=s1.free Vx
 have s2:=aD Vx (.dK [])
 have vd:=av (H:=H1) (a:=Dt) (o := .dK [])
 have Qn:=s2 _ _ An
 generalize aO H1 Dt (.dK [])=H2 at s2 vd Qn ⊢
 refine⟨_,rfl,rfl,_,_,rfl,rfl,by decide,by omega,fun L hL=>⟨L,rfl,⟨_,b6.of av⟩,?_⟩⟩
 rw[oV (c:=10) (by decide +kernel) rfl w0.h1 w0.n10]
 have s3:=aD hL (.lst (zs.map V.str))
 have hL3:=av (H:=H2) (a:=L) (o := .lst (zs.map V.str))
 have G1:=s3 _ _ Qn
 have Vz:=s3 _ _ vd
 have hLR:L≠R:=fun e=>by rw[e,Qn]at hL;cases hL
 have hLD:L≠Dt:=fun e=>by rw[e,vd]at hL;cases hL
 have hRD:R≠Dt:=fun e=>by rw[<- e,An]at Vx;cases Vx
 have g3:=s1.trans (s2.trans s3)
 generalize aO H2 L (.lst (zs.map V.str))=H3 at s3 hL3 G1 Vz g3 ⊢
 have hll:(zs.map V.str).length=zs.length:=by rw[aA]
 refine Qu (xs:=zs.map V.str) (Rj CU H (bw "\n" zs) R Dt L zs rs) (Rj.mk none none none [] rfl g3 G1 .nil Vz hL3 (aB _) (bA _)) (fun i σ H' _ h=>by obtain⟨_,_,_,_,_,_,_,_,_,Vv,_,_⟩:=h;exact b6.of Vv) ?_ ?_
 ·rintro i x p σ H' hx ⟨x3,x4,x5,dP,rfl,sm,hR,hp,hD,Vv,len,le⟩ hp0
  have hi:i < zs.length:=by have:=(bt.mp hx).1;omega
  obtain⟨zr,ez⟩:∃ z,zs[i]? = some z:=⟨_,aF hi⟩
  rw[cf,ez]at hx
  cases hx
  have s4:=aD hp0 (.tup [.int ((i+1:Nat):Int),.str zr])
  have wU:=s4 _ _ hR
  have Vy:=s4 _ _ hD
  have hL4:=s4 _ _ Vv
  refine⟨p,_,rfl,aU.of av,rfl,_,_,rfl,_,_,rfl,rfl,?_⟩
  dsimp only[bc]
  generalize aO H' p (.tup [.int ((i+1:Nat):Int),.str zr])=H4 at s4 wU Vy hL4 ⊢
  have u7:Paired (iW CU R H4) dP (sk rs i):=Paired.j7 hp fun _ _ z=>z.same s4
  by_cases e9:i < rs.length
  rotate_left
  ·have ei:i=rs.length:=by omega
   subst ei
   have hb:=w0.bad zr ez
   have q2:=q2 hi
   have Uz:qT rs rs.length=(rs.filterMap id).filterMap Od.title:=by unfold qT sk;rw[fj]
   rw[<- Uz]at hb
   refine⟨_,rfl,rfl,_,rfl,i0 (fun _ => ?_) (fun z=>absurd (V.str.inj z) hb.no.2.1)⟩
   rcases hb with hb | ⟨o,go,rfl,z,ht,hm⟩
   ·exact⟨_,rfl,_,rfl,w6.no zr _ rfl hb fun d m H5 s5 hd=>q2 d m H5 (sm.trans (s4.trans s5)) hd⟩
   refine⟨_,rfl,_,rfl,w6.ok o _ rfl go fun aq H5 s5 hv => ?_⟩
   have hv:=hv R (by rw[wU];exact fun z=>nomatch z)
   have Kb:=s5 _ _ Vy
   dsimp only[bc]
   cases hv with
   | rule _ o dx A2 vl vr cu z' wt l r' as hp ho hl hr hA ha ne =>
    cases ht
    refine⟨_,rfl,aq,_,0,_,rfl,rfl,aU.of hp,ax (j:=0) rfl,rfl,_,rfl,aY (fun _ => ?_) (fun z=>absurd rfl z)⟩
    refine⟨_,rfl,aq,_,1,_,rfl,rfl,aU.of hp,ax (j:=1) rfl,o,CU,dx,_,_,rfl,ho,Z.cU,Z.D4,rfl,_,rfl,Dt,_,rfl,Gp.k (k:=fF z) Kb,_,rfl,?_⟩
    rw[TV hm]
    refine gB ⟨_,rfl,_,rfl,fun d hd=>q2 d none _ (sm.trans (s4.trans (s5.trans (aD hd _)))) av⟩
   | cost _ k n hp=>cases ht
   | grow _ a b hp=>cases ht
   | pair _ v1 v2 x t u hp h1 h2=>cases ht
   | one _ v1 x t hp h1=>cases ht
  obtain⟨r,er⟩:∃ r,rs[i]? = some r:=⟨_,aF e9⟩
  have VJ:=w0.pre i e9
  rw[ez,er]at VJ
  have VJ:zr=rS r:=bD VJ
  subst VJ
  cases r with
  | none =>
   refine⟨_,rfl,rfl,_,rfl,i0 (fun z=>absurd rfl z) (fun _ => ?_)⟩
   refine Rj.mk _ _ _ dP rfl (sm.trans s4) wU ?_ ?_ hL4 (by omega) (by omega)
   ·rw[Kw er];exact u7
   ·unfold qT;rw[Kw er];exact Vy
  | some o =>
   have go:=g o (bB er)
   refine⟨_,rfl,rfl,_,rfl,i0 (fun _ => ?_) (fun z=>absurd (V.str.inj z) (PB o))⟩
   refine⟨_,rfl,_,rfl,w6.ok o _ rfl go fun aq H5 s5 hv => ?_⟩
   have hv:=hv R (by rw[wU];exact fun z=>nomatch z)
   have Ka:=s5 _ _ wU
   have Kb:=s5 _ _ Vy
   have hL5:=s5 _ _ hL4
   have oF:Paired (iW CU R H5) dP (sk rs i):=Paired.j7 u7 fun _ _ z=>z.same s5
   have IK:=sm.trans (s4.trans s5)
   dsimp only[bc]
   have tl:=Wj rs i
   refine kz (Rk CU H R Dt L zs rs i o aq dP [some (.str (bw "\n" zs)),some (.ref R),some (.ref Dt),some (.int ((i+1:Nat):Int)),some (.str (rS (some o))),some (.ref aq)]) ?_ (fun key => ?_)
   rotate_left
   ·have Wi:o.title=none->qT rs (i+1)=qT rs i:=fun z=>by
     unfold qT
     rw[Dh er,cM,eE,z]
     exact dh _
    have no:o.title=none->Rk CU H R Dt L zs rs i o aq dP [some (.str (bw "\n" zs)),some (.ref R),some (.ref Dt),some (.int ((i+1:Nat):Int)),some (.str (rS (some o))),some (.ref aq)] [some (.str (bw "\n" zs)),some (.ref R),some (.ref Dt),some (.int ((i+1:Nat):Int)),some (.str (rS (some o))),some (.ref aq)] H5:=fun z=>Rk.mk rfl IK Ka oF hv (by rw[Wi z];exact Kb) hL5
    cases hv with
    | rule _ o dx A2 vl vr cu z wt l r as hp ho hl hr hA ha ne =>
     have Uz:qT rs (i+1)=qT rs i ++ [z]:=by
      unfold qT
      rw[Dh er,cM]
      rfl
     have nz:z ∉ qT rs i:=by
      have nd2:=nd
      rw[RP rs (i+1),Uz]at nd2
      have:=(BU.mp (BU.mp nd2).1).2.2
      exact fun hm=>this z hm z (bI.mpr rfl) rfl
     refine⟨_,rfl,aq,_,0,_,rfl,rfl,aU.of hp,ax (j:=0) rfl,rfl,_,rfl,aY (fun _ => ?_) (fun z=>absurd rfl z)⟩
     refine⟨_,rfl,aq,_,1,_,rfl,rfl,aU.of hp,ax (j:=1) rfl,o,CU,dx,_,_,rfl,ho,Z.cU,Z.D4,rfl,_,rfl,Dt,_,rfl,Gp.k (k:=fF z) Kb,_,rfl,?_⟩
     rw[TX nz]
     refine eW ?_
     refine⟨_,rfl,_,rfl,aq,_,1,_,rfl,rfl,aU.of hp,ax (j:=1) rfl,o,CU,dx,_,_,rfl,ho,Z.cU,Z.D4,rfl,Dt,_,rfl,Gn.k (k:=fF z) Kb ?_,?_⟩
     ·unfold nJ
      rw[aA]
      exact gW (by omega:(qT rs i).length<=10000) (by decide)
     rw[LU]
     refine key _ _ (Rk.mk rfl (IK.put hD0) ?_ (Paired.j7 oF fun _ _ z=>z.putD Kb) (iW.putD Kb (.rule aq o dx A2 vl vr cu z wt l r as hp ho hl hr hA ha ne)) ?_ ?_)
     ·rw[bh hRD];exact Ka
     ·rw[av,Uz]
      unfold add
      rw[if_neg nz]
     ·rw[bh hLD];exact hL5
    | cost _ k n hp=>exact⟨_,rfl,aq,_,0,_,rfl,rfl,aU.of hp,ax (j:=0) rfl,rfl,_,rfl,aY (fun z=>absurd (V.str.inj z) (by decide)) (fun _=>key _ _ (no rfl))⟩
    | grow _ a b hp=>exact⟨_,rfl,aq,_,0,_,rfl,rfl,aU.of hp,ax (j:=0) rfl,rfl,_,rfl,aY (fun z=>absurd (V.str.inj z) (by decide)) (fun _=>key _ _ (no rfl))⟩
    | pair _ v1 v2 x t u hp h1 h2=>exact⟨_,rfl,aq,_,0,_,rfl,rfl,aU.of hp,ax (j:=0) rfl,rfl,_,rfl,aY (fun z=>absurd (V.str.inj z) (wA x go.1).1) (fun _=>key _ _ (no rfl))⟩
    | one _ v1 x t hp h1=>exact⟨_,rfl,aq,_,0,_,rfl,rfl,aU.of hp,ax (j:=0) rfl,rfl,_,rfl,aY (fun z=>absurd (V.str.inj z) (wj x go.1).1) (fun _=>key _ _ (no rfl))⟩
   rintro bC H6 ⟨rfl,UR,El,Ef,Vi,hD6,hL6⟩
   refine⟨_,rfl,.inl ⟨rfl,_,b6.of El⟩,_,rfl,R,dP,_,rfl,rfl,El,gP (by omega),?_⟩
   refine Rj.mk _ _ _ (dP ++ [.ref aq]) rfl (UR.put Ao) av ?_ ?_ ?_ (by rw[aM];exact iG len) e9
   ·rw[Dh er]
    exact ke (Paired.j7 Ef fun _ _ z=>z.put El) (Vi.put El)
   ·rw[bh (cK hRD)];exact hD6
   ·rw[bh hLR];exact hL6
 ·rintro σ H' ⟨x3,x4,x5,dP,rfl,sm,hR,hp,hD,Vv,len,le⟩
  rw[hll]at le hp
  have el:rs.length=zs.length:=by omega
  refine⟨_,rfl,q1 el R dP H' sm hR ?_⟩
  have:sk rs rs.length=rs.filterMap id:=by unfold sk;rw[fj]
  rw[<- this,el]
  exact hp
end
section
variable {P:Program}{w:World}{K:aj}{mg:Str->Option Value}{base:Heap}{CU d5 CL fL:Addr}{eQ eR bQ jU i4 ic gf iL:Addr}
structure Oq (K:aj) (mg:Str->Option Value) (eQ eR bQ jU i4 ic gf iL:Addr):Prop where
 qx:mg "NoTree" = some (.ref eQ)
 yp:mg "NoRule" = some (.ref eR)
 FL:mg "NoRow" = some (.ref bQ)
 QH:mg "Full" = some (.ref jU)
 MB:mg "Apart" = some (.ref i4)
 Ki:mg "TooBig" = some (.ref ic)
 G7:mg "TooWide" = some (.ref gf)
 qP:mg "SameError" = some (.ref iL)
 AF:mg "ValueError" = none
 nL:gD K bQ "line"
 qq:bY K (.ref bQ) (.ref bQ)=some true
 kD:bY K (.ref bQ) (.type "ValueError")=some true
 tO:bY K (.ref bQ) (.ref eQ)=some false
 tP:bY K (.ref bQ) (.ref eR)=some false
 Ab:bY K (.ref bQ) (.ref jU)=some false
 wK:bY K (.ref bQ) (.ref i4)=some false
 tN:bY K (.ref bQ) (.ref ic)=some false
 qX:bY K (.ref bQ) (.ref gf)=some false
 j8:fG K (.ref bQ) (.ref iL)=some true
theorem SV (vJ:gD K CL "line") (D:Dr K mg "NoRow" CL "NoRow.__init__" qh ["self", "line"]):uF P w K mg base 1 "NoRow" CL ["self", "line"] "line" := by
 refine D.eL R3 rfl (fun fI f' a8 A outer s H vs Q cL hr h => ?_)
 obtain⟨e,y,rfl,he,q⟩:=h
 refine⟨_,(aw (Si cL vJ (aq 0) (aq 1) rfl)),?_⟩
 try dsimp only[bZ]
 exact⟨_,rfl,_,rfl,e,rfl,he,q⟩
inductive Ra (CU CL:Addr) (vs:List V) (H:Hp) (E:XK):Prop
 | mk (zs:List Str) (rs:List (Option Od)) (n:V) (ev:vs = [.str (bw "\n" zs),n]) (r:Rows zs rs) (hb:rs.length < zs.length) (q2:Om CL ((rs.length+1:Nat):Int) H E):Ra CU CL vs H E
def IF (CU CL:Addr):Sp:=fun vs H _ E=>Ra CU CL vs H E
theorem Xf (ib:f9 P w K mg base 70 "read_sheet" ["text"] (Bm CU CL)) (D:Ds K mg "run" Bs ["text", "room"] [.int 120]):f9 P w K mg base 71 "run" ["text", "room"] (IF CU CL):=by
 have h:Uo P w K mg base 71 "run" ["text", "room"] [.int 120] (IF CU CL):=by
  refine D.eL OY (fun vs H Q E h => ?_) (fun f a8 A outer s H vs Q E hr h => ?_)
  ·obtain⟨zs,rs,n,rfl,_⟩:=h;rfl
  obtain⟨zs,rs,n,rfl,r,hb,q2⟩:=h
  refine⟨_,(ao (aR (i:=2) OY.nd rfl (aH rfl) (fJ ib hr (by omega) (eG fun _ _ _ z=>z) rfl (ae (aq 0) ag)))
  (ao mn
  (ao mn
  (ao mn
  (aw mn))))),?_⟩
  try dsimp only[bZ]
  exact⟨_,rfl,zs,rs,rfl,r,fun e=>absurd e (by omega),fun _=>q2⟩
 obtain⟨f,fd,ds,F,hm,hk,_,_,hb⟩:=h.ex
 exact⟨f,fd,F,hm,hk,hb⟩
theorem Q1 {M:List Str}{ta:TA}{rest:TS}{D:Ends}{H:Hp}{m:Int}{o:Option V} (hM:M.length<=100)
  (ev:∀ (H:Hp) (Q:List V->Hp->Prop),Q (M.map V.str) H->ta [some (.int m),o] H Q) (k:∀ p' H',aT H H'->H' p'=some (.lst (M.map V.str))->rest D [some (.int m),some (.ref p')] H'):oS (zw (Nk ta) (bc 1)) rest D [some (.int m),o] H:=by
 refine ev H _ ⟨by rw[aA];exact a9 hM (by decide),fun p2 i3 => ?_⟩
 exact k p2 _ (aD i3 _) av
theorem um {L M:List Str}{ta:TA}{rest:TS}{D:Ends}{H:Hp}{m:Int}{p:Addr} (hL:L.length<=100) (hM:M.length<=100) (hp:H p=some (.lst (L.map V.str)))
  (ev:∀ (H:Hp) (Q:List V->Hp->Prop),Q (M.map V.str) H->ta [some (.int m),some (.ref p)] H Q) (k:∀ p' H',aT H H'->H' p'=some (.lst ((L ++ M).map V.str))->rest D [some (.int m),some (.ref p')] H'):oS (zw (nF YE (zt 1) (Nk ta)) (bc 1)) rest D [some (.int m),some (.ref p)] H:=by
 refine⟨_,rfl,?_⟩
 refine ev H _ ⟨by rw[aA];exact a9 hM (by decide),fun p2 i3 => ?_⟩
 refine⟨p,p2,_,_,rfl,rfl,aD i3 _ _ _ hp,av,?_,fun p5 oF => ?_⟩
 ·rw[aA,aA];exact a9 (by omega:_<=200) (by decide)
 ·refine k p5 _ ((aD i3 _).trans (aD oF _)) ?_
  rw[df]
  exact av
inductive HY (vs:List V) (H:Hp) (Q:VK):Prop
 | mk (c:Int) (ev:vs = [.int c]) (q:∀ x,x∈AE->∀ H',aT H H'->Q (.str x) H'):HY vs H Q
def UQ:Sp:=fun vs H Q _=>HY vs H Q
theorem Zd (B:hJ mg) (de:cS P w K mg base 1 "_law_draw" ["_law_cell", "_law_factor", "_law_many"] oW) (D:Def K mg "_law_bad" Nt ["_law_cell"]):cS P w K mg base 2 "_law_bad" ["_law_cell"] UQ:=by
 refine D.eL sX (fun vs H Q E h => ?_) (fun f a8 A outer s H vs Q E hr h => ?_)
 ·obtain⟨c,rfl,_⟩:=h;rfl
 obtain⟨c,rfl,q⟩:=h
 refine⟨_,(ao (aR (i:=1) sX.nd rfl (aH rfl) (gi (jk (L := ["grow 1", "grow 01 2", "grow 101 2", "grow 1 0", "grow 1 1001", "grow 1 2 3", "grow  1 2", "grow -1 2"]) (by decide +kernel))))
  (ao (aR (i:=1) sX.nd rfl (aH rfl) (aX tE (aq 1) (gi (jk (L := ["cost plus 0", "cost # 01", "cost Plus 3", "cost plus  3", "cost plus 1000000000001", "cost @ -1"]) (by decide +kernel)))))
  (ao (aR (i:=1) sX.nd rfl (aH rfl) (aX tE (aq 1) (gi (jk (L := ["cost ## 1", "cost abcdefghi 1", "cost 3", "put ", "put", "put x y", "put f(x,y)", "put x "]) (by decide +kernel)))))
  (ao (aR (i:=1) sX.nd rfl (aH rfl) (aX tE (aq 1) (gi (jk (L := ["tell x =y", "same x", "why x = ", "same x = y = z", "cheap ?a", " put x", "puts x", "number"]) (by decide +kernel)))))
  (ao (aR (i:=1) sX.nd rfl (aH rfl) (aX tE (aq 1) (gi (jk (L := ["names X", "sign -0", "shared f()", "rule a 0: f(?a) = ?a", "rule a 1: ?a = f(?a)", " ", "x"]) (by decide +kernel)))))
  (ao (aR (i:=1) sX.nd rfl (aH rfl) (aX tE (aq 1) (gi (jk (L := ["rule a 1 f(?a) = ?a", "rule a 1: f(?a) = ?b", "rule a 1: f(?a) = ?a if", "rule", "Put x"]) (by decide +kernel)))))
  (aw (aW (aP gj (aq 1) (aG de hr (by omega) rfl (ae (aq 0) (ae ai (ae (b8 cO rfl B.iC bR (ae (aq 1) ag)) ag)))) (fun _ _=>rfl)))))))))),?_⟩
 try dsimp only[bZ]
 refine Q1 (M:=Ui) (by decide) (fun H Q q=>q) (fun p1 H1 s1 dn => ?_)
 refine um (L:=Ui) (by decide) (by decide) dn (fun H Q q=>q) (fun p2 H2 s2 i3 => ?_)
 refine um (L:=abq) (by decide) (by decide) i3 (fun H Q q=>q) (fun p3 H3 s3 mw => ?_)
 refine um (L:=abp) (by decide) (by decide) mw (fun H Q q=>q) (fun p4 H4 s4 u7 => ?_)
 refine um (L:=abo) (by decide) (by decide) u7 (fun H Q q=>q) (fun p5 H5 s5 oF => ?_)
 refine um (L:=abn) (by decide) (by decide) oF (fun H Q q=>q) (fun p6 H6 s6 Ef => ?_)
 have sm:=s1.trans (s2.trans (s3.trans (s4.trans (s5.trans s6))))
 have Ef:H6 p6=some (.lst (AE.map V.str)):=Ef
 generalize hbb:AE=bb at Ef q
 have h0:0 < bb.length:=by rw[<- hbb];decide
 refine⟨_,rfl,_,rfl,_,rfl,p6,_,rfl,.inl (b6.of Ef),c,_,_,rfl,by decide,by decide,by rw[aA];omega,fun r r0 r1 => ?_⟩
 obtain⟨y,hy,hm⟩:=rj (xs:=bb.map V.str) r0 r1
 obtain⟨x,hx,rfl⟩:=fD.mp hm
 exact⟨p6,_,r,_,rfl,rfl,b6.of Ef,hy,q x hx H6 sm⟩
theorem LQ {a:Addr}:∀ u v,RelV (.ref a) u->RelV (.ref a) v->u=v:=fun u v h1 h2=>(show u=bf a from h1).trans (show v=bf a from h2).symm
theorem Yb {T:String}:∀ u v,RelV (.ty T) u->RelV (.ty T) v->u=v:=fun u v h1 h2=>(show u=je T from h1).trans (show v=je T from h2).symm
theorem Gu:∀ (cs:List Addr) (us:List Value),Vals (cs.map V.ref) us->us=cs.map bf
 | [],us,h=>by cases h;rfl
 | c :: cs,us,h=>by
  cases h with
  | cons h1 h2=>rw[Gu cs _ h2,show _=bf c from h1];rfl
theorem JI {K:aj}{t:Value}:∀ (cs:List Addr),(∀ c∈cs,bY K t (.ref c)=some false)->m8 K t (cs.map bf)=some false
 | [],_=>rfl
 | c :: cs,h=>by
  rw[b0,m8,h c aV]
  exact JI cs fun d hd=>h d (aL _ hd)
inductive AO (CL:Addr) (vs:List V) (H:Hp) (Q:VK):Prop
 | mk (ea d:Addr) (n:Int) (ev:vs = [.ref ea]) (h:H ea=some (XQ ea CL d)) (hd:H d=some (.xd [("line",.int n)])) (q:∀ a H',aT H H'->H' a=some (.tup [.bl true,.bl true,.bl false,.int n])->Q (.ref a) H'):AO CL vs H Q
def GF (CL:Addr):Sp:=fun vs H Q _=>AO CL vs H Q
theorem NH (B:hJ mg) (qS:uH K mg "NoRow" bQ fL) (Y:Oq K mg eQ eR bQ jU i4 ic gf iL) (D:Def K mg "_law_refusal" zG ["_law_problem"]):Gb P w K mg base 1 "_law_refusal" ["_law_problem"] (GF bQ):=by
 obtain⟨qx,yp,FL,QH,MB,Ki,G7,qP,AF,vJ,qq,kD,tO,tP,Ab,wK,tN,qX,j8⟩:=Y
 refine D.acj sy (fun vs H Q E h => ?_) (fun f a8 A outer s H vs Q hr h => ?_)
 ·obtain⟨ea,d,n,rfl,_⟩:=h;rfl
 obtain⟨ea,d,n,rfl,lG,hd,q⟩:=h
 refine⟨_,(ao (aR (i:=1) sy.nd rfl (aH rfl) iA)
  (ao (a6 (lK (b8 (AD (K:=K) rfl qS) rfl B.jl fP (ae (aq 0) (ae (j4 (v := .ref bQ) rfl FL rfl) ag)))) (aw (aR (i:=1) sy.nd rfl (aH rfl) (W2 qS.l vJ (aq 0)))) aJ)
  (ao (aR (i:=2) sy.nd rfl (aH rfl) (b8 (Oc (K:=K) rfl qS) rfl B.jl fP (ae (aq 0) (ae (aS (ae (j4 (v := .ref eQ) rfl qx rfl) (ae (j4 (v := .ref eR) rfl yp rfl) (ae (j4 (v := .ref jU) rfl QH rfl) (ae (j4 (v := .ref i4) rfl MB rfl) (ae (j4 (v := .ref ic) rfl Ki rfl) (ae (j4 (v := .ref gf) rfl G7 rfl) ag))))))) ag))))
  (aw (aW (aS (ae (b8 (AD (K:=K) rfl qS) rfl B.jl fP (ae (aq 0) (ae (j4 (v := .ref bQ) rfl FL rfl) ag))) (ae (b8 (AD (K:=K) rfl qS) rfl B.jl fP (ae (aq 0) (ae (tw (v := .ty "ValueError") rfl AF Df rfl) ag))) (ae (aq 2) (ae (aq 1) ag)))))))))),?_⟩
 try dsimp only[bZ]
 have kn:m8 K (.ref bQ) ([eQ,eR,jU,i4,ic,gf].map bf)=some false:=JI _ fun c hc=>by
  simp only[aK,Dq,or_false]at hc
  rcases hc with rfl | rfl | rfl | rfl | rfl | rfl <;> assumption
 refine qj ?_
 refine⟨_,rfl,ea,d,_,_,true,rfl,lG,rfl,LQ,qq,_,rfl,gB ?_⟩
 refine⟨_,rfl,ea,d,_,_,rfl,lG,hd,rfl,?_⟩
 dsimp only[bc]
 refine⟨_,rfl,(show 6<=sizeLine by decide),fun tp Mj => ?_⟩
 have s1:=aD Mj (.tup ([eQ,eR,jU,i4,ic,gf].map V.ref))
 have aew:(aO H tp (.tup ([eQ,eR,jU,i4,ic,gf].map V.ref))) tp=some (.tup ([eQ,eR,jU,i4,ic,gf].map V.ref)):=av
 have TC:=s1 _ _ lG
 refine⟨ea,d,tp,_,_,false,rfl,TC,aew,Gu _,kn,?_⟩
 dsimp only[bc]
 refine⟨_,rfl,ea,d,_,_,true,rfl,TC,rfl,LQ,qq,_,rfl,ea,d,_,_,true,rfl,TC,rfl,Yb,kD,_,rfl,_,rfl,(show 4<=sizeLine by decide),fun a ha => ?_⟩
 exact q a _ (s1.trans (aD ha _)) av
inductive AN (CL:Addr) (vs:List V) (H:Hp) (Q:VK):Prop
 | mk (zs:List Str) (rs:List (Option Od)) (b:Bool) (ev:vs = [.str (bw "\n" zs),.bl b]) (r:Rows zs rs) (hb:rs.length < zs.length) (q:∀ a H',aT H H'->H' a=some (.tup [.bl true,.bl true,.bl false,.int ((rs.length+1:Nat):Int)])->Q (.ref a) H'):AN CL vs H Q
def GD (CL:Addr):Sp:=fun vs H Q _=>AN CL vs H Q
theorem NG (Y:Oq K mg eQ eR bQ jU i4 ic gf iL) (Ak:Gb P w K mg base 1 "_law_refusal" ["_law_problem"] (GF bQ)) (N0:f9 P w K mg base 71 "run" ["text", "room"] (IF CU bQ)) (ib:f9 P w K mg base 70 "read_sheet" ["text"] (Bm CU bQ)) (D:Def K mg "_law_refused" zF ["_law_text", "_law_running"]):cS P w K mg base 72 "_law_refused" ["_law_text", "_law_running"] (GD bQ):=by
 have qP:=Y.qP
 refine D.eL oY (fun vs H Q E h => ?_) (fun f a8 A outer s H vs Q E hr h => ?_)
 ·obtain⟨zs,rs,b,rfl,_⟩:=h;rfl
 obtain⟨zs,rs,b,rfl,r,hb,q⟩:=h
 refine⟨_,(ao (Sh (i:=3) ⟨rfl,rfl⟩ oY.nd rfl rfl rfl qP (WJ (lK (aq 1)) (Fq (i:=2) oY.nd rfl (aH rfl) (sC N0 hr (by omega) rfl (ae (aq 0) (ae ai ag)))) (Fq (i:=2) oY.nd rfl (aH rfl) (sC ib hr (by omega) rfl (ae (aq 0) ag)))) (fun ea=>(aw (aR (i:=2) oY.nd rfl (aH rfl) (NA Ak (hr.mark _) (by omega) rfl (ae (aq 3) ag))))))
  (aw (aW (aq 2)))),?_⟩
 try dsimp only[bZ]
 have eZ:∀ (ea d:Addr) (H':Hp),H' ea=none->aT H H'->H' d=some (.xd [("line",.int ((rs.length+1:Nat):Int))])->∀ (Q':VK),(∀ a dF,aT H dF->dF a=some (.tup [.bl true,.bl true,.bl false,.int ((rs.length+1:Nat):Int)])->Q' (.ref a) dF)->AO bQ [.ref ea] (aO H' ea (XQ ea bQ d)) Q':=fun ea d H' lG s' hd Q' q' =>
  ⟨ea,d,_,rfl,av,by rw[bh (dC hd lG)];exact hd,fun a dF zJ ha=>q' a dF (s'.trans ((aD lG _).trans zJ)) ha⟩
 cases b with
 | true =>
  refine⟨_,rfl,_,rfl,gB ?_⟩
  refine⟨_,rfl,zs,rs,_,rfl,r,hb,fun d m H' s' hd=>⟨bQ,d,rfl,Y.j8,fun ea lG=>⟨_,rfl,eZ ea d H' lG s' hd _ fun a dF zJ ha => ?_⟩⟩⟩
  exact⟨_,rfl,q a dF zJ ha⟩
 | false =>
  refine⟨_,rfl,_,rfl,eW ?_⟩
  refine⟨_,rfl,zs,rs,rfl,r,fun e=>absurd e (by omega),fun _ d m H' s' hd=>⟨bQ,d,rfl,Y.j8,fun ea lG=>⟨_,rfl,eZ ea d H' lG s' hd _ fun a dF zJ ha => ?_⟩⟩⟩
  exact⟨_,rfl,q a dF zJ ha⟩
end
section
variable {P:Program}{w:World}{K:aj}{mg:Str->Option Value}{base:Heap}{CB CF CH CS CN CE CM CR tB:Addr}
inductive VW (K:aj) (vs:List V) (H:Hp) (Q:VK):Prop
 | mk (a:Addr) (ns:List Int) (z0:vs = [.ref a]) (z1:b6 K H a (ns.map V.int)) (z2:ns.length<=63) (z3:(∀ c∈ns,pY c<=1048576)) (z4:∀ H',Q (.bl true) H'):VW K vs H Q
def HR (K:aj):Sp:=fun vs H Q _=>VW K vs H Q
theorem Md (ss:List Str):uq "\n" ss=bw "\n" ss:=by
 unfold uq
 rw[wZ]
theorem xK {ws:List (Option Od)} (g:∀ o,some o∈ws->pG o):∀ s∈ws.map rS,s.length<=10100∧10 ∉ s.cps.toList:=fun s hs=>by
 obtain⟨r,hr,rfl⟩:=fD.mp hs
 cases r with
 | none=>exact⟨bA _,fun z=>nomatch z⟩
 | some o=>exact⟨Fz (g o hr),L8 (g o hr)⟩
theorem Ea {zs:List Str} (h:∀ s∈zs,s.length<=10100) (hl:zs.length<=200):(bw "\n" zs).length<=5000000∧(zs.map (·.length)).sum<=2020000:=by
 have h1:=FA h
 have h2:=kc "\n" zs
 have e:("\n" : Str).length=1:=rfl
 rw[e]at h2
 omega
theorem R7 {ws:List (Option Od)}{h:Nat}{x:Str}{us:List Str} (hh:h<=ws.length) (gw:∀ o,some o∈ws->pG o) (lw:ws.length<=130) (nd:(((ws.take h).filterMap id).filterMap Od.title).Nodup) (hb:vx (((ws.take h).filterMap id).filterMap Od.title) x) (hu:us.length<=1) (Vk:∀ u∈us,u∈AE) :
  Rows ((ws.map rS).take h ++ [x] ++ (ws.map rS).drop h ++ us) (ws.take h)∧(ws.take h).length=h∧h < ((ws.map rS).take h ++ [x] ++ (ws.map rS).drop h ++ us).length∧(((ws.map rS).take h ++ [x] ++ (ws.map rS).drop h ++ us).map (·.length)).sum<=2020000:=by
 have el:(ws.take h).length=h:=by rw[eA];omega
 have ez:(ws.map rS).take h ++ [x] ++ (ws.map rS).drop h ++ us=(ws.take h).map rS ++ (x :: ((ws.map rS).drop h ++ us)):=by rw[y6,bH,bH];rfl
 have zl:((ws.map rS).take h ++ [x] ++ (ws.map rS).drop h ++ us).length=ws.length+1+us.length:=by
  rw[ez,aM,aA,el,bg,aM,dN,aA];omega
 have hm:∀ s∈(ws.map rS).take h ++ [x] ++ (ws.map rS).drop h ++ us,s.length<=10100∧10 ∉ s.cps.toList:=fun s hs=>by
  simp only[aZ,bI]at hs
  rcases hs with((hs | rfl) | hs) | hs
  ·exact xK gw s (yz hs)
  ·exact⟨hb.no.1,hb.no.2.2⟩
  ·exact xK gw s (List.mem_of_mem_drop hs)
  ·have:=(Dg s (Vk s hs)).1
   exact⟨by omega,this.2.2⟩
 refine⟨⟨fun i hi => ?_,by rw[el,zl];omega,by rw[zl];omega,by rw[zl];omega,(Ea (fun s hs=>(hm s hs).1) (by rw[zl];omega)).1,fun z hz=>(hm z hz).2,fun o ho=>gw o (yz ho),nd,fun z hz => ?_⟩,el,by rw[zl];omega,(Ea (fun s hs=>(hm s hs).1) (by rw[zl];omega)).2⟩
 ·rw[ez,cI (by rw[aA];exact hi),cf]
 ·rw[ez,dy (by rw[aA];exact aB _),aA,Nat.sub_self]at hz
  cases hz
  exact hb
theorem O1 {ws:List (Option Od)} (h0:ws ≠ []) (gw:∀ o,some o∈ws->pG o) (lw:ws.length<=200) (nd:((ws.filterMap id).filterMap Od.title).Nodup):Rows (ws.map rS) ws:=by
 have hm:=xK gw
 have hl:1<=ws.length:=by cases ws with | nil=>exact absurd rfl h0 | cons _ _=>rw[bg];omega
 refine⟨fun i hi=>by rw[cf],by rw[aA];omega,by rw[aA];exact hl,by rw[aA];exact lw,(Ea (fun s hs=>(hm s hs).1) (by rw[aA];exact lw)).1,fun z hz=>(hm z hz).2,gw,nd,fun z hz => ?_⟩
 rw[kS (by rw[aA];omega)]at hz
 cases hz
inductive Kx (H:Hp) (os:List Od):V->Prop
 | no:Kx H os .b9
 | at (d AL:Addr) (z:Str) (wt:Int) (vl vr:V) (l r:T) (cu:List V) (as:List Ask) (jS:yC H d z wt vl vr l r AL cu as) (g:i5 z wt l r as) (m:z∈os.filterMap Od.title):Kx H os (.ref d)
inductive vn (H:Hp) (a R W:Addr) (os:List Od) (rp i j t m:Nat) (py:Option V->Prop) (σ : St) (H':Hp):Prop
 | mk (y:Option V) (ws:List (Option Od)) (h:Nat) (y3:V) (hy:py y) (e : σ = [some (.ref a),some (.ref R),some (.ref W),some y3,some (.int (h:Int)),some (.int (rp:Int)),y,none,none,none,none,none,none]) (sm:aT H H') (hW:H' W=some (.lst ((ws.map rS).map V.str))) (eo:ws.filterMap id=os.take i) (hh:h<=ws.length) (eh:(ws.take h).filterMap id=os.take (min j rp)) (ht:Kx H (os.take (min t rp)) y3) (len:ws.length<=m):vn H a R W os rp i j t m py σ H'
theorem Wl {H:Hp}{os:List Od}{a b:Nat}{v:V} (h:Kx H (os.take a) v) (l:a<=b):Kx H (os.take b) v:=by
 cases h with
 | no=>exact .no
 | «at» d AL z wt vl vr l' r cu as jS g m =>
  refine .at d AL z wt vl vr l' r cu as jS g ?_
  obtain⟨o,ho,hz⟩:=eP.mp m
  exact eP.mpr ⟨o,List.take_subset_take_left _ l ho,hz⟩
theorem RR {z z':Str}{wt:Int}{l r:T}{as:List Ask} (g:i5 z wt l r as) (h:dW z'):i5 z' wt l r as:=⟨⟨h,g.ok.2⟩,g.l_,g.r_,g.dl,g.dr,g.ws,g.hw⟩
inductive RJ (H:Hp) (a R W:Addr) (y3:V) (h rp:Nat) (y:Option V) (tt:List Str) (σ : St) (H':Hp):Prop
 | mk (x:Str) (y8:Option V) (e : σ = [some (.ref a),some (.ref R),some (.ref W),some y3,some (.int (h:Int)),some (.int (rp:Int)),y,some (.str x),y8,none,none,none,none]) (sm:aT H H') (hb:vx tt x):RJ H a R W y3 h rp y tt σ H'
inductive VX (H:Hp) (a R W S:Addr) (y3:V) (h rp:Nat) (y:Option V) (x:Str) (y8:Option V) (ws:List (Option Od)) (σ : St) (H':Hp):Prop
 | mk (us:List Str) (e : σ = [some (.ref a),some (.ref R),some (.ref W),some y3,some (.int (h:Int)),some (.int (rp:Int)),y,some (.str x),y8,some (.ref S),none,none,none]) (sm:aT H H') (hW:H' W=some (.lst ((ws.map rS).map V.str))) (hS:H' S=some (.lst (((ws.map rS).take h ++ [x] ++ (ws.map rS).drop h ++ us).map V.str))) (hu:us.length<=1) (Vk:∀ u∈us,u∈AE):VX H a R W S y3 h rp y x y8 ws σ H'
inductive Wb (H:Hp) (a R W S:Addr) (y3:V) (h rp:Nat) (y:Option V) (x:Str) (y8:Option V) (i:Nat) (σ : St) (H':Hp):Prop
 | mk (X5 X4:Option V) (e : σ = [some (.ref a),some (.ref R),some (.ref W),some y3,some (.int (h:Int)),some (.int (rp:Int)),y,some (.str x),y8,some (.ref S),X5,X4,none]) (sm:aT H H'):Wb H a R W S y3 h rp y x y8 i σ H'
theorem ZA {K:aj}:bY K (.type "list") (.type "list")=some true:=by rfl
theorem Zz {K:aj}:bY K (.type "tuple") (.type "tuple")=some true:=by rfl
theorem ZC {K:aj}:bY K (.type "int") (.type "int")=some true:=by rfl
theorem ZD {K:aj}:bY K (.type "int") (.type "bool")=some false:=by rfl
theorem Zc (B:hJ mg) (de:cS P w K mg base 1 "_law_draw" ["_law_cell", "_law_factor", "_law_many"] oW) (FG:cS P w K mg base 4 "_law_trees" ["_law_script", "_law_most"] (Lx K)) (C4:cS P w K mg base 6 "_law_orders" ["_law_script", "_law_trees_here"] (IH K)) (qu:cS P w K mg base 1 "_law_at" ["_law_script", "_law_k"] (RW K)) (N1:cS P w K mg base 16 "_law_row" ["_law_order_here"] UO) (wQ:cS P w K mg base 4 "_law_rule" ["_law_script", "_law_cell", "_law_which"] (Fb K)) (j9:cS P w K mg base 15 "_law_rule_text" ["_law_rule_here"] xw) (HV:cS P w K mg base 2 "_law_bad" ["_law_cell"] UQ) (Aj:cS P w K mg base 72 "_law_refused" ["_law_text", "_law_running"] (GD bQ)) (ib:f9 P w K mg base 70 "read_sheet" ["text"] (Bm CU bQ)) {f:Addr}{fd:FuncData} (F:sq K "law" "law" sA f fd) :
  jF P w K mg base oM 73 f fd ["_law_script"] (HR K):=by
 refine F.okQ iQ (fun vs H Q E h => ?_) (fun a8 A outer s H vs Q E hr h => ?_)
 ·obtain⟨a,ns,rfl,_⟩:=h;rfl
 obtain⟨a,ns,rfl,hS,Cb,_,q⟩:=h
 refine⟨_,(ao (aR (i:=1) iQ.nd rfl (aH rfl) (aG C4 hr (by omega) rfl (ae (aq 0) (ae (aG FG hr (by omega) rfl (ae (aq 0) (ae ai ag))) ag))))
  (ao (aR (i:=2) iQ.nd rfl (aH rfl) (gi ag))
  (ao (aR (i:=3) iQ.nd rfl (aH rfl) iA)
  (ao (aR (i:=4) iQ.nd rfl (aH rfl) ai)
  (ao (aR (i:=5) iQ.nd rfl (aH rfl) (aG de hr (by omega) rfl (ae (aG qu hr (by omega) rfl (ae (aq 0) (ae ai ag))) (ae ai (ae (aX js (b8 cO rfl B.iC bR (ae (aq 1) ag)) ai) ag)))))
  (ao (iz eO rfl (o7 rfl B.zL (ae (b8 cO rfl B.iC bR (ae (aq 1) ag)) ag)) (dI (i:=6) iQ.nd rfl (aH rfl))
  (ao (a6 (aC cb (aX h9 (aG qu hr (by omega) rfl (ae (aq 0) (ae (aq 6) ag))) ai) ai (aQ _)) (aw (fh (fq cV cQ cP gQ (aq 2) (ae ay ag)))) aJ)
  (ao (a6 (PW.ji (pw_andQ (aC cb (aP a7 (aP gj (aq 1) (aq 6) (fun _ _=>rfl)) ai (fun _ _=>rfl)) ay (aQ _)) (pw_and1Q (aC ll (aq 6) (aq 5) (aQ _))))) (aw (aR (i:=3) iQ.nd rfl (aH rfl) (aP a7 (aP gj (aq 1) (aq 6) (fun _ _=>rfl)) ai (fun _ _=>rfl)))) aJ)
  (ao (fh (fq cV cQ cP gQ (aq 2) (ae (aG N1 hr (by omega) rfl (ae (aP gj (aq 1) (aq 6) (fun _ _=>rfl)) ag)) ag)))
  (aw (a6 (aC ll (aq 6) (aq 5) (aQ _)) (aw (aR (i:=4) iQ.nd rfl (aH rfl) (b8 cO rfl B.iC bR (ae (aq 2) ag)))) aJ))))))
  (ao (aR (i:=7) iQ.nd rfl (aH rfl) (aG HV hr (by omega) rfl (ae (aG qu hr (by omega) rfl (ae (aq 0) (ae ai ag))) ag)))
  (ao (a6 (PW.ji (pw_andQ (aC Xc (aq 3) iA (aQ _)) (pw_and1Q (aC lp (aX h9 (aG qu hr (by omega) rfl (ae (aq 0) (ae ai ag))) ai) ai (aQ _))))) (ao (aR (i:=8) iQ.nd rfl (aH rfl) (aG wQ hr (by omega) rfl (ae (aq 0) (ae (aG qu hr (by omega) rfl (ae (aq 0) (ae ai ag))) (ae ai ag)))))
  (ao (aR (i:=7) iQ.nd rfl (aH rfl) (aX bX ay (aG j9 hr (by omega) rfl (ae (aq 3) ag))))
  (aw (a6 (aC cb (aX h9 (aG qu hr (by omega) rfl (ae (aq 0) (ae ai ag))) ai) ai (aQ _)) (aw (aR (i:=7) iQ.nd rfl (aH rfl) (aX bX ay (aG j9 hr (by omega) rfl (ae (aS (ae (aP a7 (aq 3) ai (fun _ _=>rfl)) (ae (aP a7 (aq 8) ai (fun _ _=>rfl)) (ae (aP a7 (aq 8) ai (fun _ _=>rfl)) (ae (aP a7 (aq 8) ai (fun _ _=>rfl)) (ae (aP a7 (aq 8) ai (fun _ _=>rfl)) ag)))))) ag))))) aJ)))) aJ)
  (ao (aR (i:=9) iQ.nd rfl (aH rfl) (aX tE (aX tE (jj Bo (aq 2) sO (hZ (aq 4))) (gi (ae (aq 7) ag))) (jj Bo (aq 2) (hZ (aq 4)) sO)))
  (ao (a6 (aC cb (aX h9 (aG qu hr (by omega) rfl (ae (aq 0) (ae ai ag))) ai) ai (aQ _)) (aw (fh (fq cV cQ cP gQ (aq 9) (ae (aG HV hr (by omega) rfl (ae (aG qu hr (by omega) rfl (ae (aq 0) (ae ai ag))) ag)) ag)))) aJ)
  (ao (iz eO rfl (wz (aS (ae jN (ae jN ag)))) (dI (i:=10) iQ.nd rfl (aH rfl))
  (ao (aR (i:=11) iQ.nd rfl (aH rfl) (aG Aj hr (by omega) rfl (ae (fq ck kP kO Bu ay (ae (aq 9) ag)) (ae (aq 10) ag))))
  (ao (a6 (PW.ji (pw_orQ (sM (lK (b8 yt rfl B.jl fP (ae (aq 11) (ae (tw (v := .ty "tuple") rfl B.Ij vS rfl) ag))))) (pw_or1Q (aC (Y8 hr.OB) (jj Yq (aq 11) sO (hZ ai)) (aS (ae jN (ae jN (ae jN ag)))) (aQ _))))) (aw (aW jN)) aJ)
  (aw (a6 (PW.ji (pw_orQ (sM (lK (b8 yt rfl B.jl fP (ae (aP a7 (aq 11) ai (fun _ _=>rfl)) (ae (tw (v := .ty "int") rfl B.NQ vh rfl) ag))))) (pw_orQ (lK (b8 yt rfl B.jl fP (ae (aP a7 (aq 11) ai (fun _ _=>rfl)) (ae (tw (v := .ty "bool") rfl B.acp Og rfl) ag)))) (pw_or1Q (aC nV (aP a7 (aq 11) ai (fun _ _=>rfl)) (aX js (aq 4) ai) (aQ _)))))) (aw (aW jN)) aJ)))))
  (ao (aR (i:=12) iQ.nd rfl (aH rfl) (fJ ib hr (by omega) Y6 rfl (ae (fq ck kP kO Bu ay (ae (aq 2) ag)) ag)))
  (aw (aW (W8 (b8 yt rfl B.jl fP (ae (aq 12) (ae (tw (v := .ty "list") rfl B.NL yu rfl) ag))) (WY (Jl cb (b8 cO rfl B.iC bR (ae (aq 12) ag)) (b8 cO rfl B.iC bR (ae (aq 1) ag)) (aQ _)))))))))))))))))),?_⟩
 try dsimp only[bZ]
 refine⟨_,rfl,_,rfl,F0.mk a ns rfl hS Cb fun A us ts H1 s1 hA P6 gt l63=>Di.mk a A ns us ts rfl (s1.seq hS) Cb hA P6 gt l63 fun R dP os j H2 s2 hR hp go tt B7 len => ?_⟩
 dsimp only[bc]
 have Ek:=(s1.trans s2).seq hS
 clear P6 gt l63 hA s1 s2 hS
 have hol:=dw hp
 have ndo:(os.filterMap Od.title).Nodup:=by
  rw[tt]
  refine List.pairwise_map.mpr (List.Pairwise.imp_of_mem (fun {x y} hx hy ne e=>ne ?_) List.nodup_range)
  exact Oy (by have:=qE.mp hx;omega) (by have:=qE.mp hy;omega) e
 have ndt:∀ k,((os.take k).filterMap Od.title).Nodup:=fun k=>ndo.sublist ((BS k os).filterMap _)
 refine⟨bA _,fun W hW0 => ?_⟩
 dsimp only[bc]
 have s3:=aD hW0 (.lst [])
 have hW3:=av (H:=H2) (a:=W) (o := .lst [])
 generalize aO H2 W (.lst [])=H3 at s3 hW3 ⊢
 refine qj ?_
 refine qj ?_
 refine⟨_,rfl,a,ns,_,rfl,s3.seq Ek,by decide,_,rfl,R,_,rfl,.inl (b6.of (s3 _ _ hR)),_,_,rfl,rfl,_,_,_,rfl,by decide,by decide,by omega,fun rpi rp0 rp1 => ?_⟩
 dsimp only[bc]
 obtain⟨rp,rfl⟩:=eJ rp0
 refine⟨_,rfl,R,_,rfl,.inl (b6.of (s3 _ _ hR)),_,rfl,by omega,by omega,?_⟩
 rw[fZ]
 refine G3 (lo:=0) (fun i=>vn H2 a R W os rp i i i (2 * i) (fun _=>True)) (vn.mk none [] 0 .b9 trivial rfl s3 hW3 rfl (aB _) (by rw[Nat.zero_min];rfl) .no (aB _)) ?_ ?_
 ·rintro i σ H' hi ⟨y,ws,h,y3, -,rfl,sm,hW,eo,hh,eh,ht,lw⟩
  dsimp only[bc]
  obtain⟨o,ho,hv⟩:=jO hp (aF hi)
  have ei:(0:Int)+(i:Int)=((i:Nat):Int):=by omega
  have VS:nK dP (0+(i:Int))=some dP[i]:=by rw[ei];exact ax (aF hi)
  generalize dP[i]=v at hv VS
  have gO:=go o (bB ho)
  refine kz (vn H2 a R W os rp i i i (2 * i+1) (fun y=>y=some (.int (0+(i:Int))))) ?_ (fun key => ?_)
  rotate_left
  ·refine⟨_,rfl,_,rfl,a,ns,_,rfl,sm.seq Ek,by omega,_,_,rfl,rfl,eu,rfl,_,rfl,aY (fun _ => ?_) (fun _=>key _ _ (vn.mk _ ws h y3 rfl rfl sm hW eo hh eh ht (by omega)))⟩
   refine⟨_,rfl,.inl ⟨rfl,_,b6.of hW⟩,W,_,_,rfl,rfl,hW,gP (by rw[aA,aA];omega),key _ _ (vn.mk _ (ws ++ [none]) h y3 rfl rfl (sm.put hW0) ?_ ?_ ?_ ?_ ht ?_)⟩
   ·rw[av,df,df];rfl
   ·rw[cM,eo];exact dh _
   ·rw[aM];omega
   ·rw[pS hh];exact eh
   ·rw[aM];exact iG lw
  clear hW eo lw ws sm hh eh ht h y3
  rintro bC H4 ⟨y4,ws,h,y3,rfl,rfl,sm,hW,eo,hh,eh,ht,lw⟩
  refine kz (vn H2 a R W os rp i i (i+1) (2 * i+1) (fun y=>y=some (.int (0+(i:Int))))) ?_ (fun key => ?_)
  rotate_left
  ·have same:vn H2 a R W os rp i i (i+1) (2 * i+1) (fun y=>y=some (.int (0+(i:Int)))) [some (.ref a),some (.ref R),some (.ref W),some y3,some (.int (h:Int)),some (.int (rp:Int)),some (.int (0+(i:Int))),none,none,none,none,none,none] H4:=vn.mk _ ws h y3 rfl rfl sm hW eo hh eh (Wl ht (by omega)) lw
   obtain⟨p,x,ys,rfl,dn,hx⟩:=hv.first gO
   have u7:=sm _ _ dn
   refine jr (fun b Hc=>Hc=H4∧(b=true->x = "rule" ∧ i < rp)) (fun Qc qc => ?_) (fun Hc hc => ?_) (fun Hc hc=>by obtain⟨rfl, -⟩:=hc;exact key _ _ same)
   ·refine⟨_,rfl,_,rfl,R,_,_,_,rfl,rfl,b6.of (sm _ _ hR),VS,p,_,0,_,rfl,rfl,aU.of u7,ax (j:=0) rfl,rfl,_,rfl,aY (fun z => ?_) (fun z=>qc _ _ ⟨rfl,fun e=>nomatch e⟩)⟩
    exact⟨_,rfl,_,rfl,_,_,rfl,rfl,_,rfl,qc _ _ ⟨rfl,fun e=>⟨V.str.inj z,by have:=of_decide_eq_true e;omega⟩⟩⟩
   ·obtain⟨rfl,hc⟩:=hc
    obtain⟨ex,e9⟩:=hc rfl
    cases hv with
    | rule _ d AL vl vr cu z wt l r as oC jS ne =>
     refine⟨_,rfl,_,rfl,R,_,_,_,rfl,rfl,b6.of (sm _ _ hR),VS,p,_,1,_,rfl,rfl,aU.of (sm _ _ oC),ax (j:=1) rfl,?_⟩
     dsimp only[bc]
     refine key _ _ (vn.mk _ ws h (.ref d) rfl rfl sm hW eo hh eh (.at d AL z wt vl vr l r cu as jS gO (eP.mpr ⟨Od.rule z wt l r as,?_,rfl⟩)) lw)
     rw[jW e9]
     exact bB (i:=i) (by rw[mI (uB _)];exact ho)
    | cost _ k n oC=>rw[dn]at oC;cases oC;exact absurd ex (by decide)
    | grow _ k n oC=>rw[dn]at oC;cases oC;exact absurd ex (by decide)
    | pair _ v1 v2 x t u oC h1 h2=>rw[dn]at oC;cases oC;exact absurd ex (wA _ gO.1).1
    | one _ v1 x t oC h1=>rw[dn]at oC;cases oC;exact absurd ex (wj _ gO.1).1
  clear hW eo lw ws sm hh eh ht h y3
  rintro bC H5 ⟨y4,ws,h,y3,rfl,rfl,sm,hW,eo,hh,eh,ht,lw⟩
  refine kz (vn H2 a R W os rp (i+1) i (i+1) (2 * i+2) (fun y=>y=some (.int (0+(i:Int))))) ?_ (fun key => ?_)
  rotate_left
  ·refine⟨_,rfl,.inl ⟨rfl,_,b6.of hW⟩,_,rfl,_,rfl,R,_,_,_,rfl,rfl,b6.of (sm _ _ hR),VS,Ol.mk R v o rfl (hv.same sm) gO fun H6 s6=>⟨W,_,_,rfl,rfl,s6 _ _ hW,gP (by rw[aA,aA];omega),key _ _ (vn.mk _ (ws ++ [some o]) h y3 rfl rfl ((sm.trans s6).put hW0) ?_ ?_ ?_ ?_ ht ?_)⟩⟩
   ·rw[av,df,df];rfl
   ·rw[cM,eo,fX,ho];rfl
   ·rw[aM];omega
   ·rw[pS hh];exact eh
   ·rw[aM];exact iG lw
  clear hW eo lw ws sm hh eh ht h y3
  rintro bC H6 ⟨y4,ws,h,y3,rfl,rfl,sm,hW,eo,hh,eh,ht,lw⟩
  refine⟨_,rfl,_,rfl,_,_,rfl,rfl,_,rfl,aY (fun e9 => ?_) (fun Qf => ?_)⟩
  ·refine⟨_,rfl,W,_,rfl,.inl (b6.of hW),?_⟩
   dsimp only[bc]
   refine vn.mk _ ws ws.length y3 trivial (by rw[aA,aA];rfl) sm hW eo (aB _) ?_ ht (by omega)
   rw[fj,eo,jW (by omega)]
  ·refine vn.mk _ ws h y3 trivial rfl sm hW eo hh ?_ ht (by omega)
   rw[eh,uA (by omega),uA (by omega)]
 ·rintro σ H' ⟨y,ws,h,y3, -,rfl,sm,hW,eo,hh,eh,ht,lw⟩
  dsimp only[fe]
  show oS _ _ _ _ _
  rw[hol,fj]at eo
  have gw:∀ o,some o∈ws->pG o:=fun o ho=>go o (by rw[<- eo];exact eP.mpr ⟨_,ho,rfl⟩)
  have lw:ws.length<=126:=by omega
  have ndh:(((ws.take h).filterMap id).filterMap Od.title).Nodup:=by rw[eh];exact ndt _
  have tt1:((ws.take h).filterMap id).filterMap Od.title=(os.take (min dP.length rp)).filterMap Od.title:=by rw[eh]
  refine⟨_,rfl,a,ns,_,rfl,sm.seq Ek,by decide,HY.mk _ rfl fun x0 GU H4 s4 => ?_⟩
  dsimp only[bc]
  have OV:=sm.trans s4
  have hW4:=s4 _ _ hW
  refine kz (RJ H4 a R W y3 h rp y (((ws.take h).filterMap id).filterMap Od.title)) ?_ (fun key => ?_)
  rotate_left
  ·refine jr (fun b Hc=>Hc=H4∧(b=true->y3 ≠ .b9)) (fun Qc qc => ?_) (fun Hc hc => ?_) (fun Hc hc=>by obtain⟨rfl, -⟩:=hc;exact key _ _ (RJ.mk x0 none rfl (aT.refl _) (.bad GU)))
   ·refine⟨_,rfl,rfl,_,rfl,i0 (fun z => ?_) (fun z=>qc _ _ ⟨rfl,fun e=>nomatch e⟩)⟩
    exact⟨_,rfl,a,ns,_,rfl,OV.seq Ek,by decide,_,_,rfl,rfl,eu,_,_,rfl,rfl,_,rfl,qc _ _ ⟨rfl,fun _=>z⟩⟩
   obtain⟨rfl,hc⟩:=hc
   cases ht with
   | no=>exact absurd rfl (hc rfl)
   | «at» d AL z wt vl vr l r cu as jS g m =>
    have bz:∀ {Ox l' r' Q3},i5 z Ox l' r' Q3->vx (((ws.take h).filterMap id).filterMap Od.title) ("rule " ++ jM z Ox l' r' Q3):=fun g' => .two (.rule z _ _ _ _) g' rfl z rfl (by rw[tt1];exact m)
    have rl:∀ {Ox l' r' Q3},i5 z Ox l' r' Q3->("rule " : Str).length+(jM z Ox l' r' Q3).length<=sizeLine:=fun g'=>by
     have:=(bz g').no.1
     rw[au]at this
     exact a9 this (by decide)
    refine⟨_,rfl,_,rfl,a,ns,_,rfl,OV.seq Ek,by decide,BA.mk a ns _ 0 rfl (OV.seq Ek) fun d2 wt2 vl2 vr2 l2 r2 AL2 afd as2 H5 s5 Mz Kj g2 => ?_⟩
    dsimp only[bc]
    have g2:=RR g2 g.ok.1
    have IK:=OV.trans s5
    refine⟨_,rfl,pC.mk d AL z wt vl vr l r cu as rfl (jS.same IK) g fun H6 s6=>⟨_,_,rfl,rfl,rl g,?_⟩⟩
    dsimp only[bc]
    have UR:=IK.trans s6
    refine⟨_,rfl,a,ns,_,rfl,UR.seq Ek,by decide,_,_,rfl,rfl,eu,rfl,_,rfl,aY (fun _ => ?_) (fun _=>key _ _ (RJ.mk _ (some (.ref d2)) rfl (s5.trans s6) (bz g)))⟩
    have hd6:=(jS.same UR).hd
    have aa3:=Kj.same s6
    have NW:=aa3.hd
    refine⟨_,rfl,d,_,0,_,rfl,rfl,aU.of hd6,ax (j:=0) rfl,_,rfl,d2,_,1,_,rfl,rfl,aU.of NW,ax (j:=1) rfl,_,rfl,d2,_,2,_,rfl,rfl,aU.of NW,ax (j:=2) rfl,_,rfl,d2,_,3,_,rfl,rfl,aU.of NW,ax (j:=3) rfl,_,rfl,d2,_,4,_,rfl,rfl,aU.of NW,ax (j:=4) rfl,(show 5<=sizeLine by decide),fun d3 hd3 => ?_⟩
    have s7:=aD hd3 (.tup [.str z,.int wt2,vl2,vr2,.ref AL2])
    have N6:=aa3.same s7
    refine pC.mk d3 AL2 z wt2 vl2 vr2 l2 r2 afd as2 rfl ⟨av,N6.hl,N6.hr,N6.hA,N6.hp⟩ g2 fun H8 s8=>⟨_,_,rfl,rfl,rl g2,?_⟩
    dsimp only[bc]
    exact key _ _ (RJ.mk _ (some (.ref d2)) rfl (s5.trans (s6.trans (s7.trans s8))) (bz g2))
  rintro bC H5 ⟨x,y8,rfl,s5,hb⟩
  have IK:=OV.trans s5
  have Vu:=s5 _ _ hW4
  have Vq:h<=((ws.map rS).map V.str).length:=by rw[aA,aA];exact hh
  have ew:∀ (l:List Str) (p:Addr) (Hx:Hp),Hx p=none->aT H5 Hx->aT H5 (aO Hx p (.lst (l.map V.str))):=fun l p Hx hp s=>s.trans (aD hp _)
  refine⟨_,rfl,_,rfl,_,rfl,W,_,rfl,b6.of Vu,fun p1 dn => ?_⟩
  rw[TY Vq, <- y6]
  have t1:=aD dn (.lst (((ws.map rS).take h).map V.str))
  have hq1:=av (H:=H5) (a:=p1) (o := .lst (((ws.map rS).take h).map V.str))
  generalize aO H5 p1 (.lst (((ws.map rS).take h).map V.str))=H6 at t1 hq1 ⊢
  refine⟨_,rfl,(show 1<=sizeLine by decide),fun p2 i3 => ?_⟩
  have t2:=aD i3 (.lst [.str x])
  have hq2:=av (H:=H6) (a:=p2) (o := .lst [.str x])
  have Z8:=t2 _ _ hq1
  generalize aO H6 p2 (.lst [.str x])=H7 at t2 hq2 Z8 ⊢
  have big:(10000000:Nat)<=sizeLine:=by decide
  refine⟨p1,p2,_,_,rfl,rfl,Z8,hq2,?_,fun p3 mw => ?_⟩
  ·rw[aA,eA,aA];show _+1<=_;omega
  have t3:=aD mw (.lst (((ws.map rS).take h).map V.str ++ [.str x]))
  have hq3:=av (H:=H7) (a:=p3) (o := .lst (((ws.map rS).take h).map V.str ++ [.str x]))
  generalize aO H7 p3 (.lst (((ws.map rS).take h).map V.str ++ [.str x]))=H8 at t3 hq3 ⊢
  have s8:=t1.trans (t2.trans t3)
  refine⟨_,rfl,_,rfl,_,rfl,W,_,rfl,b6.of (s8 _ _ Vu),fun p4 u7 => ?_⟩
  rw[TZ Vq, <- List.map_drop]
  have t4:=aD u7 (.lst (((ws.map rS).drop h).map V.str))
  have hq4:=av (H:=H8) (a:=p4) (o := .lst (((ws.map rS).drop h).map V.str))
  have Z7:=t4 _ _ hq3
  generalize aO H8 p4 (.lst (((ws.map rS).drop h).map V.str))=H9 at t4 hq4 Z7 ⊢
  refine⟨p3,p4,_,_,rfl,rfl,Z7,hq4,?_,fun S hS9 => ?_⟩
  ·rw[aM,aA,eA,aA,aA,dN,aA];show _+1+_<=_;omega
  dsimp only[bc]
  have ez:((ws.map rS).take h).map V.str ++ [.str x] ++ ((ws.map rS).drop h).map V.str=((ws.map rS).take h ++ [x] ++ (ws.map rS).drop h).map V.str:=by rw[df,df];rfl
  rw[ez]
  have t5:=aD hS9 (.lst (((ws.map rS).take h ++ [x] ++ (ws.map rS).drop h).map V.str))
  have Vm:=av (H:=H9) (a:=S) (o := .lst (((ws.map rS).take h ++ [x] ++ (ws.map rS).drop h).map V.str))
  have s9:=IK.trans (s8.trans t4)
  have si:=s9.trans t5
  have TL:=(s8.trans (t4.trans t5)) _ _ Vu
  generalize aO H9 S (.lst (((ws.map rS).take h ++ [x] ++ (ws.map rS).drop h).map V.str))=KP at t5 Vm si TL ⊢
  refine kz (VX H2 a R W S y3 h rp y x y8 ws) ?_ (fun key => ?_)
  rotate_left
  ·have hWS:W≠S:=dC ((s8.trans t4) _ _ Vu) hS9
   refine⟨_,rfl,a,ns,_,rfl,si.seq Ek,by decide,_,_,rfl,rfl,eu,rfl,_,rfl,aY (fun _ => ?_) (fun _=>key _ _ (VX.mk [] rfl si TL (by rw[dh];exact Vm) (bA _) (fun u hu=>nomatch hu)))⟩
   refine⟨_,rfl,.inl ⟨rfl,_,b6.of Vm⟩,_,rfl,a,ns,_,rfl,si.seq Ek,by decide,HY.mk _ rfl fun u hu RG zI=>⟨S,_,_,rfl,rfl,zI _ _ Vm,gP ?_,key _ _ (VX.mk [u] rfl ((si.trans zI).put (s9.free hS9)) (by rw[bh hWS];exact zI _ _ TL) ?_ (aB _) fun v hv=>by rw[bI.mp hv];exact hu)⟩⟩
   ·rw[<- ez,aM,aM,aA,eA,aA,aA,dN,aA];show _+1+_<=_;omega
   ·rw[av];simp only[df];rfl
  rintro bC RG ⟨us,rfl,adR,aeS,aaH,hu,Vk⟩
  obtain⟨Yz,rl1,rl2,rl3⟩:=R7 hh gw (by omega) ndh hb hu Vk
  generalize (ws.map rS).take h ++ [x] ++ (ws.map rS).drop h ++ us=zs at aaH Yz rl2 rl3
  have ahA:=Yz.h2
  refine⟨(show 2<=sizeLine by decide),fun T hT=>⟨T,rfl,⟨_,aU.of av⟩,?_⟩⟩
  have UN:=aD hT (.tup [.bl false,.bl true])
  have aaF:=av (H:=RG) (a:=T) (o := .tup [.bl false,.bl true])
  generalize aO RG T (.tup [.bl false,.bl true])=H12 at UN aaF ⊢
  refine By (xs := [.bl false,.bl true]) (Wb H12 a R W S y3 h rp y x y8) (Wb.mk none none rfl (aT.refl _)) (fun i σ H' _ hP=>by obtain⟨_,_,_,s⟩:=hP;exact aU.of (s _ _ aaF)) ?_ ?_
  ·rintro i b σ H' oG ⟨X5,X4,rfl,LP⟩
   obtain⟨b,rfl⟩:∃ b',b=V.bl b':=by
    match i,oG with
    | 0,e=>exact⟨false,(bD e).symm⟩
    | 1,e=>exact⟨true,(bD e).symm⟩
   dsimp only[bc]
   refine⟨rfl,_,rfl, "\n",S,zs,rfl,rfl,b6.of ((UN.trans LP) _ _ aaH),?_,?_⟩
   ·have e:("\n" : Str).length=1:=rfl
    rw[e]
    omega
   rw[Md]
   refine⟨_,rfl,AN.mk zs (ws.take h) b rfl Yz (by rw[rl1];exact rl2) fun Fo Wa s14 hF => ?_⟩
   dsimp only[bc]
   rw[rl1]at hF
   refine⟨_,rfl,_,_,_,true,rfl,.tup hF,Zz,_,rfl,eW ?_⟩
   refine⟨_,rfl,_,rfl,Fo,_,rfl,aU.of hF,(show ¬ (HT.dG 4 0 none=0∧HT.dG 4 4 (some 3)=4) by decide),fun p5 oF=>⟨(show 3<=sizeLine by decide),fun p6 Ef => ?_⟩⟩
   have t15:=aD oF (.tup [.bl true,.bl true,.bl false])
   have t16:=aD Ef (.tup [.bl true,.bl true,.bl false])
   refine⟨p5,p6, [.bl true,.bl true,.bl false], [.bl true,.bl true,.bl false],rfl,rfl,aU.of (t16 _ _ av),aU.of av,rfl,rfl,_,rfl,?_⟩
   rw[show eqT [.bl true,.bl true,.bl false] [.bl true,.bl true,.bl false]=true by decide +kernel]
   refine eW ?_
   have UU:=t15.trans t16
   have UU:aT Wa (aO (aO Wa p5 (.tup [.bl true,.bl true,.bl false])) p6 (.tup [.bl true,.bl true,.bl false])):=UU
   have Vw:=UU _ _ hF
   have eZ:=LP.trans (s14.trans UU)
   dsimp only[fe]
   show E3 _ _ _ _ _ (aO (aO Wa p5 (.tup [.bl true,.bl true,.bl false])) p6 (.tup [.bl true,.bl true,.bl false]))
   generalize aO (aO Wa p5 (.tup [.bl true,.bl true,.bl false])) p6 (.tup [.bl true,.bl true,.bl false])=H16 at Vw eZ ⊢
   refine⟨_,rfl,Fo,_,3,_,rfl,rfl,aU.of Vw,ax (j:=3) rfl,_,_,_,true,rfl,.int _,ZC,_,rfl,eW ?_⟩
   refine⟨_,rfl,Fo,_,3,_,rfl,rfl,aU.of Vw,ax (j:=3) rfl,_,_,_,false,rfl,.int _,ZD,_,rfl,eW ?_⟩
   refine⟨_,rfl,Fo,_,3,_,rfl,rfl,aU.of Vw,ax (j:=3) rfl,_,rfl,_,_,rfl,rfl,rfl,_,rfl,i0 (fun z=>absurd ?_ z) (fun _=>Wb.mk _ _ rfl eZ)⟩
   exact congrArg V.int (by omega)
  ·rintro σ H13 ⟨X5,X4,rfl,LP⟩
   have LP:=adR.trans (UN.trans LP)
   dsimp only[fe]
   show oS _ _ _ _ _
   have aeR:=(UN.trans (by assumption:aT H12 H13)) _ _ aeS
   have hzl:=xK gw
   refine⟨rfl,_,rfl, "\n",W,ws.map rS,rfl,rfl,b6.of aeR,?_,?_⟩
   ·have e:("\n" : Str).length=1:=rfl
    have:=(Ea (fun s hs=>(hzl s hs).1) (by rw[aA];omega)).2
    rw[e,aA]
    omega
   rw[Md]
   obtain⟨vs,e1,e2,e3,e4⟩:∃ vs:List (Option Od),bw "\n" (vs.map rS)=bw "\n" (ws.map rS)∧vs.filterMap id=ws.filterMap id∧vs ≠ []∧vs.length<=200:=by
    cases ws with
    | nil=>exact⟨[none],rfl,rfl,(fun z=>nomatch z),by decide⟩
    | cons r ws=>exact⟨r :: ws,rfl,rfl,(fun z=>nomatch z),by omega⟩
   rw[<- e1]
   have rf:=O1 e3 (fun o ho=>go o (by rw[<- eo, <- e2];exact eP.mpr ⟨_,ho,rfl⟩)) e4 (by rw[e2,eo];exact ndo)
   refine F3.mk _ vs rfl rf (fun _ FR fvs H17 s17 hFR hfp => ?_) (fun e9=>absurd e9 (by rw[aA];exact fB _))
   dsimp only[bc]
   rw[e2,eo]at hfp
   have hfl:=dw hfp
   have aeT:=(LP.trans s17) _ _ hR
   refine⟨_,rfl,_,_,_,true,rfl,.lst hFR,ZA,_,rfl,gB ?_⟩
   refine⟨_,rfl,FR,_,rfl,.inl (b6.of hFR),_,rfl,R,_,rfl,.inl (b6.of aeT),rfl,?_⟩
   rw[decide_eq_true (by rw[hfl,hol])]
   exact q _
end
end aE
namespace aE
open PySem L2
theorem km {n:Nat}{us:List Value} (h:us.length=n+1):∃ v vs,us=v :: vs∧vs.length=n:=by cases us with | nil=>cases h | cons v vs=>exact⟨v,vs,rfl,Nat.succ.inj h⟩
theorem c7 {fd:FuncData}{ps:List Str} (h:∀ v0:Value,bindArgs fd ⟨[v0], []⟩=pure (ps.zip [v0])):∀ us:List Value,us.length=1->bindArgs fd ⟨us, []⟩=pure (ps.zip us):=fun us h0=>by obtain⟨v0,us,rfl,h1⟩:=km h0;obtain rfl:=dB h1;exact h v0
open PySem L2 Sw
theorem cY {fd:FuncData}{ps:List Str} (h:∀ v0 v1:Value,bindArgs fd ⟨[v0,v1], []⟩=pure (ps.zip [v0,v1])):∀ us:List Value,us.length=2->bindArgs fd ⟨us, []⟩=pure (ps.zip us):=fun us h0=>by obtain⟨v0,us,rfl,h1⟩:=km h0;obtain⟨v1,us,rfl,h2⟩:=km h1;obtain rfl:=dB h2;exact h v0 v1
open PySem L2 Sw
theorem cX {fd:FuncData}{ps:List Str} (h:∀ v0 v1 v2:Value,bindArgs fd ⟨[v0,v1,v2], []⟩=pure (ps.zip [v0,v1,v2])):∀ us:List Value,us.length=3->bindArgs fd ⟨us, []⟩=pure (ps.zip us):=fun us h0=>by obtain⟨v0,us,rfl,h1⟩:=km h0;obtain⟨v1,us,rfl,h2⟩:=km h1;obtain⟨v2,us,rfl,h3⟩:=km h2;obtain rfl:=dB h3;exact h v0 v1 v2
open PySem L2 Sw
theorem cZ {fd:FuncData}{ps:List Str} (h:∀ v0 v1 v2 v3:Value,bindArgs fd ⟨[v0,v1,v2,v3], []⟩=pure (ps.zip [v0,v1,v2,v3])):∀ us:List Value,us.length=4->bindArgs fd ⟨us, []⟩=pure (ps.zip us):=fun us h0=>by obtain⟨v0,us,rfl,h1⟩:=km h0;obtain⟨v1,us,rfl,h2⟩:=km h1;obtain⟨v2,us,rfl,h3⟩:=km h2;obtain⟨v3,us,rfl,h4⟩:=km h3;obtain rfl:=dB h4;exact h v0 v1 v2 v3
open PySem L2 Sw
theorem cW {fd:FuncData}{ps:List Str} (h:∀ v0 v1 v2 v3 v4 v5:Value,bindArgs fd ⟨[v0,v1,v2,v3,v4,v5], []⟩=pure (ps.zip [v0,v1,v2,v3,v4,v5])):∀ us:List Value,us.length=6->bindArgs fd ⟨us, []⟩=pure (ps.zip us):=fun us h0=>by obtain⟨v0,us,rfl,h1⟩:=km h0;obtain⟨v1,us,rfl,h2⟩:=km h1;obtain⟨v2,us,rfl,h3⟩:=km h2;obtain⟨v3,us,rfl,h4⟩:=km h3;obtain⟨v4,us,rfl,h5⟩:=km h4;obtain⟨v5,us,rfl,h6⟩:=km h5;obtain rfl:=dB h6;exact h v0 v1 v2 v3 v4 v5
open PySem L2 Sw
theorem dm {K:aj}{x:Str}{st:Stmt}{ps:List Str}{f:Addr}{oc kV dc pm cd ct:Value}{od an:Option Addr}{sl:Array (Option Value)}{h:Heap}{mg:Str->Option Value} (X:K.In h) (G:h.Ns mainGlobals mg) (a:bp K mainGlobals x=some (some (.ref f))) (l:K.lookup f=some ⟨oc,od,.func (d8 x x (iF st) (dk st) (az st) .none kV dc pm an cd ct),sl⟩) (c:fH K cd x=true) (k:cA K (.ref f)=true) (b:∀ (kV dc pm:Value) (an:Option Addr) (cd ct:Value) (us:List Value),us.length=ps.length->bindArgs (d8 x x (iF st) (dk st) (az st) .none kV dc pm an cd ct) ⟨us, []⟩=pure (ps.zip us)):Def K mg x st ps:=⟨_,_,rb l c k,bG X G a,(rb l c k).binds b⟩
theorem Kk {K:aj}{x:Str}{st:Stmt}{ps:List Str}{f:Addr}{oc kV dc pm cd ct:Value}{od an:Option Addr}{sl:Array (Option Value)}{m:Str}{C:Addr} (a:bj K (.ref C) m=some (some (.ref f))) (l:K.lookup f=some ⟨oc,od,.func (d8 m x (iF st) (dk st) (az st) .none kV dc pm an cd ct),sl⟩) (c:fH K cd x=true) (k:cA K (.ref f)=true) (n:kM K (.ref f)=true) (b:∀ (kV dc pm:Value) (an:Option Addr) (cd ct:Value) (us:List Value),us.length=ps.length->bindArgs (d8 m x (iF st) (dk st) (az st) .none kV dc pm an cd ct) ⟨us, []⟩=pure (ps.zip us)):jG K C m x st ps:=⟨_,_,rb l c k,⟨a,n,k⟩,(rb l c k).binds b⟩
theorem all_mk {l:EB}{w:World}{K:aj}{h:Heap}{mg:Str->Option Value}{fa CU CR f6 VI Qy VH f52 eQ eR bQ jU i4 ic gf iL gA hX:Addr} (X:K.In h) (G:h.Ns mainGlobals mg) (hfa:mg "law" = some (.ref fa))
  {od6 an6 aeb afi aea afh ad9 afg ad8 abv:Option Addr}{sl6 adV adU adT adS:Array (Option Value)}{oc6 kV6 dc6 pm6 cd6 ct6 aef aer ae2 ad7 abg ae9 aee aeq ae1 ad6 abf ae8 aed aep ae0 ad5 abe ae7 aec ZL aa7 YR T4 abb:Value}
  {Yg:Addr}{adP:Value}{adM:Option Addr}{adO:Nat}{adN:Array (Option Value)}{X9:Tok}
  {Hw BF BG Lb K8 EZ E1 Lc Ig K9 La Hy K7 OC OD Ih EY EX EW EV EU ET ES ER EO:Tok}
  {HE HD:Option Addr}{HC HB:Nat}{HA Hz:Array (Option Value)}
  (FZ:bp K mainGlobals "Rule" = some (some (.ref CU)))
  (AJ:bp K mainGlobals "Reader" = some (some (.ref CR)))
  (BD:Def K mg "parts" Fg ["tree"])
  (Gj:Def K mg "knots" Fi ["pattern"])
  (uM:Def K mg "note_holes" tm ["pattern", "found"])
  (Gk:Def K mg "holes" Fj ["pattern"])
  (Bg:Def K mg "is_word" zH ["text"])
  (uL:Def K mg "read_count" tj ["text"])
  (AI:bj K (.ref CR) "__init__" = some (some (.ref f6)))
  (l6:K.lookup f6=some ⟨oc6,od6,.func (d8 "__init__" "Reader.__init__" (iF tq) (dk tq) (az tq) .none kV6 dc6 pm6 an6 cd6 ct6),sl6⟩)
  (c6:fH K cd6 "Reader.__init__" = true)
  (k6:cA K (.ref f6)=true)
  (n6:kM K (.ref f6)=true)
  (Gm:jG K CR "ahead" "Reader.ahead" Fl ["self"])
  (KU:jG K CR "take" "Reader.take" IQ ["self", "wanted"])
  (yE:jG K CR "take_run" "Reader.take_run" xE ["self", "signs"])
  (vU:jG K CR "take_word" "Reader.take_word" vC ["self"])
  (rZ:jG K CR "take_number" "Reader.take_number" rC ["self"])
  (vW:jG K CR "take_arms" "Reader.take_arms" qK ["self", "deep"])
  (vV:jG K CR "take_tree" "Reader.take_tree" qJ ["self", "deep"])
  (uI:Def K mg "read_whole" sY ["reader"])
  (KY:Def K mg "read" IT ["text"])
  (qG:Def K mg "read_pattern" qg ["text"])
  (nE:Def K mg "refuse_patterns" nk ["left", "right"])
  (r8:Def K mg "refuse_asks" rD ["asks", "bound"])
  (FY:bj K (.ref CU) "__init__" = some (some (.ref VI)))
  (Zy:K.lookup VI=some ⟨aef,aeb,.func (d8 "__init__" "Rule.__init__" (iF qf) (dk qf) (az qf) .none aer ae2 ad7 afi abg ae9),adV⟩)
  (c19:fH K abg "Rule.__init__" = true)
  (ZP:cA K (.ref VI)=true)
  (Zl:kM K (.ref VI)=true)
  (vX:Def K mg "show_mask" vD ["mask"])
  (yF:Def K mg "split_at" xF ["text", "sign"])
  (vZ:Def K mg "read_side" vE ["text"])
  (v8:Def K mg "read_mask" vF ["text"])
  (yH:Def K mg "read_ask" xH ["text"])
  (v7:Def K mg "read_rule" qM ["line"])
  (qH:Def K mg "count_within" qi ["text", "low", "high"])
  (wd:Def K mg "read_cost" vH ["rest"])
  (v9:Def K mg "read_grow" vG ["rest"])
  (uK:Def K mg "read_order" tf ["word", "rest"])
  (yG:Def K mg "read_row" xG ["row", "line"])
  (uJ:Def K mg "read_sheet" sZ ["text"])
  (Up:Def K mg "_law_at" R5 ["_law_script", "_law_k"])
  (K2:Def K mg "_law_draw" IW ["_law_cell", "_law_factor", "_law_many"])
  (KS:Def K mg "_law_word" IP ["_law_script", "_law_which"])
  (KZ:Def K mg "_law_leaf" IU ["_law_script", "_law_cell"])
  (K0:Def K mg "_law_knot" IV ["_law_script", "_law_cell", "_law_arms"])
  (Gf:Def K mg "_law_trees" oy ["_law_script", "_law_most"])
  (Gh:Def K mg "_law_shown" Br ["_law_tree"])
  (Gg:Def K mg "_law_sides" Ff ["_law_script", "_law_cell"])
  (K3:Def K mg "_law_asks" IX ["_law_script", "_law_cell"])
  (KW:Def K mg "_law_rule" IS ["_law_script", "_law_cell", "_law_which"])
  (yI:Def K mg "_law_ask_text" xJ ["_law_ask"])
  (vY:Def K mg "_law_rule_text" qL ["_law_rule_here"])
  (Gi:Def K mg "_law_order" Fh ["_law_script", "_law_cell", "_law_trees_here", "_law_titles"])
  (Ot:Def K mg "_law_row" Nr ["_law_order_here"])
  (Du:Def K mg "_law_orders" xI ["_law_script", "_law_trees_here"])
  (Bk:bp K mainGlobals "NoRow" = some (some (.ref bQ)))
  (C1:bj K (.ref bQ) "__init__" = some (some (.ref Qy)))
  (Zx:K.lookup Qy=some ⟨aee,aea,.func (d8 "__init__" "NoRow.__init__" (iF qh) (dk qh) (az qh) .none aeq ae1 ad6 afh abf ae8),adU⟩)
  (c47:fH K abf "NoRow.__init__" = true)
  (ZO:cA K (.ref Qy)=true)
  (Zk:kM K (.ref Qy)=true)
  (a48:bp K mainGlobals "run" = some (some (.ref VH)))
  (Zw:K.lookup VH=some ⟨aed,ad9,.func (d8 "run" "run" (iF Bs) (dk Bs) (az Bs) (.ref Yg) aep ae0 ad5 afg abe ae7),adT⟩)
  (UM:K.lookup Yg=some ⟨adP,adM,.seq #[.int 120 X9] adO,adN⟩)
  (c48:fH K abe "run" = true)
  (ZN:cA K (.ref VH)=true)
  (Ou:Def K mg "_law_bad" Nt ["_law_cell"])
  (Bf:Def K mg "_law_refusal" zG ["_law_problem"])
  (Be:Def K mg "_law_refused" zF ["_law_text", "_law_running"])
  (a52:bp K mainGlobals "law" = some (some (.ref f52)))
  (Zv:K.lookup f52=some ⟨aec,ad8,.func (d8 "law" "law" (iF sA) (dk sA) (az sA) .none ZL aa7 YR abv T4 abb),adS⟩)
  (c52:fH K T4 "law" = true)
  (ZM:cA K (.ref f52)=true)
  (CJ:pF K CU=true)
  (CK:cA K (.ref CU)=true)
  (CI:jv K CU cF=true)
  (CO:iq K CU=true)
  (CG:nA K CU=true)
  (CD:bj K (.ref CU) "__setattr__" = some (some (.builtin "object.__setattr__")))
  (rE:bj K (.ref CU) "title" = some none)
  (qo:bj K (.ref CU) "weight" = some none)
  (tH:bj K (.ref CU) "left" = some none)
  (rF:bj K (.ref CU) "right" = some none)
  (tI:bj K (.ref CU) "asks" = some none)
  (xQ:pF K CR=true)
  (xR:cA K (.ref CR)=true)
  (xP:jv K CR cF=true)
  (xS:iq K CR=true)
  (xO:nA K CR=true)
  (xM:bj K (.ref CR) "__setattr__" = some (some (.builtin "object.__setattr__")))
  (qp:bj K (.ref CR) "text" = some none)
  (lq:bj K (.ref CR) "with_holes" = some none)
  (pd:bj K (.ref CR) "place" = some none)
  (yj:bp K mainGlobals "LETTERS" = some (some (.str "abcdefghijklmnopqrstuvwxyz" OC)))
  (yk:bp K mainGlobals "FIGURES" = some (some (.str "0123456789" OD)))
  (rN:bp K mainGlobals "MASK_SIGNS" = some (some (.str "-0+" Ih)))
  (qv:bp K mainGlobals "MOST_WEIGHT" = some (some (.int 1000000000000 Hw)))
  (my:bp K mainGlobals "MOST_RULE_PARTS" = some (some (.int 12 BF)))
  (mz:bp K mainGlobals "MOST_LEFT_KNOTS" = some (some (.int 3 BG)))
  (ua:bp K mainGlobals "MOST_ASKS" = some (some (.int 4 Lb)))
  (t7:bp K mainGlobals "MOST_MASK" = some (some (.int 7 K8)))
  (pj:bp K mainGlobals "MOST_LETTERS" = some (some (.int 8 EZ)))
  (pk:bp K mainGlobals "MOST_FIGURES" = some (some (.int 60 E1)))
  (ub:bp K mainGlobals "MOST_ARMS" = some (some (.int 4 Lc)))
  (rO:bp K mainGlobals "MOST_PARTS" = some (some (.int 120 Ig)))
  (t8:bp K mainGlobals "MOST_DEEP" = some (some (.int 30 K9)))
  (t9:bp K mainGlobals "MOST_COST" = some (some (.int 1000000000000 La)))
  (qw:bp K mainGlobals "MOST_ROUNDS" = some (some (.int 100 Hy)))
  (tZ:bp K mainGlobals "MOST_SIZE" = some (some (.int 1000 K7)))
  (rM:bp K mainGlobals "PAIR_WORDS" = some (some (.ref gA)))
  (rJ:K.lookup gA=some ⟨.type "tuple",HE,.seq #[.str "tell" EY,.str "same" EX,.str "why" EW] HC,HA⟩)
  (rL:bp K mainGlobals "TREE_WORDS" = some (some (.ref hX)))
  (rH:K.lookup hX=some ⟨.type "tuple",HD,.seq #[.str "put" EV,.str "cheap" EU,.str "shared" ET,.str "sign" ES,.str "names" ER,.str "number" EO] HB,Hz⟩)
  (xo:bp K mainGlobals "NoTree" = some (some (.ref eQ)))
  (xq:rW K eQ [.type "ValueError",.type "Exception",.type "BaseException",.type "object"] "ValueError.__new__" = true)
  (xp:bp K mainGlobals "NoRule" = some (some (.ref eR)))
  (xr:rW K eR [.type "ValueError",.type "Exception",.type "BaseException",.type "object"] "ValueError.__new__" = true)
  (Ic:bp K mainGlobals "Full" = some (some (.ref jU)))
  (EM:bp K mainGlobals "Apart" = some (some (.ref i4)))
  (Cs:bp K mainGlobals "TooBig" = some (some (.ref ic)))
  (zm:bp K mainGlobals "TooWide" = some (some (.ref gf)))
  (vy:bp K mainGlobals "SameError" = some (some (.ref iL)))
  (X7:bj K (.ref bQ) "__class__" = some (some (.builtin "object.__class__")))
  (Uv:bj K (.ref bQ) "__getattribute__" = some (some (.builtin "BaseException.__getattribute__")))
  (Uu:bj K (.ref bQ) "__getattr__" = some none)
  (ZQ:bp K mainGlobals "ValueError" = some none)
  (qq:bY K (.ref bQ) (.ref bQ)=some true)
  (kD:bY K (.ref bQ) (.type "ValueError")=some true)
  (tO:bY K (.ref bQ) (.ref eQ)=some false)
  (tP:bY K (.ref bQ) (.ref eR)=some false)
  (Ab:bY K (.ref bQ) (.ref jU)=some false)
  (wK:bY K (.ref bQ) (.ref i4)=some false)
  (tN:bY K (.ref bQ) (.ref ic)=some false)
  (qX:bY K (.ref bQ) (.ref gf)=some false)
  (Cu:Ke K bQ=true)
  (Ct:(HL K bQ).any (fun cd=>wB cd.mro)=true)
  (C5:iq K bQ=true)
  (Cz:bj K (.ref bQ) "__setattr__" = some (some (.builtin "object.__setattr__")))
  (rG:bj K (.ref bQ) "line" = some none)
  (oa:fG K (.ref eR) (.ref eQ)=some false)
  (n9:fG K (.ref eQ) (.ref eR)=some false)
  (xW:fG K (.ref eQ) (.ref eQ)=some true)
  (CZ:fG K (.ref eR) (.ref eR)=some true)
  (j8:fG K (.ref bQ) (.ref iL)=some true)
  (z0:bp K mainGlobals "len" = some none)
  (z1:bp K mainGlobals "min" = some none)
  (z2:bp K mainGlobals "max" = some none)
  (z3:bp K mainGlobals "sum" = some none)
  (z4:bp K mainGlobals "range" = some none)
  (z5:bp K mainGlobals "enumerate" = some none)
  (z6:bp K mainGlobals "isinstance" = some none)
  (z7:bp K mainGlobals "tuple" = some none)
  (z8:bp K mainGlobals "int" = some none)
  (z9:bp K mainGlobals "bool" = some none)
  (X3:bp K mainGlobals "str" = some none)
  (X1:bp K mainGlobals "list" = some none) :
  ∃ fd:FuncData,(∀ (s:Shared) (v:Value),BindsTo s fd ⟨[v], []⟩ [("_law_script",v)])∧∀ base:Heap,K.In base->base.Ns mainGlobals mg->jF l.prog w K mg base oM 73 fa fd ["_law_script"] (HR K):=by
 have e:=hfa.symm.trans (bG X G a52)
 cases e
 have B:hJ mg:=⟨du X G z0,du X G z1,du X G z2,du X G z3,du X G z4,du X G z5,du X G z6,du X G z7,du X G z8,du X G z9,du X G X3,du X G X1⟩
 have T3:pP K CU:=⟨CI,CO,CG,CD⟩
 have Ob:pP K CR:=⟨xP,xS,xO,xM⟩
 have jn:∃ t,mg "LETTERS" = some (.str "abcdefghijklmnopqrstuvwxyz" t):=⟨_,bG X G yj⟩
 have iS:∃ t,mg "FIGURES" = some (.str "0123456789" t):=⟨_,bG X G yk⟩
 have kI:∃ t,mg "MASK_SIGNS" = some (.str "-0+" t):=⟨_,bG X G rN⟩
 have jJ:∃ t,mg "MOST_WEIGHT" = some (.int 1000000000000 t):=⟨_,bG X G qv⟩
 have fW:∃ t,mg "MOST_RULE_PARTS" = some (.int 12 t):=⟨_,bG X G my⟩
 have ip:∃ t,mg "MOST_LEFT_KNOTS" = some (.int 3 t):=⟨_,bG X G mz⟩
 have lS:∃ t,mg "MOST_ASKS" = some (.int 4 t):=⟨_,bG X G ua⟩
 have lP:∃ t,mg "MOST_MASK" = some (.int 7 t):=⟨_,bG X G t7⟩
 have eX:∃ t,mg "MOST_LETTERS" = some (.int 8 t):=⟨_,bG X G pj⟩
 have fR:∃ t,mg "MOST_FIGURES" = some (.int 60 t):=⟨_,bG X G pk⟩
 have lT:∃ t,mg "MOST_ARMS" = some (.int 4 t):=⟨_,bG X G ub⟩
 have kH:∃ t,mg "MOST_PARTS" = some (.int 120 t):=⟨_,bG X G rO⟩
 have lQ:∃ t,mg "MOST_DEEP" = some (.int 30 t):=⟨_,bG X G t8⟩
 have vR:∃ t,mg "MOST_COST" = some (.int 1000000000000 t):=⟨_,bG X G t9⟩
 have rP:∃ t,mg "MOST_ROUNDS" = some (.int 100 t):=⟨_,bG X G qw⟩
 have vQ:∃ t,mg "MOST_SIZE" = some (.int 1000 t):=⟨_,bG X G tZ⟩
 have ud:=bG X G rM
 have Jf:∀ H:Hp,aU K H gA [.str "tell",.str "same",.str "why"]:=fun H => .inr ⟨_,_,_,rJ,rfl,rfl,(show 3<=sizeLine by decide),.cons ⟨_,rfl⟩ (.cons ⟨_,rfl⟩ (.cons ⟨_,rfl⟩ (.nil)))⟩
 have uc:=bG X G rL
 have Je:∀ H:Hp,aU K H hX [.str "put",.str "cheap",.str "shared",.str "sign",.str "names",.str "number"]:=fun H => .inr ⟨_,_,_,rH,rfl,rfl,(show 6<=sizeLine by decide),.cons ⟨_,rfl⟩ (.cons ⟨_,rfl⟩ (.cons ⟨_,rfl⟩ (.cons ⟨_,rfl⟩ (.cons ⟨_,rfl⟩ (.cons ⟨_,rfl⟩ (.nil))))))⟩
 have eK:Exc K mg "NoTree" eQ:=⟨bG X G xo,xq⟩
 have d9:Exc K mg "NoRule" eR:=⟨bG X G xp,xr⟩
 have qS:uH K mg "NoRow" bQ Qy:=⟨bG X G Bk,Cu,⟨Ct,C5,Cz,Uv,Uu,C1,beq_iff_eq.mp Zk⟩,⟨X7,Uv,Uu⟩⟩
 have Y:Oq K mg eQ eR bQ jU i4 ic gf iL:=⟨bG X G xo,bG X G xp,bG X G Bk,bG X G Ic,bG X G EM,bG X G Cs,bG X G zm,bG X G vy,du X G ZQ,rG,qq,kD,tO,tP,Ab,wK,tN,qX,j8⟩
 have RH:=rb (st:=tq) l6 c6 k6
 have HM:yD K mg "Reader" CR "Reader.__init__" tq ["self", "text", "with_holes"]:=⟨_,_,RH,bG X G AJ,⟨xQ,AI,n6,xR⟩,RH.binds fun _ _ _ _ _ _ us hl=>cX (fun _ _ _=>rfl) us hl⟩
 have M8:=rb (st:=qf) Zy c19 ZP
 have Lp:yD K mg "Rule" CU "Rule.__init__" qf ["self", "title", "weight", "left", "right", "asks"]:=⟨_,_,M8,bG X G FZ,⟨CJ,FY,Zl,CK⟩,M8.binds fun _ _ _ _ _ _ us hl=>cW (fun _ _ _ _ _ _=>rfl) us hl⟩
 have M9:=rb (st:=qh) Zx c47 ZO
 have K1:Dr K mg "NoRow" bQ "NoRow.__init__" qh ["self", "line"]:=⟨_,_,M9,qS,M9.binds fun _ _ _ _ _ _ us hl=>cY (fun _ _=>rfl) us hl⟩
 have acr:Ds K mg "run" Bs ["text", "room"] [.int 120]:=by
  refine⟨VH,_, [.int 120 X9],⟨⟨_,_,_,_,_,_,_,_,_,_,rfl,Zw,c48⟩⟩,bG X G a48,ZN,?_,.cons ⟨_,rfl⟩ (.nil),?_⟩
  ·intro s us KX hl
   have Ca:us.length=1:=by simpa using hl
   match us,Ca with
   | [u0],_=>exact Ez KX rfl UM rfl rfl rfl
  ·intro s us KX hl
   have Ca:us.length=2:=by simpa using hl
   match us,Ca with
   | [u0,u1],_=>exact Ez KX rfl UM rfl rfl rfl
 have acq:=rb (st:=sA) Zv c52 ZM
 refine⟨d8 "law" "law" (iF sA) (dk sA) (az sA) .none ZL aa7 YR abv T4 abb,fun s v => .of_eq rfl,fun base _ _ => ?_⟩
 have Z:yx K mg CU eR:=⟨T3,rE,qo,tH,rF,tI,jn,jJ,fW,ip,lS,lP,eX,d9⟩
 have Z4:qz K mg CR eQ:=⟨Ob,qp,lq,pd,jn,iS,eX,fR,lT,kH,lQ,eK⟩
 have oH:=CQ (P:=l.prog) (w:=w) (mg:=mg) (base:=base) BD 14
 have Qm:=CQ (P:=l.prog) (w:=w) (mg:=mg) (base:=base) BD 30
 have wR:=Jx (P:=l.prog) (w:=w) (mg:=mg) (base:=base) Gj 14
 have mx:=yP (P:=l.prog) (w:=w) (mg:=mg) (base:=base) uM 14
 have qt:=SW B mx Gk
 have jQ:=NJ (P:=l.prog) (w:=w) (base:=base) B Z Bg
 have nq:=zT B Z oH wR qt nE
 have rK:=Fx B Z jQ r8
 have vP:=SS B Z jQ nq rK qt Lp
 have jI:=Xk (P:=l.prog) (w:=w) (base:=base) Z4 HM
 have gR:=SX (P:=l.prog) (w:=w) (base:=base) Z4 Gm
 have lI:=Xe (P:=l.prog) (w:=w) (base:=base) B Z4 KU
 have Ql:=Za (P:=l.prog) (w:=w) (base:=base) B Z4 yE
 have XF:=SO B Z4 Ql vU
 have aaC:=NI B Z4 gR Ql rZ
 have aaB:=L6 B Z4 gR lI XF aaC vW vV 30
 have Mt:=SN Z4 (fun b l t r h=>(CP b 30 l t r h).1.2.1) gR aaB Qm uI
 have XG:=DX Z4 jI Mt qG
 have vK:=Jq (P:=l.prog) (w:=w) (base:=base) B kI vX
 have pf:=Lf (P:=l.prog) (w:=w) (base:=base) B Z yF
 have kG:=HI (P:=l.prog) (w:=w) (base:=base) B iS fR uL
 have vM:=Ju B kI vK v8
 have yh:=Lh B vM yH
 have qO:=Js B Z eK.glob xW XG vZ
 have vL:=Jt B Z pf kG yh qO vP v7
 have qu:=ab4 (P:=l.prog) (w:=w) (base:=base) B Up
 have de:=Xl (P:=l.prog) (w:=w) (mg:=mg) (base:=base) K2
 have fN:=Xd qu KS
 have JY:=Xi de fN KZ
 have JZ:=Xj B de fN K0
 have FG:=SQ B de JY JZ Gf
 have kF:=Jp (P:=l.prog) (w:=w) (base:=base) B Gh 14
 have FH:=SR de fN Gg
 have J0:=Xm B de fN K3
 have wQ:=Xg B fN FH J0 KW
 have yi:=Li (P:=l.prog) (w:=w) (base:=base) B yI
 have j9:=Jr B kF yi vY
 have FJ:=SU B de fN wQ Gi
 have N1:=Zb B j9 kF Ot
 have C4:=Pu B FJ Du
 have Am:=Xh Z4 jI Mt KY
 have iE:=DY B kG qH
 have vO:=Jw B vR jQ iE wd
 have vN:=Jv B rP vQ iE v9
 have tX:=HH B ud uc Jf Je vL vO vN Am uK
 have Mu:=SV (P:=l.prog) (w:=w) (base:=base) Y.nL K1
 have yg:=Lg B d9.glob eK.glob (aaZ CZ oa) (aaZ n9 xW) Mu tX yG
 have ib:=HG B Z Mu yg uJ
 have N0:=Xf ib acr
 have HV:=Zd B de Ou
 have Ak:=NH (P:=l.prog) (w:=w) (base:=base) B qS Y Bf
 have Aj:=NG Y Ak N0 ib Be
 exact Zc B de FG C4 qu N1 wQ j9 HV Aj ib acq
theorem walk {l:EB}{q:Program}{loose:List Str}{XP:(Str->Option Value)->Heap->Prop}{YP:World->Heap->Prop}{d:DefRec}{K:Params->aj} (hn:l.most=some 63) (hdf:d.params.defaults = [])
  (hY:∀ (w:World) (h:Heap),YP w h->(K w.params).In h)
  (F:∀ (w:World) (mg:Str->Option Value) (fa:Addr) (h:Heap),(K w.params).In h->h.Ns mainGlobals mg->mg d.name=some (.ref fa) ->
   ∃ fd:FuncData,(∀ (s:Shared) (u:Value),BindsTo s fd ⟨[u], []⟩ [("_law_script",u)])∧∀ base:Heap,(K w.params).In base->base.Ns mainGlobals mg->jF l.prog w (K w.params) mg base oM 73 fa fd ["_law_script"] (HR (K w.params))) :
  PySem.W.WalkO q loose XP YP l.row.toRowW d [] (fun f vs=>PySem.call f vs) :=
 L2.RM (n:=63) (k:=73) (x := "_law_script") (CX:=fun _=>oM) (sp:=fun w=>HR (K w.params)) hn (by decide) hdf ⟨rfl,by decide,by decide⟩ hY F (fun _ _ a ns hl hb hS=>⟨a,ns,rfl,hS,hl,hb,fun _=>rfl⟩) fun _ _ _ _ _ z=>z
end aE
end
open PySem PySem.W PyProof.Rows
set_option maxRecDepth 100000 in
set_option maxHeartbeats 0 in
theorem PySem.Challenge.cw_samewise_k72_rows_refused_holds : PySem.Challenge.rw_samewise_k72_rows_refused.Holds := by
 refine KHd.top ?_
 k_fill
 refine aE.walk (l:=PySem.Challenge.rw_samewise_k72_rows_refused) rfl rfl (fun w h Y=>PySem.W.km_in_of Y) ?F
 case F =>
  intro w mg fa h KX G hmg
  refine' aE.all_mk KX G hmg ?FZ ?AJ ?BD ?Gj ?uM ?Gk ?Bg ?uL ?AI ?l6 ?c6 ?k6 ?n6 ?Gm ?KU ?yE ?vU ?rZ ?vW ?vV ?uI ?KY ?qG ?nE ?r8 ?FY ?Zy ?c19 ?ZP ?Zl ?vX ?yF ?vZ ?v8 ?yH ?v7 ?qH ?wd ?v9 ?uK ?yG ?uJ ?Up ?K2 ?KS ?KZ ?K0 ?Gf ?Gh ?Gg ?K3 ?KW ?yI ?vY ?Gi ?Ot ?Du ?Bk ?C1 ?Zx ?c47 ?ZO ?Zk ?a48 ?Zw ?UM ?c48 ?ZN ?Ou ?Bf ?Be ?a52 ?Zv ?c52 ?ZM ?CJ ?CK ?CI ?CO ?CG ?CD ?rE ?qo ?tH ?rF ?tI ?xQ ?xR ?xP ?xS ?xO ?xM ?qp ?lq ?pd ?yj ?yk ?rN ?qv ?my ?mz ?ua ?t7 ?pj ?pk ?ub ?rO ?t8 ?t9 ?qw ?tZ ?rM ?rJ ?rL ?rH ?xo ?xq ?xp ?xr ?Ic ?EM ?Cs ?zm ?vy ?X7 ?Uv ?Uu ?ZQ ?qq ?kD ?tO ?tP ?Ab ?wK ?tN ?qX ?Cu ?Ct ?C5 ?Cz ?rG ?oa ?n9 ?xW ?CZ ?j8 ?z0 ?z1 ?z2 ?z3 ?z4 ?z5 ?z6 ?z7 ?z8 ?z9 ?X3 ?X1
  (case FZ=>k_is)
  (case AJ=>k_is)
  (case BD=>(refine' aE.dm KX G ?a ?l ?c ?k ?b; (case a=>k_is); (case l=>k_is); (case c=>k_is); (case k=>k_is); (case b=>(intro _ _ _ _ _ _ us hl;first | exact aE.c7 (fun _=>rfl) us hl | exact aE.cY (fun _ _=>rfl) us hl | exact aE.cX (fun _ _ _=>rfl) us hl | exact aE.cZ (fun _ _ _ _=>rfl) us hl | exact aE.cW (fun _ _ _ _ _ _=>rfl) us hl))))
  (case Gj=>(refine' aE.dm KX G ?a ?l ?c ?k ?b; (case a=>k_is); (case l=>k_is); (case c=>k_is); (case k=>k_is); (case b=>(intro _ _ _ _ _ _ us hl;first | exact aE.c7 (fun _=>rfl) us hl | exact aE.cY (fun _ _=>rfl) us hl | exact aE.cX (fun _ _ _=>rfl) us hl | exact aE.cZ (fun _ _ _ _=>rfl) us hl | exact aE.cW (fun _ _ _ _ _ _=>rfl) us hl))))
  (case uM=>(refine' aE.dm KX G ?a ?l ?c ?k ?b; (case a=>k_is); (case l=>k_is); (case c=>k_is); (case k=>k_is); (case b=>(intro _ _ _ _ _ _ us hl;first | exact aE.c7 (fun _=>rfl) us hl | exact aE.cY (fun _ _=>rfl) us hl | exact aE.cX (fun _ _ _=>rfl) us hl | exact aE.cZ (fun _ _ _ _=>rfl) us hl | exact aE.cW (fun _ _ _ _ _ _=>rfl) us hl))))
  (case Gk=>(refine' aE.dm KX G ?a ?l ?c ?k ?b; (case a=>k_is); (case l=>k_is); (case c=>k_is); (case k=>k_is); (case b=>(intro _ _ _ _ _ _ us hl;first | exact aE.c7 (fun _=>rfl) us hl | exact aE.cY (fun _ _=>rfl) us hl | exact aE.cX (fun _ _ _=>rfl) us hl | exact aE.cZ (fun _ _ _ _=>rfl) us hl | exact aE.cW (fun _ _ _ _ _ _=>rfl) us hl))))
  (case Bg=>(refine' aE.dm KX G ?a ?l ?c ?k ?b; (case a=>k_is); (case l=>k_is); (case c=>k_is); (case k=>k_is); (case b=>(intro _ _ _ _ _ _ us hl;first | exact aE.c7 (fun _=>rfl) us hl | exact aE.cY (fun _ _=>rfl) us hl | exact aE.cX (fun _ _ _=>rfl) us hl | exact aE.cZ (fun _ _ _ _=>rfl) us hl | exact aE.cW (fun _ _ _ _ _ _=>rfl) us hl))))
  (case uL=>(refine' aE.dm KX G ?a ?l ?c ?k ?b; (case a=>k_is); (case l=>k_is); (case c=>k_is); (case k=>k_is); (case b=>(intro _ _ _ _ _ _ us hl;first | exact aE.c7 (fun _=>rfl) us hl | exact aE.cY (fun _ _=>rfl) us hl | exact aE.cX (fun _ _ _=>rfl) us hl | exact aE.cZ (fun _ _ _ _=>rfl) us hl | exact aE.cW (fun _ _ _ _ _ _=>rfl) us hl))))
  (case AI=>k_is)
  (case l6=>k_is)
  (case c6=>k_is)
  (case k6=>k_is)
  (case n6=>k_is)
  (case Gm=>(refine' aE.Kk ?a ?l ?c ?k ?n ?b; (case a=>k_is); (case l=>k_is); (case c=>k_is); (case k=>k_is); (case n=>k_is); (case b=>(intro _ _ _ _ _ _ us hl;first | exact aE.c7 (fun _=>rfl) us hl | exact aE.cY (fun _ _=>rfl) us hl | exact aE.cX (fun _ _ _=>rfl) us hl | exact aE.cZ (fun _ _ _ _=>rfl) us hl | exact aE.cW (fun _ _ _ _ _ _=>rfl) us hl))))
  (case KU=>(refine' aE.Kk ?a ?l ?c ?k ?n ?b; (case a=>k_is); (case l=>k_is); (case c=>k_is); (case k=>k_is); (case n=>k_is); (case b=>(intro _ _ _ _ _ _ us hl;first | exact aE.c7 (fun _=>rfl) us hl | exact aE.cY (fun _ _=>rfl) us hl | exact aE.cX (fun _ _ _=>rfl) us hl | exact aE.cZ (fun _ _ _ _=>rfl) us hl | exact aE.cW (fun _ _ _ _ _ _=>rfl) us hl))))
  (case yE=>(refine' aE.Kk ?a ?l ?c ?k ?n ?b; (case a=>k_is); (case l=>k_is); (case c=>k_is); (case k=>k_is); (case n=>k_is); (case b=>(intro _ _ _ _ _ _ us hl;first | exact aE.c7 (fun _=>rfl) us hl | exact aE.cY (fun _ _=>rfl) us hl | exact aE.cX (fun _ _ _=>rfl) us hl | exact aE.cZ (fun _ _ _ _=>rfl) us hl | exact aE.cW (fun _ _ _ _ _ _=>rfl) us hl))))
  (case vU=>(refine' aE.Kk ?a ?l ?c ?k ?n ?b; (case a=>k_is); (case l=>k_is); (case c=>k_is); (case k=>k_is); (case n=>k_is); (case b=>(intro _ _ _ _ _ _ us hl;first | exact aE.c7 (fun _=>rfl) us hl | exact aE.cY (fun _ _=>rfl) us hl | exact aE.cX (fun _ _ _=>rfl) us hl | exact aE.cZ (fun _ _ _ _=>rfl) us hl | exact aE.cW (fun _ _ _ _ _ _=>rfl) us hl))))
  (case rZ=>(refine' aE.Kk ?a ?l ?c ?k ?n ?b; (case a=>k_is); (case l=>k_is); (case c=>k_is); (case k=>k_is); (case n=>k_is); (case b=>(intro _ _ _ _ _ _ us hl;first | exact aE.c7 (fun _=>rfl) us hl | exact aE.cY (fun _ _=>rfl) us hl | exact aE.cX (fun _ _ _=>rfl) us hl | exact aE.cZ (fun _ _ _ _=>rfl) us hl | exact aE.cW (fun _ _ _ _ _ _=>rfl) us hl))))
  (case vW=>(refine' aE.Kk ?a ?l ?c ?k ?n ?b; (case a=>k_is); (case l=>k_is); (case c=>k_is); (case k=>k_is); (case n=>k_is); (case b=>(intro _ _ _ _ _ _ us hl;first | exact aE.c7 (fun _=>rfl) us hl | exact aE.cY (fun _ _=>rfl) us hl | exact aE.cX (fun _ _ _=>rfl) us hl | exact aE.cZ (fun _ _ _ _=>rfl) us hl | exact aE.cW (fun _ _ _ _ _ _=>rfl) us hl))))
  (case vV=>(refine' aE.Kk ?a ?l ?c ?k ?n ?b; (case a=>k_is); (case l=>k_is); (case c=>k_is); (case k=>k_is); (case n=>k_is); (case b=>(intro _ _ _ _ _ _ us hl;first | exact aE.c7 (fun _=>rfl) us hl | exact aE.cY (fun _ _=>rfl) us hl | exact aE.cX (fun _ _ _=>rfl) us hl | exact aE.cZ (fun _ _ _ _=>rfl) us hl | exact aE.cW (fun _ _ _ _ _ _=>rfl) us hl))))
  (case uI=>(refine' aE.dm KX G ?a ?l ?c ?k ?b; (case a=>k_is); (case l=>k_is); (case c=>k_is); (case k=>k_is); (case b=>(intro _ _ _ _ _ _ us hl;first | exact aE.c7 (fun _=>rfl) us hl | exact aE.cY (fun _ _=>rfl) us hl | exact aE.cX (fun _ _ _=>rfl) us hl | exact aE.cZ (fun _ _ _ _=>rfl) us hl | exact aE.cW (fun _ _ _ _ _ _=>rfl) us hl))))
  (case KY=>(refine' aE.dm KX G ?a ?l ?c ?k ?b; (case a=>k_is); (case l=>k_is); (case c=>k_is); (case k=>k_is); (case b=>(intro _ _ _ _ _ _ us hl;first | exact aE.c7 (fun _=>rfl) us hl | exact aE.cY (fun _ _=>rfl) us hl | exact aE.cX (fun _ _ _=>rfl) us hl | exact aE.cZ (fun _ _ _ _=>rfl) us hl | exact aE.cW (fun _ _ _ _ _ _=>rfl) us hl))))
  (case qG=>(refine' aE.dm KX G ?a ?l ?c ?k ?b; (case a=>k_is); (case l=>k_is); (case c=>k_is); (case k=>k_is); (case b=>(intro _ _ _ _ _ _ us hl;first | exact aE.c7 (fun _=>rfl) us hl | exact aE.cY (fun _ _=>rfl) us hl | exact aE.cX (fun _ _ _=>rfl) us hl | exact aE.cZ (fun _ _ _ _=>rfl) us hl | exact aE.cW (fun _ _ _ _ _ _=>rfl) us hl))))
  (case nE=>(refine' aE.dm KX G ?a ?l ?c ?k ?b; (case a=>k_is); (case l=>k_is); (case c=>k_is); (case k=>k_is); (case b=>(intro _ _ _ _ _ _ us hl;first | exact aE.c7 (fun _=>rfl) us hl | exact aE.cY (fun _ _=>rfl) us hl | exact aE.cX (fun _ _ _=>rfl) us hl | exact aE.cZ (fun _ _ _ _=>rfl) us hl | exact aE.cW (fun _ _ _ _ _ _=>rfl) us hl))))
  (case r8=>(refine' aE.dm KX G ?a ?l ?c ?k ?b; (case a=>k_is); (case l=>k_is); (case c=>k_is); (case k=>k_is); (case b=>(intro _ _ _ _ _ _ us hl;first | exact aE.c7 (fun _=>rfl) us hl | exact aE.cY (fun _ _=>rfl) us hl | exact aE.cX (fun _ _ _=>rfl) us hl | exact aE.cZ (fun _ _ _ _=>rfl) us hl | exact aE.cW (fun _ _ _ _ _ _=>rfl) us hl))))
  (case FY=>k_is)
  (case Zy=>k_is)
  (case c19=>k_is)
  (case ZP=>k_is)
  (case Zl=>k_is)
  (case vX=>(refine' aE.dm KX G ?a ?l ?c ?k ?b; (case a=>k_is); (case l=>k_is); (case c=>k_is); (case k=>k_is); (case b=>(intro _ _ _ _ _ _ us hl;first | exact aE.c7 (fun _=>rfl) us hl | exact aE.cY (fun _ _=>rfl) us hl | exact aE.cX (fun _ _ _=>rfl) us hl | exact aE.cZ (fun _ _ _ _=>rfl) us hl | exact aE.cW (fun _ _ _ _ _ _=>rfl) us hl))))
  (case yF=>(refine' aE.dm KX G ?a ?l ?c ?k ?b; (case a=>k_is); (case l=>k_is); (case c=>k_is); (case k=>k_is); (case b=>(intro _ _ _ _ _ _ us hl;first | exact aE.c7 (fun _=>rfl) us hl | exact aE.cY (fun _ _=>rfl) us hl | exact aE.cX (fun _ _ _=>rfl) us hl | exact aE.cZ (fun _ _ _ _=>rfl) us hl | exact aE.cW (fun _ _ _ _ _ _=>rfl) us hl))))
  (case vZ=>(refine' aE.dm KX G ?a ?l ?c ?k ?b; (case a=>k_is); (case l=>k_is); (case c=>k_is); (case k=>k_is); (case b=>(intro _ _ _ _ _ _ us hl;first | exact aE.c7 (fun _=>rfl) us hl | exact aE.cY (fun _ _=>rfl) us hl | exact aE.cX (fun _ _ _=>rfl) us hl | exact aE.cZ (fun _ _ _ _=>rfl) us hl | exact aE.cW (fun _ _ _ _ _ _=>rfl) us hl))))
  (case v8=>(refine' aE.dm KX G ?a ?l ?c ?k ?b; (case a=>k_is); (case l=>k_is); (case c=>k_is); (case k=>k_is); (case b=>(intro _ _ _ _ _ _ us hl;first | exact aE.c7 (fun _=>rfl) us hl | exact aE.cY (fun _ _=>rfl) us hl | exact aE.cX (fun _ _ _=>rfl) us hl | exact aE.cZ (fun _ _ _ _=>rfl) us hl | exact aE.cW (fun _ _ _ _ _ _=>rfl) us hl))))
  (case yH=>(refine' aE.dm KX G ?a ?l ?c ?k ?b; (case a=>k_is); (case l=>k_is); (case c=>k_is); (case k=>k_is); (case b=>(intro _ _ _ _ _ _ us hl;first | exact aE.c7 (fun _=>rfl) us hl | exact aE.cY (fun _ _=>rfl) us hl | exact aE.cX (fun _ _ _=>rfl) us hl | exact aE.cZ (fun _ _ _ _=>rfl) us hl | exact aE.cW (fun _ _ _ _ _ _=>rfl) us hl))))
  (case v7=>(refine' aE.dm KX G ?a ?l ?c ?k ?b; (case a=>k_is); (case l=>k_is); (case c=>k_is); (case k=>k_is); (case b=>(intro _ _ _ _ _ _ us hl;first | exact aE.c7 (fun _=>rfl) us hl | exact aE.cY (fun _ _=>rfl) us hl | exact aE.cX (fun _ _ _=>rfl) us hl | exact aE.cZ (fun _ _ _ _=>rfl) us hl | exact aE.cW (fun _ _ _ _ _ _=>rfl) us hl))))
  (case qH=>(refine' aE.dm KX G ?a ?l ?c ?k ?b; (case a=>k_is); (case l=>k_is); (case c=>k_is); (case k=>k_is); (case b=>(intro _ _ _ _ _ _ us hl;first | exact aE.c7 (fun _=>rfl) us hl | exact aE.cY (fun _ _=>rfl) us hl | exact aE.cX (fun _ _ _=>rfl) us hl | exact aE.cZ (fun _ _ _ _=>rfl) us hl | exact aE.cW (fun _ _ _ _ _ _=>rfl) us hl))))
  (case wd=>(refine' aE.dm KX G ?a ?l ?c ?k ?b; (case a=>k_is); (case l=>k_is); (case c=>k_is); (case k=>k_is); (case b=>(intro _ _ _ _ _ _ us hl;first | exact aE.c7 (fun _=>rfl) us hl | exact aE.cY (fun _ _=>rfl) us hl | exact aE.cX (fun _ _ _=>rfl) us hl | exact aE.cZ (fun _ _ _ _=>rfl) us hl | exact aE.cW (fun _ _ _ _ _ _=>rfl) us hl))))
  (case v9=>(refine' aE.dm KX G ?a ?l ?c ?k ?b; (case a=>k_is); (case l=>k_is); (case c=>k_is); (case k=>k_is); (case b=>(intro _ _ _ _ _ _ us hl;first | exact aE.c7 (fun _=>rfl) us hl | exact aE.cY (fun _ _=>rfl) us hl | exact aE.cX (fun _ _ _=>rfl) us hl | exact aE.cZ (fun _ _ _ _=>rfl) us hl | exact aE.cW (fun _ _ _ _ _ _=>rfl) us hl))))
  (case uK=>(refine' aE.dm KX G ?a ?l ?c ?k ?b; (case a=>k_is); (case l=>k_is); (case c=>k_is); (case k=>k_is); (case b=>(intro _ _ _ _ _ _ us hl;first | exact aE.c7 (fun _=>rfl) us hl | exact aE.cY (fun _ _=>rfl) us hl | exact aE.cX (fun _ _ _=>rfl) us hl | exact aE.cZ (fun _ _ _ _=>rfl) us hl | exact aE.cW (fun _ _ _ _ _ _=>rfl) us hl))))
  (case yG=>(refine' aE.dm KX G ?a ?l ?c ?k ?b; (case a=>k_is); (case l=>k_is); (case c=>k_is); (case k=>k_is); (case b=>(intro _ _ _ _ _ _ us hl;first | exact aE.c7 (fun _=>rfl) us hl | exact aE.cY (fun _ _=>rfl) us hl | exact aE.cX (fun _ _ _=>rfl) us hl | exact aE.cZ (fun _ _ _ _=>rfl) us hl | exact aE.cW (fun _ _ _ _ _ _=>rfl) us hl))))
  (case uJ=>(refine' aE.dm KX G ?a ?l ?c ?k ?b; (case a=>k_is); (case l=>k_is); (case c=>k_is); (case k=>k_is); (case b=>(intro _ _ _ _ _ _ us hl;first | exact aE.c7 (fun _=>rfl) us hl | exact aE.cY (fun _ _=>rfl) us hl | exact aE.cX (fun _ _ _=>rfl) us hl | exact aE.cZ (fun _ _ _ _=>rfl) us hl | exact aE.cW (fun _ _ _ _ _ _=>rfl) us hl))))
  (case Up=>(refine' aE.dm KX G ?a ?l ?c ?k ?b; (case a=>k_is); (case l=>k_is); (case c=>k_is); (case k=>k_is); (case b=>(intro _ _ _ _ _ _ us hl;first | exact aE.c7 (fun _=>rfl) us hl | exact aE.cY (fun _ _=>rfl) us hl | exact aE.cX (fun _ _ _=>rfl) us hl | exact aE.cZ (fun _ _ _ _=>rfl) us hl | exact aE.cW (fun _ _ _ _ _ _=>rfl) us hl))))
  (case K2=>(refine' aE.dm KX G ?a ?l ?c ?k ?b; (case a=>k_is); (case l=>k_is); (case c=>k_is); (case k=>k_is); (case b=>(intro _ _ _ _ _ _ us hl;first | exact aE.c7 (fun _=>rfl) us hl | exact aE.cY (fun _ _=>rfl) us hl | exact aE.cX (fun _ _ _=>rfl) us hl | exact aE.cZ (fun _ _ _ _=>rfl) us hl | exact aE.cW (fun _ _ _ _ _ _=>rfl) us hl))))
  (case KS=>(refine' aE.dm KX G ?a ?l ?c ?k ?b; (case a=>k_is); (case l=>k_is); (case c=>k_is); (case k=>k_is); (case b=>(intro _ _ _ _ _ _ us hl;first | exact aE.c7 (fun _=>rfl) us hl | exact aE.cY (fun _ _=>rfl) us hl | exact aE.cX (fun _ _ _=>rfl) us hl | exact aE.cZ (fun _ _ _ _=>rfl) us hl | exact aE.cW (fun _ _ _ _ _ _=>rfl) us hl))))
  (case KZ=>(refine' aE.dm KX G ?a ?l ?c ?k ?b; (case a=>k_is); (case l=>k_is); (case c=>k_is); (case k=>k_is); (case b=>(intro _ _ _ _ _ _ us hl;first | exact aE.c7 (fun _=>rfl) us hl | exact aE.cY (fun _ _=>rfl) us hl | exact aE.cX (fun _ _ _=>rfl) us hl | exact aE.cZ (fun _ _ _ _=>rfl) us hl | exact aE.cW (fun _ _ _ _ _ _=>rfl) us hl))))
  (case K0=>(refine' aE.dm KX G ?a ?l ?c ?k ?b; (case a=>k_is); (case l=>k_is); (case c=>k_is); (case k=>k_is); (case b=>(intro _ _ _ _ _ _ us hl;first | exact aE.c7 (fun _=>rfl) us hl | exact aE.cY (fun _ _=>rfl) us hl | exact aE.cX (fun _ _ _=>rfl) us hl | exact aE.cZ (fun _ _ _ _=>rfl) us hl | exact aE.cW (fun _ _ _ _ _ _=>rfl) us hl))))
  (case Gf=>(refine' aE.dm KX G ?a ?l ?c ?k ?b; (case a=>k_is); (case l=>k_is); (case c=>k_is); (case k=>k_is); (case b=>(intro _ _ _ _ _ _ us hl;first | exact aE.c7 (fun _=>rfl) us hl | exact aE.cY (fun _ _=>rfl) us hl | exact aE.cX (fun _ _ _=>rfl) us hl | exact aE.cZ (fun _ _ _ _=>rfl) us hl | exact aE.cW (fun _ _ _ _ _ _=>rfl) us hl))))
  (case Gh=>(refine' aE.dm KX G ?a ?l ?c ?k ?b; (case a=>k_is); (case l=>k_is); (case c=>k_is); (case k=>k_is); (case b=>(intro _ _ _ _ _ _ us hl;first | exact aE.c7 (fun _=>rfl) us hl | exact aE.cY (fun _ _=>rfl) us hl | exact aE.cX (fun _ _ _=>rfl) us hl | exact aE.cZ (fun _ _ _ _=>rfl) us hl | exact aE.cW (fun _ _ _ _ _ _=>rfl) us hl))))
  (case Gg=>(refine' aE.dm KX G ?a ?l ?c ?k ?b; (case a=>k_is); (case l=>k_is); (case c=>k_is); (case k=>k_is); (case b=>(intro _ _ _ _ _ _ us hl;first | exact aE.c7 (fun _=>rfl) us hl | exact aE.cY (fun _ _=>rfl) us hl | exact aE.cX (fun _ _ _=>rfl) us hl | exact aE.cZ (fun _ _ _ _=>rfl) us hl | exact aE.cW (fun _ _ _ _ _ _=>rfl) us hl))))
  (case K3=>(refine' aE.dm KX G ?a ?l ?c ?k ?b; (case a=>k_is); (case l=>k_is); (case c=>k_is); (case k=>k_is); (case b=>(intro _ _ _ _ _ _ us hl;first | exact aE.c7 (fun _=>rfl) us hl | exact aE.cY (fun _ _=>rfl) us hl | exact aE.cX (fun _ _ _=>rfl) us hl | exact aE.cZ (fun _ _ _ _=>rfl) us hl | exact aE.cW (fun _ _ _ _ _ _=>rfl) us hl))))
  (case KW=>(refine' aE.dm KX G ?a ?l ?c ?k ?b; (case a=>k_is); (case l=>k_is); (case c=>k_is); (case k=>k_is); (case b=>(intro _ _ _ _ _ _ us hl;first | exact aE.c7 (fun _=>rfl) us hl | exact aE.cY (fun _ _=>rfl) us hl | exact aE.cX (fun _ _ _=>rfl) us hl | exact aE.cZ (fun _ _ _ _=>rfl) us hl | exact aE.cW (fun _ _ _ _ _ _=>rfl) us hl))))
  (case yI=>(refine' aE.dm KX G ?a ?l ?c ?k ?b; (case a=>k_is); (case l=>k_is); (case c=>k_is); (case k=>k_is); (case b=>(intro _ _ _ _ _ _ us hl;first | exact aE.c7 (fun _=>rfl) us hl | exact aE.cY (fun _ _=>rfl) us hl | exact aE.cX (fun _ _ _=>rfl) us hl | exact aE.cZ (fun _ _ _ _=>rfl) us hl | exact aE.cW (fun _ _ _ _ _ _=>rfl) us hl))))
  (case vY=>(refine' aE.dm KX G ?a ?l ?c ?k ?b; (case a=>k_is); (case l=>k_is); (case c=>k_is); (case k=>k_is); (case b=>(intro _ _ _ _ _ _ us hl;first | exact aE.c7 (fun _=>rfl) us hl | exact aE.cY (fun _ _=>rfl) us hl | exact aE.cX (fun _ _ _=>rfl) us hl | exact aE.cZ (fun _ _ _ _=>rfl) us hl | exact aE.cW (fun _ _ _ _ _ _=>rfl) us hl))))
  (case Gi=>(refine' aE.dm KX G ?a ?l ?c ?k ?b; (case a=>k_is); (case l=>k_is); (case c=>k_is); (case k=>k_is); (case b=>(intro _ _ _ _ _ _ us hl;first | exact aE.c7 (fun _=>rfl) us hl | exact aE.cY (fun _ _=>rfl) us hl | exact aE.cX (fun _ _ _=>rfl) us hl | exact aE.cZ (fun _ _ _ _=>rfl) us hl | exact aE.cW (fun _ _ _ _ _ _=>rfl) us hl))))
  (case Ot=>(refine' aE.dm KX G ?a ?l ?c ?k ?b; (case a=>k_is); (case l=>k_is); (case c=>k_is); (case k=>k_is); (case b=>(intro _ _ _ _ _ _ us hl;first | exact aE.c7 (fun _=>rfl) us hl | exact aE.cY (fun _ _=>rfl) us hl | exact aE.cX (fun _ _ _=>rfl) us hl | exact aE.cZ (fun _ _ _ _=>rfl) us hl | exact aE.cW (fun _ _ _ _ _ _=>rfl) us hl))))
  (case Du=>(refine' aE.dm KX G ?a ?l ?c ?k ?b; (case a=>k_is); (case l=>k_is); (case c=>k_is); (case k=>k_is); (case b=>(intro _ _ _ _ _ _ us hl;first | exact aE.c7 (fun _=>rfl) us hl | exact aE.cY (fun _ _=>rfl) us hl | exact aE.cX (fun _ _ _=>rfl) us hl | exact aE.cZ (fun _ _ _ _=>rfl) us hl | exact aE.cW (fun _ _ _ _ _ _=>rfl) us hl))))
  (case Bk=>k_is)
  (case C1=>k_is)
  (case Zx=>k_is)
  (case c47=>k_is)
  (case ZO=>k_is)
  (case Zk=>k_is)
  (case a48=>k_is)
  (case Zw=>k_is)
  (case UM=>k_is)
  (case c48=>k_is)
  (case ZN=>k_is)
  (case Ou=>(refine' aE.dm KX G ?a ?l ?c ?k ?b; (case a=>k_is); (case l=>k_is); (case c=>k_is); (case k=>k_is); (case b=>(intro _ _ _ _ _ _ us hl;first | exact aE.c7 (fun _=>rfl) us hl | exact aE.cY (fun _ _=>rfl) us hl | exact aE.cX (fun _ _ _=>rfl) us hl | exact aE.cZ (fun _ _ _ _=>rfl) us hl | exact aE.cW (fun _ _ _ _ _ _=>rfl) us hl))))
  (case Bf=>(refine' aE.dm KX G ?a ?l ?c ?k ?b; (case a=>k_is); (case l=>k_is); (case c=>k_is); (case k=>k_is); (case b=>(intro _ _ _ _ _ _ us hl;first | exact aE.c7 (fun _=>rfl) us hl | exact aE.cY (fun _ _=>rfl) us hl | exact aE.cX (fun _ _ _=>rfl) us hl | exact aE.cZ (fun _ _ _ _=>rfl) us hl | exact aE.cW (fun _ _ _ _ _ _=>rfl) us hl))))
  (case Be=>(refine' aE.dm KX G ?a ?l ?c ?k ?b; (case a=>k_is); (case l=>k_is); (case c=>k_is); (case k=>k_is); (case b=>(intro _ _ _ _ _ _ us hl;first | exact aE.c7 (fun _=>rfl) us hl | exact aE.cY (fun _ _=>rfl) us hl | exact aE.cX (fun _ _ _=>rfl) us hl | exact aE.cZ (fun _ _ _ _=>rfl) us hl | exact aE.cW (fun _ _ _ _ _ _=>rfl) us hl))))
  (case a52=>k_is)
  (case Zv=>k_is)
  (case c52=>k_is)
  (case ZM=>k_is)
  (case CJ=>k_is)
  (case CK=>k_is)
  (case CI=>k_is)
  (case CO=>k_is)
  (case CG=>k_is)
  (case CD=>k_is)
  (case rE=>k_is)
  (case qo=>k_is)
  (case tH=>k_is)
  (case rF=>k_is)
  (case tI=>k_is)
  (case xQ=>k_is)
  (case xR=>k_is)
  (case xP=>k_is)
  (case xS=>k_is)
  (case xO=>k_is)
  (case xM=>k_is)
  (case qp=>k_is)
  (case lq=>k_is)
  (case pd=>k_is)
  (case yj=>k_is)
  (case yk=>k_is)
  (case rN=>k_is)
  (case qv=>k_is)
  (case my=>k_is)
  (case mz=>k_is)
  (case ua=>k_is)
  (case t7=>k_is)
  (case pj=>k_is)
  (case pk=>k_is)
  (case ub=>k_is)
  (case rO=>k_is)
  (case t8=>k_is)
  (case t9=>k_is)
  (case qw=>k_is)
  (case tZ=>k_is)
  (case rM=>k_is)
  (case rJ=>k_is)
  (case rL=>k_is)
  (case rH=>k_is)
  (case xo=>k_is)
  (case xq=>k_exc)
  (case xp=>k_is)
  (case xr=>k_exc)
  (case Ic=>k_is)
  (case EM=>k_is)
  (case Cs=>k_is)
  (case zm=>k_is)
  (case vy=>k_is)
  (case X7=>k_is)
  (case Uv=>k_is)
  (case Uu=>k_is)
  (case ZQ=>k_is)
  (case qq=>kit_is)
  (case kD=>kit_is)
  (case tO=>kit_is)
  (case tP=>kit_is)
  (case Ab=>kit_is)
  (case wK=>kit_is)
  (case tN=>kit_is)
  (case qX=>kit_is)
  (case Cu=>kernel_rfl)
  (case Ct=>kernel_rfl)
  (case C5=>k_is)
  (case Cz=>k_is)
  (case rG=>k_is)
  (case oa=>kts_exm)
  (case n9=>kts_exm)
  (case xW=>kts_exm)
  (case CZ=>kts_exm)
  (case j8=>kts_exm)
  (case z0=>k_is)
  (case z1=>k_is)
  (case z2=>k_is)
  (case z3=>k_is)
  (case z4=>k_is)
  (case z5=>k_is)
  (case z6=>k_is)
  (case z7=>k_is)
  (case z8=>k_is)
  (case z9=>k_is)
  (case X3=>k_is)
  (case X1=>k_is)
#print axioms PySem.Challenge.cw_samewise_k72_rows_refused_holds
