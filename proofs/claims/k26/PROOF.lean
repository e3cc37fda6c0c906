import PyProof.Rows.All
import Wide.All
import OpenK.AllK
import Wide.FinOn
import Lean
import PyProof.EqAt
import PyProof.EqKinds
import PyProof.TupleCall
import KE.KTryMore
import KE.KIntText
import KE.RegKTryMore
import PySem.Challenge.RW_samewise_k26_apart
set_option Elab.async false
set_option linter.all false
open Array renaming length_toList → dA, getElem?_toList → fX, getElem?_eq_some_iff → gO, getElem?_eq_getElem → hV, mk → iT, getElem?_eq_none → kE, getElem?_setIfInBounds_ne → pF, forIn_toList → sX, toList_append → zV, append_assoc → Bp
open Array.Perm renaming refl → Fg
open Bool renaming false_ne_true → a5, false_eq_true → dP, and_eq_true_iff → gu, eq_iff_iff → gF, and_eq_true → jS, not_true → oI, eq_false_iff → BY, or_eq_true → Fe
open Classical renaming propDecidable → iL, choose_spec → yn
open False renaming elim → dy
open ForInStep renaming yield → qv
open Int renaming toNat_natCast → cn, emod_nonneg → km, emod_lt_of_pos → sT, zero_add → vW
open List renaming getElem?_eq_some_iff → ai, getElem?_eq_getElem → aj, mem_of_getElem? → ak, mem_append → au, mem_singleton → ax, length_map → az, length_append → aG, size_toArray → aJ, getElem?_map → aK, mem_cons_of_mem → aR, map_cons → aS, getElem?_of_mem → aU, mem_cons → aW, mem_cons_self → bb, getD_eq_getElem?_getD → bc, mem_singleton_self → bg, mem_map → bj, range → bA, nodup_cons → bI, take_length → bK, length_cons → bO, replicate → bR, length_take → bW, mem_append_right → ck, mem_range → cI, not_mem_nil → cM, length_range → cN, length_singleton → cX, nodup_nil → c6, map_append → dv, append_nil → dw, flatMap_append → dY, ext_getElem? → d9, getElem?_append_left → eL, eq_nil_of_length_eq_zero → eO, nodup_append → eR, getElem?_eq_none → eY, map_nil → fE, mem_filter → gC, replicate_succ → gG, mem_flatMap → gU, lookup_cons → gW, map_map → il, find?_cons → ip, take_add_one → iw, length_eq_zero_iff → iI, filter_cons_of_pos → iJ, filter_cons_of_neg → iK, map_congr_left → iN, getElem?_range → iO, flatMap_singleton → iX, length_filter_le → jc, pairwise_map → jq, getElem_mem → jO, filterMap_cons → jU, range_succ → kf, getElem?_inj → kL, flatten_cons → kM, append_assoc → kN, take_zero → lB, getElem?_concat_length → lJ, getElem?_append_right → mj, lookup → mw, pairwise_iff_getElem → mJ, length_nil → mK, getElem?_zip_eq_some → mL, zip_cons_cons → nB, getElem?_take → nC, pairwise_singleton → nZ, foldl_append → og, length_pos_of_mem → oB, getElem?_set_self → oC, length_drop → oQ, filter_cons → oR, all_eq_true → oS, nil_append → qo, mem_append_left → qp, getElem?_set_ne → qr, foldl_cons → qt, length_take_le → qK, mem_filterMap → sS, sum_cons → tM, any_cons → tN, flatMap_cons → uq, getElem?_eq_none_iff → uI, cons_append → vR, append_cancel_right → vT, getElem?_replicate → wc, append_cancel_left → wd, of_mem_zip → wU, length_zip → wV, forIn_cons → wW, take_of_length_le → xv, take_append_drop → yf, pairwise_flatMap → yg, length_replicate → yh, pairwise_append → zh, mem_of_mem_take → zi, Nodup → zj, filter_sublist → zS, filter_append → Bd, contains_cons → Be, take_sublist → BS, getElem?_set → BU, zipIdx_cons → Dq, getElem_inj → Dr, any_toArray → Ds, zipIdx_nil → E4, foldl → E5, forIn_nil → Ge, drop_zero → Gf
open List.Pairwise renaming imp_of_mem → vU, nil → BV
open List.cons renaming injEq → wX
open Nat renaming le_refl → ar, le_trans → bf, ne_of_lt → br, lt_of_lt_of_le → bu, zero_le → bx, lt_irrefl → eU, lt_of_le_of_lt → gh, lt_or_ge → gI, min_eq_right → gS, lt_or_eq_of_le → hJ, min_eq_left → ik, le_total → i4, not_lt_zero → jb, ne_of_gt → jK, max_eq_right → jL, le_of_lt → jM, le_add_right → jN, add_assoc → j5, max_eq_left → ke, lt_succ_of_lt → kJ, add_le_add_right → lX, le_of_eq → nz, le_of_not_lt → oP, zero_add → ql, add_zero → qm, mul_le_mul → rF, le_succ → rV, le_succ_of_le → uo, succ_mul → vP, lt_succ_self → vQ, strongRecOn → wR, add_le_add_left → zR, mul_comm → Bb, lt_trans → Bc, lt_trichotomy → BQ, le_of_lt_succ → BR, succ_le_succ → Dl, min_le_right → Dm, div_eq_of_lt → Dp, mul_add_div → E2, le_antisymm → E3
open Nat.succ renaming inj → Ls
open Ne renaming symm → cm
open Option renaming map_eq_some_iff → cP, isSome_iff_exists → jJ, isSome_map → kI, map_some → qk, getD_none → Dj, map → EZ
open Option.some renaming inj → aD
open Or renaming inl → aO, inr → vO
open Prod renaming fst → dB, ext → rE, snd → zf
open Prod.mk renaming injEq → HW
open PyProof.Rows renaming callWith_type1 → gB, slot_tuple_getitem → jX, callWith_builtin1 → qi
open PySem renaming boot_len → cQ, mem_of_lookup → jT, evalArgs_none → qH, Within → vI, Fin → Hz
open PySem.Around renaming under_plainId → qB, under → Bq
open PySem.Builtin.Builtins renaming bindParams → sW
open PySem.Builtin.Dict renaming showsAll → lD
open PySem.Builtin.Dict_items renaming ownsTuple → gq, newIterator → Fd, isOneOf → HX, dictOf → Im
open PySem.Builtin.Int renaming intBits → zU
open PySem.Builtin.List renaming listTooLong → jR
open PySem.Builtin.Range renaming rangeSize → wg
open PySem.Builtin.Slice renaming slicePlaces → jx, sliceAdjust → mM, sliceApplied → tZ
open PySem.Builtin.SmallTypes renaming nextOf → eM, ownedTupleIsFree → gp, ownedTupleHandOut → nG, stopIteration → Dy
open PySem.Builtin.Str renaming strSliceIndices → sV
open PySem.Builtin.Tuple renaming tupleHashOf → fT, tupleExact → jQ, tupleItemsOf → tY
open PySem.Calls renaming callWith_builtin → eK, spliced_cons → gi, evalArgs_plain → ir, spliced_nil → jr, Name_function_global → tX
open PySem.Challenge renaming rw_samewise_k26_apart → aB, pw_samewise_k26_apart → mP
open PySem.Code renaming isFrame → Bn
open PySem.Data renaming cell → w4, fields → Cy
open PySem.EntryCells renaming newEntry → zT
open PySem.F renaming plainAttrs_list → bE, type_list_append → bU, slot_list_append → bV, slot_dict_valueiterator_next → fR, slot_dict_keyiterator_next → gm, plainAttrs_dict → gx, plain_min_loop → iR, slot_tuple_iterator_next → jj, slot_dict_values → jI, slot_dict_get → lA, slot_dict_getitem → mI, slot_tuple_hash → oi, args_dict_valueiterator_next_1 → oX, typeOf_object_class → pD, entry_dict_valueiterator_next → pE, slot_zip_next → qw, args_dict_keyiterator_next_1 → qx, entry_dict_keyiterator_next → qC, slot_dict_setdefault → rA, args_tuple_iterator_next_1 → rG, entry_tuple_iterator_next → sU, excBase_ValueError → tJ, args_dict_values_1 → tK, entry_dict_values → uG, type_list_extend → vK, type_dict_values → vL, slot_list_extend → vM, entry_min_loop → vX, slot_dict_values_iter → we, entry_dict_get → xu, type_dict_get → yd, slot_dict_pop → ye, slot_gs_get → zQ, args_zip_next_1 → BX
open PySem.Heap renaming get?_push_of_some → ay, lt_size → aP, get?_push_size → aT, SameBut → cf, get?_update_other → df, get?_update_self → d8, size_push → fI, get?_none_of_le → iq, FlyingW → jP, ExtBut → rY, MadeExcOf → Gg
open PySem.Heap.SameBut renaming update → cO, refl → BW
open PySem.NameKind renaming free → fC
open PySem.Obj renaming data_mapFields → dO, mapFields → gN, mapSeq → ij, isFreed_of_fields → ja, cls_mapFields → oa, data_mapDictKeys → zg
open PySem.Paired renaming length → aV, snoc → rQ
open PySem.PassesOwn renaming never → cq, leaving → fM
open PySem.SeqAt renaming EqAt → qg, RcNeAt → Ba
open PySem.SeqAt.EqAt renaming of_refs → Bj, same → HH
open PySem.Str renaming ofString → eX, length_append → BN, empty → Hx
open PySem.Txt renaming slice → gg, slice_le → vG
open PySem.Value renaming ref → aH, none → da, type → gM, bool → jt, builtin → mi, int → ni, str → pC, float → Cs, isStrOf → HV
open PySem.Value.ref renaming inj → HU
open PySem.Value.type renaming inj → g9
open PySem.W renaming Frag → ao, findIn → bH, nsIn → bN, kitOne → bS, mg_none_of → bZ, keepIn → du, fnOf → dW, kia_one → eF, mg_of → eS, emptyDict → fK, looks_findIn → gk, codeIn → hG, instObj → ig, plainGet → lV, hideAll → mH, of_hideAll → nj, callWith_K → nv, kitAny → nP, exmOne → nQ, hasDictIn → n9, Looks → oH, isFn → qh, plainGet_of → qI, hideAll_get → qJ, lookIn → rq, plainOver → uk, methodObj → um, takerIn → wN, makesIn → wO, cellsFrom_some → xt, methodCall_KW → yc, excIn → zN, kitx_list → BO, kitx_dict → BP, handedIn → Di, OpenLaw → EY, KitX → Lq
open PySem.W.Looks renaming ld → vJ
open PySem.W.RowW renaming records → vH
open PySem.W.SharedT renaming abs → L4
open PySem.W.WData renaming int → wM, weight → A8, weightAll → ES, list → ET
open Sum renaming inl → fH, inr → mv
open Sum.inl renaming inj → gH, injEq → zM
open Sum.inr renaming injEq → zL
open True renaming intro → ft
noncomputable section
abbrev ba:List PySem.Str:=["self", "a", "b", "length"]
abbrev ee:List PySem.Str:=["_law_cell", "_law_prime", "_law_many"]
abbrev fu:List PySem.Str:=["_law_script", "_law_made", "_law_terms", "_law_edges", "_law_mixed", "_law_leads", "_law_prime", "_law_a", "_law_apart", "_law_b"]
abbrev gr:List PySem.Str:=["_law_terms", "_law_leads", "_law_edges", "_law_a", "_law_b", "_law_kind"]
abbrev tO:List PySem.Str:=["_law_terms", "_law_edges", "_law_edge_here"]
abbrev ue:List PySem.Str:=["terms", "leads", "edges", "a", "b"]
abbrev vc:List PySem.Str:=["_law_cell", "_law_many", "_law_colours"]
abbrev HA:List PySem.Str:=["terms", "edges", "step", "above"]
abbrev wa0:List PySem.Str:=["terms", "leads"]
abbrev wa1:List PySem.Str:=["_law_cell", "_law_seed", "_law_many"]
abbrev wa2:List PySem.Str:=["terms", "leads", "edges", "least"]
abbrev wa3:List PySem.Str:=["terms", "edges", "book", "a", "b"]
abbrev wa4:List PySem.Str:=["terms", "a", "b"]
abbrev wa5:List PySem.Str:=["terms", "edges", "row", "above"]
abbrev wa6:List PySem.Str:=["terms", "least", "a", "b"]
abbrev wa7:List PySem.Str:=["_law_k", "_law_cell"]
abbrev wa8:List PySem.Str:=["_law_script", "_law_most"]
abbrev wa9:List PySem.Str:=["steps", "least", "a", "b"]
abbrev wb0:List PySem.Str:=["term", "leads"]
abbrev wb1:List PySem.Str:=["terms", "leads", "edges"]
abbrev wb2:List PySem.Str:=["leads", "a", "b"]
abbrev wb3:List PySem.Str:=["terms", "edges"]
abbrev wb4:List PySem.Str:=["terms", "step", "above"]
abbrev wb5:List PySem.Str:=["self", "a", "b"]
abbrev wb6:List PySem.Str:=["self", "terms", "k"]
abbrev wb7:List PySem.Str:=["self", "terms"]
abbrev wb8:List PySem.Str:=["edges", "step"]
abbrev wb9:List PySem.Str:=["row", "k"]
abbrev wc0:List PySem.Str:=["terms", "row"]
theorem O.{u}{α:Sort u}{a:α}:a=a:=rfl
namespace KHd
open PySem PySem.W PySem.Calls PyProof.Rows
theorem QK{p q:Program}{loose:List Str}{Xt:Shared->Bool}{α : Type}{Yf:Shared -> α}{Ya:World -> α}{N:Nat}(e:opening p=plainProg p.main.scope.names)(hN:Nat.ble 600 N=true)(f:∀ s,fenceModules? p s=some s)(h:∀ (w:World) (os:OsState),(topFrom treeTable p w N ⟨boot_heap w.params,iT [],boot_drawn,boot_toks,os⟩).map (fun s=>(openSeen q loose (importedModules p.main.body) Xt true s,Yf s))=some (openGood q loose,Ya w)):LeftO p q loose Xt Yf Ya N:=fun w=>by
 obtain⟨⟨hp,gs,d,k,os⟩,e1,e2⟩:=cP.mp (boot_open e hN f w)
 have e3:hp=boot_heap w.params∧gs=iT []∧d=boot_drawn∧k=boot_toks:=by simpa only [HW] using e2
 obtain⟨z1,z2,z3,z4⟩:=e3
 subst z1 z2 z3 z4
 unfold openEnds
 rw[e1]
 exact h w os
def adz{α : Type}(l:List α)(is:List Nat):List α := is.filterMap fun i=>l[i]?
def Zz:Program:=mP
def view:Program := { Zz with main := { Zz.main with body:=adz Zz.main.body [1,2,3,4,5,6,7,8,10,11,12,13,15,16,17,18,19,21,22,23,24,25,26,27,28,29,30,32,33,34,35,36,37,38,39] } }
theorem lO{α β γ : Type}{x:Option α}{f : α -> β}{g : α -> γ}{a : β}{b : γ}(h1:x.map f=some a)(h2:x.map g=some b):x.map (fun s=>(f s,g s))=some (a,b):=by
 cases x with
 | none=>cases h1
 | some s=>cases h1;cases h2;rfl
theorem BB{α β γ : Type}{x:Option α}{f : α -> β}{g : α -> γ}{a : β}{b : γ}(h:x.map (fun s=>(f s,g s))=some (a,b)):x.map f=some a:=by
 cases x with
 | none=>cases h
 | some s=>cases h;rfl
theorem mn{α β γ : Type}{x:Option α}{f : α -> β}{g : α -> γ}{a : β}{b : γ}(h:x.map (fun s=>(f s,g s))=some (a,b)):x.map g=some b:=by
 cases x with
 | none=>cases h
 | some s=>cases h;rfl
theorem XM{α : Type}{x:Option α}{a b c d e f g : α -> Bool}(h1:x.map a=some true)(h2:x.map (fun s=>b s && c s && d s && e s && f s && g s)=some true):x.map (fun s=>a s && b s && c s && d s && e s && f s && g s)=some true:=by
 cases x with
 | none=>cases h1
 | some s =>
  have e1:a s=true:=aD h1
  have e2:(b s && c s && d s && e s && f s && g s)=true:=aD h2
  simp only[jS]at e2
  show some (a s && b s && c s && d s && e s && f s && g s)=some true
  simp only[e1,e2,Bool.and_self]
def T0(P:Params):BT:=(((((((((((BT.nil.ins 0 (boot_o_0 P)).ins 1 (boot_o_1 P)).ins 2 (boot_o_2 P)).ins 3 (boot_o_3 P)).ins 4 (boot_o_4 P)).ins 5 (boot_o_5 P)).ins 6 (boot_o_6 P)).ins 7 (boot_o_7 P)).ins 8 (boot_o_8 P)).ins 9 (boot_o_9 P)).ins 10 (boot_o_10 P))
theorem YX(P:Params):absHeap (T0 P) 11 (boot_heap P).life=boot_heap P:=by kernel_rfl
theorem W8(P:Params):((boot_heap P).isNs mainGlobals,(boot_heap P).objs.size,(boot_heap P).nsMap mainGlobals "__annotations__")=(true,11,some (.ref 6)):=by kernel_rfl
def Oh(tb:String->Option Builtin)(p:Program)(w:World)(yJ : Nat)(EO:Option Value)(N:Nat):SharedT->Thread->Option SharedT :=
 Nat.rec (motive:=fun _=>SharedT->Thread->Option SharedT) (fun _ _=>none) (fun _ ih s t=>match through t with
  | true=>some s
  | false=>match stepOk yJ EO t with
   | false=>none
   | true=>match stepT (denote tb) p w s t with
    | some (s',t')=>ih s' t'
    | none=>none) N
theorem Qh{tb:String->Option Builtin}{p:Program}{w:World}{yJ : Nat}{EO:Option Value}{n:Nat}{s:SharedT}{t:Thread}:Oh tb p w yJ EO (n+1) s t=(match through t with
  | true=>some s
  | false=>match stepOk yJ EO t with
   | false=>none
   | true=>match stepT (denote tb) p w s t with
    | some (s',t')=>Oh tb p w yJ EO n s' t'
    | none=>none):=rfl
theorem Mr{tb:String->Option Builtin}{p:Program}{w:World}{yJ : Nat}{EO:Option Value}:∀ {n:Nat} {s s':SharedT}{t:Thread},Oh tb p w yJ EO n s t=some s'->topRun tb p w yJ EO n s.abs t=some s'.abs
 | 0,_,_,_,h=>by cases h
 | n+1,s,s',t,h=>by
  rw[Qh]at h
  unfold topRun
  cases he:through t with
  | true=>rw[he]at h;cases h;rfl
  | false =>
   rw[he]at h
   cases hk:stepOk yJ EO t with
   | false=>rw[hk]at h;cases h
   | true =>
    rw[hk]at h
    cases hs:stepT (denote tb) p w s t with
    | none=>rw[hs]at h;cases h
    | some r=>obtain⟨ic,alv⟩:=r;rw[hs]at h;rw[stepT_spec hs];exact Mr h
def xg(p:Program)(w:World)(N:Nat)(os:OsState):Option SharedT:=Oh treeTable p w 11 (some (.ref 6)) N ⟨T0 w.params,11,(boot_heap w.params).life,iT [],boot_drawn,boot_toks,os⟩ (topStub p)
theorem vC{p:Program}{w:World}{N:Nat}{os:OsState}{α : Type}{F:Shared -> α}{Yq1 : α}(hc:(xg p w N os).map (fun s=>staticsOk (importedModules p.main.body) (boot_heap w.params) s.abs.heap && namesBound p s.abs.heap && gensDone s.abs && laidKept (boot_heap w.params) s.abs.heap)=some true)(h:(xg p w N os).map (fun s=>F s.abs)=some Yq1) :
  (topFrom treeTable p w N ⟨boot_heap w.params,iT [],boot_drawn,boot_toks,os⟩).map F=some Yq1:=by
 cases hr:xg p w N os with
 | none=>rw[hr]at h;cases h
 | some s =>
  rw[hr]at h hc
  have e1:F s.abs=Yq1:=aD h
  have e2:(staticsOk (importedModules p.main.body) (boot_heap w.params) s.abs.heap && namesBound p s.abs.heap && gensDone s.abs && laidKept (boot_heap w.params) s.abs.heap)=true:=aD hc
  have r:=Mr hr
  have ea:(L4 ⟨T0 w.params,11,(boot_heap w.params).life,iT [],boot_drawn,boot_toks,os⟩)=⟨boot_heap w.params,iT [],boot_drawn,boot_toks,os⟩:=by
   unfold L4
   dsimp only
   rw[YX]
  rw[ea]at r
  obtain⟨z1,z2,z3⟩:_∧_∧_:=by simpa only [HW] using W8 w.params
  have t:topFrom treeTable p w N ⟨boot_heap w.params,iT [],boot_drawn,boot_toks,os⟩=some s.abs:=by
   unfold topFrom
   dsimp only
   rw[z1,z2,z3,r]
   show (match staticsOk (importedModules p.main.body) (boot_heap w.params) s.abs.heap && namesBound p s.abs.heap && gensDone s.abs && laidKept (boot_heap w.params) s.abs.heap with | true=>_ | false=>_)=_
   rw[e2]
  rw[t]
  exact congrArg some e1
set_option maxRecDepth 100000 in
set_option maxHeartbeats 0 in
theorem Lb(w:World)(os:OsState):(xg aB.prog w 6266 os).map (fun s=>staticsOk (importedModules aB.prog.main.body) (boot_heap w.params) s.abs.heap && namesBound aB.prog s.abs.heap && gensDone s.abs && laidKept (boot_heap w.params) s.abs.heap)=some true:=by kernel_rfl
set_option maxRecDepth 100000 in
set_option maxHeartbeats 0 in
theorem q0T(w:World)(os:OsState):(xg aB.prog w 6266 os).map (fun s=>seen ((recsOf view).map (·.name)) (ownsOf view) [] { s.abs with gens := #[] })=some (expectedOf view):=by kernel_rfl
set_option maxRecDepth 100000 in
set_option maxHeartbeats 0 in
theorem qaT(w:World)(os:OsState):(xg aB.prog w 6266 os).map (fun s=>(s.abs.heap.bltView,s.abs.heap.accountedOkI (importedModules aB.prog.main.body) && s.abs.heap.isNs mainGlobals && s.abs.heap.isNs builtinsNs && tablesOk view s.abs.heap && (xlAt view [] s.abs && recOk (vH aB.row.toRowW) s.abs) && (if true then s.abs.gens.size == 0 else !leftWithCleanup s.abs.gens),pinSeenD view (drecsOf view) s.abs,plainSeenD view [] s.abs,clsSeenW view [] s.abs))=some ((bltViewBooted,true,pinGoodD (drecsOf view),plainGoodD view [],clsGoodW view [])):=by kernel_rfl
set_option maxRecDepth 100000 in
set_option maxHeartbeats 0 in
theorem q2T(w:World)(os:OsState):(xg aB.prog w 6266 os).map (fun s=>s.abs.heap.keysOk (looseW view []) ((recsOf view).map (·.name)) ((litsOf view).map (·.1)) ((clssOf view (looseW view [])).map (·.name)))=some (true):=by kernel_rfl
set_option maxRecDepth 100000 in
set_option maxHeartbeats 0 in
theorem q3T(w:World)(os:OsState):(xg aB.prog w 6266 os).map (fun s=>tabsOk view s.abs)=some (true):=by kernel_rfl
set_option maxRecDepth 100000 in
set_option maxHeartbeats 0 in
theorem q5T(w:World)(os:OsState):(xg aB.prog w 6266 os).map (fun s=>plainSeenE view (looseW view []) s.abs)=some (plainGoodE view (looseW view [])):=by kernel_rfl
set_option maxRecDepth 100000 in
set_option maxHeartbeats 0 in
theorem q7T(w:World)(os:OsState):(xg aB.prog w 6266 os).map (fun s=>wideSeen view s.abs)=some (wideGood view):=by kernel_rfl
theorem q0(w:World)(os:OsState):(topFrom treeTable aB.prog w 6266 ⟨boot_heap w.params,iT [],boot_drawn,boot_toks,os⟩).map (fun s=>seen ((recsOf view).map (·.name)) (ownsOf view) [] { s with gens := #[] })=some (expectedOf view):=vC (Lb w os) (q0T w os)
theorem qa(w:World)(os:OsState):(topFrom treeTable aB.prog w 6266 ⟨boot_heap w.params,iT [],boot_drawn,boot_toks,os⟩).map (fun s=>(s.heap.bltView,s.heap.accountedOkI (importedModules aB.prog.main.body) && s.heap.isNs mainGlobals && s.heap.isNs builtinsNs && tablesOk view s.heap && (xlAt view [] s && recOk (vH aB.row.toRowW) s) && (if true then s.gens.size == 0 else !leftWithCleanup s.gens),pinSeenD view (drecsOf view) s,plainSeenD view [] s,clsSeenW view [] s))=some ((bltViewBooted,true,pinGoodD (drecsOf view),plainGoodD view [],clsGoodW view [])):=vC (Lb w os) (qaT w os)
theorem q2(w:World)(os:OsState):(topFrom treeTable aB.prog w 6266 ⟨boot_heap w.params,iT [],boot_drawn,boot_toks,os⟩).map (fun s=>s.heap.keysOk (looseW view []) ((recsOf view).map (·.name)) ((litsOf view).map (·.1)) ((clssOf view (looseW view [])).map (·.name)))=some (true):=vC (Lb w os) (q2T w os)
theorem q3(w:World)(os:OsState):(topFrom treeTable aB.prog w 6266 ⟨boot_heap w.params,iT [],boot_drawn,boot_toks,os⟩).map (fun s=>tabsOk view s)=some (true):=vC (Lb w os) (q3T w os)
theorem q5(w:World)(os:OsState):(topFrom treeTable aB.prog w 6266 ⟨boot_heap w.params,iT [],boot_drawn,boot_toks,os⟩).map (fun s=>plainSeenE view (looseW view []) s)=some (plainGoodE view (looseW view [])):=vC (Lb w os) (q5T w os)
theorem q7(w:World)(os:OsState):(topFrom treeTable aB.prog w 6266 ⟨boot_heap w.params,iT [],boot_drawn,boot_toks,os⟩).map (fun s=>wideSeen view s)=some (wideGood view):=vC (Lb w os) (q7T w os)
theorem Zg(w:World)(os:OsState):(topFrom treeTable aB.prog w 6266 ⟨boot_heap w.params,iT [],boot_drawn,boot_toks,os⟩).map (fun s=>openSeen view [] (importedModules aB.prog.main.body) (fun s=>xlAt view [] s && recOk (vH aB.row.toRowW) s) true s)=some (openGood view []) :=
 lO (q0 w os) (lO (BB (qa w os)) (lO (XM (q2 w os) (BB (mn (qa w os)))) (lO (q3 w os) (lO (BB (mn (mn (qa w os)))) (lO (q5 w os) (lO (BB (mn (mn (mn (qa w os))))) (lO (q7 w os) (mn (mn (mn (mn (qa w os))))))))))))
local macro_rules | `(tactic| o_head $H) => `(tactic| (refine holds_open (q:=view) (loose := []) (Xt:=fun s=>xlAt view [] s && recOk (vH aB.row.toRowW) s) (XP:=XL view []) (Yf:=Hook.obs $H) (Ya:=Hook.val $H) (YP:=Hook.says $H) (N:=6266) ?hl (Hook.of $H) (Hook.keeps $H) (fun s e=>xl_of s (gu.mp e).1) XL.keeps (by rfl) (by rfl) (by rfl) (fun s e=>recFacts_of (gu.mp e).2) (by rfl) (by first | assumption | decide +kernel) (by decide +kernel) ⟨O,O,O,O,O,by decide +kernel⟩ ?hw ?hc;case hl=>(refine QK (by rfl) (by decide) (fun s=>by rfl) ?_;intro w os;refine lO (Zg w os) (vC (Lb w os) ?_);kernel_rfl)))
set_option maxRecDepth 100000 in
set_option maxHeartbeats 0 in
open_top top for aB
end KHd
set_option Elab.async false
set_option linter.all false
set_option maxRecDepth 100000
set_option maxHeartbeats 4000000
namespace L2
open PySem PySem.Spec PyProof.Rows
abbrev Key:=Sum Int Str
def yN:Key->Value->Bool
 | .inl k,v=>Value.isInt k v
 | .inr x,v=>HV x v
def ag4(w:World):Key->Int
 | .inl k=>hashInt k
 | .inr x=>hashStr w x
theorem fG:∀ {k:Key}{v:Value},yN k v=true->(∃ i t,k=fH i∧v=ni i t)∨(∃ x t,k=mv x∧v=pC x t)
 | .inl i,v,h=>by
  obtain⟨t,e⟩:=Value.isInt_shape (k:=i) (v:=v) h
  exact .inl ⟨i,t,O,e⟩
 | .inr x,v,h=>by
  obtain⟨t,e⟩:=Value.isStrOf_shape (x:=x) (v:=v) h
  exact .inr ⟨x,t,O,e⟩
theorem QQ(i:Int)(t:Tok):yN (.inl i) (.int i t)=true:=by simp[yN,Value.isInt]
theorem QP(x:Str)(t:Tok):yN (.inr x) (.str x t)=true:=by simp[yN,HV]
theorem aas(a b:Int):decide ((fH a:Key)=fH b)=(a == b):=by
 by_cases e:a=b
 ·subst e;simp
 ·have h:¬ (fH a:Key)=fH b:=fun q=>e (gH q)
  rw[decide_eq_false h]
  exact(beq_eq_false_iff_ne.mpr e).symm
theorem aao(a b:Str):decide ((mv a:Key)=mv b)=decide (a=b):=by
 by_cases e:a=b
 ·subst e;simp
 ·have h:¬ (mv a:Key)=mv b:=fun q=>e (mv.inj q)
  rw[decide_eq_false h,decide_eq_false e]
theorem aar(a:Int)(b:Str):decide ((fH a:Key)=mv b)=false:=decide_eq_false (fun q=>nomatch q)
theorem aap(a:Str)(b:Int):decide ((mv a:Key)=fH b)=false:=decide_eq_false (fun q=>nomatch q)
def di(prog:Program)(w:World):PySem.KeyKind prog w Key where
 is:=yN
 hash:=ag4 w
 inj:=fun v a b ha hb=>by
  rcases fG ha with⟨i,t,rfl,rfl⟩ | ⟨x,t,rfl,rfl⟩
  ·rcases fG hb with⟨j,u,rfl,e⟩ | ⟨y,u,rfl,e⟩
   ·injection e with e1 _;rw[e1]
   ·exact nomatch e
  ·rcases fG hb with⟨j,u,rfl,e⟩ | ⟨y,u,rfl,e⟩
   ·exact nomatch e
   ·injection e with e1 _;rw[e1]
 byValue:=fun k v h=>by
   rcases fG h with⟨i,t,rfl,rfl⟩ | ⟨x,t,rfl,rfl⟩ <;> rfl
 pyHash:=fun hv h=>by
  rcases fG hv with⟨i,t,rfl,rfl⟩ | ⟨x,t,rfl,rfl⟩
  ·exact wpAny_pyHash_int h
  ·exact wpAny_pyHash_str h
 eqBool:=fun hu hv h=>by
  rcases fG hu with⟨i,t,rfl,rfl⟩ | ⟨x,t,rfl,rfl⟩
  ·rcases fG hv with⟨j,u,rfl,rfl⟩ | ⟨y,u,rfl,rfl⟩
   ·rw[aas]at h;exact wpAny_eqBool_int h
   ·rw[aar]at h;exact qg.int_str i t y u _ _ _ _ h
  ·rcases fG hv with⟨j,u,rfl,rfl⟩ | ⟨y,u,rfl,rfl⟩
   ·rw[aap]at h;exact qg.str_int x t j u _ _ _ _ h
   ·rw[aao]at h;exact wpAny_eqBool_str h
 «strs» := fun k x t v h=>by
  rcases fG h with⟨i,u,rfl,e⟩ | ⟨y,u,rfl,e⟩
  ·exact nomatch e
  ·injection e with e1 _
   subst e1
   cases v <;> rfl
theorem LY(prog:Program)(w:World)(i:Int)(t:Tok):(di prog w).is (.inl i) (.int i t)=true:=QQ i t
theorem LX(prog:Program)(w:World)(x:Str)(t:Tok):(di prog w).is (.inr x) (.str x t)=true:=QP x t
inductive V where
 | cG | bl (b:Bool) | int (i:Int) | str (x:Str) | wK (b:Array UInt8) | KP (b:UInt64) | ref (a:Addr) | ty (n:String)
 deriving DecidableEq
def RelV:V->Value->Prop
 | .cG,u=>u=da
 | .bl b,u=>u=jt b
 | .int i,u=>∃ t,u=ni i t
 | .str x,u=>∃ t,u=pC x t
 | .wK b,u=>∃ t,u=Value.bytes b t
 | .KP b,u=>∃ t,u=Cs b t
 | .ref a,u=>u=aH a
 | .ty n,u=>u=gM n
abbrev Vals:List V->List Value->Prop:=Paired RelV
theorem Vals.length{xs:List V}{us:List Value}(r:Vals xs us):xs.length=us.length:=aV r
theorem Vals.get:∀ {xs:List V}{us:List Value}{i:Nat}{x:V},Vals xs us->xs[i]? = some x->∃ u,us[i]? = some u∧RelV x u
 | _,_,_,_,.nil,e=>by simp at e
 | _,_,0,_,.cons r _,e=>by simp at e;subst e;exact⟨_,O,r⟩
 | _,_,i+1,x,.cons _ t,e=>by
  obtain⟨u,h1,h2⟩:=Vals.get (i:=i) (x:=x) t (by simpa using e)
  exact⟨u,by simpa using h1,h2⟩
theorem Vals.set{x:V}{u:Value}(r:RelV x u):∀ {xs:List V}{us:List Value} (i:Nat),Vals xs us->Vals (xs.set i x) (us.set i u)
 | _,_,_,.nil => .nil
 | _,_,0,.cons _ t => .cons r t
 | _,_,i+1,.cons q t => .cons q (Vals.set r i t)
theorem Vals.append:∀ {xs ys:List V}{us ws:List Value},Vals xs us->Vals ys ws->Vals (xs ++ ys) (us ++ ws)
 | _,_,_,_,.nil,s=>s
 | _,_,_,_,.cons r t,s => .cons r (Vals.append t s)
theorem Vals.take:∀ {xs:List V}{us:List Value} (n:Nat),Vals xs us->Vals (xs.take n) (us.take n)
 | _,_,0,_ => .nil
 | _,_,_+1,.nil => .nil
 | _,_,n+1,.cons r t => .cons r (Vals.take n t)
theorem Vals.drop:∀ {xs:List V}{us:List Value} (n:Nat),Vals xs us->Vals (xs.drop n) (us.drop n)
 | _,_,0,r=>r
 | _,_,_+1,.nil => .nil
 | _,_,n+1,.cons _ t=>Vals.drop n t
def jZ:Option V->Option Value->Prop
 | some v,some u=>RelV v u
 | none,none=>True
 | _,_=>False
def KV{κ : Type}:List (κ × V)->List (κ × Value)->Prop:=Paired fun (p : κ × V) (q : κ × Value)=>p.1=q.1∧RelV p.2 q.2
def kV:Key->V
 | .inl i => .int i
 | .inr x => .str x
inductive HO where
  | lst (xs:List V)
  | tup (xs:List V)
  | dK (kvs:List (Key × V)) | dT (kvs:List (List Key × V))
  | set (S:Int->Bool) (n:Nat)
  | ins (C dx:Addr) (fs:List (Str × V))
  | own (x:Addr)
  | xd (fs:List (Str × V))
  | met (f x:Addr)
  | Aq (lo hi:Int)
  | vB (o:Obj) (u:HO)
  | nU (ps:Array Value)
  | ext (φ : Heap->Prop)
abbrev Hp:=Addr->Option HO
def upd(H:Hp)(a:Addr)(o:HO):Hp:=fun b=>if b=a then some o else H b
theorem aF{H:Hp}{a:Addr}{o:HO}:upd H a o a=some o:=by unfold upd;rw[if_pos rfl]
theorem aE{H:Hp}{a b:Addr}{o:HO}(h:b≠a):upd H a o b=H b:=by unfold upd;rw[if_neg h]
theorem Fj{H:Hp}{a:Addr}{o u:HO}:upd (upd H a o) a u=upd H a u:=by
 funext b;unfold upd;split <;> rfl
theorem aZ{H:Hp}{a b:Addr}{o u:HO}(h:H a=some o)(h':H b=some u)(d:o≠u):a≠b:=by
 intro e;subst e;rw[h]at h';exact d (aD h')
theorem bQ{H:Hp}{a b:Addr}{o:HO}(h:H a=some o)(h':H b=none):a≠b:=by
 intro e;subst e;rw[h]at h';cases h'
def vV(h:Heap)(a:Addr)(items:Array Value):Prop := ∃ o,h.get? a=some o∧o.cls = .type "tuple" ∧ ∃ n,o.data = .seq items n∧o.dict=none
theorem vV.tup{h:Heap}{a:Addr}{items:Array Value}(x:vV h a items):IsTup h a items:=let ⟨o,e,c,n,d,_⟩:=x; ⟨o,e,c,n,d⟩
theorem vV.new(h:Heap)(items:Array Value):vV (h.push { cls := .type "tuple",data := .seq items }) h.objs.size items:=⟨_,aT _ rfl,O,_,O,O⟩
section
variable (P:Program) (w:World)
def cY(H:Hp)(h:Heap)(a:Addr):HO->Prop
 | .lst xs=>xs.length<=sizeLine∧∃ (its:List Value) (n:Nat),Vals xs its∧h.get? a=some { cls := .type "list",data := .seq its.toArray n }
 | .tup xs=>xs.length<=sizeLine∧∃ its:List Value,Vals xs its∧vV h a its.toArray
 | .dK kvs=>kvs.length<=sizeLine∧(a == sysModules)=false∧∃ vs,KV kvs vs∧h.DictOf (di P w) a vs
 | .dT kvs=>kvs.length<=sizeLine∧(a == sysModules)=false∧∃ xs:List (List Key × Addr × Value),
   Paired (fun (p:List Key × V) (q:List Key × Addr × Value)=>p.1=q.1∧H q.2.1=some (.tup (p.1.map kV))∧RelV p.2 q.2.2) kvs xs ∧
   ∃ o es ep,h.get? a=some o∧o.ExactDict∧o.data = .dict es ep∧es.toList=xs.map (entryOfKey (tupleKind (di P w)))∧(xs.map (·.1)).Nodup
 | .set S n=>h.SetOf (intKind P w) a S n
 | .ins C dx fs=>H dx=some (.own a)∧fs.length<=1000∧dx≠a∧h.get? a=some (ig C dx) ∧
   ∃ mA,h.Ns1 dx mA∧(∀ f,jZ (fs.lookup f) (mA f))∧vI mA (fs.map (·.1))
 | .own _=>∃ o,h.get? a=some o
 | .xd fs=>∃ mA,h.Ns1 a mA∧∀ f,jZ (fs.lookup f) (mA f)
 | .Aq lo hi=>∃ t u v,h.get? a=some { cls := .type "range",data := .fields #[.int lo t,.int hi u,.int 1 v] }
 | .vB o u=>h.get? a=some o∧cY H h a u
 | .nU ps=>h.get? a=some { cls := .none,data := .fields ps }
 | .met f x=>h.get? a=some (um (.ref f) (.ref x))
 | .ext φ => φ h∧(∃ o,h.get? a=some o)∧∀ h1 h2:Heap, φ h1->(∀ o,h1.get? a=some o->h2.get? a=some o) -> φ h2
def gE(H:Hp)(h:Heap):Prop := ∀ a o,H a=some o->cY P w H h a o
end
section
variable {P:Program}{w:World} {H H':Hp} {h h':Heap}{a:Addr}{o:HO}
theorem cY.lt(x:cY P w H h a o):a < h.objs.size:=by
 cases o with
 | lst xs=>obtain⟨_,_,_,_,e⟩:=x;exact aP e
 | tup xs=>obtain⟨_,_,_,p⟩:=x;exact p.tup.lt
 | dK kvs=>obtain⟨_,_,_,_,o,_,_,e,_⟩:=x;exact aP e
 | dT kvs=>obtain⟨_,_,_,_,o,_,_,e,_⟩:=x;exact aP e
 | set S n=>obtain⟨o,_,_,_,e,_⟩:=x;exact aP e
 | ins C dx fs=>obtain⟨_,_,_,e,_⟩:=x;exact aP e
 | own y=>obtain⟨_,e⟩:=x;exact aP e
 | xd fs=>obtain⟨_,⟨_,_,_,e,_⟩,_⟩:=x;exact aP e
 | Aq lo hi=>obtain⟨_,_,_,e⟩:=x;exact aP e
 | vB ob u=>obtain⟨e,_⟩:=x;exact aP e
 | nU ps=>exact aP (show h.get? a=some _ from x)
 | met f y=>exact aP (show h.get? a=some _ from x)
 | ext φ => obtain⟨_,⟨_,e⟩,_⟩:=x;exact aP e
theorem Paired.xj{α β : Type}{F Yq1 : α -> β -> Prop}:∀ {JA : List α}{Jz : List β},Paired F JA Jz -> (∀ a b,F a b->Yq1 a b)->Paired Yq1 JA Jz
 | _,_,.nil,_ => .nil
 | _,_,.cons r t,f => .cons (f _ _ r) (Paired.xj t f)
theorem cY.sY(x:cY P w H h a o)(k:∀ b u,(b=a∨H b=some (.own a))->h.get? b=some u->h'.get? b=some u)(ho:∀ b,H b=some (.own a)->H' b=some (.own a))(ht:∀ b xs,H b=some (.tup xs)->H' b=some (.tup xs)):cY P w H' h' a o:=by
 induction o with
 | lst xs=>obtain⟨z,its,n,r,e⟩:=x;exact⟨z,its,n,r,k _ _ (.inl rfl) e⟩
 | tup xs=>obtain⟨z,its,r,ob,e,c⟩:=x;exact⟨z,its,r,ob,k _ _ (.inl rfl) e,c⟩
 | dK kvs=>obtain⟨z,y,vs,r,ob,es,ep,e,c⟩:=x;exact⟨z,y,vs,r,ob,es,ep,k _ _ (.inl rfl) e,c⟩
 | dT kvs =>
  obtain⟨z,y,xs,r,ob,es,ep,e,c⟩:=x
  exact⟨z,y,xs,Paired.xj r fun p q z=>⟨z.1,ht _ _ z.2.1,z.2.2⟩,ob,es,ep,k _ _ (.inl rfl) e,c⟩
 | set S n=>obtain⟨ob,es,ep,t,e,c⟩:=x;exact⟨ob,es,ep,t,k _ _ (.inl rfl) e,c⟩
 | ins C dx fs =>
  obtain⟨d,z,ne,e,mA,⟨od,es,ep,e2,c⟩,r⟩:=x
  exact⟨ho _ d,z,ne,k _ _ (.inl rfl) e,mA,⟨od,es,ep,k _ _ (.inr d) e2,c⟩,r⟩
 | own y=>obtain⟨ob,e⟩:=x;exact⟨ob,k _ _ (.inl rfl) e⟩
 | xd fs=>obtain⟨mA,⟨od,es,ep,e,c⟩,r⟩:=x;exact⟨mA,⟨od,es,ep,k _ _ (.inl rfl) e,c⟩,r⟩
 | Aq lo hi=>obtain⟨t,u,v,e⟩:=x;exact⟨t,u,v,k _ _ (.inl rfl) e⟩
 | vB ob u ih=>obtain⟨e,q⟩:=x;exact⟨k _ _ (.inl rfl) e,ih q⟩
 | nU ps =>
  have e:h.get? a=some { cls := .none,data := .fields ps }:=x
  show h'.get? a=some { cls := .none,data := .fields ps }
  exact k a _ (.inl rfl) e
 | met f y =>
  have e:h.get? a=some (um (.ref f) (.ref y)):=x
  show h'.get? a=some (um (.ref f) (.ref y))
  exact k a _ (.inl rfl) e
 | ext φ => obtain⟨p,⟨o,e⟩,st⟩:=x;exact⟨st _ _ p fun o q=>k _ _ (.inl rfl) q,⟨o,k _ _ (.inl rfl) e⟩,st⟩
theorem gE.lt(x:gE P w H h)(e:H a=some o):a < h.objs.size:=(x a o e).lt
theorem gE.fresh(x:gE P w H h)(e:h.objs.size<=a):H a=none:=by
 cases q:H a with
 | none=>rfl
 | some u=>exact absurd (bu (x.lt q) e) (eU _)
theorem gE.kept(x:gE P w H h)(k:∀ b u,h.get? b=some u->h'.get? b=some u):gE P w H h':=fun a o e =>
 (x a o e).sY (fun b u _ q=>k b u q) (fun _ q=>q) fun _ _ q=>q
theorem gE.laid(x:gE P w H h)(k:∀ b u,h.get? b=some u->h'.get? b=some u)(hp:h.objs.size<=a)(new:cY P w (upd H a o) h' a o):gE P w (upd H a o) h':=fun b u e=>by
 have hn:=x.fresh hp
 by_cases hb:b=a
 ·subst hb;rw[aF]at e;cases e;exact new
 ·rw[aE hb]at e
  exact(x b u e).sY (fun c v _ q=>k c v q) (fun c q=>by rw[aE (bQ q hn)];exact q) fun c xs q=>by rw[aE (bQ q hn)];exact q
end
def Rd(H:Hp)(a:Addr)(u:HO):Prop:=H a=some u∨∃ o,H a=some (.vB o u)
theorem Rd.ok{P:Program}{w:World}{H:Hp}{h:Heap}{a:Addr}{u:HO}(r:Rd H a u)(x:gE P w H h):cY P w H h a u:=by
 rcases r with r | ⟨o,r⟩
 ·exact x a u r
 ·obtain⟨_,q⟩:=x a _ r
  exact q
def Se:Option HO->Prop
 | some (.lst _)=>True
 | some (.dK _)=>True
 | some (.dT _)=>True
 | some (.set _ _)=>True
 | some (.ins _ _ _)=>True
 | some (.ext _)=>True
 | _=>False
section
variable {P:Program}{w:World}{H:Hp} {h h':Heap}{x e:Addr} {o':HO}
theorem gE.write(ok:gE P w H h)(mu:Se (H x))(he:e=x∨H e=some (.own x))(k:∀ b u,b≠e->h.get? b=some u->h'.get? b=some u)(M0:∃ u,h'.get? e=some u)(new:cY P w (upd H x o') h' x o'):gE P w (upd H x o') h':=fun b u q=>by
 have Ou:∀ c y,H c=some (.own y)->c≠x:=fun c y r z=>by subst z;rw[r]at mu;exact mu
 have agR:∀ c xs,H c=some (.tup xs)->c≠x:=fun c xs r z=>by subst z;rw[r]at mu;exact mu
 by_cases hb:b=x
 ·subst hb;rw[aF]at q;cases q;exact new
 ·rw[aE hb]at q
  by_cases Kr:b=e
  ·have q':H b=some (.own x):=by
    rcases he with z | z
    ·exact absurd (Kr.trans z) hb
    ·rw[Kr];exact z
   rw[q]at q';cases q'
   obtain⟨v,hv⟩:=M0
   exact⟨v,by rw[Kr];exact hv⟩
  ·refine(ok b u q).sY (fun c v hc r=>k c v ?_ r) (fun c r=>by rw[aE (Ou c b r)];exact r) fun c xs r=>by rw[aE (agR c xs r)];exact r
   rcases hc with rfl | hc
   ·exact Kr
   ·rintro rfl
    rcases he with z | z
    ·exact Ou c b hc z
    ·rw[hc]at z;cases z;exact hb rfl
end
structure Un(fs ex:List Addr)(H H':Hp)(h h':Heap):Prop where
 keep:∀ b o,h.get? b=some o->H b=none->b ∉ fs->b ∉ ex->h'.get? b=some o
 slot:∀ b o,h.get? b=some o->H b=none->b∈fs->b ∉ ex->∃ sl,h'.get? b=some { o with slots:=sl }
 free:∀ b o,h.get? b=some o->H b=none->b ∉ ex->H' b=none
 there:∀ b o,h.get? b=some o->b ∉ ex->∃ o',h'.get? b=some o'
 qN:∀ b xs,H b=some (.tup xs)->H' b=some (.tup xs)
 pY:∀ b o u,H b=some (.vB o u)->H' b=some (.vB o u)
 pG:∀ b ps,H b=some (.nU ps)->∃ more,H' b=some (.nU (ps ++ more))
section
variable {fs fs' ex ex':List Addr}{H H1 H2:Hp} {h h1 h2 h':Heap}{a x e:Addr}{o:HO}
theorem Un.any(u:Un fs ex H H1 h h1){b:Addr}{ob:Obj}(q:h.get? b=some ob)(n:H b=none)(hx:b ∉ ex):∃ sl,h1.get? b=some { ob with slots:=sl }:=by
 by_cases hb:b∈fs
 ·exact u.slot b ob q n hb hx
 ·exact⟨ob.slots,u.keep b ob q n hb hx⟩
theorem Un.kept(k:∀ b u,h.get? b=some u->h'.get? b=some u):Un fs ex H H h h' :=
 ⟨fun b ob q _ _ _=>k b ob q,fun b ob q _ _ _=>⟨ob.slots,k b ob q⟩,fun _ _ _ n _=>n,fun b ob q _=>⟨ob,k b ob q⟩,fun _ _ q=>q,fun _ _ _ q=>q,fun _ ps q=>⟨#[],by rw[q];simp⟩⟩
theorem Un.refl:Un fs ex H H h h:=Un.kept fun _ _ q=>q
theorem Un.laid(k:∀ b u,h.get? b=some u->h'.get? b=some u)(hp:h.objs.size<=a)(hn:H a=none):Un fs ex H (upd H a o) h h' where
 keep:=fun b u q _ _ _=>k b u q
 slot:=fun b u q _ _ _=>⟨u.slots,k b u q⟩
 free:=fun b u q n _=>by rw[aE (br (bu (aP q) hp))];exact n
 there:=fun b u q _=>⟨u,k b u q⟩
 qN:=fun b xs q=>by rw[aE (bQ q hn)];exact q
 pY:=fun b u xs q=>by rw[aE (bQ q hn)];exact q
 pG:=fun b ps q=>⟨#[],by rw[aE (bQ q hn),q];simp⟩
theorem Un.write(mu:Se (H x))(he:e=x∨H e=some (.own x))(k:∀ b u,b≠e->h.get? b=some u->h'.get? b=some u)(M0:∃ u,h'.get? e=some u):Un fs ex H (upd H x o) h h':=by
 have hx:∀ b,H b=none->b≠x:=fun b n z=>by subst z;rw[n]at mu;exact mu
 have hb:∀ b,H b=none->b≠e:=fun b n z=>by
  subst z
  rcases he with r | r
  ·exact hx b n r
  ·rw[n]at r;cases r
 have hm:∀ b u,H b=some u->¬ Se (some u)->b≠x:=fun b u q nm z=>by subst z;rw[q]at mu;exact nm mu
 refine⟨fun b u q n _ _=>k b u (hb b n) q,fun b u q n _ _=>⟨u.slots,k b u (hb b n) q⟩,fun b u q n _=>by rw[aE (hx b n)];exact n,fun b u q _ =>?_,
  fun b xs q=>by rw[aE (hm b _ q fun z=>z)];exact q,fun b u xs q=>by rw[aE (hm b _ q fun z=>z)];exact q,fun b ps q=>⟨#[],by rw[aE (hm b _ q fun z=>z),q];simp⟩⟩
 by_cases Kr:b=e
 ·subst Kr;exact M0
 ·exact⟨u,k b u Kr q⟩
end
def Vd(h:Heap)(H:Hp):List Addr:=(bA h.objs.size).filter fun a=>(H a).isSome
def yS(h:Heap)(H:Hp):Heap:=mH h (Vd h H)
theorem Q4(h:Heap)(H:Hp):(yS h H).objs.size=h.objs.size:=PySem.W.hideAll_size _ _
theorem yR{h:Heap}{H:Hp}{b:Addr}{o:Obj}(e:h.get? b=some o)(n:H b=none):(yS h H).get? b=some o :=
 qJ _ e fun hm=>by
  have q:(H b).isSome=true:=(gC.mp hm).2
  rw[n]at q;simp at q
theorem XC{h:Heap}{H:Hp}{b:Addr}{o:Obj}(e:(yS h H).get? b=some o):h.get? b=some o∧H b=none:=by
 have e':h.get? b=some o:=nj (Vd h H) e
 refine⟨e',?_⟩
 cases q:H b with
 | none=>rfl
 | some x =>
  have hm:b∈Vd h H:=gC.mpr ⟨cI.mpr (aP e'),by simp[q]⟩
  have z:(yS h H).get? b=none:=PySem.W.hideAll_none (Vd h H) hm
  rw[z]at e;cases e
structure Mod(K:ao)(mg:Str->Option Value)(base:Heap):Prop where
 D6:K.In base
 glob:base.Ns mainGlobals mg
 blt:∃ mb,base.Ns builtinsNs mb∧∀ x:Str,x ≠ "__name__" -> mb x=bootBuiltins x
 nolimit:base.NoLimit
structure Cx where
 prog:Program
 w:World
 K:ao
 mg:Str->Option Value
 base:Heap
 A:Around
 N:List Str
 kO : Shared
 Bh : Hp
 env:Env
 outer:List Env
 stack:List Env
 ex:List Addr
 fn:Str->Bool
 calm:Bool
 pn:List (Addr × Obj)
 xe:Value->Shared->Prop
def iy(l:List Env):List Addr:=l.filterMap (·.frame)
abbrev Cx.fs(X:Cx):List Addr:=iy X.outer
def Nw(sc:Scope)(x:Str):Prop:=sc.names.lookup x=some .local∨sc.names.lookup x=some .cell∨sc.names.lookup x=some .free
def Loc(sc:Scope)(x:Str):Prop:=sc.names.lookup x=some .local∨sc.names.lookup x=some .cell
def Look(env:Env)(h:Heap)(m:Str->Option Value)(x:Str)(u:Value):Prop :=
 (env.kindOf x=some .local∧m x=some u)∨((env.kindOf x=some .cell∨env.kindOf x=some .free)∧∃ c,env.cells.lookup x=some c∧h.IsCell c (some u))
structure Cx.Ok(X:Cx):Prop where
 mod:Mod X.K X.mg X.base
 kind:X.env.scope.kind = .function
 glob:X.env.globals=mainGlobals
 blt:X.env.builtins=builtinsNs
 above:X.kO.heap.objs.size<=X.env.locals
 inj:∀ x y c,X.env.cells.lookup x=some c->X.env.cells.lookup y=some c->x=y
 has:∀ x,(X.env.kindOf x=some .cell∨X.env.kindOf x=some .free)->∃ c,X.env.cells.lookup x=some c
 Hr:∀ x c,X.fn x=true->X.env.cells.lookup x=some c->X.kO.heap.objs.size<=c
 hd:X.calm=true->X.A.handled=none
 frames:X.A.frames=some X.stack
 IC:X.stack=X.outer∨(X.stack=X.env :: X.outer∧X.env.frame=some X.env.locals)
 Ru:∀ b∈X.ex,b≠X.env.locals∧∀ x c,X.env.cells.lookup x=some c->c≠b
 bs:∀ b o,X.base.get? b=some o->X.kO.heap.get? b=some o∧X.Bh b=none
 zJ:X.base.objs.size<=X.kO.heap.objs.size
 AD:∀ b o,X.base.get? b=some o->b ∉ X.ex
 Dd:∀ b∈X.ex,b ∉ X.fs
 oN:X.kO.heap.FunFrames X.base X.outer
 Cn:∀ b∈X.fs,X.Bh b=none
structure Inv(X:Cx)(ah:List (Addr × Obj))(Y:List (Option V))(H:Hp)(s:Shared):Prop where
 ok:X.Ok
 os:s.os=X.kO.os
 bare:AllBare s.gens
 base:Un X.fs X.ex X.Bh H X.kO.heap s.heap
 loc:∃ m,s.heap.Ns X.env.locals m∧∀ (i:Nat) (x:Str) (v:V),X.N[i]? = some x -> Y[i]? = some (some v)->Nw X.env.scope x->∃ u,RelV v u∧Look X.env s.heap m x u
 cell:∀ x c,X.env.cells.lookup x=some c->∃ v,s.heap.IsCell c v
 free:H X.env.locals=none
 nO:∀ x c,X.env.cells.lookup x=some c->H c=none
 pin:∀ p∈X.pn ++ ah,s.heap.get? p.1=some p.2∧H p.1=none∧p.1≠X.env.locals∧p.1 ∉ X.fs∧∀ v,p.2.data ≠ .cell v
 bh:gE X.prog X.w H s.heap
 len : Y.length=X.N.length
section
variable {X:Cx}{ah:List (Addr × Obj)}{Y:List (Option V)} {H H':Hp}{s:Shared} {h':Heap}
theorem Cx.Ok.agV(ok:X.Ok){b:Addr}{o:Obj}(e:X.base.get? b=some o):b ∉ X.fs:=fun hb=>by
 have:=(ok.oN.mem hb).1
 rw[e]at this;cases this
theorem Inv.bs(I:Inv X ah Y H s):∀ b o,X.base.get? b=some o->s.heap.get? b=some o∧H b=none:=fun b o e =>
 ⟨I.base.keep b o (I.ok.bs b o e).1 (I.ok.bs b o e).2 (I.ok.agV e) (I.ok.AD b o e),I.base.free b o (I.ok.bs b o e).1 (I.ok.bs b o e).2 (I.ok.AD b o e)⟩
theorem Inv.bk(I:Inv X ah Y H s):∀ b o,X.base.get? b=some o->s.heap.get? b=some o:=fun b o e=>(I.bs b o e).1
theorem Inv.mod(I:Inv X ah Y H s):Mod X.K X.mg X.base:=I.ok.mod
theorem Inv.jy(I:Inv X ah Y H s):X.K.In s.heap:=I.ok.mod.D6.keeps I.bk
theorem Inv.lt(I:Inv X ah Y H s):X.env.locals < s.heap.objs.size:=let ⟨_,hn,_⟩:=I.loc;hn.lt
theorem Inv.sz(I:Inv X ah Y H s):X.kO.heap.objs.size<=s.heap.objs.size:=bf I.ok.above (jM I.lt)
theorem Inv.agU(I:Inv X ah Y H s){a:Addr}(h:s.heap.objs.size<=a):a ∉ X.fs:=fun hb=>by
 obtain⟨_,o,ho,_⟩:=I.ok.oN.mem hb
 exact absurd (bu (aP ho) (bf I.sz h)) (eU _)
theorem Inv.A5(I:Inv X ah Y H s):∀ x c,X.env.cells.lookup x=some c->c≠X.env.locals:=fun x c e z=>by
 obtain⟨v,o,ho,hd⟩:=I.cell x c e
 obtain⟨m,⟨o',es,ep,Ej,hd',_⟩,_⟩:=I.loc
 rw[z,Ej]at ho;cases ho;rw[hd']at hd;cases hd
theorem Inv.oN(I:Inv X ah Y H s):s.heap.FunFrames X.base X.outer:=by
 have all:∀ (l:List Env),(∀ b∈iy l,b∈X.fs)->X.kO.heap.FunFrames X.base l->s.heap.FunFrames X.base l:=by
  intro l
  induction l with
  | nil=>intro _ _;trivial
  | cons env r ih =>
   intro hs hl
   obtain⟨hk,⟨L,o,hf,hn,ho,hd⟩,hr⟩:=hl
   have hL:L∈X.fs:=hs L (by unfold iy;rw[jU,hf];exact bb)
   obtain⟨sl,e⟩:=I.base.slot L o ho (I.ok.Cn L hL) hL fun z=>I.ok.Dd L z hL
   exact⟨hk,⟨L,_,hf,hn,e,hd⟩,ih (fun b hb=>hs b (by unfold iy;rw[jU,hf];exact aR _ hb)) hr⟩
 exact all X.outer (fun _ hb=>hb) I.ok.oN
theorem Inv.stack(I:Inv X ah Y H s):s.heap.FunFrames X.base X.stack:=by
 rcases I.ok.IC with e | ⟨e,hf⟩
 ·rw[e];exact I.oN
 ·rw[e]
  obtain⟨m,hn,_⟩:=I.loc
  refine .cons (by rw[I.ok.kind];decide) hf hn ?_ I.oN
  exact iq (bf I.ok.zJ I.ok.above)
theorem Inv.Af(I:Inv X ah Y H s):∀ b∈iy X.stack,b∈X.env.locals :: X.fs:=fun b hb=>by
 rcases I.ok.IC with e | ⟨e,hf⟩
 ·rw[e]at hb;exact aR _ hb
 ·rw[e]at hb
  unfold iy at hb
  rw[jU,hf]at hb
  exact hb
theorem Inv.Fm(I:Inv X ah Y H s):∀ b∈iy X.stack,H b=none:=fun b hb=>by
 rcases aW.mp (I.Af b hb) with e | hb
 ·rw[e];exact I.free
 ·obtain⟨_,o,ho,_⟩:=I.ok.oN.mem hb
  exact I.base.free b o ho (I.ok.Cn b hb) fun z=>I.ok.Dd b z hb
theorem Inv.step{g':Array GenState}{t':Nat}{d':Drawn}{ch:List Addr}(I:Inv X ah Y H s)(wB:∀ b∈ch,(b∈X.ex∨X.kO.heap.objs.size<=b)∧b≠X.env.locals∧(∀ x c,X.env.cells.lookup x=some c->c≠b)∧∀ p∈X.pn ++ ah,p.1≠b)(keep:∀ b o,b≠X.env.locals->b ∉ X.fs->b ∉ ch->s.heap.get? b=some o->H b=none->h'.get? b=some o)(slot:∀ b o,b≠X.env.locals->b∈X.fs->b ∉ ch->s.heap.get? b=some o->H b=none->∃ sl,h'.get? b=some { o with slots:=sl })(free:∀ b o,b ∉ ch->s.heap.get? b=some o->H b=none->H' b=none)(there:∀ b o,b ∉ ch->s.heap.get? b=some o->∃ o',h'.get? b=some o')(qN:∀ b xs,H b=some (.tup xs)->H' b=some (.tup xs))(pY:∀ b o u,H b=some (.vB o u)->H' b=some (.vB o u))(pG:∀ b ps,H b=some (.nU ps)->∃ more,H' b=some (.nU (ps ++ more)))(ns:∀ m,s.heap.Ns X.env.locals m->h'.Ns X.env.locals m)(bh:gE X.prog X.w H' h')(hg:AllBare g') :
  Inv X ah Y H' { s with heap:=h',gens:=g',drawn:=d',toks:=t' }:=by
 have neL:∀ b o,X.kO.heap.get? b=some o->b≠X.env.locals:=fun b o e=>br (bu (aP e) I.ok.above)
 have VC:∀ b o,X.kO.heap.get? b=some o->b ∉ X.ex->b ∉ ch:=fun b o e hx hb=>by
  rcases(wB b hb).1 with z | z
  ·exact hx z
  ·exact absurd (bu (aP e) z) (eU _)
 have WC:∀ x c,X.env.cells.lookup x=some c->∀ v,s.heap.IsCell c v->h'.IsCell c v:=fun x c e v ⟨o,ho,hd⟩=>by
  have QC:c ∉ ch:=fun z=>(wB c z).2.2.1 x c e rfl
  by_cases hc:c∈X.fs
  ·obtain⟨sl,q⟩:=slot c o (I.A5 x c e) hc QC ho (I.nO x c e)
   exact⟨_,q,hd⟩
  ·exact⟨o,keep c o (I.A5 x c e) hc QC ho (I.nO x c e),hd⟩
 refine⟨I.ok,I.os,hg,⟨fun b o e n hb hx =>?_,fun b o e n hb hx =>?_,fun b o e n hx =>?_,fun b o e hx =>?_,fun b xs e=>qN b xs (I.base.qN b xs e),fun b o xs e=>pY b o xs (I.base.pY b o xs e),fun b ps e =>?_⟩,?_,fun x c e =>?_,?_,fun x c e =>?_,fun p hp =>?_,bh,I.len⟩
 ·exact keep b o (neL b o e) hb (VC b o e hx) (I.base.keep b o e n hb hx) (I.base.free b o e n hx)
 ·obtain⟨sl,e1⟩:=I.base.slot b o e n hb hx
  obtain⟨sl',e2⟩:=slot b _ (neL b o e) hb (VC b o e hx) e1 (I.base.free b o e n hx)
  exact⟨sl',e2⟩
 ·obtain⟨o',e1⟩:=I.base.there b o e hx
  exact free b o' (VC b o e hx) e1 (I.base.free b o e n hx)
 ·obtain⟨o',e1⟩:=I.base.there b o e hx
  exact there b o' (VC b o e hx) e1
 ·obtain⟨m1,e1⟩:=I.base.pG b ps e
  obtain⟨m2,e2⟩:=pG b _ e1
  exact⟨m1 ++ m2,by rw[e2,Bp]⟩
 ·obtain⟨m,hn,hl⟩:=I.loc
  refine⟨m,ns m hn,fun i x v e1 e2 e3 =>?_⟩
  obtain⟨u,r,l⟩:=hl i x v e1 e2 e3
  refine⟨u,r,?_⟩
  rcases l with l | ⟨k,c,e,z⟩
  ·exact .inl l
  ·exact .inr ⟨k,c,e,WC x c e _ z⟩
 ·obtain⟨v,z⟩:=I.cell x c e
  exact⟨v,WC x c e v z⟩
 ·obtain⟨m,⟨o,_,_,ho,_⟩,_⟩:=I.loc
  exact free _ o (fun z=>(wB _ z).2.1 rfl) ho I.free
 ·obtain⟨v,o,ho,hd⟩:=I.cell x c e
  exact free c o (fun z=>(wB c z).2.2.1 x c e rfl) ho (I.nO x c e)
 ·obtain⟨e,n,ne,nf,d⟩:=I.pin p hp
  have QC:p.1 ∉ ch:=fun z=>(wB p.1 z).2.2.2 p hp rfl
  exact⟨keep p.1 p.2 ne nf QC e n,free p.1 p.2 QC e n,ne,nf,d⟩
theorem Inv.un{t':Nat}(I:Inv X ah Y H s)(u:Un X.fs [] H H' s.heap h')(bh:gE X.prog X.w H' h'):Inv X ah Y H' { s with heap:=h',toks:=t' }:=by
 obtain⟨m,⟨o,es,ep,ho,r⟩,_⟩:=id I.loc
 obtain⟨sl,hL⟩:=u.any ho I.free (by simp)
 exact I.step (g':=s.gens) (d':=s.drawn) (ch := []) (fun _ z=>nomatch z) (fun b o _ hb _ e n=>u.keep b o e n hb (by simp)) (fun b o _ hb _ e n=>u.slot b o e n hb (by simp)) (fun b o _ e n=>u.free b o e n (by simp)) (fun b o _ e=>u.there b o e (by simp)) u.qN u.pY u.pG (fun m' hm=>by
  obtain⟨o',A0,KW,Ej,r'⟩:=hm
  rw[ho]at Ej;cases Ej
  exact⟨_,A0,KW,hL,r'⟩) bh I.bare
theorem Inv.call{g':Array GenState}{t':Nat}{d':Drawn}{ch:List Addr}(I:Inv X ah Y H s)(u:Un (iy X.stack) ch H H' s.heap h')(bh:gE X.prog X.w H' h')(hg:AllBare g')(wB:∀ b∈ch,(b∈X.ex∨X.kO.heap.objs.size<=b)∧b≠X.env.locals∧(∀ x c,X.env.cells.lookup x=some c->c≠b)∧∀ p∈X.pn ++ ah,p.1≠b) :
  Inv X ah Y H' { s with heap:=h',gens:=g',drawn:=d',toks:=t' }:=by
 obtain⟨m,⟨o,es,ep,ho,r⟩,_⟩:=id I.loc
 obtain⟨sl,hL⟩:=u.any ho I.free fun z=>(wB _ z).2.1 rfl
 exact I.step (ch:=ch) wB (fun b o hL hb hc e n=>u.keep b o e n (fun z=>(aW.mp (I.Af b z)).elim hL hb) hc) (fun b o _ _ hc e n=>u.any e n hc) (fun b o hc e n=>u.free b o e n hc) (fun b o hc e=>u.there b o e hc) u.qN u.pY u.pG (fun m' hm=>by
  obtain⟨o',A0,KW,Ej,r'⟩:=hm
  rw[ho]at Ej;cases Ej
  exact⟨_,A0,KW,hL,r'⟩) bh hg
theorem Inv.turned{t':Nat}{it:Addr}(I:Inv X ah Y H s)(k:∀ b o,b≠it->s.heap.get? b=some o->h'.get? b=some o)(hn:H it=none)(hL:it≠X.env.locals)(h1:it∈X.ex∨X.kO.heap.objs.size<=it)(h2:∀ x c,X.env.cells.lookup x=some c->c≠it)(h3:∀ p∈X.pn ++ ah,p.1≠it):Inv X ah Y H { s with heap:=h',toks:=t' }:=by
 have QA:∀ b u,H b=some u->b≠it:=fun b u e z=>by rw[z,hn]at e;cases e
 refine I.step (g':=s.gens) (d':=s.drawn) (ch := [it]) (fun b hb =>?_) (fun b o _ _ hc e _=>k b o (fun z=>hc (by simp[z])) e) (fun b o _ _ hc e _=>⟨o.slots,k b o (fun z=>hc (by simp[z])) e⟩) (fun _ _ _ _ n=>n)
  (fun b o hc e=>⟨o,k b o (fun z=>hc (by simp[z])) e⟩) (fun _ _ e=>e) (fun _ _ _ e=>e) (fun b ps e=>⟨#[],by rw[e];simp⟩) (fun m hm =>?_) (fun b u e =>?_) I.bare
 ·have e:b=it:=by simpa using hb
  subst e
  exact⟨h1,hL,h2,h3⟩
 ·obtain⟨o,es,ep,ho,r⟩:=hm
  exact⟨o,es,ep,k _ o (cm hL) ho,r⟩
 ·refine(I.bh b u e).sY (fun c v hc q=>k c v ?_ q) (fun _ q=>q) fun _ _ q=>q
  rcases hc with z | z
  ·rw[z];exact QA b u e
  ·exact QA c _ z
theorem Inv.tok(I:Inv X ah Y H s)(t:Nat):Inv X ah Y H { s with toks:=t }:=I.un (h':=s.heap) (t':=t) Un.refl I.bh
theorem Inv.kept{t':Nat}(I:Inv X ah Y H s)(k:∀ b u,s.heap.get? b=some u->h'.get? b=some u):Inv X ah Y H { s with heap:=h',toks:=t' }:=I.un (Un.kept k) (I.bh.kept k)
theorem Inv.laid{a:Addr}{o:HO}{t':Nat}(I:Inv X ah Y H s)(k:∀ b u,s.heap.get? b=some u->h'.get? b=some u)(hp:s.heap.objs.size<=a)(new:cY X.prog X.w (upd H a o) h' a o) :
  Inv X ah Y (upd H a o) { s with heap:=h',toks:=t' }:=I.un (Un.laid k hp (I.bh.fresh hp)) (I.bh.laid k hp new)
theorem Inv.write{x e:Addr}{o:HO}{t':Nat}(I:Inv X ah Y H s)(mu:Se (H x))(he:e=x∨H e=some (.own x))(k:∀ b u,b≠e->s.heap.get? b=some u->h'.get? b=some u)(M0:∃ u,h'.get? e=some u)(new:cY X.prog X.w (upd H x o) h' x o):Inv X ah Y (upd H x o) { s with heap:=h',toks:=t' }:=I.un (Un.write mu he k M0) (I.bh.write mu he k M0 new)
theorem Inv.Mt{Vs:List (Addr × Obj)}(I:Inv X ah Y H s)(h:∀ p∈Vs,s.heap.get? p.1=some p.2∧H p.1=none∧p.1≠X.env.locals∧p.1 ∉ X.fs∧∀ v,p.2.data ≠ .cell v):Inv X Vs Y H s :=
 ⟨I.ok,I.os,I.bare,I.base,I.loc,I.cell,I.free,I.nO,fun p hp=>(au.mp hp).elim (fun z=>I.pin p (qp _ z)) (h p),I.bh,I.len⟩
theorem C0{N:List Str}(hN:N.Nodup){i j:Nat}{x:Str}(a:N[i]? = some x)(b:N[j]? = some x):i=j:=by
 obtain⟨h1,e1⟩:=ai.mp a
 obtain⟨h2,e2⟩:=ai.mp b
 exact(Dr hN).mp (e1.trans e2.symm)
theorem Ae{M:Model}{A:Around}{E:Value->Shared->Prop}{i:Nat}{x:Str}{v:V}{u:Value}{Q:Unit->Shared->Prop}(I:Inv X ah Y H s)(hN:X.N.Nodup)(hi:X.N[i]? = some x)(hx:Loc X.env.scope x)(r:RelV v u)(h:∀ s',Inv X ah (Y.set i (some v)) H s'->(∃ a,cf a s.heap s'.heap∧(a=X.env.locals∨X.env.cells.lookup x=some a))->Q () s')(hf:X.fn x=true∨X.env.scope.names.lookup x=some .local:=by first | exact .inl rfl | exact .inr rfl | assumption):wpAny M A (storeName X.env x u) Q E s:=by
 obtain⟨m,hn,hl⟩:=id I.loc
 have Uu:(X.env.scope.kind == .class || (X.env.scope.kind == .module && X.env.locals != X.env.globals))=false:=by rw[I.ok.kind];rfl
 have OU : i < Y.length:=by rw[I.len];exact(ai.mp hi).1
 have A5:=I.A5
 have Me:∀ {a:Addr} {h':Heap},(∃ o,s.heap.get? a=some o∧H a=none)->cf a s.heap h'->gE X.prog X.w H h':=fun {a h'} ha hs b ob e=>by
  obtain⟨_,_,BF⟩:=ha
  refine(I.bh b ob e).sY (fun c w' hc q=>(hs.2 c ?_).trans q) (fun _ q=>q) fun _ _ q=>q
  rintro rfl
  rcases hc with rfl | hc
  ·rw[BF]at e;cases e
  ·rw[BF]at hc;cases hc
 rcases hx with hk | hk
 ·refine wpAny_storeName_local hk hn (fun h' hn' hs =>?_) Uu
  obtain⟨oL,_,_,hoL,_⟩:=id hn
  refine h _ ⟨I.ok,I.os,I.bare,⟨fun b o e n hb hx =>?_,fun b o e n hb hx =>?_,I.base.free,fun b o e hx =>?_,I.base.qN,I.base.pY,I.base.pG⟩,⟨_,hn',fun j y v' e1 e2 e3 =>?_⟩,fun y c e =>?_,I.free,I.nO,fun p hp =>?_,Me ⟨oL,hoL,I.free⟩ hs,by simpa using I.len⟩ ⟨_,hs,.inl rfl⟩
  ·exact(hs.2 b (br (bu (aP e) I.ok.above))).trans (I.base.keep b o e n hb hx)
  ·obtain⟨sl,e1⟩:=I.base.slot b o e n hb hx
   exact⟨sl,(hs.2 b (br (bu (aP e) I.ok.above))).trans e1⟩
  ·obtain⟨o',e1⟩:=I.base.there b o e hx
   exact⟨o',(hs.2 b (br (bu (aP e) I.ok.above))).trans e1⟩
  ·by_cases hj:j=i
   ·subst hj
    rw[hi]at e1;cases e1
    rw[oC OU]at e2
    cases e2
    exact⟨u,r,.inl ⟨hk,by simp⟩⟩
   ·rw[qr (cm hj)]at e2
    obtain⟨u',r',q⟩:=hl j y v' e1 e2 e3
    refine⟨u',r',?_⟩
    rcases q with⟨k,e⟩ | ⟨k,c,e,z⟩
    ·refine .inl ⟨k,?_⟩
     have:y≠x:=fun e=>hj (C0 hN e1 (e ▸ hi))
     simp[this,e]
    ·exact .inr ⟨k,c,e,z.sameBut hs (A5 y c e)⟩
  ·obtain⟨w',z⟩:=I.cell y c e
   exact⟨w',z.sameBut hs (A5 y c e)⟩
  ·obtain⟨e,n,ne,nf,d⟩:=I.pin p hp
   exact⟨(hs.2 p.1 ne).trans e,n,ne,nf,d⟩
 ·have hfn:X.fn x=true:=by
   rcases hf with z | z
   ·exact z
   ·rw[z]at hk;cases hk
  obtain⟨c,hc⟩:=I.ok.has x (.inl hk)
  obtain⟨w',z⟩:=I.cell x c hc
  refine wpAny_storeName_cell I.ok.kind hk hc z (fun h' uf hs =>?_)
  obtain⟨oc,G0,ahg⟩:=id z
  refine h { s with heap:=h' } ⟨I.ok,I.os,I.bare,⟨fun b o e n hb hx =>?_,fun b o e n hb hx =>?_,I.base.free,fun b o e hx =>?_,I.base.qN,I.base.pY,I.base.pG⟩,⟨m,hn.sameBut hs (cm (A5 x c hc)),fun j y v' e1 e2 e3 =>?_⟩,fun y c' e =>?_,I.free,I.nO,fun p hp =>?_,Me ⟨oc,G0,I.nO x c hc⟩ hs,by simpa using I.len⟩ ⟨c,hs,.inr hc⟩
  ·exact(hs.2 b (br (bu (aP e) (I.ok.Hr x c hfn hc)))).trans (I.base.keep b o e n hb hx)
  ·obtain⟨sl,e1⟩:=I.base.slot b o e n hb hx
   exact⟨sl,(hs.2 b (br (bu (aP e) (I.ok.Hr x c hfn hc)))).trans e1⟩
  ·obtain⟨o',e1⟩:=I.base.there b o e hx
   exact⟨o',(hs.2 b (br (bu (aP e) (I.ok.Hr x c hfn hc)))).trans e1⟩
  ·by_cases hj:j=i
   ·subst hj
    rw[hi]at e1;cases e1
    rw[oC OU]at e2
    cases e2
    exact⟨u,r,.inr ⟨.inl hk,c,hc,uf⟩⟩
   ·rw[qr (cm hj)]at e2
    obtain⟨u',r',q⟩:=hl j y v' e1 e2 e3
    refine⟨u',r',?_⟩
    rcases q with q | ⟨k,c',e,z'⟩
    ·exact .inl q
    ·refine .inr ⟨k,c',e,z'.sameBut hs ?_⟩
     rintro rfl
     exact hj (C0 hN e1 (I.ok.inj _ _ _ e hc ▸ hi))
  ·by_cases G3:c'=c
   ·subst G3;exact⟨_,uf⟩
   ·obtain⟨w2,z2⟩:=I.cell y c' e
    exact⟨w2,z2.sameBut hs G3⟩
  ·obtain⟨e,n,ne,nf,d⟩:=I.pin p hp
   refine⟨(hs.2 p.1 ?_).trans e,n,ne,nf,d⟩
   intro q
   rw[q,G0]at e
   have q':oc=p.2:=aD e
   exact d w' (by rw[<- q'];exact ahg)
theorem yw{M:Model}{A:Around}{E:Value->Shared->Prop}{i:Nat}{x:Str}{v:V}{u:Value}{Q:Unit->Shared->Prop}(I:Inv X ah Y H s)(hN:X.N.Nodup)(hi:X.N[i]? = some x)(hx:Loc X.env.scope x)(r:RelV v u)(h:∀ s',Inv X ah (Y.set i (some v)) H s'->Q () s')(hf:X.fn x=true∨X.env.scope.names.lookup x=some .local:=by first | exact .inl rfl | exact .inr rfl | assumption):wpAny M A (storeName X.env x u) Q E s :=
 Ae I hN hi hx r (fun s' I' _=>h s' I') hf
theorem Inv.WD{s':Shared}{ch:List Addr}(I:Inv X ah Y H s)(ho:s'.os=s.os)(u:Un (iy X.stack) ch H H' s.heap s'.heap)(bh:gE X.prog X.w H' s'.heap)(hg:AllBare s'.gens)(wB:∀ b∈ch,(b∈X.ex∨X.kO.heap.objs.size<=b)∧b≠X.env.locals∧(∀ x c,X.env.cells.lookup x=some c->c≠b)∧∀ p∈X.pn ++ ah,p.1≠b):Inv X ah Y H' s':=by
 obtain⟨h',g',d',t',o'⟩:=s'
 have e:o'=s.os:=ho
 subst e
 exact I.call (g':=g') (t':=t') (d':=d') u bh hg wB
end
abbrev XK:=Value->Option Addr->Hp->Prop
abbrev St:=List (Option V)
abbrev VK:=V->Hp->Prop
abbrev TE:=St->Hp->VK->Prop
abbrev TT:=St->Hp->(Bool->Hp->Prop)->Prop
abbrev TA:=St->Hp->(List V->Hp->Prop)->Prop
structure Ends where
 nx:St->Hp->Prop
 rt:VK
 bk:St->Hp->Prop:=fun _ _=>False
 ct:St->Hp->Prop:=fun _ _=>False
abbrev TS:=Ends->St->Hp->Prop
def EP(X:Cx)(ah:List (Addr × Obj))(Y:St)(Q:VK)(u:Value)(s':Shared):Prop := ∃ v H',Inv X ah Y H' s'∧RelV v u∧Q v H'
def TP(X:Cx)(ah:List (Addr × Obj))(Y:St)(Q:Bool->Hp->Prop)(b:Bool)(s':Shared):Prop := ∃ H',Inv X ah Y H' s'∧Q b H'
def AP(X:Cx)(ah:List (Addr × Obj))(Y:St)(Q:List V->Hp->Prop)(us:List Value)(s':Shared):Prop := ∃ vs H',Inv X ah Y H' s'∧Vals vs us∧Q vs H'
def SP(X:Cx)(ah:List (Addr × Obj))(D:Ends)(f:Flow)(s':Shared):Prop :=
 match f with
 | .next=>∃ bw H',Inv X ah bw H' s'∧D.nx bw H'
 | .brk=>∃ bw H',Inv X ah bw H' s'∧D.bk bw H'
 | .cont=>∃ bw H',Inv X ah bw H' s'∧D.ct bw H'
 | .ret u=>∃ v bw H',Inv X ah bw H' s'∧RelV v u∧D.rt v H'
def PE(X:Cx)(e:Expr)(t:TE):Prop :=
 ∀ (ah:List (Addr × Obj)) (s:Shared) (Y:St) (H:Hp) (Q:VK),Inv X ah Y H s->t Y H Q->wpAny (model X.prog X.w) X.A (eval e X.env) (EP X ah Y Q) X.xe s
def PT(X:Cx)(e:Expr)(t:TT):Prop :=
 ∀ (ah:List (Addr × Obj)) (s:Shared) (Y:St) (H:Hp) (Q:Bool->Hp->Prop),Inv X ah Y H s->t Y H Q->wpAny (model X.prog X.w) X.A (isTrue e X.env (eval e X.env)) (TP X ah Y Q) X.xe s
def PW(X:Cx)(e:Expr)(t:TT):Prop :=
 ∀ (yp:Sem Value) (ah:List (Addr × Obj)) (s:Shared) (Y:St) (H:Hp) (Q:Bool->Hp->Prop),Inv X ah Y H s->t Y H Q->wpAny (model X.prog X.w) X.A (isTrue e X.env yp) (TP X ah Y Q) X.xe s
theorem PW.pt{X:Cx}{e:Expr}{t:TT}(h:PW X e t):PT X e t:=h _
def PA(X:Cx)(es:List Expr)(t:TA):Prop :=
 ∀ (pos:Pos) (ah:List (Addr × Obj)) (s:Shared) (Y:St) (H:Hp) (Q:List V->Hp->Prop),Inv X ah Y H s->t Y H Q->wpAny (model X.prog X.w) X.A (spliced (backTo pos (starEach es X.env))) (AP X ah Y Q) X.xe s
def PS(X:Cx)(st:Stmt)(t:TS):Prop :=
 ∀ (ah:List (Addr × Obj)) (s:Shared) (Y:St) (H:Hp) (D:Ends),Inv X ah Y H s->t D Y H->wpAny (model X.prog X.w) X.A (exec st X.env) (SP X ah D) X.xe s
def qj(X:Cx)(st:List Stmt)(t:TS):Prop :=
 ∀ (ah:List (Addr × Obj)) (s:Shared) (Y:St) (H:Hp) (D:Ends),Inv X ah Y H s->t D Y H->wpAny (model X.prog X.w) X.A (execs st X.env) (SP X ah D) X.xe s
theorem bB{α : Type}{t:Sem α}{Q Q' : α -> Shared->Prop}{M:Model}{A:Around}{E:Value->Shared->Prop}{s:Shared}(h:wpAny M A t Q E s)(hQ:∀ a s,Q a s->Q' a s):wpAny M A t Q' E s:=wpAny_mono h hQ fun _ _ x=>x
section
variable {X:Cx}
inductive acI(i:Nat)(Y:St)(H:Hp)(Q:VK):Prop
 | mk (v:V) (e : Y[i]? = some (some v)) (q:Q v H):acI i Y H Q
def YH(i:Nat):TE:=fun Y H Q=>acI i Y H Q
def tC(v:V):TE:=fun _ H Q=>Q v H
theorem ZH{i:Nat}{x:Str}{pos:Pos}(hN:X.N[i]? = some x)(hv:Nw X.env.scope x)(hd:(x == ("__debug__" : Str))=false:=by decide)(m9:(x == ("__classdict__" : Str))=false:=by decide):PE X (.Name x pos) (YH i):=by
 intro ah s Y H Q I h
 obtain⟨v,e,h⟩:=h
 obtain⟨m,hn,hl⟩:=I.loc
 obtain⟨u,r,l⟩:=hl i x v hN e hv
 have fin:EP X ah Y Q u s:=⟨v,H,I,r,h⟩
 rcases l with⟨hk,hm⟩ | ⟨hk,c,hc,iH⟩
 ·exact wpAny_Name (wpAny_loadName_local I.ok.kind hk hn hm fin) hd
 ·rcases hk with hk | hk
  ·exact wpAny_Name (wpAny_loadName_cell I.ok.kind hk hc iH fin) hd
  ·exact wpAny_Name (wpAny_loadName_free I.ok.kind hk hc iH fin m9) hd
theorem aA{i j pos}:PE X (.Constant (.int i) j pos) (tC (.int i)):=fun _ _ _ H _ I h=>wpAny_Constant_int ⟨.int i,H,I.tok _,⟨_,O⟩,h⟩
theorem js{b j pos}:PE X (.Constant (.bool b) j pos) (tC (.bl b)):=fun _ _ _ H _ I h=>Constant_bool ⟨.bl b,H,I,O,h⟩
theorem vg{j pos}:PE X (.Constant .none j pos) (tC .cG):=fun _ _ _ H _ I h=>Constant_none ⟨.cG,H,I,O,h⟩
theorem fP{x j pos}:PE X (.Constant (.str x) j pos) (tC (.str x)):=fun _ _ _ H _ I h=>Calls.Constant_str ⟨.str x,H,I.tok _,⟨_,O⟩,h⟩
def Gl(X:Cx)(x:Str):Prop:=X.env.kindOf x=some .globalImplicit
theorem uN{E:Value->Shared->Prop}{ah:List (Addr × Obj)}{s:Shared}{Y:St}{H:Hp}{x:Str}{u:Value}{pos:Pos}{Q:Value->Shared->Prop}(I:Inv X ah Y H s)(hg:Gl X x)(hm:X.mg x=some u)(h:Q u s)(hd:(x == ("__debug__" : Str))=false:=by decide):wpAny (model X.prog X.w) X.A (eval (.Name x pos) X.env) Q E s :=
 tX I.ok.kind hg (Calls.loadGlobal_global (by rw[I.ok.glob];exact I.mod.glob.keeps I.bk) hm h) hd
theorem pS{E:Value->Shared->Prop}{ah:List (Addr × Obj)}{s:Shared}{Y:St}{H:Hp}{x:Str}{u:Value}{pos:Pos}{Q:Value->Shared->Prop}(I:Inv X ah Y H s)(hg:Gl X x)(hm:X.mg x=none)(hv:bootBuiltins x=some u)(h:Q u s)(hn:x ≠ "__name__" := by decide)(hd:(x == ("__debug__" : Str))=false:=by decide):wpAny (model X.prog X.w) X.A (eval (.Name x pos) X.env) Q E s:=by
 obtain⟨mb,h1,h2⟩:=I.mod.blt
 exact tX I.ok.kind hg (Calls.loadGlobal_builtin (by rw[I.ok.glob];exact I.mod.glob.keeps I.bk) hm (by rw[I.ok.blt];exact h1.keeps I.bk) ((h2 x hn).trans hv) h) hd
theorem o7{x:Str}{v:V}{u:Value}{pos:Pos}(hg:Gl X x)(hm:X.mg x=some u)(r:RelV v u)(hd:(x == ("__debug__" : Str))=false:=by decide):PE X (.Name x pos) (tC v) :=
 fun _ _ _ H _ I h=>uN I hg hm ⟨v,H,I,r,h⟩ hd
theorem My{x:Str}{v:V}{u:Value}{pos:Pos}(hg:Gl X x)(hm:X.mg x=none)(hv:bootBuiltins x=some u)(r:RelV v u)(hn:x ≠ "__name__" := by decide)(hd:(x == ("__debug__" : Str))=false:=by decide):PE X (.Name x pos) (tC v) :=
 fun _ _ _ H _ I h=>pS I hg hm hv ⟨v,H,I,r,h⟩ hn hd
variable {a b:Expr}{ta tb:TE}{pos:Pos}
def PC(X:Cx)(op:CmpOp)(a b:Expr)(t:TE):Prop :=
 ∀ (ah:List (Addr × Obj)) (s:Shared) (Y:St) (H:Hp) (Q:VK),Inv X ah Y H s->t Y H Q ->
  wpAny (model X.prog X.w) X.A (eval a X.env) (fun v eJ => wpAny (model X.prog X.w) X.A (eval b X.env) (fun u ic => wpAny (model X.prog X.w) X.A (compareOp op v u) (EP X ah Y Q) X.xe ic) X.xe eJ) X.xe s
inductive ac2(Q:Bool->Hp->Prop)(x:V)(H1:Hp):Prop
 | mk:∀ c,(x = .bl c)->(Q c H1)->ac2 Q x H1
def tB(t:TE):TT:=fun Y H Q=>t Y H fun x H1=>ac2 Q x H1
theorem Je{op:CmpOp}{t:TE}(h:PC X op a b t)(h1:behindInMarks op b=false:=by first | exact agW _ (by decide) (by decide) | rfl):PT X (.Compare a [op] [b] pos) (tB t):=by
 intro ah s Y H Q I hw
 refine wpAny_isTrue_Compare1 (bB (h ah s Y H _ I hw) fun v s1 h1=>bB h1 fun u s2 h2=>bB h2 fun c s3 ⟨x,H1,I1,r1,q1⟩ =>?_) h1
 obtain⟨d,rfl,q⟩:=q1
 cases r1
 exact wpAny_truthy_bool ⟨H1,I1,q⟩
theorem jm{e:Expr}{t:TE}(h:PE X e t)(he:∀ yp,isTrue e X.env yp=(do let v <- yp;standAt e.pos;holding [v] (truthy v)):=by intro _;rfl):PT X e (tB t):=by
 intro ah s Y H Q I hw
 refine isTrue_plain (bB (h ah s Y H _ I hw) fun v s1 ⟨x,H1,I1,r1,q1⟩ =>?_) (he _)
 obtain⟨d,rfl,q⟩:=q1
 cases r1
 exact wpAny_truthy_bool ⟨H1,I1,q⟩
variable {tA Vi:TT}{rest:List Expr}
def agq(t u:TT):TT:=fun Y H Q=>t Y H fun c H1=>if c=true then u Y H1 Q else Q false H1
def tOr(t u:TT):TT:=fun Y H Q=>t Y H fun c H1=>if c=true then Q true H1 else u Y H1 Q
def agj(t:TT):TT:=fun Y H Q=>t Y H fun c H1=>Q (!c) H1
theorem pw_and1(ha:PT X a tA):PW X (.BoolOp .And [a] pos) tA:=by
 intro wh ah s Y H Q I h
 refine isTrue_and (bB (ha ah s Y H Q I h) fun c s1 e =>?_)
 cases c with
 | true=>exact isTrue_and_nil e
 | false=>exact e
theorem pw_or1(ha:PT X a tA):PW X (.BoolOp .Or [a] pos) tA:=by
 intro wh ah s Y H Q I h
 refine isTrue_or (bB (ha ah s Y H Q I h) fun c s1 e =>?_)
 cases c with
 | false=>exact isTrue_or_nil e
 | true=>exact e
theorem pw_and(ha:PT X a tA)(hb:PW X (.BoolOp .And (b :: rest) pos) Vi):PW X (.BoolOp .And (a :: b :: rest) pos) (agq tA Vi):=by
 intro wh ah s Y H Q I h
 refine isTrue_and (bB (ha ah s Y H _ I h) fun c s1 ⟨H1,I1,q1⟩ =>?_)
 cases c with
 | true=>exact hb wh ah s1 Y H1 Q I1 q1
 | false=>exact⟨H1,I1,q1⟩
theorem pw_or(ha:PT X a tA)(hb:PW X (.BoolOp .Or (b :: rest) pos) Vi):PW X (.BoolOp .Or (a :: b :: rest) pos) (tOr tA Vi):=by
 intro wh ah s Y H Q I h
 refine isTrue_or (bB (ha ah s Y H _ I h) fun c s1 ⟨H1,I1,q1⟩ =>?_)
 cases c with
 | true=>exact⟨H1,I1,q1⟩
 | false=>exact hb wh ah s1 Y H1 Q I1 q1
theorem jF(ha:PT X a tA):PT X (.UnaryOp .Not a pos) (agj tA):=by
 intro ah s Y H Q I h
 exact isTrue_not (ha ah s Y H (fun c H1=>Q (!c) H1) I h)
def adn(ta tb:TE):TE:=fun Y H Q=>ta Y H fun x H1=>∃ c,x = .bl c∧if c=true then tb Y H1 Q else Q (.bl false) H1
inductive NH(Q:VK)(x:V)(H1:Hp):Prop
 | mk:∀ c,(x = .bl c)->(Q (.bl (!c)) H1)->NH Q x H1
def adi(ta:TE):TE:=fun Y H Q=>ta Y H fun x H1=>NH Q x H1
theorem Az{op}{t:TE}(h:PE X a t):PE X (.BoolOp op [a] pos) t:=fun ah s Y H Q I hw=>BoolOp_one (h ah s Y H Q I hw)
theorem AA(ha:PE X a ta)(hb:PE X (.BoolOp .And (b :: rest) pos) tb):PE X (.BoolOp .And (a :: b :: rest) pos) (adn ta tb):=by
 intro ah s Y H Q I h
 refine BoolOp_and (bB (ha ah s Y H _ I h) fun v s1 ⟨x,H1,I1,r1,q1⟩ =>?_)
 obtain⟨c,rfl,q1⟩:=q1
 cases r1
 refine wpAny_truthy_bool ?_
 cases c with
 | true=>exact hb ah s1 Y H1 Q I1 q1
 | false=>exact⟨.bl false,H1,I1,O,q1⟩
theorem ZI(ha:PE X a ta):PE X (.UnaryOp .Not a pos) (adi ta):=by
 intro ah s Y H Q I h
 refine UnaryOp_ (bB (ha ah s Y H _ I h) fun v s1 ⟨x,H1,I1,r1,q1⟩ =>?_)
 obtain⟨c,rfl,q1⟩:=q1
 cases r1
 exact not_of (wpAny_truthy_bool ⟨.bl (!c),H1,I1,O,q1⟩)
def YQ(t:TT)(ta tb:TE):TE:=fun Y H Q=>t Y H fun c H1=>if c=true then ta Y H1 Q else tb Y H1 Q
theorem CY{c:Expr}(hc:PT X c tA)(ha:PE X a ta)(hb:PE X b tb):PE X (.IfExp c a b pos) (YQ tA ta tb):=by
 intro ah s Y H Q I h
 refine wpAny_IfExp (bB (hc ah s Y H _ I h) fun d s1 ⟨H1,I1,q1⟩ =>?_)
 cases d with
 | true=>exact ha ah s1 Y H1 Q I1 q1
 | false=>exact hb ah s1 Y H1 Q I1 q1
end
def a9(K:ao)(H:Hp)(a:Addr)(xs:List V):Prop :=
 Rd H a (.lst xs) ∨
  ∃ (o:Obj) (its:Array Value) (n:Nat),K.lookup a=some o∧o.cls = .type "list" ∧ o.dict=none∧o.data = .seq its n∧its.size<=sizeLine∧Vals xs its.toList
def bM(K:ao)(H:Hp)(a:Addr)(xs:List V):Prop :=
 Rd H a (.tup xs) ∨
  ∃ (o:Obj) (its:Array Value) (n:Nat),K.lookup a=some o∧o.cls = .type "tuple" ∧ o.data = .seq its n∧its.size<=sizeLine∧Vals xs its.toList
def ahU:Value->Option V
 | .none=>some .cG
 | .bool b=>some (.bl b)
 | .int i _=>some (.int i)
 | .str x _=>some (.str x)
 | .bytes b _=>some (.wK b)
 | .float b _=>some (.KP b)
 | .ref a=>some (.ref a)
 | .type n=>some (.ty n)
 | _=>none
theorem RelV.abs{x:V}{u:Value}(r:RelV x u):ahU u=some x:=by
 cases x with
 | cG=>cases r;rfl
 | bl _=>cases r;rfl
 | int _=>obtain⟨t,rfl⟩:=r;rfl
 | str _=>obtain⟨t,rfl⟩:=r;rfl
 | wK _=>obtain⟨t,rfl⟩:=r;rfl
 | KP _=>obtain⟨t,rfl⟩:=r;rfl
 | ref _=>cases r;rfl
 | ty _=>cases r;rfl
theorem RelV.inj{x y:V}{u:Value}(r:RelV x u)(q:RelV y u):x=y:=aD (r.abs.symm.trans q.abs)
theorem Vals.inj:∀ {xs ys:List V}{us:List Value},Vals xs us->Vals ys us->xs=ys
 | _,_,_,.nil,.nil=>rfl
 | _,_,_,.cons r t,.cons r' t'=>by rw[r.inj r',Vals.inj t t']
section
variable {X:Cx}{ah:List (Addr × Obj)}{Y:St}{H:Hp}{s:Shared}{a:Addr}{xs ys:List V}
theorem a9.of{K:ao}(h:H a=some (.lst xs)):a9 K H a xs := .inl (.inl h)
theorem bM.of{K:ao}(h:H a=some (.tup xs)):bM K H a xs := .inl (.inl h)
theorem Inv.list(I:Inv X ah Y H s)(h:a9 X.K H a xs):∃ its:List Value,Vals xs its∧PlainL s.heap a its.toArray∧xs.length<=sizeLine:=by
 rcases h with h | ⟨o,its,n,hk,hc,hd,hs,hz,r⟩
 ·obtain⟨z,its,n,r,e⟩:=h.ok I.bh
  exact⟨its,r,⟨_,n,e,O,O,O⟩,z⟩
 ·refine⟨its.toList,r,⟨o,n,I.jy a o hk,hc,hd,by simpa using hs⟩,?_⟩
  have e:=r.length
  simp only[dA]at e
  omega
theorem Inv.tuple(I:Inv X ah Y H s)(h:bM X.K H a xs):∃ its:List Value,Vals xs its∧IsTup s.heap a its.toArray∧xs.length<=sizeLine:=by
 rcases h with h | ⟨o,its,n,hk,hc,hs,hz,r⟩
 ·obtain⟨z,its,r,p⟩:=h.ok I.bh
  exact⟨its,r,p.tup,z⟩
 ·refine⟨its.toList,r,⟨o,I.jy a o hk,hc,n,by simpa using hs⟩,?_⟩
  have e:=r.length
  simp only[dA]at e
  omega
theorem Inv.JC(I:Inv X ah Y H s)(h:a9 X.K H a xs)(h':a9 X.K H a ys):xs=ys:=by
 obtain⟨its,r,⟨o,n,e,_,_,d⟩,_⟩:=I.list h
 obtain⟨its',r',⟨o',n',e',_,_,d'⟩,_⟩:=I.list h'
 rw[e]at e';cases e'
 rw[d]at d'
 injection d' with d1 _
 have:its=its':=by simpa using congrArg Array.toList d1
 subst this
 exact r.inj r'
theorem Inv.Ab(I:Inv X ah Y H s)(h:bM X.K H a xs)(h':bM X.K H a ys):xs=ys:=by
 obtain⟨its,r,⟨o,e,_,n,d⟩,_⟩:=I.tuple h
 obtain⟨its',r',⟨o',e',_,n',d'⟩,_⟩:=I.tuple h'
 rw[e]at e';cases e'
 rw[d]at d'
 injection d' with d1 _
 have:its=its':=by simpa using congrArg Array.toList d1
 subst this
 exact r.inj r'
end
abbrev Cx.uW(X:Cx)(E:Value->Shared->Prop):Cx := { X with xe:=E }
abbrev Cx.Jq(X:Cx):Cx:=X.uW fun _ _=>False
theorem Cx.Ok.uW{X:Cx}(ok:X.Ok)(E:Value->Shared->Prop):(X.uW E).Ok :=
 ⟨ok.mod,ok.kind,ok.glob,ok.blt,ok.above,ok.inj,ok.has,ok.Hr,ok.hd,ok.frames,ok.IC,ok.Ru,ok.bs,ok.zJ,ok.AD,ok.Dd,ok.oN,ok.Cn⟩
theorem Cx.Ok.mQ{X:Cx}{E:Value->Shared->Prop}(ok:(X.uW E).Ok):X.Ok :=
 ⟨ok.mod,ok.kind,ok.glob,ok.blt,ok.above,ok.inj,ok.has,ok.Hr,ok.hd,ok.frames,ok.IC,ok.Ru,ok.bs,ok.zJ,ok.AD,ok.Dd,ok.oN,ok.Cn⟩
section
variable {X:Cx}{ah:List (Addr × Obj)}{Y:St}{H:Hp}{s:Shared}{E:Value->Shared->Prop}
theorem Inv.uW(I:Inv X ah Y H s)(E:Value->Shared->Prop):Inv (X.uW E) ah Y H s:=⟨I.ok.uW E,I.os,I.bare,I.base,I.loc,I.cell,I.free,I.nO,I.pin,I.bh,I.len⟩
theorem Inv.mQ(I:Inv (X.uW E) ah Y H s):Inv X ah Y H s:=⟨I.ok.mQ,I.os,I.bare,I.base,I.loc,I.cell,I.free,I.nO,I.pin,I.bh,I.len⟩
theorem SP.mQ{D:Ends}{f:Flow}{s':Shared}(h:SP (X.uW E) ah D f s'):SP X ah D f s':=by
 cases f with
 | next=>obtain⟨bw,H',I,q⟩:=h;exact⟨bw,H',I.mQ,q⟩
 | brk=>obtain⟨bw,H',I,q⟩:=h;exact⟨bw,H',I.mQ,q⟩
 | cont=>obtain⟨bw,H',I,q⟩:=h;exact⟨bw,H',I.mQ,q⟩
 | ret u=>obtain⟨v, bw,H',I,r,q⟩:=h;exact⟨v, bw,H',I.mQ,r,q⟩
theorem qj.Jq{st:List Stmt}{t:TS}(h:qj X.Jq st t):qj X st t:=fun ah s Y H D I hw =>
 wpAny_mono (h ah s Y H D (I.uW _) hw) (fun _ _ q=>q.mQ) fun _ _ z=>dy z
end
section
variable {X:Cx}{st:Stmt}{rest:List Stmt}{t u:TS}{e:Expr}{te:TE}{pos:Pos}
def Vf:TS:=fun D Y H=>D.nx Y H
def SW(t u:TS):TS:=fun D Y H=>t { D with nx:=u D } Y H
theorem cD:qj X [] Vf:=fun _ _ Y H _ I h=>wpAny_execs_nil ⟨Y,H,I,h⟩
theorem av(h1:PS X st t)(h2:qj X rest u):qj X (st :: rest) (SW t u):=by
 intro ah s Y H D I h
 refine wpAny_execs_cons (bB (h1 ah s Y H { D with nx:=u D } I h) fun f s1 q =>?_)
 cases f with
 | next =>
  obtain⟨bw,H',I',q⟩:=q
  exact h2 ah s1 bw H' D I' q
 | ret v=>exact q
 | brk=>exact q
 | cont=>exact q
theorem aI(h1:PS X st t):qj X [st] t:=by
 intro ah s Y H D I h
 refine wpAny_execs_cons (bB (h1 ah s Y H D I h) fun f s1 q =>?_)
 cases f with
 | next=>exact wpAny_execs_nil q
 | ret v=>exact q
 | brk=>exact q
 | cont=>exact q
def YW:TS:=fun D Y H=>D.bk Y H
theorem Xm:PS X (.Pass pos) Vf:=fun _ _ Y H _ I h=>wpAny_Pass ⟨Y,H,I,h⟩
theorem Jg:PS X (.Break pos) YW:=fun _ _ Y H _ I h=>wpAny_Break ⟨Y,H,I,h⟩
theorem Inv.quiet{ah:List (Addr × Obj)}{Y:St}{H:Hp}{s:Shared}(I:Inv X ah Y H s):interactive X.env=false:=by simp[interactive,I.ok.kind]
def Vh(te:TE):TS:=fun D Y H=>te Y H fun _ H1=>D.nx Y H1
theorem dt(he:PE X e te)(hs:swapsWith e none pos.line X.env=pure false:=by rfl):PS X (.Expr e pos) (Vh te):=by
 intro ah s Y H D I h
 exact wpAny_Expr_any (bB (he ah s Y H _ I h) fun v s1 ⟨x,H1,I1,r1,q1⟩=>⟨Y,H1,I1,q1⟩) I.quiet hs
def agi(te:TE):TS:=fun D Y H=>te Y H D.rt
theorem cF(he:PE X e te):PS X (.Return (some e) pos) (agi te):=by
 intro ah s Y H D I h
 exact wpAny_Return_some (bB (he ah s Y H _ I h) fun v s1 ⟨x,H1,I1,r1,q1⟩=>⟨x, Y,H1,I1,r1,q1⟩)
def SX(c:TT)(t u:TS):TS:=fun D Y H=>c Y H fun b H1=>if b=true then t D Y H1 else u D Y H1
theorem dE{c:Expr}{a b:List Stmt}{tc:TT}(hc:PT X c tc)(ha:qj X a t)(hb:qj X b u):PS X (.If c a b pos) (SX tc t u):=by
 intro ah s Y H D I h
 refine wpAny_If (bB (hc ah s Y H _ I h) fun d s1 ⟨H1,I1,q1⟩ =>?_)
 cases d with
 | true=>exact ha ah s1 Y H1 D I1 q1
 | false=>exact hb ah s1 Y H1 D I1 q1
end
abbrev TG:=V->St->Hp->(St->Hp->Prop)->Prop
abbrev EU:=List V->St->Hp->(St->Hp->Prop)->Prop
def PG(X:Cx)(mS:Expr)(t:TG):Prop :=
 ∀ (ah:List (Addr × Obj)) (s:Shared) (Y:St) (H:Hp) (v:V) (u:Value) (Q:St->Hp->Prop),Inv X ah Y H s->RelV v u->t v Y H Q ->
  wpAny (model X.prog X.w) X.A (assign mS X.env u) (fun _ s'=>∃ bw H',Inv X ah bw H' s'∧Q bw H') X.xe s
def WU(X:Cx)(ts:List Expr)(t:EU):Prop :=
 ∀ (ah:List (Addr × Obj)) (s:Shared) (Y:St) (H:Hp) (vs:List V) (us:List Value) (Q:St->Hp->Prop),Inv X ah Y H s->Vals vs us->t vs Y H Q ->
  wpAny (model X.prog X.w) X.A (assignInOrder ((assignEach ts X.env).map (·.2)) us) (fun _ s'=>∃ bw H',Inv X ah bw H' s'∧Q bw H') X.xe s
abbrev Lm:=V->V->V->Hp->(Hp->Prop)->Prop
def Pe(X:Cx)(t:Lm):Prop :=
 ∀ (ah:List (Addr × Obj)) (s:Shared) (Y:St) (H:Hp) (o i v:V) (ov iv u:Value) (Q:Hp->Prop),Inv X ah Y H s->RelV o ov->RelV i iv->RelV v u->t o i v H Q ->
  wpAny (model X.prog X.w) X.A (setItem ov iv u) (fun _ s'=>∃ H',Inv X ah Y H' s'∧Q H') X.xe s
abbrev Ln:=V->V->Hp->VK->Prop
def WT(X:Cx)(op:Operator)(t:Ln):Prop :=
 ∀ (ah:List (Addr × Obj)) (s:Shared) (Y:St) (H:Hp) (x y:V) (v u:Value) (Q:VK),Inv X ah Y H s->RelV x v->RelV y u->t x y H Q ->
  wpAny (model X.prog X.w) X.A (inplaceOp op v u) (EP X ah Y Q) X.xe s
section
variable {X:Cx}{pos:Pos}
def bq(i:Nat):TG:=fun v Y H Q=>Q (Y.set i (some v)) H
theorem bX{i:Nat}{x:Str}(hN:X.N.Nodup)(hi:X.N[i]? = some x)(hx:Loc X.env.scope x)(hf:X.fn x=true∨X.env.scope.names.lookup x=some .local:=by first | exact .inl rfl | exact .inr rfl | assumption):PG X (.Name x pos) (bq i):=by
 intro ah s Y H v u Q I r h
 exact wpAny_assign_Name (yw I hN hi hx r (fun s' I'=>⟨_,H,I',h⟩) hf)
def acb:EU:=fun vs Y H Q=>vs = []∧Q Y H
inductive NW(t:TG)(u:EU)(vs:List V)(Y:St)(H:Hp)(Q:St->Hp->Prop):Prop
 | mk:∀ v r,(vs=v :: r)->(t v Y H fun bw H'=>u r bw H' Q)->NW t u vs Y H Q
def O3(t:TG)(u:EU):EU:=fun vs Y H Q=>NW t u vs Y H Q
theorem kX:WU X [] acb:=by
 intro ah s Y H vs us Q I r h
 obtain⟨e,h⟩:=h
 subst e
 cases r
 exact assignInOrder_nil ⟨Y,H,I,h⟩
theorem et{e:Expr}{es:List Expr}{t:TG}{u:EU}(h1:PG X e t)(h2:WU X es u)(hs:(assignEach (e :: es) X.env).map (·.2)=assign e X.env :: (assignEach es X.env).map (·.2):=by rfl):WU X (e :: es) (O3 t u):=by
 intro ah s Y H vs us Q I r h
 obtain⟨v,vr,e1,h⟩:=h
 subst e1
 cases r with
 | cons r rr =>
  rw[hs]
  refine assignInOrder_cons (bB (h1 ah s Y H _ _ _ I r h) fun _ s1 ⟨L6,H1,I1,q1⟩ =>?_)
  exact h2 ah s1 L6 H1 _ _ Q I1 rr q1
inductive Sx(K:ao)(n:Nat)(t:EU)(v:V)(Y:St)(H:Hp)(Q:St->Hp->Prop):Prop
 | mk:∀ a xs,(v = .ref a)->(bM K H a xs)->(xs.length=n)->(t xs Y H Q)->Sx K n t v Y H Q
def aca(K:ao)(n:Nat)(t:EU):TG:=fun v Y H Q=>Sx K n t v Y H Q
theorem m5{es:List Expr}{k:Nat}{t:EU}{n:Nat}(hc:X.calm=true)(h:WU X es t)(hn:(assignEach es X.env).length=n:=by rfl)(jV:(assignEach es X.env).findIdx? (·.1)=none:=by rfl):PG X (.Tuple es k pos) (aca X.K n t):=by
 intro ah s Y H v u Q I r hw
 obtain⟨a,xs,e1,hq,hl,hw⟩:=hw
 subst e1
 cases r
 obtain⟨its,rv,ht,hz⟩:=I.tuple hq
 refine assign_Tuple_tuple (I.ok.hd hc) ht (by simp[hn, <- hl,rv.length]) jV fun h' hx =>?_
 have I1:Inv X ah Y H { s with heap:=h' }:=I.kept (t':=s.toks) fun b o e=>hx b o (br (aP e)) e
 exact h ah _ Y H xs _ Q I1 (by simpa using rv) hw
def ahL(to ti:TE)(t:Lm):TG:=fun v Y H Q=>to Y H fun o H1=>ti Y H1 fun i H2=>t o i v H2 fun H3=>Q Y H3
theorem DT{o i:Expr}{to ti:TE}{t:Lm}(ho:PE X o to)(hi:PE X i ti)(hs:Pe X t)(ha:∀ v,assign (.Subscript o i pos) X.env v=(do
   let ov <- holding [v] (eval o X.env)
   let iv <- holding [v,ov] (eval i X.env)
   standAt pos
   holding [v,ov,iv] (setItem ov iv v)
   release [v,ov,iv] []):=by intro _;rfl):PG X (.Subscript o i pos) (ahL to ti t):=by
 intro ah s Y H v u Q I r h
 rw[ha]
 refine wpAny_bind (wpAny_holding (bB (ho ah s Y H _ I h) fun ov s1 ⟨x,H1,I1,r1,q1⟩ =>?_))
 refine wpAny_bind (wpAny_holding (bB (hi ah s1 Y H1 _ I1 q1) fun iv s2 ⟨y,H2,I2,r2,q2⟩ =>?_))
 refine wpAny_bind (wpAny_standAt (wpAny_bind (wpAny_holding (bB (hs ah s2 Y H2 x y v ov iv u _ I2 r1 r2 r q2) fun _ s3 ⟨H3,I3,q3⟩ =>?_))))
 exact wpAny_release ⟨Y,H3,I3,q3⟩
def Iz(te:TE)(g:TG):TS:=fun D Y H=>te Y H fun x H1=>g x Y H1 D.nx
theorem DS{tg e:Expr}{te:TE}{g:TG}(he:PE X e te)(hg:PG X tg g)(hs:swapsWithSole [tg] e pos.line X.env=pure false:=by rfl)(hw:swappedStores [tg] e X.env=pure none:=by rfl)(h1:(assignEach [tg] X.env).map (·.2) = [assign tg X.env]:=by rfl):PS X (.Assign [tg] e pos) (Iz te g):=by
 intro ah s Y H D I h
 refine wpAny_Assign_stores (bB (he ah s Y H _ I h) fun v s1 ⟨x,H1,I1,r1,q1⟩ =>?_) hs hw
 rw[h1]
 exact bB (hg ah s1 Y H1 x v _ I1 r1 q1) fun _ s2 q=>q
theorem bz{i:Nat}{x:Str}{e:Expr}{te:TE}{n6:Pos}(hN:X.N.Nodup)(hi:X.N[i]? = some x)(hx:Loc X.env.scope x)(he:PE X e te)(hs:swapsWith e (some (.Name x n6)) pos.line X.env=pure false:=by rfl)(hf:X.fn x=true∨X.env.scope.names.lookup x=some .local:=by first | exact .inl rfl | exact .inr rfl | assumption) :
  PS X (.Assign [.Name x n6] e pos) (Iz te (bq i)):=by
 intro ah s Y H D I h
 refine wpAny_Assign_Name (bB (he ah s Y H _ I h) fun v s1 ⟨y,H1,I1,r1,q1⟩ =>?_) hs
 exact yw I1 hN hi hx r1 (fun s2 I2=>⟨_,H1,I2,q1⟩) hf
inductive Sh(i:Nat)(te:TE)(ti:Ln)(D:Ends)(Y:St)(H:Hp):Prop
 | mk:∀ x,(Y[i]? = some (some x))->(te Y H fun y H1=>ti x y H1 fun z H2=>D.nx (Y.set i (some z)) H2)->Sh i te ti D Y H
def agp(i:Nat)(te:TE)(ti:Ln):TS:=fun D Y H=>Sh i te ti D Y H
theorem Qm{i:Nat}{x:Str}{e:Expr}{te:TE}{op:Operator}{ti:Ln}{n6:Pos}(hN:X.N.Nodup)(hi:X.N[i]? = some x)(hx:Loc X.env.scope x)(he:PE X e te)(ho:WT X op ti)(hf:X.fn x=true∨X.env.scope.names.lookup x=some .local:=by first | exact .inl rfl | exact .inr rfl | assumption) :
  PS X (.AugAssign (.Name x n6) op e pos) (agp i te ti):=by
 intro ah s Y H D I h
 obtain⟨v,e1,h⟩:=h
 obtain⟨m,hn,hl⟩:=I.loc
 have vis:Nw X.env.scope x:=by rcases hx with k | k;exact .inl k;exact .inr (.inl k)
 obtain⟨u,r,l⟩:=hl i x v hi e1 vis
 refine wpAny_AugAssign_Name ?_
 have go:wpAny (model X.prog X.w) X.A (eval e X.env) (fun w ic => wpAny (model X.prog X.w) X.A (inplaceOp op u w) (fun r my => wpAny (model X.prog X.w) X.A (storeName X.env x r) (fun _=>SP X ah D .next) X.xe my) X.xe ic) X.xe s:=by
  refine bB (he ah s Y H _ I h) fun w s1 ⟨y,H1,I1,r1,q1⟩ =>?_
  refine bB (ho ah s1 Y H1 v y u w _ I1 r r1 q1) fun z s2 ⟨zv,H2,I2,r2,q2⟩ =>?_
  exact yw I2 hN hi hx r2 (fun s3 I3=>⟨_,H2,I3,q2⟩) hf
 rcases l with⟨hk,hm⟩ | ⟨hk,c,hc,iH⟩
 ·exact wpAny_loadName_local I.ok.kind hk hn hm go
 ·rcases hk with hk | hk
  ·exact wpAny_loadName_cell I.ok.kind hk hc iH go
  ·rcases hx with k | k
   ·have:X.env.scope.names.lookup x=some .free:=hk
    rw[k]at this;cases this
   ·have:X.env.scope.names.lookup x=some .free:=hk
    rw[k]at this;cases this
def adm(to ti te:TE)(Ob:V->V->Hp->VK->Prop)(Ve:Ln)(N9:Lm):TS:=fun D Y H=>to Y H fun o H1=>ti Y H1 fun i H2=>Ob o i H2 fun x H3=>te Y H3 fun y H4=>Ve x y H4 fun z H5=>N9 o i z H5 fun H6=>D.nx Y H6
def acW(X:Cx)(t:V->V->Hp->VK->Prop):Prop :=
 ∀ (ah:List (Addr × Obj)) (s:Shared) (Y:St) (H:Hp) (o i:V) (ov iv:Value) (Q:VK),Inv X ah Y H s->RelV o ov->RelV i iv->t o i H Q ->
  wpAny (model X.prog X.w) X.A (getItem ov iv) (EP X ah Y Q) X.xe s
theorem Xn{o i e:Expr}{to ti te:TE}{Ob:V->V->Hp->VK->Prop}{Ve:Ln}{N9:Lm}{op:Operator}{SV:Pos}(ho:PE X o to)(hi:PE X i ti)(hg:acW X Ob)(he:PE X e te)(hp:WT X op Ve)(hs:Pe X N9)(ha:∀ ov iv new,augStore i ov iv new=(do holding [new,ov,iv] (setItem ov iv new);release [new,ov,iv] [];pure .next):=by intros;rfl):PS X (.AugAssign (.Subscript o i SV) op e pos) (adm to ti te Ob Ve N9):=by
 intro ah s Y H D I h
 refine wpAny_AugAssign_SubscriptAny (bB (ho ah s Y H _ I h) fun ov s1 ⟨x1,H1,I1,r1,q1⟩ =>?_) ha
 refine bB (hi ah s1 Y H1 _ I1 q1) fun iv s2 ⟨x2,H2,I2,r2,q2⟩ =>?_
 refine bB (hg ah s2 Y H2 x1 x2 ov iv _ I2 r1 r2 q2) fun old s3 ⟨x3,H3,I3,r3,q3⟩ =>?_
 refine bB (he ah s3 Y H3 _ I3 q3) fun v s4 ⟨x4,H4,I4,r4,q4⟩ =>?_
 refine bB (hp ah s4 Y H4 x3 x4 old v _ I4 r3 r4 q4) fun new s5 ⟨x5,H5,I5,r5,q5⟩ =>?_
 exact bB (hs ah s5 Y H5 x1 x2 x5 ov iv new _ I5 r1 r2 r5 q5) fun _ s6 ⟨H6,I6,q6⟩=>⟨Y,H6,I6,q6⟩
def ipI(f:Int->Int->Int):Ln:=fun x y H Q=>∃ i j,x = .int i∧y = .int j∧Q (.int (f i j)) H
theorem QU:WT X .Add (ipI fun i j=>i+j):=by
 intro ah s Y H x y v u Q I r1 r2 h
 obtain⟨i,j,e1,e2,q⟩:=h
 subst e1;subst e2
 obtain⟨t,rfl⟩:=r1
 obtain⟨t',rfl⟩:=r2
 exact iadd_int ⟨.int _,H,I.tok _,⟨_,O⟩,q⟩
theorem aaA:WT X .Sub (ipI fun i j=>i - j):=by
 intro ah s Y H x y v u Q I r1 r2 h
 obtain⟨i,j,e1,e2,q⟩:=h
 subst e1;subst e2
 obtain⟨t,rfl⟩:=r1
 obtain⟨t',rfl⟩:=r2
 exact isub_int ⟨.int _,H,I.tok _,⟨_,O⟩,q⟩
def YG(c:TT)(tb:TS):TS:=fun D Y H=>∃ W:Nat->St->Hp->Prop,(∃ m,W m Y H)∧∀ m Y H,W m Y H ->
 c Y H fun b H1=>if b=true then ∃ N:St->Hp->Prop,(∀ bw H',N bw H'->∃ m',m' < m∧W m' bw H')∧tb { D with nx:=N,ct:=N,bk:=D.nx } Y H1 else D.nx Y H1
theorem yG{c:Expr}{body:List Stmt}{tc:TT}{tb:TS}(hp:PassesOwn (model X.prog X.w) X.A X.env X.xe)(hc:PT X c tc)(hb:qj X body tb):PS X (.While c body [] pos) (YG tc tb):=by
 intro ah s Y H D I h
 obtain⟨W,⟨m0,w0⟩,turn⟩:=h
 refine wpAny_While (codeAny_whileLoop (fun n s'=>∃ bw H',Inv X ah bw H' s'∧W n bw H') ?_ m0 ⟨Y,H,I,w0⟩)
 rintro n s1 ⟨L6,H1,I1,w1⟩
 refine wpAny_passesOwn hp (bB (hc ah s1 L6 H1 _ I1 (turn n L6 H1 w1)) fun b s2 ⟨H2,I2,q2⟩ =>?_)
 cases b with
 | true =>
  obtain⟨N,hN,q2⟩:=q2
  rw[if_pos rfl]
  refine wpAny_passesOwn hp (bB (hb ah s2 L6 H2 _ I2 q2) fun f s3 q3 =>?_)
  cases f with
  | next =>
   obtain⟨zX,H3,I3,n3⟩:=q3
   obtain⟨m',hm,w3⟩:=hN zX H3 n3
   exact⟨m',hm, zX,H3,I3,w3⟩
  | cont =>
   obtain⟨zX,H3,I3,n3⟩:=q3
   obtain⟨m',hm,w3⟩:=hN zX H3 n3
   exact⟨m',hm, zX,H3,I3,w3⟩
  | brk=>exact q3
  | ret v=>exact q3
 | false =>
  rw[if_neg a5]
  exact wpAny_execs_nil ⟨L6,H2,I2,q2⟩
end
structure It where
 go:Nat->Hp->Prop
 zY:Nat->Hp->V->Hp->Prop
 stop:Nat->Hp->Prop
def oh(X:Cx)(ah:List (Addr × Obj))(H:Hp)(b:Addr):Prop :=
 H b=none∧b≠X.env.locals∧b ∉ X.fs∧(b∈X.ex∨X.kO.heap.objs.size<=b)∧(∀ x c,X.env.cells.lookup x=some c->c≠b)∧∀ p∈X.pn ++ ah,p.1≠b
theorem Inv.yT{X:Cx}{ah:List (Addr × Obj)}{Y:St}{H H':Hp}{s:Shared}{b:Addr}(I:Inv X ah Y H s)(hb:s.heap.objs.size<=b)(hn:H' b=none):oh X ah H' b:=by
 refine⟨hn,jK (bu I.lt hb),I.agU hb,.inr (bf I.sz hb),fun x c e z =>?_,fun p hp z =>?_⟩
 ·obtain⟨v,q⟩:=I.cell x c e
  exact absurd (bu q.lt (by rw[z];exact hb)) (eU _)
 ·exact absurd (bu (aP (I.pin p hp).1) (by rw[z];exact hb)) (eU _)
structure Turn(P:Program)(w:World)(K:ao)(tg:Expr)(J:It)(fp:List Addr)(it:Addr)(tn:Nat->Heap->Prop):Prop where
 mem:it∈fp
 obj:∀ i h,tn i h->∀ b∈fp,∃ o,h.get? b=some o∧∀ v,o.data ≠ .cell v
 keep:∀ i h h',tn i h->(∀ b∈fp,∀ o,h.get? b=some o->h'.get? b=some o)->tn i h'
 item:∀ (X:Cx),X.prog=P->X.w=w->X.K=K->X.calm=true->∀ (i:Nat) (ah:List (Addr × Obj)) (s:Shared) (Y:St) (H:Hp) (E:Value->Shared->Prop),Inv X ah Y H s->(∀ b∈fp,oh X ah H b)->tn i s.heap->J.go i H ->
  wpAny (model P w) X.A (pyNext (.ref it)) (fun r s1=>∃ u,r=some u ∧
   wpAny (model P w) X.A (letOwnedTupleGo tg (.ref it) u) (fun _ s2=>∃ x H',Inv X ah Y H' s2∧RelV x u∧J.zY i H x H'∧tn (i+1) s2.heap∧∀ b∈fp,H' b=none) E s1) E s
 done:∀ (X:Cx),X.prog=P->X.w=w->X.K=K->X.calm=true->∀ (i:Nat) (ah:List (Addr × Obj)) (s:Shared) (Y:St) (H:Hp) (E:Value->Shared->Prop),Inv X ah Y H s->(∀ b∈fp,oh X ah H b)->tn i s.heap->J.stop i H ->
   wpAny (model P w) X.A (pyNext (.ref it)) (fun r s1=>r=none∧Inv X ah Y H s1) E s
 self:∀ (A:Around) (i:Nat) (s:Shared) (Q:Value->Shared->Prop) (E:Value->Shared->Prop),tn i s.heap->Q (.ref it) s->wpAny (model P w) A (pyIter (.ref it)) Q E s
abbrev TI:=St->Hp->(It->Hp->Prop)->Prop
def PIE(X:Cx)(ah:List (Addr × Obj))(Y:St)(tg:Expr)(R:It->Hp->Prop)(VO:Value)(s2:Shared):Prop :=
 ∃ (it:Addr) (fp:List Addr) (tn:Nat->Heap->Prop) (J:It) (H':Hp),VO = .ref it∧Inv X ah Y H' s2∧Turn X.prog X.w X.K tg J fp it tn∧tn 0 s2.heap∧(∀ b∈fp,oh X ah H' b)∧R J H'
def PI(X:Cx)(tg iter:Expr)(wi:TI):Prop :=
 ∀ (ah:List (Addr × Obj)) (s:Shared) (Y:St) (H:Hp) (R:It->Hp->Prop),Inv X ah Y H s->wi Y H R ->
  wpAny (model X.prog X.w) X.A (eval iter X.env) (fun v s1=>wpAny (model X.prog X.w) X.A (pyIter v) (PIE X ah Y tg R) X.xe s1) X.xe s
theorem BH{M:Model}{A:Around}{E:Value->Shared->Prop}{s:Shared}{tg:Expr}{it:Addr}{u:Value}{o:Obj}{n:String}{vs:Array Value}{Q:Unit->Shared->Prop}(ho:s.heap.get? it=some o)(hc:o.cls = .type n)(hd:o.data = .fields vs)(hn : ["enumerate", "zip", "dict_itemiterator", "dict_reverseitemiterator", "odict_iterator", "itertools.zip_longest", "itertools.pairwise"].contains n=false)(hQ:Q () s):wpAny M A (letOwnedTupleGo tg (.ref it) u) Q E s:=by
 unfold letOwnedTupleGo
 cases tg <;> first
  | exact wpAny_pure hQ
  | (cases u <;> first
    | exact wpAny_pure hQ
    | (refine wpAny_bind (wpAny_load ho ?_)
       rw[hc,hd]
       show wpAny M A (if (["enumerate", "zip", "dict_itemiterator", "dict_reverseitemiterator", "odict_iterator", "itertools.zip_longest", "itertools.pairwise"].contains n && vs[0]? == some (rawInt _))=true then _ else _) Q E s
       rw[if_neg (by intro h;rw[hn,Bool.false_and]at h;cases h)]
       exact wpAny_pure hQ))
def LB(K:ao)(a:Addr):It :=
 ⟨fun i H=>∃ xs x,a9 K H a xs∧xs[i]? = some x,fun i H x H'=>H'=H∧∀ xs,a9 K H a xs->xs[i]? = some x,fun i H=>∃ xs,a9 K H a xs∧xs.length<=i⟩
def NX(K:ao)(a:Addr):It :=
 ⟨fun i H=>∃ xs x,bM K H a xs∧xs[i]? = some x,fun i H x H'=>H'=H∧∀ xs,bM K H a xs->xs[i]? = some x,fun i H=>∃ xs,bM K H a xs∧xs.length<=i⟩
def HF(lo:Int)(n:Nat):It:=⟨fun i _=>i < n,fun i H x H'=>H'=H∧x = .int (lo+i),fun i _=>n<=i⟩
theorem PM{P:Program}{w:World}{K:ao}{tg:Expr}(a it:Addr):Turn P w K tg (LB K a) [it] it (fun i h=>h.IsListIter it a i) where
 mem:=by simp
 obj:=fun i h st b hb=>by
  have e:b=it:=by simpa using hb
  subst e
  obtain⟨o,e,c,d⟩:=st
  exact⟨o,e,fun v z=>by rw[d]at z;cases z⟩
 keep:=fun i h h' st k=>st.at fun o e=>k it (by simp) o e
 item:=by
  intro X hP hw hK hc i ah s Y H E I hf st hg
  subst hP hw hK
  obtain⟨xs,x,hq,hx⟩:=hg
  obtain⟨its,rv,p,hz⟩:=I.list hq
  obtain⟨u,hu,ru⟩:=rv.get hx
  obtain⟨f0,f1,f2,f3,f4,f5⟩:=hf it (by simp)
  refine wpAny_pyNext_list_item st p.isList (x:=u) (by simpa using hu) fun h' mW sb =>?_
  have I1:Inv X ah Y H { s with heap:=h' }:=I.turned (t':=s.toks) (fun b o hb e=>(sb.2 b hb).trans e) f0 f1 f3 f4 f5
  obtain⟨o,e,c,d⟩:=id mW
  exact⟨u,O,BH (s := { s with heap:=h' }) e c d (by decide) ⟨x,H,I1,ru,⟨O,fun ys hy=>by rw[I.JC hy hq];exact hx⟩,mW,fun b hb=>(hf b hb).1⟩⟩
 done:=by
   intro X hP hw hK hc i ah s Y H E I hf st hg
   subst hP hw hK
   obtain⟨xs,hq,hx⟩:=hg
   obtain⟨its,rv,p,hz⟩:=I.list hq
   obtain⟨f0,f1,f2,f3,f4,f5⟩:=hf it (by simp)
   have hl:=rv.length
   exact wpAny_pyNext_list_end (I.ok.hd hc) st p.isList (by simp;omega) fun h' eb=>⟨O,I.turned (t':=s.toks) (fun b o hb e=>eb b o hb e) f0 f1 f3 f4 f5⟩
 self:=fun _ _ _ _ _ st h=>wpAny_pyIter_listiter st h
theorem N6{P:Program}{w:World}{K:ao}{tg:Expr}(a it:Addr):Turn P w K tg (NX K a) [it] it (fun i h=>h.IsTupleIter it a i) where
 mem:=by simp
 obj:=fun i h st b hb=>by
  have e:b=it:=by simpa using hb
  subst e
  obtain⟨o,e,c,d⟩:=st
  exact⟨o,e,fun v z=>by rw[d]at z;cases z⟩
 keep:=fun i h h' st k=>st.at fun o e=>k it (by simp) o e
 item:=by
  intro X hP hw hK hc i ah s Y H E I hf st hg
  subst hP hw hK
  obtain⟨xs,x,hq,hx⟩:=hg
  obtain⟨its,rv,p,hz⟩:=I.tuple hq
  obtain⟨u,hu,ru⟩:=rv.get hx
  obtain⟨f0,f1,f2,f3,f4,f5⟩:=hf it (by simp)
  refine wpAny_pyNext_tuple_item st (show s.heap.IsTuple a its.toArray from p) (x:=u) (by simpa using hu) fun h' mW sb =>?_
  have I1:Inv X ah Y H { s with heap:=h' }:=I.turned (t':=s.toks) (fun b o hb e=>(sb.2 b hb).trans e) f0 f1 f3 f4 f5
  obtain⟨o,e,c,d⟩:=id mW
  exact⟨u,O,BH (s := { s with heap:=h' }) e c d (by decide) ⟨x,H,I1,ru,⟨O,fun ys hy=>by rw[I.Ab hy hq];exact hx⟩,mW,fun b hb=>(hf b hb).1⟩⟩
 done:=by
   intro X hP hw hK hc i ah s Y H E I hf st hg
   subst hP hw hK
   obtain⟨xs,hq,hx⟩:=hg
   obtain⟨its,rv,p,hz⟩:=I.tuple hq
   obtain⟨f0,f1,f2,f3,f4,f5⟩:=hf it (by simp)
   have hl:=rv.length
   exact wpAny_pyNext_tuple_end (I.ok.hd hc) st (show s.heap.IsTuple a its.toArray from p) (by simp;omega) fun h' eb=>⟨O,I.turned (t':=s.toks) (fun b o hb e=>eb b o hb e) f0 f1 f3 f4 f5⟩
 self:=fun _ _ _ _ _ st h=>wpAny_pyIter_tupleiter st h
theorem N7{P:Program}{w:World}{K:ao}{tg:Expr}(it:Addr)(lo:Int)(n:Nat):Turn P w K tg (HF lo n) [it] it (fun i h=>IsRangeIter h it (lo+(i:Nat) * 1) ((n:Int) - (i:Nat)) 1) where
 mem:=by simp
 obj:=fun i h st b hb=>by
  have e:b=it:=by simpa using hb
  subst e
  exact⟨_,st,fun v z=>by
   have z':Cy _=w4 v:=z
   cases z'⟩
 keep:=fun i h h' st k=>k it (by simp) _ st
 item:=by
  intro X hP hw hK hc i ah s Y H E I hf st hg
  subst hP hw hK
  obtain⟨f0,f1,f2,f3,f4,f5⟩:=hf it (by simp)
  have W:=Walks.range (prog:=X.prog) (w:=X.w) (I.ok.hd hc) it lo 1 n
  refine W.item i s _ _ hg st fun v h' tk hv mW kk =>?_
  obtain⟨t,rfl⟩:=hv
  have I1:Inv X ah Y H { s with heap:=h',toks:=tk }:=I.turned (fun b o hb e=>kk b o (by simpa using hb) e) f0 f1 f3 f4 f5
  refine⟨_,O,BH (s := { s with heap:=h',toks:=tk }) (n := "range_iterator") mW rfl rfl (by decide) ⟨.int (lo+i),H,I1,⟨t,?_⟩,⟨O,O⟩,mW,fun b hb=>(hf b hb).1⟩⟩
  rw[Int.mul_one]
 done:=by
   intro X hP hw hK hc i ah s Y H E I hf st hg
   subst hP hw hK
   obtain⟨f0,f1,f2,f3,f4,f5⟩:=hf it (by simp)
   exact wpAny_pyNext_range_end (I.ok.hd hc) st (by have:n<=i:=hg;omega) fun h' eb=>⟨O,I.turned (t':=s.toks) (fun b o hb e=>eb b o hb e) f0 f1 f3 f4 f5⟩
 self:=fun _ _ _ _ _ st h=>wpAny_pyIter_rangeiter st h
section
variable {X:Cx}{tg:Expr}
inductive NU(K:ao)(R:It->Hp->Prop)(x:V)(H1:Hp):Prop
 | mk:∀ a,(x = .ref a)->((∃ xs,a9 K H1 a xs))->(R (LB K a) H1)->NU K R x H1
def adQ(K:ao)(tl:TE):TI:=fun Y H R=>tl Y H fun x H1=>NU K R x H1
inductive Sv(K:ao)(R:It->Hp->Prop)(x:V)(H1:Hp):Prop
 | mk:∀ a,(x = .ref a)->((∃ xs,bM K H1 a xs))->(R (NX K a) H1)->Sv K R x H1
def ag7(K:ao)(tl:TE):TI:=fun Y H R=>tl Y H fun x H1=>Sv K R x H1
theorem fU{l:Expr}{tl:TE}(hl:PE X l tl):PI X tg l (adQ X.K tl):=by
 intro ah s Y H R I h
 refine bB (hl ah s Y H _ I h) fun v s1 ⟨x,H1,I1,r1,q1⟩ =>?_
 obtain⟨a,e,⟨xs,hq⟩,q⟩:=q1
 subst e
 cases r1
 obtain⟨its,rv,p,hz⟩:=I1.list hq
 refine wpAny_pyIter_list p.isList ?_
 refine⟨s1.heap.objs.size, [s1.heap.objs.size],_,_,H1,O,I1.kept (t':=s1.toks) fun b o e=>ay _ e,PM a _,⟨_,aT _ rfl,O,O⟩,fun b hb =>?_,q⟩
 have e:b=s1.heap.objs.size:=by simpa using hb
 subst e
 exact I1.yT (ar _) (I1.bh.fresh (ar _))
theorem Jh{l:Expr}{tl:TE}(hl:PE X l tl):PI X tg l (ag7 X.K tl):=by
 intro ah s Y H R I h
 refine bB (hl ah s Y H _ I h) fun v s1 ⟨x,H1,I1,r1,q1⟩ =>?_
 obtain⟨a,e,⟨xs,hq⟩,q⟩:=q1
 subst e
 cases r1
 obtain⟨its,rv,p,hz⟩:=I1.tuple hq
 refine wpAny_pyIter_tuple (show s1.heap.IsTuple a its.toArray from p) ?_
 refine⟨s1.heap.objs.size, [s1.heap.objs.size],_,_,H1,O,I1.kept (t':=s1.toks) fun b o e=>ay _ e,N6 a _,⟨_,aT _ rfl,O,O⟩,fun b hb =>?_,q⟩
 have e:b=s1.heap.objs.size:=by simpa using hb
 subst e
 exact I1.yT (ar _) (I1.bh.fresh (ar _))
theorem Jb{ah:List (Addr × Obj)}{Y:St}{H:Hp}{s:Shared}{R:It->Hp->Prop}{E:Value->Shared->Prop}{lo hi:Int}{t u v:Tok}{tk:Nat}(I:Inv X ah Y H s)(h1 : -(2 ^ 62)<=lo)(h2:lo < 2 ^ 62)(h3 : -(2 ^ 62)<=hi)(h4:hi < 2 ^ 62)(q:R (HF lo (hi - lo).toNat) H):wpAny (model X.prog X.w) X.A (pyIter (.ref s.heap.objs.size)) (PIE X ah Y tg R) E { s with heap:=s.heap.push { cls := .type "range",data := .fields #[.int lo t,.int hi u,.int 1 v] },toks:=tk }:=by
 refine wpAny_pyIter_range (IsRange.new ..) (small_one h1 h2 h3 h4) ?_
 have I1:Inv X ah Y H { s with heap:=s.heap.push { cls := .type "range",data := .fields #[.int lo t,.int hi u,.int 1 v] },toks:=tk }:=I.kept fun b o e=>ay _ e
 refine⟨(s.heap.push { cls := .type "range",data := .fields #[.int lo t,.int hi u,.int 1 v] }).objs.size, [(s.heap.push { cls := .type "range",data := .fields #[.int lo t,.int hi u,.int 1 v] }).objs.size],_,_,H,O,
  I1.kept (t':=tk) fun b o e=>ay _ e,N7 _ lo (hi - lo).toNat,?_,fun b hb =>?_,q⟩
 ·have e1:lo+((0:Nat):Int) * 1=lo:=by simp
  have e2:(((hi - lo).toNat:Nat):Int) - ((0:Nat):Int)=wg lo hi 1:=by rw[rangeSize_one];split <;> omega
  show IsRangeIter _ _ (lo+((0:Nat):Int) * 1) ((((hi - lo).toNat:Nat):Int) - ((0:Nat):Int)) 1
  rw[e1,e2]
  exact aT _ rfl
 ·have e:b=(s.heap.push { cls := .type "range",data := .fields #[.int lo t,.int hi u,.int 1 v] }).objs.size:=by simpa using hb
  subst e
  exact I1.yT (ar _) (I1.bh.fresh (ar _))
inductive NT(R:It->Hp->Prop)(vs:List V)(H1:Hp):Prop
 | mk:∀ (j:Int),(vs = [.int j])->(-(2 ^ 62)<=j)->(j < 2 ^ 62)->(R (HF 0 j.toNat) H1)->NT R vs H1
def adP(ta:TA):TI:=fun Y H R=>ta Y H fun vs H1=>NT R vs H1
inductive NS(R:It->Hp->Prop)(vs:List V)(H1:Hp):Prop
 | mk:∀ (i j:Int),(vs = [.int i,.int j])->((-(2 ^ 62)<=i∧i < 2 ^ 62 ∧ -(2 ^ 62)<=j∧j < 2 ^ 62))->(R (HF i (j - i).toNat) H1)->NS R vs H1
def adO(ta:TA):TI:=fun Y H R=>ta Y H fun vs H1=>NS R vs H1
theorem Ay{a:Expr}{ta:TA}{p pos:Pos}(hg:Gl X "range")(hm:X.mg "range" = none)(ha:PA X [a] ta)(hs:starEach [a] X.env = [(false,eval a X.env)]:=by rfl):PI X tg (.Call (.Name "range" p) [a] [] pos) (adP ta):=by
 intro ah s Y H R I h
 refine Call_ (pS I hg hm boot_range (gB (bB (ha pos ah s Y H _ I h) fun us s1 ⟨vs,H1,I1,r1,q1⟩ =>?_) hs rfl))
 obtain⟨j,e,q1,q2,q⟩:=q1
 subst e
 cases r1 with
 | cons r rr =>
  cases rr
  obtain⟨t,rfl⟩:=r
  exact call_range_1 (Jb I1 (by omega) (by omega) q1 q2 (by simpa using q))
theorem Qq{a b:Expr}{ta:TA}{p pos:Pos}(hg:Gl X "range")(hm:X.mg "range" = none)(ha:PA X [a,b] ta)(hs:starEach [a,b] X.env = [(false,eval a X.env),(false,eval b X.env)]:=by rfl)(jW:starEach [b] X.env = [(false,eval b X.env)]:=by rfl) :
  PI X tg (.Call (.Name "range" p) [a,b] [] pos) (adO ta):=by
 intro ah s Y H R I h
 refine Call_ (pS I hg hm boot_range (gB (bB (ha pos ah s Y H _ I h) fun us s1 ⟨vs,H1,I1,r1,q1⟩ =>?_) (by rw[hs,jW]) (by rw[jW];rfl)))
 obtain⟨i,j,e,⟨q1,q2,q3,q4⟩,q⟩:=q1
 subst e
 cases r1 with
 | cons r rr =>
  cases rr with
  | cons r' rr =>
   cases rr
   obtain⟨t,rfl⟩:=r
   obtain⟨t',rfl⟩:=r'
   exact call_range_2 (Jb I1 q1 q2 q3 q4 q)
def agm(wi:TI)(g:TG)(tb:TS):TS:=fun D Y H=>wi Y H fun J H1=>∃ W:Nat->Nat->St->Hp->Prop,(∃ m,W 0 m Y H1)∧∀ i m Y H,W i m Y H ->
 (J.stop i H∧D.nx Y H)∨(J.go i H∧∃ N:St->Hp->Prop,(∀ bw H',N bw H'->∃ m',m' < m∧W (i+1) m' bw H')∧∀ x H',J.zY i H x H'->g x Y H' fun j6 H2=>tb { D with nx:=N,ct:=N,bk:=D.nx } j6 H2)
def Ax(fp:List Addr)(h:Heap):List (Addr × Obj):=fp.filterMap fun b=>(h.get? b).map fun o=>(b,o)
theorem nM{fp:List Addr}{h:Heap}{b:Addr}{o:Obj}(hb:b∈fp)(e:h.get? b=some o):(b,o)∈Ax fp h:=sS.mpr ⟨b,hb,by rw[e];rfl⟩
theorem Qx{fp:List Addr}{h:Heap}{p:Addr × Obj}(hp:p∈Ax fp h):p.1∈fp∧h.get? p.1=some p.2:=by
 obtain⟨b,hb,e⟩:=sS.mp hp
 cases q:h.get? b with
 | none=>rw[q]at e;cases e
 | some o =>
  rw[q]at e
  have e':(b,o)=p:=aD e
  subst e'
  exact⟨hb,q⟩
theorem Inv.pinned{ah:List (Addr × Obj)}{Y:St}{H:Hp}{s:Shared}{fp:List Addr}(I:Inv X ah Y H s)(hf:∀ b∈fp,oh X ah H b)(ho:∀ b∈fp,∃ o,s.heap.get? b=some o∧∀ v,o.data ≠ .cell v):Inv X (ah ++ Ax fp s.heap) Y H s :=
 I.Mt fun p hp=>(au.mp hp).elim (fun z=>I.pin p (ck _ z)) fun z=>by
  obtain⟨hb,e⟩:=Qx z
  obtain⟨f0,f1,f2,_⟩:=hf p.1 hb
  obtain⟨o,e',d⟩:=ho p.1 hb
  rw[e]at e';cases e'
  exact⟨e,f0,f1,f2,d⟩
theorem Inv.qM{ah pl:List (Addr × Obj)}{Y:St}{H:Hp}{s:Shared}(I:Inv X (ah ++ pl) Y H s):Inv X ah Y H s:=I.Mt fun p hp=>I.pin p (ck _ (qp _ hp))
theorem fA{iter:Expr}{body:List Stmt}{wi:TI}{g:TG}{tb:TS}{pos:Pos}(hp:PassesOwn (model X.prog X.w) X.A X.env X.xe)(hc:X.calm=true)(hi:PI X tg iter wi)(hg:PG X tg g)(hb:qj X body tb)(hs:∀ x,foldedSetIterable iter X.env x=pure x:=by intro _;rfl):PS X (.For tg iter body [] pos) (agm wi g tb):=by
 intro ah s Y H D I h
 refine wpAny_For (bB (hi ah s Y H _ I h) fun v s1 h1=>bB h1 fun VO s2 h2 =>?_) hs
 obtain⟨it,fp,tn,J,H2,e,I2,T,Ah,f2,W,⟨m0,w0⟩,turn⟩:=h2
 subst e
 -- SN adp true of oY adM ah1 through oY loop
 have stat:∀ {H':Hp},(∀ b∈fp,H' b=none)->∀ b∈fp,oh X ah H' b:=fun hn b hb=>⟨hn b hb,(f2 b hb).2⟩
 refine codeAny_forLoop_any (fun n s'=>∃ i bw H',Inv X ah bw H' s'∧tn i s'.heap∧(∀ b∈fp,H' b=none)∧W i n bw H') ?_ m0 ⟨0, Y,H2,I2,Ah,fun b hb=>(f2 b hb).1,w0⟩
 rintro n s3 ⟨i, zX,H3,I3,st3,fr3,w3⟩
 rcases turn i n zX H3 w3 with⟨stop,qn⟩ | ⟨go,N,hN,step⟩
 ·refine wpAny_passesOwn hp (bB (T.done X rfl rfl rfl hc i ah s3 zX H3 X.xe I3 (stat fr3) st3 stop) fun r s4 ⟨hr,I4⟩ =>?_)
  subst hr
  exact wpAny_execs_nil ⟨zX,H3,I4,qn⟩
 ·refine wpAny_passesOwn hp (bB (T.item X rfl rfl rfl hc i ah s3 zX H3 X.xe I3 (stat fr3) st3 go) fun r s4 ⟨u,hr,h4⟩ =>?_)
  subst hr
  refine wpAny_passesOwn hp (bB h4 fun _ s5 ⟨x,H5,I5,r5,y5,Ag,Rp⟩ =>?_)
  have I5':=I5.pinned (stat Rp) (T.obj _ _ Ag)
  refine wpAny_passesOwn hp (bB (hg _ s5 zX H5 x u _ I5' r5 (step x H5 y5)) fun _ s6 ⟨σ6,H6,I6,q6⟩ =>?_)
  refine wpAny_passesOwn hp (bB (hb _ s6 σ6 H6 _ I6 q6) fun f s7 q7 =>?_)
  have again:∀ {zW:St}{H7:Hp},Inv X (ah ++ Ax fp s5.heap) zW H7 s7->N zW H7->∃ m,m < n∧∃ i bw H',Inv X ah bw H' s7∧tn i s7.heap∧(∀ b∈fp,H' b=none)∧W i m bw H':=fun {zW H7} I7 n7=>by
   obtain⟨m',hm,w7⟩:=hN zW H7 n7
   refine⟨m',hm,i+1, zW,H7,I7.qM,T.keep _ _ _ Ag fun b hb o e=>(I7.pin (b,o) (ck _ (ck _ (nM hb e)))).1,fun b hb =>?_,w7⟩
   obtain⟨o,e,d⟩:=T.obj _ _ Ag b hb
   exact(I7.pin (b,o) (ck _ (ck _ (nM hb e)))).2.1
  cases f with
  | next=>obtain⟨zW,H7,I7,n7⟩:=q7;exact again I7 n7
  | cont=>obtain⟨zW,H7,I7,n7⟩:=q7;exact again I7 n7
  | brk=>obtain⟨zW,H7,I7,q7⟩:=q7;exact⟨zW,H7,I7.qM,q7⟩
  | ret v=>obtain⟨x7, zW,H7,I7,r7,q7⟩:=q7;exact⟨x7, zW,H7,I7.qM,r7,q7⟩
end
theorem gR{K:ao}{a:Addr}{xs:List V}{g:TG}{tb:TS}{D:Ends}{Y:St}{H:Hp}(Pv:Nat->St->Hp->Prop)(h0:Pv 0 Y H)(hl:∀ i Y H,i<=xs.length->Pv i Y H->a9 K H a xs)(hs:∀ i x Y H,xs[i]? = some x->Pv i Y H->g x Y H fun j6 H2=>tb { D with nx:=Pv (i+1),ct:=Pv (i+1),bk:=D.nx } j6 H2)(hd:∀ Y H,Pv xs.length Y H->D.nx Y H) :
  ∃ W:Nat->Nat->St->Hp->Prop,(∃ m,W 0 m Y H)∧∀ i m Y H,W i m Y H ->
   ((LB K a).stop i H∧D.nx Y H)∨((LB K a).go i H∧∃ N:St->Hp->Prop,(∀ bw H',N bw H'->∃ m',m' < m∧W (i+1) m' bw H')∧∀ x H',(LB K a).zY i H x H'->g x Y H' fun j6 H2=>tb { D with nx:=N,ct:=N,bk:=D.nx } j6 H2):=by
 refine⟨fun i m Y H=>m=xs.length - i∧i<=xs.length∧Pv i Y H,⟨xs.length,by simp,bx _,h0⟩,?_⟩
 rintro i m Y H ⟨rfl,hi,p⟩
 have q:=hl i Y H hi p
 by_cases cW:i < xs.length
 ·refine .inr ⟨⟨xs,xs[i],q,by simp[cW]⟩,Pv (i+1),fun bw H' p'=>⟨xs.length - (i+1),by omega,O,cW,p'⟩,fun x H' y =>?_⟩
  obtain⟨e,y⟩:=y
  subst e
  exact hs i x Y _ (y xs q) p
 ·have e:i=xs.length:=by omega
  subst e
  exact .inl ⟨⟨xs,q,ar _⟩,hd Y H p⟩
theorem X2{K:ao}{a:Addr}{xs:List V}{g:TG}{tb:TS}{D:Ends}{Y:St}{H:Hp}(Pv:Nat->St->Hp->Prop)(h0:Pv 0 Y H)(hl:∀ i Y H,i<=xs.length->Pv i Y H->bM K H a xs)(hs:∀ i x Y H,xs[i]? = some x->Pv i Y H->g x Y H fun j6 H2=>tb { D with nx:=Pv (i+1),ct:=Pv (i+1),bk:=D.nx } j6 H2)(hd:∀ Y H,Pv xs.length Y H->D.nx Y H) :
  ∃ W:Nat->Nat->St->Hp->Prop,(∃ m,W 0 m Y H)∧∀ i m Y H,W i m Y H ->
   ((NX K a).stop i H∧D.nx Y H)∨((NX K a).go i H∧∃ N:St->Hp->Prop,(∀ bw H',N bw H'->∃ m',m' < m∧W (i+1) m' bw H')∧∀ x H',(NX K a).zY i H x H'->g x Y H' fun j6 H2=>tb { D with nx:=N,ct:=N,bk:=D.nx } j6 H2):=by
 refine⟨fun i m Y H=>m=xs.length - i∧i<=xs.length∧Pv i Y H,⟨xs.length,by simp,bx _,h0⟩,?_⟩
 rintro i m Y H ⟨rfl,hi,p⟩
 have q:=hl i Y H hi p
 by_cases cW:i < xs.length
 ·refine .inr ⟨⟨xs,xs[i],q,by simp[cW]⟩,Pv (i+1),fun bw H' p'=>⟨xs.length - (i+1),by omega,O,cW,p'⟩,fun x H' y =>?_⟩
  obtain⟨e,y⟩:=y
  subst e
  exact hs i x Y _ (y xs q) p
 ·have e:i=xs.length:=by omega
  subst e
  exact .inl ⟨⟨xs,q,ar _⟩,hd Y H p⟩
theorem G9{lo:Int}{n:Nat}{g:TG}{tb:TS}{D:Ends}{Y:St}{H:Hp}(Pv:Nat->St->Hp->Prop)(h0:Pv 0 Y H)(hs:∀ i Y H,i < n->Pv i Y H->g (.int (lo+i)) Y H fun j6 H2=>tb { D with nx:=Pv (i+1),ct:=Pv (i+1),bk:=D.nx } j6 H2)(hd:∀ Y H,Pv n Y H->D.nx Y H) :
  ∃ W:Nat->Nat->St->Hp->Prop,(∃ m,W 0 m Y H)∧∀ i m Y H,W i m Y H ->
   ((HF lo n).stop i H∧D.nx Y H)∨((HF lo n).go i H∧∃ N:St->Hp->Prop,(∀ bw H',N bw H'->∃ m',m' < m∧W (i+1) m' bw H')∧∀ x H',(HF lo n).zY i H x H'->g x Y H' fun j6 H2=>tb { D with nx:=N,ct:=N,bk:=D.nx } j6 H2):=by
 refine⟨fun i m Y H=>m=n - i∧i<=n∧Pv i Y H,⟨n,by simp,bx _,h0⟩,?_⟩
 rintro i m Y H ⟨rfl,hi,p⟩
 by_cases cW:i < n
 ·refine .inr ⟨cW,Pv (i+1),fun bw H' p'=>⟨n - (i+1),by omega,O,cW,p'⟩,fun x H' y =>?_⟩
  obtain⟨e,y⟩:=y
  subst e y
  exact hs i Y _ cW p
 ·have e:i=n:=by omega
  subst e
  exact .inl ⟨ar _,hd Y H p⟩
abbrev R2:=V->V->Hp->VK->Prop
def lI(X:Cx)(f:Value->Value->Sem Value)(r:R2):Prop :=
 ∀ (ah:List (Addr × Obj)) (s:Shared) (Y:St) (H:Hp) (x y:V) (v u:Value) (Q:VK),Inv X ah Y H s->RelV x v->RelV y u->r x y H Q ->
  wpAny (model X.prog X.w) X.A (f v u) (EP X ah Y Q) X.xe s
def UnR(X:Cx)(f:Value->Sem Value)(r:V->Hp->VK->Prop):Prop :=
 ∀ (ah:List (Addr × Obj)) (s:Shared) (Y:St) (H:Hp) (x:V) (v:Value) (Q:VK),Inv X ah Y H s->RelV x v->r x H Q ->
  wpAny (model X.prog X.w) X.A (f v) (EP X ah Y Q) X.xe s
def kr(X:Cx)(f:Value)(r:List V->Hp->VK->Prop):Prop :=
 ∀ (ah:List (Addr × Obj)) (s:Shared) (Y:St) (H:Hp) (xs:List V) (us:List Value) (Q:VK),Inv X ah Y H s->Vals xs us->r xs H Q ->
  wpAny (model X.prog X.w) X.A (call f us) (EP X ah Y Q) X.xe s
def ahW(X:Cx)(r:V->Hp->(Bool->Hp->Prop)->Prop):Prop :=
 ∀ (ah:List (Addr × Obj)) (s:Shared) (Y:St) (H:Hp) (x:V) (v:Value) (Q:Bool->Hp->Prop),Inv X ah Y H s->RelV x v->r x H Q ->
  wpAny (model X.prog X.w) X.A (truthy v) (TP X ah Y Q) X.xe s
def uX(r:R2)(ta tb:TE):TE:=fun Y H Q=>ta Y H fun x H1=>tb Y H1 fun y H2=>r x y H2 Q
def tUn(r:V->Hp->VK->Prop)(ta:TE):TE:=fun Y H Q=>ta Y H fun x H1=>r x H1 Q
inductive RI(C:Int->Int->Prop)(g:Int->Int->V)(x y:V)(H:Hp)(Q:VK):Prop
 | mk (i j:Int) (hx:x = .int i) (hy:y = .int j) (hc:C i j) (q:Q (g i j) H):RI C g x y H Q
def rI(C:Int->Int->Prop)(g:Int->Int->V):R2:=fun x y H Q=>RI C g x y H Q
inductive RI0(g:Int->Int->V)(x y:V)(H:Hp)(Q:VK):Prop
 | mk (i j:Int) (hx:x = .int i) (hy:y = .int j) (q:Q (g i j) H):RI0 g x y H Q
def Jc(g:Int->Int->V):R2:=fun x y H Q=>RI0 g x y H Q
inductive RU(g:Int->V)(x:V)(H:Hp)(Q:VK):Prop
 | mk (i:Int) (hx:x = .int i) (q:Q (g i) H):RU g x H Q
def rU(g:Int->V):V->Hp->VK->Prop:=fun x H Q=>RU g x H Q
section
variable {X:Cx}{a b c:Expr}{ta tb tc:TE}{pos:Pos}
theorem US(ha:PE X a ta)(hb:PE X b tb){ah:List (Addr × Obj)}{s:Shared}{Y:St}{H:Hp}{R:V->V->Hp->Prop}(I:Inv X ah Y H s)(h:ta Y H fun x H1=>tb Y H1 fun y H2=>R x y H2){Q:Value->Shared->Prop}{f:Value->Value->Sem Value}(hf:∀ v u s2 x y H2,Inv X ah Y H2 s2->RelV x v->RelV y u->R x y H2->wpAny (model X.prog X.w) X.A (f v u) Q X.xe s2) :
  wpAny (model X.prog X.w) X.A (eval a X.env) (fun v eJ => wpAny (model X.prog X.w) X.A (eval b X.env) (fun u ic => wpAny (model X.prog X.w) X.A (f v u) Q X.xe ic) X.xe eJ) X.xe s:=by
 refine bB (ha ah s Y H _ I h) fun v s1 ⟨x,H1,I1,r1,q1⟩ =>?_
 refine bB (hb ah s1 Y H1 _ I1 q1) fun u s2 ⟨y,H2,I2,r2,q2⟩ =>?_
 exact hf v u s2 x y H2 I2 r1 r2 q2
theorem eB{op:Operator}{r:R2}(ho:lI X (binaryOp op) r)(ha:PE X a ta)(hb:PE X b tb):PE X (.BinOp a op b pos) (uX r ta tb):=by
 intro ah s Y H Q I h
 exact wpAny_BinOp (US ha hb I h fun v u s2 x y H2 I2 rx ry q=>ho ah s2 Y H2 x y v u Q I2 rx ry q)
theorem DU{op:UnaryOp}{r:V->Hp->VK->Prop}(ho:UnR X (unaryOp op) r)(ha:PE X a ta):PE X (.UnaryOp op a pos) (tUn r ta):=by
 intro ah s Y H Q I h
 exact UnaryOp_ (bB (ha ah s Y H _ I h) fun v s1 ⟨x,H1,I1,r1,q1⟩=>ho ah s1 Y H1 x v Q I1 r1 q1)
theorem Vv{f:Value->Value->Sem Value}{C:Int->Int->Prop}{g:Int->Int->Int}(rule:∀ (i j:Int) (t u:Tok) (s:Shared) (Q:Value->Shared->Prop) (E:Value->Shared->Prop),C i j->Q (.int (g i j) s.toks) { s with toks:=s.toks+1 }->wpAny (model X.prog X.w) X.A (f (.int i t) (.int j u)) Q E s) :
  lI X f (rI C fun i j => .int (g i j)):=by
 intro ah s Y H x y v u Q I rx ry h
 obtain⟨i,j,rfl,rfl,hc,q⟩:=h
 obtain⟨t,rfl⟩:=rx
 obtain⟨t',rfl⟩:=ry
 exact rule i j t t' s _ _ hc ⟨.int (g i j),H,I.tok _,⟨_,O⟩,q⟩
theorem ZV{f:Value->Value->Sem Value}{g:Int->Int->Int}(rule:∀ (i j:Int) (t u:Tok) (s:Shared) (Q:Value->Shared->Prop) (E:Value->Shared->Prop),Q (.int (g i j) s.toks) { s with toks:=s.toks+1 }->wpAny (model X.prog X.w) X.A (f (.int i t) (.int j u)) Q E s) :
  lI X f (Jc fun i j => .int (g i j)):=by
 intro ah s Y H x y v u Q I rx ry h
 obtain⟨i,j,rfl,rfl,q⟩:=h
 obtain⟨t,rfl⟩:=rx
 obtain⟨t',rfl⟩:=ry
 exact rule i j t t' s _ _ ⟨.int (g i j),H,I.tok _,⟨_,O⟩,q⟩
theorem Tz{f:Value->Value->Sem Value}{g:Int->Int->Bool}(rule:∀ (i j:Int) (t u:Tok) (s:Shared) (Q:Value->Shared->Prop) (E:Value->Shared->Prop),Q (.bool (g i j)) s->wpAny (model X.prog X.w) X.A (f (.int i t) (.int j u)) Q E s) :
  lI X f (Jc fun i j => .bl (g i j)):=by
 intro ah s Y H x y v u Q I rx ry h
 obtain⟨i,j,rfl,rfl,q⟩:=h
 obtain⟨t,rfl⟩:=rx
 obtain⟨t',rfl⟩:=ry
 exact rule i j t t' s _ _ ⟨.bl (g i j),H,I,O,q⟩
def ac6(i j:Int):Prop:=0 < j∧j < 1073741824
def ahX(i j:Int):Prop:=0<=j∧j<=1000000∧i.natAbs < 2 ^ 64
def UY(i j:Int):Prop:=(-(2 ^ 64) < i∧i < 2 ^ 64)∨(-(2 ^ 64) < j∧j < 2 ^ 64)
theorem UY.ok{i j:Int}(h:UY i j):IntMulOk i j:=by
 rcases h with⟨h1,h2⟩ | ⟨h1,h2⟩
 ·exact .of_left (intBits_le_64 h1 h2)
 ·exact .of_right (intBits_le_64 h1 h2)
theorem l6:lI X (binaryOp .Add) (Jc fun i j => .int (i+j)):=ZV fun _ _ _ _ _ _ _ q=>add_int q
theorem ZO:lI X (binaryOp .Sub) (Jc fun i j => .int (i - j)):=ZV fun _ _ _ _ _ _ _ q=>sub_int q
theorem ZR:lI X (binaryOp .Mult) (rI UY fun i j => .int (i * j)):=Vv fun _ _ _ _ _ _ _ hc q=>mul_int q hc.ok
theorem xK:lI X (binaryOp .FloorDiv) (rI ac6 fun i j => .int (i / j)):=Vv fun i j _ _ _ _ _ hc q=>by
 have h1:(0:Int) < j:=hc.1
 have h2:j < 1073741824:=hc.2
 exact floordiv_int (by omega) (by rw[Int.fdiv_eq_ediv_of_nonneg i (by omega)];exact q) (.inl (PyProof.noPylong_small (by omega)))
theorem pQ:lI X (binaryOp .Mod) (rI (fun _ j=>0 < j) fun i j => .int (i % j)):=Vv fun i j _ _ _ _ _ hc q=>by
 have h1:(0:Int) < j:=hc
 exact mod_int' (by omega) (by rw[Int.fmod_eq_emod_of_nonneg i (by omega)];exact q)
theorem Jk:lI X (binaryOp .Pow) (rI ahX fun i j => .int (i ^ j.toNat)):=Vv fun _ _ _ _ _ _ _ hc q=>pow_int_small hc.1 hc.2.1 hc.2.2 q
theorem unI{f:Value->Sem Value}{g:Int->Int}(rule:∀ (i:Int) (t:Tok) (s:Shared) (Q:Value->Shared->Prop) (E:Value->Shared->Prop),Q (.int (g i) s.toks) { s with toks:=s.toks+1 }->wpAny (model X.prog X.w) X.A (f (.int i t)) Q E s) :
  UnR X f (rU fun i => .int (g i)):=by
 intro ah s Y H x v Q I rx h
 obtain⟨i,rfl,q⟩:=h
 obtain⟨t,rfl⟩:=rx
 exact rule i t s _ _ ⟨.int (g i),H,I.tok _,⟨_,O⟩,q⟩
theorem Aa:UnR X (unaryOp .USub) (rU fun i => .int (-i)):=unI fun _ _ _ _ _ q=>neg_int q
end
def S7:V->V->Bool
 | .cG,.cG=>true | .cG,.int _=>true | .int _,.cG=>true | .cG,.bl _=>true | .bl _,.cG=>true | .cG,.str _=>true | .str _,.cG=>true
 | .int _,.int _=>true | .bl _,.bl _=>true | .str _,.str _=>true | .wK _,.wK _=>true
 | .int _,.str _=>true | .str _,.int _=>true | .bl _,.str _=>true | .str _,.bl _=>true
 | _,_=>false
def rEq:R2:=fun x y H Q=>S7 x y=true∧Q (.bl (decide (x=y))) H
def rNe:R2:=fun x y H Q=>S7 x y=true∧Q (.bl (!decide (x=y))) H
theorem Nl{i j:Int}:decide (V.int i=V.int j)=(i == j):=by
 rw[gF]
 simp
theorem RJ{i j:Bool}:decide (V.bl i=V.bl j)=(i == j):=by
 rw[gF]
 simp
theorem Nk{i j:Str}:decide (V.str i=V.str j)=(i == j):=by
 rw[gF]
 simp
theorem Nm{i j:Array UInt8}:decide (V.wK i=V.wK j)=(i.toList == j.toList):=by
 rw[gF]
 cases i
 cases j
 simp
section
variable {X:Cx}{a b c:Expr}{ta tb tc:TE}{pos:Pos}
theorem dJ{ah:List (Addr × Obj)}{Y:St}{H:Hp}{s:Shared}{Q:VK}{k k':Bool}(I:Inv X ah Y H s)(q:Q (.bl k) H)(e:k=k'):EP X ah Y Q (.bool k') s:=by
 subst e
 exact⟨.bl k,H,I,O,q⟩
theorem gA:lI X (compareOp .Eq) rEq:=by
 intro ah s Y H x y v u Q I rx ry h
 obtain⟨hs,q⟩:=h
 cases x with
 | cG =>
  cases rx
  cases y with
  | cG=>cases ry;exact PySem.EqNone.eq_none_none (dJ I q (by simp))
  | bl j=>cases ry;exact PySem.EqNone.eq_none_bool (dJ I q (by simp))
  | int j=>obtain⟨t',rfl⟩:=ry;exact PySem.EqNone.eq_none_int (dJ I q (by simp))
  | str j=>obtain⟨t',rfl⟩:=ry;exact PySem.EqNone.eq_none_str (dJ I q (by simp))
  | _=>exact absurd (show false=true from hs) a5
 | bl i =>
  cases rx
  cases y with
  | cG=>cases ry;exact PySem.EqNone.eq_bool_none (dJ I q (by simp))
  | bl j=>cases ry;exact eq_bool (dJ I q RJ)
  | str j=>obtain⟨t',rfl⟩:=ry;exact PySem.EqMixed.eq_bool_str (dJ I q (by simp))
  | _=>exact absurd (show false=true from hs) a5
 | int i =>
  obtain⟨t,rfl⟩:=rx
  cases y with
  | cG=>cases ry;exact PySem.EqNone.eq_int_none (dJ I q (by simp))
  | int j=>obtain⟨t',rfl⟩:=ry;exact eq_int (dJ I q Nl)
  | str j=>obtain⟨t',rfl⟩:=ry;exact PySem.EqMixed.eq_int_str (dJ I q (by simp))
  | _=>exact absurd (show false=true from hs) a5
 | str i =>
  obtain⟨t,rfl⟩:=rx
  cases y with
  | cG=>cases ry;exact PySem.EqNone.eq_str_none (dJ I q (by simp))
  | bl j=>cases ry;exact PySem.EqMixed.eq_str_bool (dJ I q (by simp))
  | int j=>obtain⟨t',rfl⟩:=ry;exact PySem.EqMixed.eq_str_int (dJ I q (by simp))
  | str j=>obtain⟨t',rfl⟩:=ry;exact eq_str (dJ I q Nk)
  | _=>exact absurd (show false=true from hs) a5
 | wK i =>
  obtain⟨t,rfl⟩:=rx
  cases y with
  | wK j=>obtain⟨t',rfl⟩:=ry;exact PySem.W.eq_bytes (dJ I q Nm)
  | _=>exact absurd (show false=true from hs) a5
 | _=>cases y <;> exact absurd (show false=true from hs) a5
theorem wm:lI X (compareOp .NotEq) rNe:=by
 intro ah s Y H x y v u Q I rx ry h
 obtain⟨hs,q⟩:=h
 cases x with
 | cG =>
  cases rx
  cases y with
  | cG=>cases ry;exact PySem.EqNone.ne_none_none (dJ I q (by simp))
  | bl j=>cases ry;exact PySem.EqNone.ne_none_bool (dJ I q (by simp))
  | int j=>obtain⟨t',rfl⟩:=ry;exact PySem.EqNone.ne_none_int (dJ I q (by simp))
  | str j=>obtain⟨t',rfl⟩:=ry;exact PySem.EqNone.ne_none_str (dJ I q (by simp))
  | _=>exact absurd (show false=true from hs) a5
 | bl i =>
  cases rx
  cases y with
  | cG=>cases ry;exact PySem.EqNone.ne_bool_none (dJ I q (by simp))
  | bl j=>cases ry;exact ne_bool (dJ I q (congrArg not RJ))
  | str j=>obtain⟨t',rfl⟩:=ry;exact PySem.EqMixed.ne_bool_str (dJ I q (by simp))
  | _=>exact absurd (show false=true from hs) a5
 | int i =>
  obtain⟨t,rfl⟩:=rx
  cases y with
  | cG=>cases ry;exact PySem.EqNone.ne_int_none (dJ I q (by simp))
  | int j=>obtain⟨t',rfl⟩:=ry;exact ne_int (dJ I q (congrArg not Nl))
  | str j=>obtain⟨t',rfl⟩:=ry;exact PySem.EqMixed.ne_int_str (dJ I q (by simp))
  | _=>exact absurd (show false=true from hs) a5
 | str i =>
  obtain⟨t,rfl⟩:=rx
  cases y with
  | cG=>cases ry;exact PySem.EqNone.ne_str_none (dJ I q (by simp))
  | bl j=>cases ry;exact PySem.EqMixed.ne_str_bool (dJ I q (by simp))
  | int j=>obtain⟨t',rfl⟩:=ry;exact PySem.EqMixed.ne_str_int (dJ I q (by simp))
  | str j=>obtain⟨t',rfl⟩:=ry;exact ne_str (dJ I q (congrArg not Nk))
  | _=>exact absurd (show false=true from hs) a5
 | wK i =>
  obtain⟨t,rfl⟩:=rx
  cases y with
  | wK j=>obtain⟨t',rfl⟩:=ry;exact PySem.W.ne_bytes (dJ I q (congrArg not Nm))
  | _=>exact absurd (show false=true from hs) a5
 | _=>cases y <;> exact absurd (show false=true from hs) a5
theorem By:lI X (compareOp .Lt) (Jc fun i j => .bl (decide (i < j))):=Tz fun _ _ _ _ _ _ _ q=>lt_int q
theorem Vt:lI X (compareOp .LtE) (Jc fun i j => .bl (decide (i<=j))):=Tz fun _ _ _ _ _ _ _ q=>le_int q
theorem Vu:lI X (compareOp .Gt) (Jc fun i j => .bl (decide (j < i))):=Tz fun _ _ _ _ _ _ _ q=>gt_int q
theorem Jl:lI X (compareOp .Is) (fun x y H Q=>y = .cG∧Q (.bl (decide (x = .cG))) H):=by
 intro ah s Y H x y v u Q I rx ry h
 obtain⟨rfl,q⟩:=h
 cases ry
 refine is_none_gen (dJ I q ?_)
 cases x <;> first
  | (cases rx;rfl)
  | (obtain⟨t,rfl⟩:=rx;rfl)
theorem cz(b:Expr){op:CmpOp}(h:op ≠ .In:=by decide)(h2:op ≠ .NotIn:=by decide):behindInMarks op b=false:=by
 have e1:(op == CmpOp.In)=false:=by cases op <;> first | rfl | exact absurd rfl h
 have e2:(op == CmpOp.NotIn)=false:=by cases op <;> first | rfl | exact absurd rfl h2
 cases b <;> simp[behindInMarks,e1,e2]
theorem nJ{op:CmpOp}{r:R2}(ho:lI X (compareOp op) r)(ha:PE X a ta)(hb:PE X b tb)(hm:behindInMarks op b=false):PE X (.Compare a [op] [b] pos) (uX r ta tb):=by
 intro ah s Y H Q I h
 exact wpAny_Compare1 (US ha hb I h fun v u s2 x y H2 I2 rx ry q=>ho ah s2 Y H2 x y v u Q I2 rx ry q) hm
inductive WR(x:V)(H:Hp)(Q:Bool->Hp->Prop):Prop
 | mk (k:Bool) (hx:x = .bl k) (q:Q k H):WR x H Q
def HY(t:TE):TT:=fun Y H Q=>t Y H fun x H'=>WR x H' Q
theorem cC{op:CmpOp}{r:R2}(ho:lI X (compareOp op) r)(ha:PE X a ta)(hb:PE X b tb)(hm:behindInMarks op b=false):PT X (.Compare a [op] [b] pos) (HY (uX r ta tb)):=by
 intro ah s Y H Q I h
 refine wpAny_isTrue_Compare1 (bB (ha ah s Y H _ I h) fun v s1 ⟨x,H1,I1,r1,q1⟩=>bB (hb ah s1 Y H1 _ I1 q1) fun u s2 ⟨y,H2,I2,r2,q2⟩ =>
  bB (ho ah s2 Y H2 x y v u _ I2 r1 r2 q2) fun c s3 ⟨z,H3,I3,r3,k,e,q3⟩ =>?_) hm
 subst e
 cases r3
 exact wpAny_truthy_bool ⟨H3,I3,q3⟩
def YU(r r':R2)(ta tb tc:TE):TE:=fun Y H Q=>ta Y H fun x H1=>tb Y H1 fun y H2=>r x y H2 fun z H3=>∃ k,z = .bl k ∧
 (if k=true then tc Y H3 fun w' H4=>r' y w' H4 Q else Q (.bl false) H3)
theorem Tw{op ZW:CmpOp}{r r':R2}(ho:lI X (compareOp op) r)(Ej:lI X (compareOp ZW) r')(ha:PE X a ta)(hb:PE X b tb)(hc:PE X c tc)(hm:lastMarks [op,ZW] [b,c]=false:=by with_unfolding_all rfl):PE X (.Compare a [op,ZW] [b,c] pos) (YU r r' ta tb tc):=by
 intro ah s Y H Q I h
 refine Compare_chain (bB (ha ah s Y H _ I h) fun v s1 ⟨x,H1,I1,r1,q1⟩=>chain_link (bB (hb ah s1 Y H1 _ I1 q1) fun u s2 ⟨y,H2,I2,r2,q2⟩ =>
  bB (ho ah s2 Y H2 x y v u _ I2 r1 r2 q2) fun d s3 ⟨z,H3,I3,r3,k,e,q3⟩ =>?_)) hm
 subst e
 cases r3
 refine wpAny_truthy_bool ?_
 cases k with
 | false=>exact ite_ff ⟨.bl false,H3,I3,O,q3⟩
 | true=>exact ite_tt (chain_last (bB (hc ah s3 Y H3 _ I3 q3) fun w' s4 ⟨z',H4,I4,r4,q4⟩=>Ej ah s4 Y H4 y z' u w' Q I4 r2 r4 q4))
def acG(K:ao)(x:V)(H:Hp)(k:Bool):Prop :=
 match x with
 | .cG=>k=false
 | .bl b=>k=b
 | .int i=>k=(i != 0)
 | .str y=>y.length<=sizeLine∧k=((y.length:Int) != 0)
 | .wK y=>y.size<=sizeLine∧k=((y.size:Int) != 0)
 | .ref p=>(∃ xs,a9 K H p xs∧k = !xs.isEmpty)∨(∃ xs,bM K H p xs∧k = !xs.isEmpty)∨∃ kvs,H p=some (.dK kvs)∧k = !kvs.isEmpty
 | _=>False
theorem OK{κ : Type}{kvs:List (κ × V)}{vs:List (κ × Value)}(r:KV kvs vs):(!vs.isEmpty) = !kvs.isEmpty:=by
 cases r <;> rfl
theorem D9{xs:List V}{its:List Value}(r:Vals xs its):(!its.toArray.isEmpty) = !xs.isEmpty:=by
 cases r <;> simp
theorem vm:(sizeLine:Nat) < 2 ^ 63:=by rw[sizeLine_eq];decide
theorem YA:ahW X (fun x H Q=>∃ k,acG X.K x H k∧Q k H):=by
 intro ah s Y H x v Q I rx h
 obtain⟨k,e,q⟩:=h
 have hl:=vm
 have hs:sizeLine=16777216:=sizeLine_eq
 cases x with
 | cG =>
  cases rx
  have e':k=false:=e
  subst e'
  exact truthy_none ⟨H,I,q⟩
 | bl b =>
  cases rx
  have e':k=b:=e
  subst e'
  exact wpAny_truthy_bool ⟨H,I,q⟩
 | int i =>
  obtain⟨t,rfl⟩:=rx
  have e':k=(i != 0):=e
  subst e'
  exact PySem.P.truthy_int ⟨H,I,q⟩
 | str y =>
  obtain⟨t,rfl⟩:=rx
  obtain⟨hy,e'⟩:y.length<=sizeLine∧k=((y.length:Int) != 0):=e
  subst e'
  exact PySem.P.truthy_str (by omega) ⟨H,I.tok _,q⟩
 | wK y =>
  obtain⟨t,rfl⟩:=rx
  obtain⟨hy,e'⟩:y.size<=sizeLine∧k=((y.size:Int) != 0):=e
  subst e'
  exact PySem.W.truthy_bytes (by omega) ⟨H,I.tok _,q⟩
 | ref p =>
  cases rx
  have e':(∃ xs,a9 X.K H p xs∧k = !xs.isEmpty)∨(∃ xs,bM X.K H p xs∧k = !xs.isEmpty)∨∃ kvs,H p=some (.dK kvs)∧k = !kvs.isEmpty:=e
  rcases e' with⟨xs,hx,e'⟩ | ⟨xs,hx,e'⟩ | ⟨kvs,hx,e'⟩
  ·subst e'
   obtain⟨its,r,pl,hz⟩:=I.list hx
   have eD:=r.length
   exact wpAny_truthy_list pl.isList (by simp only[aJ];omega) ⟨H,I.tok _,by rw[D9 r];exact q⟩
  ·subst e'
   obtain⟨its,r,pl,hz⟩:=I.tuple hx
   have eD:=r.length
   exact truthy_tuple pl (by simp only[aJ];omega) ⟨H,I.tok _,by rw[D9 r];exact q⟩
  ·subst e'
   obtain⟨hz,hS,vs,r,m⟩:kvs.length<=sizeLine∧(p == sysModules)=false∧∃ vs,KV kvs vs∧s.heap.DictOf (di X.prog X.w) p vs:=I.bh p _ hx
   have eD:kvs.length=vs.length:=aV r
   exact wpAny_truthy_dict hS m (by omega) ⟨H,I.tok _,by rw[OK r];exact q⟩
 | _=>exact(show False from e).elim
theorem yF(ha:PE X a ta)(he:∀ yp,isTrue a X.env yp=(do let v <- yp;standAt a.pos;holding [v] (truthy v))) :
  PT X a (fun Y H Q=>ta Y H fun x H'=>∃ k,acG X.K x H' k∧Q k H'):=by
 intro ah s Y H Q I h
 exact isTrue_plain (bB (ha ah s Y H _ I h) fun v s1 ⟨x,H1,I1,r1,q1⟩=>YA ah s1 Y H1 x v Q I1 r1 q1) (he _)
inductive Bg(x:V)(y:V)(H:Hp)(Q:VK):Prop
 | mk:∀ i j,(x = .str i)->(y = .str j)->(i.length+j.length<=sizeLine)->(Q (.str (i ++ j)) H)->Bg x y H Q
theorem DV:lI X (binaryOp .Add) (fun x y H Q=>Bg x y H Q):=by
 intro ah s Y H x y v u Q I rx ry h
 obtain⟨i,j,rfl,rfl,hz,q⟩:=h
 obtain⟨t,rfl⟩:=rx
 obtain⟨t',rfl⟩:=ry
 exact add_str (fun t' tk=>⟨.str (i ++ j),H,I.tok _,⟨_,O⟩,q⟩) hz
theorem vals1{x:V}{us:List Value}(r:Vals [x] us):∃ u,us = [u]∧RelV x u:=by
 cases r with
 | cons r1 r2=>cases r2;exact⟨_,O,r1⟩
theorem vals2{x y:V}{us:List Value}(r:Vals [x,y] us):∃ u w',us = [u,w']∧RelV x u∧RelV y w':=by
 cases r with
 | cons r1 r2 =>
  cases r2 with
  | cons r3 r4=>cases r4;exact⟨_,_,O,r1,r3⟩
inductive Cv(xs:List V)(H:Hp)(Q:VK):Prop
 | mk:∀ i j,(xs = [.int i,.int j])->(Q (.int (if j > i then j else i)) H)->Cv xs H Q
theorem wJ(hc:X.calm=true):kr X (.builtin "max") (fun xs H Q=>Cv xs H Q):=by
 intro ah s Y H xs us Q I r h
 obtain⟨i,j,rfl,q⟩:=h
 obtain⟨u,w',rfl,⟨t,rfl⟩,⟨t',rfl⟩⟩:=vals2 r
 refine max_two_ints (I.ok.hd hc) fun h' tk k=>⟨_,H,I.kept k,?_,q⟩
 by_cases hj:j > i
 ·rw[if_pos hj,if_pos hj];exact⟨_,O⟩
 ·rw[if_neg hj,if_neg hj];exact⟨_,O⟩
inductive Cu(xs:List V)(H:Hp)(Q:VK):Prop
 | mk:∀ i j,(xs = [.int i,.int j])->(Q (.int (if j < i then j else i)) H)->Cu xs H Q
theorem wI(hc:X.calm=true):kr X (.builtin "min") (fun xs H Q=>Cu xs H Q):=by
 intro ah s Y H xs us Q I r h
 obtain⟨i,j,rfl,q⟩:=h
 obtain⟨u,w',rfl,⟨t,rfl⟩,⟨t',rfl⟩⟩:=vals2 r
 refine min_two_ints (I.ok.hd hc) fun h' tk k=>⟨_,H,I.kept k,?_,q⟩
 by_cases hj:j < i
 ·rw[if_pos hj,if_pos hj];exact⟨_,O⟩
 ·rw[if_neg hj,if_neg hj];exact⟨_,O⟩
end
structure Dk(h:Heap)(x dx C:Addr)(mA:Str->Option Value):Prop where
 obj:h.get? x=some (ig C dx)
 ns:h.Ns1 dx mA
 ne:dx≠x
theorem QG{h:Heap}{dx:Addr}{mA:Str->Option Value}(n:h.Ns1 dx mA):∃ od,h.get? dx=some od∧∀ name,rq name od=some (mA name):=by
 obtain⟨o,es,ep,ho,hd,hk,_,hm⟩:=n
 refine⟨o,ho,fun name =>?_⟩
 have e:=hm name
 unfold nsFind findBy at e
 rw[<- Array.find?_toList]at e
 unfold rq
 rw[hd]
 dsimp only
 split
 ·rename_i y q
  rw[q]at e
  exact congrArg some e
 ·rename_i q
  rw[q]at e
  have a:es.toList.any (·.refKey)=false:=by
   rw[List.any_eq_false]
   intro y hy
   obtain⟨z,t,vv⟩:=hk y (Array.mem_toList_iff.mp hy)
   simp[DictEntry.refKey,vv]
  have a':¬ es.toList.any (·.refKey)=true:=by rw[a];exact a5
  rw[if_neg a']
  exact congrArg some e
theorem Dk.look{h:Heap}{x dx C:Addr}{mA:Str->Option Value}(I:Dk h x dx C mA):∃ od,PySem.W.InstAt h x (ig C dx) C (some od)∧∀ name,rq name od=some (mA name) :=
 let ⟨od,ho,hl⟩:=QG I.ns
 ⟨od,⟨I.obj,O,O,ho⟩,hl⟩
section
variable {prog:Program}{w:World}{A:Around}{E:Value->Shared->Prop}{s:Shared}{K:ao}{x dx C f:Addr}{mA:Str->Option Value}{name:Str}{v:Value}
theorem X1{expr:Bool}{Q:Value->Shared->Prop}(X:K.In s.heap)(I:Dk s.heap x dx C mA)(hg:lV K C name=true)(hh:n9 K C=true)(ha:bH K (.ref C) name=some none)(hv:mA name=some v)(JR:Di v=true)(h:Q v { s with toks:=s.toks+1 }) :
  wpAny (model prog w) A (getAttr (.ref x) name expr) Q E s:=by
 obtain⟨od,J,hl⟩:=I.look
 exact PySem.W.get_value X J (qI hg).1 (PySem.W.findObj_own hh ha rfl (by rw[hl,hv])) JR h
theorem Uz{pl:Sem Bool}{Q:Value × List Value->Shared->Prop}(X:K.In s.heap)(I:Dk s.heap x dx C mA)(hg:lV K C name=true)(hf:bH K (.ref C) name=some (some (.ref f)))(ht:qh K (.ref f)=true)(hv:mA name=none)(h:Q (.ref f, [.ref x]) s) :
  wpAny (model prog w) A (getMethod (.ref x) name pl) Q E s:=by
 obtain⟨od,J,hl⟩:=I.look
 exact PySem.W.method_fn X J (qI hg).1 (qI hg).2 hf (beq_iff_eq.mp ht) (by show (rq name od).map (·.isSome)=some false;rw[hl,hv];rfl) h
theorem Xd{ns:List Str}{Q:Unit->Shared->Prop}(X:K.In s.heap)(I:Dk s.heap x dx C mA)(hs:bH K (.ref C) "__setattr__" = some (some (.builtin "object.__setattr__")))(hp:uk K C=true)(ht:wN K C name=some none)(hh:n9 K C=true)(hw:vI mA ns)(hsz:ns.length<=sizeLine)(h:∀ h',Dk h' x dx C (fun y=>if y=name then some v else mA y)->cf dx s.heap h'->Q () { s with heap:=h',toks:=s.toks+2 }) :
  wpAny (model prog w) A (setAttr (.ref x) name v) Q E s:=by
 obtain⟨od,J,hl⟩:=I.look
 refine PySem.W.set_plain X J hs (PySem.W.osa_open (s := { s with toks:=s.toks+1 }) (r:=none) X J hp ht fun b =>?_)
 obtain⟨cd,hc,hd'⟩:=PySem.W.any_some hh
 have hx:s.heap.get? x=some ⟨.ref C,some dx,.plain, #[]⟩:=I.obj
 refine wpAny_bind (wpAny_pure (wpAny_bind (wpAny_bind (wpAny_loadPart hx (wpAny_bind (oH.here (s := { s with toks:=s.toks+1 }) (PySem.W.looks_clsIn X hc) ?_))))))
 rw[hd']
 refine wpAny_pure (a:=some dx) (wpAny_bind (wpAny_pure (wpAny_bind ?_)))
 refine wpAny_nsSet1 (s := { s with toks:=s.toks+1 }) I.ns fun h' VY jW =>?_
 obtain⟨oD,esD,epD,hoD,hdD,hcD⟩:=VY.count (vI.cons name v hw)
 refine wpAny_bind (wpAny_lookBehind hoD (by rw[hdD];exact pastItsLine_dict (bf hcD (by rw[bO];omega))) ?_)
 exact wpAny_pure (h _ ⟨(jW.2 _ (cm I.ne)).trans I.obj,VY,I.ne⟩ jW)
theorem T2{R:Result->Shared->Prop}{vs:List Value}{kw:List (Str × Value)}(X:K.In s.heap)(hm:wO K C=true)(hi:bH K (.ref C) "__init__" = some (some (.ref f)))(hf:PySem.W.typeIn K (.ref f)=some (.type "function"))(h:codeAny (model prog w) (A.under (.builtin "type.__call__" ⟨.ref C :: vs,kw⟩)) (.call (.ref f) ⟨.ref (s.heap.objs.size+1) :: vs,kw⟩) (PySem.W.InitBack (s.heap.objs.size+1) R)
   { s with heap:=(s.heap.push fK).push (ig C s.heap.objs.size) }) :
  codeAny (model prog w) A (.call (.ref C) ⟨vs,kw⟩) R s:=by
 obtain⟨hh,g,d,t,os⟩:=s
 exact PySem.W.make_core (PySem.W.makes_of X hm) (gk X hi) (fun self=>PySem.W.bind_fn X self hf) (.inl rfl) h
end
def fc(f:Str)(v:V):List (Str × V)->List (Str × V)
 | [] => [(f,v)]
 | (g,x) :: r=>if g=f then (g,v) :: r else (g,x) :: fc f v r
theorem B7(f g:Str)(v:V):∀ fs:List (Str × V),(fc f v fs).lookup g=if g=f then some v else fs.lookup g
 | []=>by
  show mw g [(f,v)]=_
  by_cases h:g=f
  ·have hb:(g == f)=true:=beq_iff_eq.mpr h
   simp only[mw,hb,if_pos h]
  ·have hb:(g == f)=false:=beq_eq_false_iff_ne.mpr h
   simp only[mw,hb,if_neg h]
 | (k,x) :: r=>by
  have ih:=B7 f g v r
  rw[show fc f v ((k,x) :: r)=(if k=f then (k,v) :: r else (k,x) :: fc f v r) from rfl]
  by_cases hk:k=f
  ·rw[if_pos hk]
   by_cases h:g=k
   ·have hb:(g == k)=true:=beq_iff_eq.mpr h
    simp only[mw,hb,if_pos (h.trans hk)]
   ·have hb:(g == k)=false:=beq_eq_false_iff_ne.mpr h
    simp only[mw,hb,if_neg (fun e:g=f=>h (e.trans hk.symm))]
  ·rw[if_neg hk]
   by_cases h:g=k
   ·have hb:(g == k)=true:=beq_iff_eq.mpr h
    simp only[mw,hb,if_neg (fun e:g=f=>hk (h.symm.trans e))]
   ·have hb:(g == k)=false:=beq_eq_false_iff_ne.mpr h
    simp only[mw,hb]
    exact ih
theorem AJ(f:Str)(v:V):∀ fs:List (Str × V),f∈(fc f v fs).map (·.1)∧∀ g,g∈fs.map (·.1)->g∈(fc f v fs).map (·.1)
 | []=>⟨by simp[fc],fun g h=>by simp at h⟩
 | (k,x) :: r=>by
  obtain⟨i1,i2⟩:=AJ f v r
  rw[show fc f v ((k,x) :: r)=(if k=f then (k,v) :: r else (k,x) :: fc f v r) from rfl]
  by_cases hk:k=f
  ·rw[if_pos hk]
   subst hk
   exact⟨by simp,fun g h=>by simpa using h⟩
  ·rw[if_neg hk]
   refine⟨?_,fun g h =>?_⟩
   ·rw[aS]
    exact aR _ i1
   ·rw[aS]at h ⊢
    rcases aW.mp h with e | e
    ·exact aW.mpr (.inl e)
    ·exact aR _ (i2 g e)
theorem B9(f:Str)(v:V):∀ fs:List (Str × V),(fc f v fs).length<=fs.length+1
 | []=>by simp[fc]
 | (k,x) :: r=>by
  have ih:=B9 f v r
  rw[show fc f v ((k,x) :: r)=(if k=f then (k,v) :: r else (k,x) :: fc f v r) from rfl]
  by_cases hk:k=f
  ·rw[if_pos hk,bO,bO];omega
  ·rw[if_neg hk,bO,bO];omega
theorem jZ.some_of{v:V}{o:Option Value}(r:jZ (some v) o):∃ u,o=some u∧RelV v u:=by
 cases o with
 | none=>exact(show False from r).elim
 | some u=>exact⟨u,O,r⟩
theorem jZ.none_of{o:Option Value}(r:jZ none o):o=none:=by
 cases o with
 | none=>rfl
 | some u=>exact(show False from r).elim
theorem Rc{v:V}{u:Value}(r:RelV v u):Di u=true:=by
 cases v with
 | cG=>cases (show u=da from r);rfl
 | bl b=>cases (show u=jt b from r);rfl
 | int i=>obtain⟨t,e⟩:=(show ∃ t,u=ni i t from r);cases e;rfl
 | str x=>obtain⟨t,e⟩:=(show ∃ t,u=pC x t from r);cases e;rfl
 | wK b=>obtain⟨t,e⟩:=(show ∃ t,u=Value.bytes b t from r);cases e;rfl
 | KP b=>obtain⟨t,e⟩:=(show ∃ t,u=Cs b t from r);cases e;rfl
 | ref a=>cases (show u=aH a from r);rfl
 | ty n=>cases (show u=gM n from r);rfl
section
variable {P:Program}{w:World} {H H':Hp} {h h':Heap}{a C dx:Addr} {fs fs':List (Str × V)}
theorem BC(bh:gE P w H h)(e:H a=some (.ins C dx fs)):∃ mA,Dk h a dx C mA∧(∀ f,jZ (fs.lookup f) (mA f))∧vI mA (fs.map (·.1))∧fs.length<=1000∧H dx=some (.own a):=by
 obtain⟨d,z,ne,ob,mA,n,r,q⟩:=(show cY P w H h a (.ins C dx fs) from bh a _ e)
 exact⟨mA,⟨ob,n,ne⟩,r,q,z,d⟩
end
structure ym(K:ao)(C:Addr):Prop where
 pg:lV K C Hx=true
 hd:n9 K C=true
 po:uk K C=true
 sa:bH K (.ref C) "__setattr__" = some (some (.builtin "object.__setattr__"))
theorem ym.get{K:ao}{C:Addr}(c:ym K C)(f:Str):lV K C f=true:=c.pg
def kd(K:ao)(C:Addr)(f:Str):Prop:=bH K (.ref C) f=some none
theorem kd.adb{K:ao}{C:Addr}{f:Str}(n:kd K C f):wN K C f=some none:=by
 unfold wN
 rw[show bH K (.ref C) f=some none from n]
 rfl
structure Meth(K:ao)(C:Addr)(m:Str)(f:Addr):Prop where
 at_:bH K (.ref C) m=some (some (.ref f))
 fn:qh K (.ref f)=true
 kp:du K (.ref f)=true
section
variable {X:Cx}{ah:List (Addr × Obj)}{Y:St}{H:Hp}{s:Shared}{a C dx:Addr}{fs:List (Str × V)}{f:Str}{v:V}{A:Around}{E:Value->Shared->Prop}
theorem O1{b:Bool}{Q:Value->Shared->Prop}(I:Inv X ah Y H s)(e:H a=some (.ins C dx fs))(c:ym X.K C)(n:kd X.K C f)(l:fs.lookup f=some v)(h:∀ u s',Inv X ah Y H s'->RelV v u->Q u s'):wpAny (model X.prog X.w) A (getAttr (.ref a) f b) Q E s:=by
 obtain⟨mA,On,r,_,_,_⟩:=BC I.bh e
 obtain⟨u,hu,ru⟩:=jZ.some_of (v:=v) (o:=mA f) (by rw[<- l];exact r f)
 exact X1 I.jy On (c.get f) c.hd n hu (Rc ru) (h u _ (I.tok _) ru)
theorem Eu{m:Str}{g:Addr}{pl:Sem Bool}{Q:Value × List Value->Shared->Prop}(I:Inv X ah Y H s)(e:H a=some (.ins C dx fs))(c:ym X.K C)(k:Meth X.K C m g)(l:fs.lookup m=none)(h:Q (.ref g, [.ref a]) s):wpAny (model X.prog X.w) A (getMethod (.ref a) m pl) Q E s:=by
 obtain⟨mA,On,r,_,_,_⟩:=BC I.bh e
 have hn:mA m=none:=jZ.none_of (by rw[<- l];exact r m)
 exact Uz I.jy On (c.get m) k.at_ k.fn hn h
theorem Of{y:V}{u:Value}{Q:Unit->Shared->Prop}(I:Inv X ah Y H s)(e:H a=some (.ins C dx fs))(c:ym X.K C)(n:kd X.K C f)(hl:fs.length < 1000)(ry:RelV y u)(h:∀ s',Inv X ah Y (upd H a (.ins C dx (fc f y fs))) s'->Q () s'):wpAny (model X.prog X.w) A (setAttr (.ref a) f u) Q E s:=by
 obtain⟨mA,On,r,wi,_,ho⟩:=BC I.bh e
 have hz:(fs.map (·.1)).length<=sizeLine:=by rw[az,sizeLine_eq];omega
 refine Xd I.jy On c.sa c.po n.adb c.hd wi hz fun h' O' sb=>h _ ?_
 have hd:∃ o,h'.get? dx=some o:=let ⟨o,_,_,e',_⟩:=O'.ns; ⟨o,e'⟩
 refine I.write (x:=a) (e:=dx) (by rw[e];exact ft) (.inr ho) (fun b q hb z=>(sb.2 b hb).trans z) hd ?_
 refine⟨by rw[aE On.ne];exact ho,?_,On.ne,O'.obj,_,O'.ns,fun g =>?_,fun g hg =>?_⟩
 ·have:=B9 f y fs;omega
 ·show jZ ((fc f y fs).lookup g) (if g=f then some u else mA g)
  rw[B7]
  by_cases q:g=f
  ·rw[if_pos q,if_pos q];exact ry
  ·rw[if_neg q,if_neg q];exact r g
 ·by_cases q:g=f
  ·rw[q];exact(AJ f y fs).1
  ·refine(AJ f y fs).2 g (wi g fun z=>hg ?_)
   show (if g=f then some u else mA g)=none
   rw[if_neg q];exact z
theorem Inv.made(I:Inv X ah Y H s):Inv X ah Y (upd (upd H s.heap.objs.size (.own (s.heap.objs.size+1))) (s.heap.objs.size+1) (.ins C s.heap.objs.size []))
  { s with heap:=(s.heap.push fK).push (ig C s.heap.objs.size) }:=by
 have e1:(s.heap.push fK).get? s.heap.objs.size=some fK:=aT s.heap rfl
 have e2:((s.heap.push fK).push (ig C s.heap.objs.size)).get? (s.heap.objs.size+1)=some (ig C s.heap.objs.size):=by
  have:=aT (s.heap.push fK) (o:=ig C s.heap.objs.size) rfl
  rwa [fI]at this
 have e3:(s.heap.push fK).Ns s.heap.objs.size (fun _=>none):=⟨fK, #[],_,e1,O,(fun e he=>absurd he (by simp)),fun _=>rfl⟩
 have I1:=I.laid (a:=s.heap.objs.size) (o := .own (s.heap.objs.size+1)) (h':=s.heap.push fK) (t':=s.toks) (fun b u q=>ay _ q) (ar _) ⟨_,e1⟩
 refine I1.laid (a:=s.heap.objs.size+1) (o := .ins C s.heap.objs.size []) (t':=s.toks) (fun b u q=>ay _ q) (nz (fI _ _)) ?_
 have ne:s.heap.objs.size≠s.heap.objs.size+1:=br (vQ _)
 refine⟨by rw[aE ne,aF],bx _,ne,e2,fun _=>none,(Heap.Ns1.of_empty e3).at fun o q=>ay _ q,fun _=>ft,fun y hy=>absurd rfl hy⟩
theorem Yh{prog:Program}{w:World}{env:Env}{e:Expr}{f:Str}{pos:Pos}{s:Shared}{Q:Value->Shared->Prop}(hb:attributeBase e f env (eval e env)=eval e env)(h:wpAny (model prog w) A (eval e env) (fun o eJ => wpAny (model prog w) A (getAttr o f true) Q E eJ) E s):wpAny (model prog w) A (eval (.Attribute e f pos) env) Q E s :=
 Attribute_any_ h (by rw[arm_eval_Attribute,hb])
end
inductive acV(K:ao)(f:Str)(x:V)(H:Hp)(Q:VK):Prop
 | mk (a C dx:Addr) (fs:List (Str × V)) (v:V) (hx:x = .ref a) (h:H a=some (.ins C dx fs)) (c:ym K C) (n:kd K C f) (l:fs.lookup f=some v) (q:Q v H):acV K f x H Q
def agn(K:ao)(ta:TE)(f:Str):TE:=fun Y H Q=>ta Y H fun x H1=>acV K f x H1 Q
inductive Si(K:ao)(f:Str)(D:Ends)(Y:St)(y:V)(x:V)(H2:Hp):Prop
 | mk:∀ a C dx fs,(x = .ref a)->(H2 a=some (.ins C dx fs))->(ym K C)->(kd K C f)->(fs.length < 1000)->(D.nx Y (upd H2 a (.ins C dx (fc f y fs))))->Si K f D Y y x H2
def agu(K:ao)(ta tv:TE)(f:Str):TS:=fun D Y H=>tv Y H fun y H1=>ta Y H1 fun x H2=>Si K f D Y y x H2
section
variable {X:Cx}{o e value:Expr}{f:Str}{pos n6 SV:Pos}{ta tv:TE}
theorem eC(he:PE X e ta)(hb:attributeBase e f X.env (eval e X.env)=eval e X.env):PE X (.Attribute e f pos) (agn X.K ta f):=by
 intro ah s Y H Q I h
 refine Yh hb (bB (he ah s Y H _ I h) fun u s1 ⟨x,H1,I1,rx,a,C,dx,fs,v,ex,ea,c,n,l,q⟩ =>?_)
 subst ex
 obtain rfl:u=aH a:=rx
 exact O1 I1 ea c n l fun u' s2 I2 ru=>⟨v,H1,I2,ru,q⟩
theorem sq(ha:PE X o ta)(hv:PE X value tv)(hs:swapsWith value (some (.Attribute o f n6)) pos.line X.env=pure false):PS X (.Assign [.Attribute o f n6] value pos) (agu X.K ta tv f):=by
 intro ah s Y H D I h
 refine plainObj_wpAny_Assign_Attribute (bB (hv ah s Y H _ I h) fun u s1 ⟨y,H1,I1,ry,q⟩=>bB (ha ah s1 Y H1 _ I1 q) fun ov s2 ⟨x,H2,I2,rx,a,C,dx,fs,ex,ea,c,n,l,q2⟩ =>?_) hs
 subst ex
 obtain rfl:ov=aH a:=rx
 exact Of I2 ea c n l ry fun s3 I3=>⟨Y,_,I3,q2⟩
end
section
variable {X:Cx}{ah:List (Addr × Obj)}{Y:St}{H:Hp}{s:Shared}{A:Around}{E:Value->Shared->Prop}{Q:Value->Shared->Prop}{c:Value}{b:Bool}
inductive rp(K:ao)(H:Hp):V->Value->Prop where
 | cG:rp K H .cG (.type "NoneType")
 | bl (x:Bool):rp K H (.bl x) (.type "bool")
 | int (i:Int):rp K H (.int i) (.type "int")
 | str (x:Str):rp K H (.str x) (.type "str")
 | KP (x:UInt64):rp K H (.KP x) (.type "float")
 | lst {a:Addr}{xs:List V} (e:H a=some (.lst xs)):rp K H (.ref a) (.type "list")
 | vB {a:Addr}{o:Obj}{xs:List V} (e:H a=some (.vB o (.lst xs))):rp K H (.ref a) (.type "list")
 | tup {a:Addr}{xs:List V} (e:H a=some (.tup xs)):rp K H (.ref a) (.type "tuple")
 | dK {a:Addr}{kvs:List (Key × V)} (e:H a=some (.dK kvs)):rp K H (.ref a) (.type "dict")
 | dT {a:Addr}{kvs:List (List Key × V)} (e:H a=some (.dT kvs)):rp K H (.ref a) (.type "dict")
 | ins {a C dx:Addr}{fs:List (Str × V)} (e:H a=some (.ins C dx fs)) (cl:ym K C) (ha:bH K (.ref C) "__class__" = some (some (.builtin "object.__class__")))
   (hn:PySem.W.specialIn K (.builtin "object.__class__") "__get__" = some (some (.builtin "getset_descriptor.__get__"))) (htk:PySem.W.takesIn K (.builtin "object.__class__")=some true)
   (hm:PySem.W.mroIn K C (.type "object")=some true):rp K H (.ref a) (.ref C)
theorem QT{x:V}{u t:Value}(I:Inv X ah Y H s)(rx:RelV x u)(ty:rp X.K H x t)(e:bS X.K t c=some b)(h:∀ tk,Q (.bool b) { s with toks:=tk }) :
  wpAny (model X.prog X.w) A (call (.builtin "isinstance") [u,c]) Q E s:=by
 cases ty with
 | cG=>cases (show u=da from rx);exact eF PySem.W.kitx_none I.jy ft e nofun h
 | bl y=>cases (show u=jt y from rx);exact eF PySem.W.kitx_bool I.jy ft e nofun h
 | int i=>obtain⟨t,q⟩:=(show ∃ t,u=ni i t from rx);cases q;exact eF PySem.W.kitx_int I.jy ft e nofun h
 | str y=>obtain⟨t,q⟩:=(show ∃ t,u=pC y t from rx);cases q;exact eF PySem.W.kitx_str I.jy ft e nofun h
 | KP y=>obtain⟨t,q⟩:=(show ∃ t,u=Cs y t from rx);cases q;exact eF PySem.W.kitx_float I.jy ft e nofun h
 | @lst a xs ea =>
  cases (show u=aH a from rx)
  obtain⟨_,_,n,_,h1⟩:=(show cY X.prog X.w H s.heap a (.lst xs) from I.bh a _ ea)
  exact eF BO I.jy ⟨_,h1,O⟩ e nofun h
 | @vB a ob xs ea =>
  cases (show u=aH a from rx)
  obtain⟨_,_,_,n,_,h1⟩:=(show cY X.prog X.w H s.heap a (.vB ob (.lst xs)) from I.bh a _ ea)
  exact eF BO I.jy ⟨_,h1,O⟩ e nofun h
 | @tup a xs ea =>
  cases (show u=aH a from rx)
  obtain⟨_,_,_,p⟩:=(show cY X.prog X.w H s.heap a (.tup xs) from I.bh a _ ea)
  obtain⟨o,h1,h2,_⟩:=p
  exact eF PySem.W.kitx_tuple I.jy ⟨o,h1,h2⟩ e nofun h
 | @dK a kvs ea =>
  cases (show u=aH a from rx)
  obtain⟨_,_,vs,_,p⟩:=(show cY X.prog X.w H s.heap a (.dK kvs) from I.bh a _ ea)
  obtain⟨o,es,ep,h1,h2,_⟩:=p
  exact eF BP I.jy ⟨o,h1,h2.1⟩ e nofun h
 | @dT a kvs ea =>
  cases (show u=aH a from rx)
  obtain⟨_,_,xs,_,o,es,ep,h1,h2,_⟩:=(show cY X.prog X.w H s.heap a (.dT kvs) from I.bh a _ ea)
  exact eF BP I.jy ⟨o,h1,h2.1⟩ e nofun h
 | @ins a C dx fs ea cl ha hn htk hm =>
  cases (show u=aH a from rx)
  obtain⟨mA,On,_⟩:=BC I.bh ea
  obtain⟨od,J,_⟩:=On.look
  exact eF (PySem.W.kitx_own (cl.get _) cl.hd ha hn htk hm) I.jy J e nofun h
end
structure fg(k:Nat)(A:Around):Prop where
 hd:A.handled=none
 dp:A.depth+3 * k+5 < recursionLimit
 un:A.units+16 * k+200 < cLine
theorem fg.mono{j k:Nat}{A:Around}(r:fg k A)(h:j<=k):fg j A:=⟨r.hd,by have:=r.dp;omega,by have:=r.un;omega⟩
theorem fg.deeper{k:Nat}{A:Around}(r:fg (k+1) A)(env:Env):fg k (A.deeper env) :=
 ⟨r.hd,by have:=r.dp;show A.depth+1+3 * k+5 < _;omega,by have:=r.un;show A.units+3+16 * k+200 < _;omega⟩
theorem OA{A:Around}{C:Addr}{us:List Value}{kw:List (Str × Value)}:(A.under (.builtin "type.__call__" ⟨.ref C :: us,kw⟩)).depth=A.depth+1:=by
 first | rfl | simp[Bq,Code.weight,Code.isCreation,Code.isGuard,Code.isCaller,Code.frames,Bn,guardIds]
theorem Oz{A:Around}{C:Addr}{us:List Value}{kw:List (Str × Value)}:(A.under (.builtin "type.__call__" ⟨.ref C :: us,kw⟩)).units=A.units+1:=by
 first | rfl | simp[Bq,Code.cUnits,Code.frames,Bn]
theorem fg.make{k:Nat}{A:Around}(r:fg (k+1) A)(C:Addr)(us:List Value)(kw:List (Str × Value)):fg k (A.under (.builtin "type.__call__" ⟨.ref C :: us,kw⟩)) :=
 ⟨r.hd,by have:=r.dp;rw[OA];omega,by have:=r.un;rw[Oz];omega⟩
theorem fg.depth{k:Nat}{A:Around}(r:fg k A):A.depth < recursionLimit:=by have:=r.dp;omega
theorem fg.units{k:Nat}{A:Around}(r:fg k A):A.units+64 < cLine:=by have:=r.un;omega
def yt:TA:=fun _ H Q=>Q [] H
def uw(ta:TE)(tr:TA):TA:=fun Y H Q=>ta Y H fun x H1=>tr Y H1 fun xs H2=>Q (x :: xs) H2
section
variable {X:Cx}{e:Expr}{es:List Expr}{te:TE}{t:TA}{pos:Pos}
theorem aq:PA X [] yt:=fun _ _ _ _ H Q I h=>jr ⟨[],H,I,.nil,h⟩
theorem ae(ha:PE X e te)(hr:PA X es t)(hs:starEach (e :: es) X.env=(false,eval e X.env) :: starEach es X.env:=by rfl):PA X (e :: es) (uw te t):=by
 intro pos ah s Y H Q I h
 rw[hs]
 show wpAny _ _ (spliced ((false,eval e X.env) :: backTo pos (starEach es X.env))) _ _ s
 refine gi (bB (ha ah s Y H _ I h) fun u s1 ⟨x,H1,I1,r1,q1⟩ =>?_)
 exact bB (hr pos ah s1 Y H1 _ I1 q1) fun us s2 ⟨xs,H2,I2,r2,q2⟩=>⟨x :: xs,H2,I2,.cons r1 r2,q2⟩
def agg(t:TA):TE:=fun Y H Q=>t Y H fun xs H1=>xs.length<=sizeLine∧∀ p,H1 p=none->Q (.ref p) (upd H1 p (.tup xs))
def agl(t:TA):TE:=fun Y H Q=>t Y H fun xs H1=>xs.length<=sizeLine∧∀ p,H1 p=none->Q (.ref p) (upd H1 p (.lst xs))
theorem cK{x1}(h:PA X es t):PE X (.Tuple es x1 pos) (agg t):=by
 intro ah s Y H Q I hq
 refine wpAny_Tuple_spliced (bB (h pos ah s Y H _ I hq) fun us s1 ⟨xs,H1,I1,r,z,q⟩=>⟨by rw[<- r.length];exact z,?_⟩)
 have hf:H1 s1.heap.objs.size=none:=I1.bh.fresh (ar _)
 refine⟨.ref s1.heap.objs.size,upd H1 s1.heap.objs.size (.tup xs),I1.laid (t':=s1.toks) (fun b u e=>ay _ e) (ar _) ?_,O,q _ hf⟩
 exact⟨z,us,r,⟨_,aT _ rfl,O,_,O,O⟩⟩
theorem j8(h:PA X es t):PE X (.List es pos) (agl t):=by
 intro ah s Y H Q I hq
 refine wpAny_List_spliced (bB (h pos ah s Y H _ I hq) fun us s1 ⟨xs,H1,I1,r,z,q⟩=>⟨by rw[<- r.length];exact z,?_⟩)
 have hf:H1 s1.heap.objs.size=none:=I1.bh.fresh (ar _)
 refine⟨.ref s1.heap.objs.size,upd H1 s1.heap.objs.size (.lst xs),I1.laid (t':=s1.toks) (fun b u e=>ay _ e) (ar _) ?_,O,q _ hf⟩
 exact⟨z,us,0,r,aT _ rfl⟩
end
abbrev Sp:=List V->Hp->VK->XK->Prop
abbrev w5:=List Env->Hp->Shared->XK->Value->Shared->Prop
structure Du(P:Program)(w:World)(K:ao)(mg:Str->Option Value)(base:Heap)(A:Around)(outer:List Env)(s:Shared)(H:Hp):Prop where
 frames:A.frames=some outer
 mod:Mod K mg base
 bs:∀ b o,base.get? b=some o->s.heap.get? b=some o∧H b=none
 zJ:base.objs.size<=s.heap.objs.size
 oN:s.heap.FunFrames base outer
 Cn:∀ b∈iy outer,H b=none
 bh:gE P w H s.heap
 bare:AllBare s.gens
def CE(outer:List Env)(P:Program)(w:World)(H:Hp)(s:Shared)(Q:VK)(u:Value)(s':Shared):Prop :=
 ∃ v H',s'.os=s.os∧AllBare s'.gens∧Un (iy outer) [] H H' s.heap s'.heap∧gE P w H' s'.heap∧RelV v u∧Q v H'
def CR(CX:w5)(outer:List Env)(P:Program)(w:World)(H:Hp)(s:Shared)(Q:VK)(E:XK)(r:Result)(s':Shared):Prop :=
 match r with
 | .ok (.ret u)=>CE outer P w H s Q u s'
 | .ok _=>False
 | .error e=>CX outer H s E e s'
structure lC(P:Program)(w:World)(K:ao)(mg:Str->Option Value)(base:Heap)(CX:w5)(k:Nat)(f:Addr)(fd:FuncData)(ps:List Str)(sp:Sp):Prop where
 len:∀ vs H Q E,sp vs H Q E->vs.length=ps.length
 run:∀ (A:Around) (outer:List Env) (s:Shared) (H:Hp) (args:Args) (us:List Value) (vs:List V) (Q:VK) (E:XK),fg k A->Du P w K mg base A outer s H->BindsTo s fd args (ps.zip us)->Vals vs us->sp vs H Q E ->
  codeAny (model P w) A (.call (.ref f) args) (CR CX outer P w H s Q E) s
theorem Du.make{P:Program}{w:World}{K:ao}{mg:Str->Option Value}{base:Heap}{A:Around}{outer:List Env}{s:Shared}{H:Hp}(e:Du P w K mg base A outer s H)(C:Addr)(us:List Value)(kw:List (Str × Value)) :
  Du P w K mg base (A.under (.builtin "type.__call__" ⟨.ref C :: us,kw⟩)) outer s H:=⟨by first | exact e.frames | (simpa [Bq,Code.envs,Bn,pushEnvs] using e.frames),e.mod,e.bs,e.zJ,e.oN,e.Cn,e.bh,e.bare⟩
section
variable {X:Cx}{ah:List (Addr × Obj)}{Y:St}{H:Hp} {s s':Shared}
theorem Inv.UD(I:Inv X ah Y H s):Du X.prog X.w X.K X.mg X.base X.A X.stack s H :=
 ⟨I.ok.frames,I.ok.mod,I.bs,bf I.ok.zJ I.sz,I.stack,I.Fm,I.bh,I.bare⟩
theorem Inv.after{Q:VK}{u:Value}(I:Inv X ah Y H s)(h:CE X.stack X.prog X.w H s Q u s'):EP X ah Y Q u s':=by
 obtain⟨v,H',os,bare,un,bh,r,q⟩:=h
 obtain⟨hh,g,d,t,os'⟩:=s'
 obtain rfl:os'=s.os:=os
 exact⟨v,H',I.call (h':=hh) (g':=g) (d':=d) (t':=t) (ch := []) un bh bare (fun b z=>absurd z (by simp)),r,q⟩
end
def Bs(sp:Sp)(jz:List V)(E:XK)(t:TA):TE:=fun Y H Q=>t Y H fun vs H1=>sp (vs ++ jz) H1 Q E
inductive NJ(C:Addr)(m:Str)(sp:Sp)(jz:List V)(E:XK)(t:TA)(Y:St)(Q:VK)(x:V)(H1:Hp):Prop
 | mk:∀ a dx fs,(x = .ref a)->(H1 a=some (.ins C dx fs))->(fs.lookup m=none)->(t Y H1 fun vs H2=>sp (x :: (vs ++ jz)) H2 Q E)->NJ C m sp jz E t Y Q x H1
def HZ(C:Addr)(m:Str)(sp:Sp)(jz:List V)(E:XK)(ta:TE)(t:TA):TE:=fun Y H Q=>ta Y H fun x H1=>NJ C m sp jz E t Y Q x H1
def Vg(C:Addr)(sp:Sp)(jz:List V)(E:XK)(t:TA):TE:=fun Y H Q=>t Y H fun vs H1=>∀ x dx,H1 x=none->H1 dx=none->dx≠x ->
 sp (.ref x :: (vs ++ jz)) (upd (upd H1 dx (.own x)) x (.ins C dx [])) (fun v H2=>v = .cG∧Q (.ref x) H2) E
def Binds(K:ao)(fd:FuncData)(ps:List Str)(ds:List Value):Prop :=
 ∀ (s:Shared) (us:List Value),K.In s.heap->(us ++ ds).length=ps.length->BindsTo s fd ⟨us, []⟩ (ps.zip (us ++ ds))
theorem Binds.all{K:ao}{fd:FuncData}{ps:List Str}(h:∀ us:List Value,us.length=ps.length->bindArgs fd ⟨us, []⟩=pure (ps.zip us)):Binds K fd ps []:=fun s us _ hl=>by
 rw[dw]at hl ⊢
 exact .of_eq (h us hl)
def Passes(CX:w5)(X:Cx)(E:XK):Prop := ∀ (ah:List (Addr × Obj)) (Y:St) (H:Hp) (s:Shared) (e:Value) (s':Shared),Inv X ah Y H s->CX X.stack H s E e s'->X.xe e s'
section
variable {X:Cx}{CX:w5}{k:Nat}{f C:Addr}{fd:FuncData}{ps:List Str}{sp:Sp}{jz:List V}{ds:List Value}{E:XK}{x m:Str}{p pos c9:Pos}{e o:Expr}{es:List Expr}{ta:TE}{t:TA}
theorem IV{ah:List (Addr × Obj)}{Y:St}{H:Hp}{s:Shared}{Q:VK}{us:List Value}{vs:List V}(F:lC X.prog X.w X.K X.mg X.base CX k f fd ps sp)(hr:fg k X.A)(hb:Binds X.K fd ps ds)(hd:Vals jz ds)(hx:Passes CX X E)(I:Inv X ah Y H s)(r:Vals vs us)(h:sp (vs ++ jz) H Q E):wpAny (model X.prog X.w) X.A (call (.ref f) us) (EP X ah Y Q) X.xe s:=by
 have r2:Vals (vs ++ jz) (us ++ ds):=r.append hd
 have hl:(us ++ ds).length=ps.length:=by rw[<- r2.length];exact F.len _ _ _ _ h
 refine wpAny_call (codeAny_mono (F.run X.A X.stack s H ⟨us, []⟩ (us ++ ds) (vs ++ jz) Q E hr I.UD (hb s us I.jy hl) r2 h) fun r s' hq =>?_)
 cases r with
 | error e=>exact hx ah Y H s e s' I hq
 | ok fl =>
  cases fl with
  | ret u=>exact I.after hq
  | next=>exact dy hq
  | brk=>exact dy hq
  | cont=>exact dy hq
theorem Mw(F:lC X.prog X.w X.K X.mg X.base CX k f fd ps sp)(hr:fg k X.A)(hg:Gl X x)(hm:X.mg x=some (.ref f))(hk:du X.K (.ref f)=true)(hb:Binds X.K fd ps ds)(hd:Vals jz ds)(hx:Passes CX X E)(ha:PA X (e :: es) t)(sJ:(x == ("__debug__" : Str))=false:=by decide)(he:starEach (e :: es) X.env=(false,eval e X.env) :: starEach es X.env:=by rfl)(mC:(backTo pos (starEach es X.env)).any (·.1)=false:=by rfl) :
  PE X (.Call (.Name x p) (e :: es) [] pos) (Bs sp jz E t):=by
 intro ah s Y H Q I h
 refine wpAny_Call_Name_kw (uN I hg hm ?_ sJ)
 refine nv (h₀ := X.base) I.ok.mod.D6 hk (bB (ha pos ah s Y H _ I h) fun us s1 ⟨vs,H1,I1,r,q⟩=>⟨I1.jy,?_⟩) he mC
 exact IV F hr hb hd hx I1 r q
theorem Xu{pl:Sem Bool}(he:PE X o ta)(c:ym X.K C)(hm:Meth X.K C m f)(F:lC X.prog X.w X.K X.mg X.base CX k f fd ps sp)(hr:fg k X.A)(hb:Binds X.K fd ps ds)(hd:Vals jz ds)(hx:Passes CX X E)(ha:PA X (e :: es) t)(jV:starEach (e :: es) X.env=(false,eval e X.env) :: starEach es X.env:=by rfl)(mC:(backTo pos (starEach es X.env)).any (·.1)=false:=by rfl)(ht:eval (.Call (.Attribute o m c9) (e :: es) [] pos) X.env=(do
   let ov <- eval o X.env
   standAt c9.atName
   let (f,first) <- holding [ov] (getMethod ov m pl)
   callWith pos f first (backTo pos (starEach (e :: es) X.env)) (backToKw pos (keywordEach [] X.env))):=by rfl) :
  PE X (.Call (.Attribute o m c9) (e :: es) [] pos) (HZ C m sp jz E ta t):=by
 intro ah s Y H Q I h
 refine yc (pl:=pl) (bB (he ah s Y H _ I h) fun u s1 ⟨x,H1,I1,rx,a,dx,fs,ex,ea,l,q⟩ =>?_) ht
 subst ex
 obtain rfl:u=aH a:=rx
 refine Eu I1 ea c hm l ?_
 refine nv (first := [.ref a]) (h₀ := X.base) I.ok.mod.D6 hm.kp (bB (ha pos ah s1 Y H1 _ I1 q) fun us s2 ⟨vs,H2,I2,r,q2⟩=>⟨I2.jy,?_⟩) jV mC
 exact IV (us := .ref a :: us) (vs := .ref a :: vs) F hr hb hd hx I2 (.cons rfl r) q2
theorem Tt{pl:Sem Bool}(he:PE X o ta)(c:ym X.K C)(hm:Meth X.K C m f)(F:lC X.prog X.w X.K X.mg X.base CX k f fd ps sp)(hr:fg k X.A)(hb:Binds X.K fd ps ds)(hd:Vals jz ds)(hx:Passes CX X E)(ht:eval (.Call (.Attribute o m c9) [] [] pos) X.env=(do
   let ov <- eval o X.env
   standAt c9.atName
   let (f,first) <- holding [ov] (getMethod ov m pl)
   callWith pos f first (backTo pos (starEach [] X.env)) (backToKw pos (keywordEach [] X.env))):=by rfl) :
  PE X (.Call (.Attribute o m c9) [] [] pos) (HZ C m sp jz E ta yt):=by
 intro ah s Y H Q I h
 refine yc (pl:=pl) (bB (he ah s Y H _ I h) fun u s1 ⟨x,H1,I1,rx,a,dx,fs,ex,ea,l,q⟩ =>?_) ht
 subst ex
 obtain rfl:u=aH a:=rx
 refine Eu I1 ea c hm l ?_
 exact PySem.W.callWith_K0 (first := [.ref a]) I1.jy hm.kp (IV (us := [.ref a]) (vs := [.ref a]) F hr hb hd hx I1 (.cons rfl .nil) q)
structure Mk(K:ao)(C f:Addr):Prop where
 makes:wO K C=true
 init:bH K (.ref C) "__init__" = some (some (.ref f))
 fn:qh K (.ref f)=true
 kp:du K (.ref C)=true
theorem S9{ah:List (Addr × Obj)}{Y:St}{H:Hp}{s:Shared}{Q:VK}{us:List Value}{vs:List V}(M:Mk X.K C f)(F:lC X.prog X.w X.K X.mg X.base CX k f fd ps sp)(hr:fg (k+1) X.A)(hb:Binds X.K fd ps ds)(hd:Vals jz ds)(hx:Passes CX X E)(I:Inv X ah Y H s)(r:Vals vs us)(h:∀ x dx,H x=none->H dx=none->dx≠x->sp (.ref x :: (vs ++ jz)) (upd (upd H dx (.own x)) x (.ins C dx [])) (fun v H2=>v = .cG∧Q (.ref x) H2) E) :
  wpAny (model X.prog X.w) X.A (call (.ref C) us) (EP X ah Y Q) X.xe s:=by
 have hq:=h (s.heap.objs.size+1) s.heap.objs.size (I.bh.fresh (rV _)) (I.bh.fresh (ar _)) (br (vQ _))
 have I2:=Inv.made (C:=C) I
 have r2:Vals (V.ref (s.heap.objs.size+1) :: (vs ++ jz)) (aH (s.heap.objs.size+1) :: (us ++ ds)) := .cons rfl (r.append hd)
 have hl:(aH (s.heap.objs.size+1) :: us ++ ds).length=ps.length:=by
  have e:=r2.length
  rw[F.len _ _ _ _ hq]at e
  exact e.symm
 refine wpAny_call (T2 (f:=f) I.jy M.makes M.init (beq_iff_eq.mp M.fn) (codeAny_mono (F.run _ X.stack _ _ ⟨aH (s.heap.objs.size+1) :: us, []⟩ (aH (s.heap.objs.size+1) :: (us ++ ds)) _ _ E (hr.make C us [])
  (I2.UD.make C us []) (hb _ (aH (s.heap.objs.size+1) :: us) I2.jy hl) r2 hq) fun r s' AO =>?_))
 cases r with
 | error e=>exact hx ah Y _ _ e s' I2 AO
 | ok fl =>
  cases fl with
  | ret u =>
   obtain⟨v,H',I3,rv,ev,q3⟩:=I2.after AO
   subst ev
   exact⟨rv,⟨V.ref (s.heap.objs.size+1),H',I3,O,q3⟩⟩
  | next=>exact dy AO
  | brk=>exact dy AO
  | cont=>exact dy AO
theorem Xv(M:Mk X.K C f)(F:lC X.prog X.w X.K X.mg X.base CX k f fd ps sp)(hr:fg (k+1) X.A)(hg:Gl X x)(hm:X.mg x=some (.ref C))(hb:Binds X.K fd ps ds)(hd:Vals jz ds)(hx:Passes CX X E)(ha:PA X (e :: es) t)(sJ:(x == ("__debug__" : Str))=false:=by decide)(he:starEach (e :: es) X.env=(false,eval e X.env) :: starEach es X.env:=by rfl)(mC:(backTo pos (starEach es X.env)).any (·.1)=false:=by rfl) :
  PE X (.Call (.Name x p) (e :: es) [] pos) (Vg C sp jz E t):=by
 intro ah s Y H Q I h
 refine wpAny_Call_Name_kw (uN I hg hm ?_ sJ)
 refine nv (h₀ := X.base) I.ok.mod.D6 M.kp (bB (ha pos ah s Y H _ I h) fun us s1 ⟨vs,H1,I1,r,q⟩=>⟨I1.jy,?_⟩) he mC
 exact S9 M F hr hb hd hx I1 r q
end
def PK(X:Cx)(QO:List Keyword)(t:TA):Prop :=
 ∀ (pos:Pos) (ah:List (Addr × Obj)) (s:Shared) (Y:St) (H:Hp) (Q:List V->Hp->Prop),Inv X ah Y H s->t Y H Q->wpAny (model X.prog X.w) X.A (evalAll ((backToKw pos (keywordEach QO X.env)).map (·.2))) (AP X ah Y Q) X.xe s
section
variable {X:Cx}{CX:w5}{k:Nat}{f C:Addr}{fd:FuncData}{ps ks:List Str}{sp:Sp}{E:XK}{x m:Str}{p pos c9 OH:Pos}{e o:Expr}{es:List Expr}{QO:List Keyword}{te ta:TE}{t tk:TA}{nm:Option Str}
theorem ZD:PK X [] yt:=fun _ _ _ _ H Q I h=>wpAny_evalAll_nil ⟨[],H,I,.nil,h⟩
theorem Xo(ha:PE X e te)(hr:PK X QO t):PK X (⟨nm,e,OH⟩ :: QO) (uw te t):=by
 intro pos ah s Y H Q I h
 show wpAny _ _ (evalAll ((do let v <- eval e X.env;standAt pos;pure v) :: (backToKw pos (keywordEach QO X.env)).map (·.2))) _ _ s
 refine wpAny_evalAll_cons (wpAny_bind (bB (ha ah s Y H _ I h) fun u s1 ⟨x,H1,I1,r1,q1⟩=>wpAny_bind (wpAny_standAt (wpAny_pure ?_))))
 exact bB (hr pos ah s1 Y H1 _ I1 q1) fun us s2 ⟨xs,H2,I2,r2,q2⟩=>⟨x :: xs,H2,I2,.cons r1 r2,q2⟩
variable {g:List Value->List Value->List Value}{gV:List V->List V->List V}
end
structure cy(N P:List Str)(sc:Scope):Prop where
 kind:sc.kind = .function
 co:sc.isCoroutine=false
 gen:sc.isGenerator=false
 nd:N.Nodup
 pre:N.take P.length=P
 par:∀ x∈P,sc.names.lookup x=some .local∨sc.names.lookup x=some .cell
 Z2:∀ y∈sc.names,y.2 ≠ .free
theorem Ht{kindOf:Str->Option NameKind}{x:Str}:∀ {binds:List (Str × Value)}{m:Str->Option Value},(∀ v,(x,v) ∉ binds)->bindL kindOf binds m x=m x
 | [],_,_=>rfl
 | (n,v) :: r,m,h=>by
  unfold bindL
  rw[Ht fun w hw=>h w (aR _ hw)]
  split
  ·have:x≠n:=by rintro rfl;exact h v bb
   simp[this]
  ·rfl
theorem Hv{kindOf:Str->Option NameKind}{x:Str}:∀ {binds:List (Str × Value)}{m:Str->Option Value},(∀ v,(x,v) ∉ binds)->bindC kindOf binds m x=m x
 | [],_,_=>rfl
 | (n,v) :: r,m,h=>by
  unfold bindC
  rw[Hv fun w hw=>h w (aR _ hw)]
  split
  ·rfl
  ·have:x≠n:=by rintro rfl;exact h v bb
   simp[this]
theorem Hu{kindOf:Str->Option NameKind}{x:Str}{v:Value}:∀ {P:List Str}{vs:List Value}{i:Nat}{m:Str->Option Value},P.Nodup->P[i]? = some x->vs[i]? = some v->kindOf x=some .local ->
  bindL kindOf (P.zip vs) m x=some v
 | [],_,_,_,_,h,_,_=>by simp at h
 | _ :: _, [],_,_,_,_,h,_=>by simp at h
 | p :: P,w :: vs,0,m,nd,h1,h2,hk=>by
  simp at h1 h2;subst h1;subst h2
  show bindL kindOf ((p,w) :: P.zip vs) m p=_
  unfold bindL
  rw[Ht fun v hv=>(bI.mp nd).1 (wU hv).1,if_pos hk]
  simp
 | p :: P,w :: vs,i+1,m,nd,h1,h2,hk=>by
  show bindL kindOf ((p,w) :: P.zip vs) m x=_
  unfold bindL
  exact Hu (i:=i) (bI.mp nd).2 (by simpa using h1) (by simpa using h2) hk
theorem Hw{kindOf:Str->Option NameKind}{x:Str}{v:Value}:∀ {P:List Str}{vs:List Value}{i:Nat}{m:Str->Option Value},P.Nodup->P[i]? = some x->vs[i]? = some v->kindOf x≠some .local ->
  bindC kindOf (P.zip vs) m x=some v
 | [],_,_,_,_,h,_,_=>by simp at h
 | _ :: _, [],_,_,_,_,h,_=>by simp at h
 | p :: P,w :: vs,0,m,nd,h1,h2,hk=>by
  simp at h1 h2;subst h1;subst h2
  show bindC kindOf ((p,w) :: P.zip vs) m p=_
  unfold bindC
  rw[Hv fun v hv=>(bI.mp nd).1 (wU hv).1,if_neg hk]
  simp
 | p :: P,w :: vs,i+1,m,nd,h1,h2,hk=>by
  show bindC kindOf ((p,w) :: P.zip vs) m x=_
  unfold bindC
  exact Hw (i:=i) (bI.mp nd).2 (by simpa using h1) (by simpa using h2) hk
def start(N:List Str)(vs:List V):St:=vs.map some ++ bR (N.length - vs.length) none
def dR(CX:w5)(P:Program)(w:World)(K:ao)(mg:Str->Option Value)(base:Heap)(N:List Str)(qual:Str)(scope:Scope)(f:Addr)(cd:Value)(A:Around)(outer:List Env)(s:Shared)(H:Hp)(E:XK):Cx where
 prog:=P
 w:=w
 K:=K
 mg:=mg
 base:=base
 A:=A.deeper (envOfC qual scope s.heap.objs.size f cd)
 N:=N
 kO := s
 Bh := H
 env:=envOfC qual scope s.heap.objs.size f cd
 outer:=outer
 stack:=envOfC qual scope s.heap.objs.size f cd :: outer
 ex := []
 calm:=true
 fn:=fun _=>true
 pn := []
 xe:=fun e s'=>wpAny (model P w) (A.deeper (envOfC qual scope s.heap.objs.size f cd)) (leaving (envOfC qual scope s.heap.objs.size f cd) e) (fun _ Zi=>CX outer H s E e Zi) (fun e' Zi=>CX outer H s E e' Zi) s'
theorem Ld{sc:Scope}{n:Nat}{x:Str}(h:sc.names.lookup x=some .cell):∃ c,(cellsFrom n sc.names []).lookup x=some c:=by
 have q:=xt sc.names n [] (.inl h)
 exact jJ.mp q
theorem QV{CX:w5}{P:Program}{w:World}{K:ao}{mg:Str->Option Value}{base:Heap}{N ps:List Str}{qual:Str}{scope:Scope}{f:Addr}{cd:Value}{A:Around}{outer:List Env}{s s1:Shared}{H:Hp}{E:XK}{us:List Value}{vs:List V}(S:cy N ps scope)(hd:A.handled=none)(e0:Du P w K mg base A outer s H)(hl:vs.length=ps.length)(r:Vals vs us)(x:InCallC s s.heap.objs.size (bindL (envOfC qual scope s.heap.objs.size f cd).kindOf (ps.zip us) fun _=>none) (cellsFrom (s.heap.objs.size+1) scope.names []) (bindC (envOfC qual scope s.heap.objs.size f cd).kindOf (ps.zip us) fun _=>none) s1) :
  Inv (dR CX P w K mg base N qual scope f cd A outer s H E) [] (start N vs) H s1:=by
 have mC:ps.length<=N.length:=by have:=congrArg List.length S.pre;rw[bW]at this;omega
 obtain⟨h1,tk,rfl,hk⟩:=x.done
 have Z4:∀ b:Addr,b ∉ (dR CX P w K mg base N qual scope f cd A outer s H E).ex:=fun b z=>absurd (show b∈([]:List Addr) from z) (by simp)
 refine⟨⟨e0.mod,S.kind,O,O,ar _,fun y z c h1 h2 =>?_,fun y hy =>?_,fun y c _ h =>?_,fun _=>hd,Around.frames_deeper e0.frames,.inr ⟨O,O⟩,fun b z=>absurd z (Z4 b),e0.bs,e0.zJ,fun b _ _=>Z4 b,fun b z=>absurd z (Z4 b),e0.oN,e0.Cn⟩,
  rfl,e0.bare,Un.kept hk,⟨_,x.toInCall.ns,fun i y v h1 h2 h3 =>?_⟩,fun y c h=>⟨_,x.cell y c h⟩,e0.bh.fresh (ar _),fun y c h =>?_,fun p hp=>absurd (show p∈([]:List (Addr × Obj)) from hp) (by simp),e0.bh.kept hk,?_⟩
 ·exact name_of_addr x.apart (jT h1) (jT h2)
 ·have hy:scope.names.lookup y=some .cell∨scope.names.lookup y=some .free:=hy
  rcases hy with hy | hy
  ·exact Ld hy
  ·exact absurd rfl (S.Z2 _ (jT hy))
 ·exact jM (x.above y c (jT h))
 ·have hi:i < vs.length:=by
   unfold start at h2
   by_cases hi:i < vs.length
   ·exact hi
   ·rw[mj (by simpa using hi)]at h2
    rw[wc]at h2
    split at h2 <;> cases h2
  have ha:vs[i]? = some v:=by
   unfold start at h2
   rw[eL (by simpa using hi),aK]at h2
   cases e:vs[i]? with
   | none=>rw[e]at h2;cases h2
   | some a=>rw[e]at h2;cases h2;rfl
  obtain⟨u,hu,rv⟩:=r.get ha
  have hp:ps[i]? = some y:=by
   rw[<- S.pre,List.getElem?_take_of_lt (by omega)];exact h1
  have ndP:ps.Nodup:=by rw[<- S.pre];exact S.nd.sublist (BS _ _)
  refine⟨u,rv,?_⟩
  rcases S.par y (ak hp) with k | k
  ·exact .inl ⟨k,Hu ndP hp hu k⟩
  ·obtain⟨c,e⟩:=Ld (n:=s.heap.objs.size+1) k
   refine .inr ⟨.inl k,c,e,?_⟩
   have q:=x.cell y c e
   rw[Hw ndP hp hu (by show scope.names.lookup y≠_;rw[k];decide)]at q
   exact q
 ·exact e0.bh.fresh (jM (x.above y c (jT h)))
 ·unfold start
  show _=N.length
  rw[aG,az,yh]
  omega
theorem O4{CX:w5}{P:Program}{w:World}{K:ao}{mg:Str->Option Value}{base:Heap}{k:Nat}{f:Addr}{name qual:Str}{params:Arguments}{body:List Stmt}{scope:Scope}{dV kV doc pm cJ ct oc:Value}{an od:Option Addr}{zA:Array (Option Value)}{N ps:List Str}{sp:Sp}(lk:K.lookup f=some ⟨oc,od,.func (dW name qual params body scope dV kV doc pm an cJ ct),zA⟩)(m9:hG K cJ qual=true)(S:cy N ps scope)(len:∀ vs H Q E,sp vs H Q E->vs.length=ps.length)(nN:∀ (A:Around) (outer:List Env) (s:Shared) (H:Hp) (vs:List V) (Q:VK) (E:XK),fg k (A.deeper (envOfC qual scope s.heap.objs.size f cJ))->sp vs H Q E ->
   ∃ t,qj (dR CX P w K mg base N qual scope f cJ A outer s H E) body t∧t { nx:=fun _ H'=>Q .cG H',rt:=Q } (start N vs) H) :
  lC P w K mg base CX (k+1) f (dW name qual params body scope dV kV doc pm an cJ ct) ps sp:=by
 refine⟨len,fun A outer s H args us vs Q E hr e0 hb r zD =>?_⟩
 have hl:=len _ _ _ _ zD
 have KX:K.In s.heap:=e0.mod.D6.keeps fun b o e=>(e0.bs b o e).1
 have lim:s.heap.NoLimit:=e0.mod.nolimit.keeps fun b o e=>(e0.bs b o e).1
 have El:∀ y∈ps.zip us,scope.names.lookup y.1=some .local∨(scope.names.lookup y.1=some .cell∧((cellsFrom (s.heap.objs.size+1) scope.names []).lookup y.1).isSome=true):=fun ⟨n,v⟩ hy=>by
  rcases S.par n (wU hy).1 with q | q
  ·exact .inl q
  ·exact .inr ⟨q,xt _ _ _ (.inl q)⟩
 refine codeAny_call_function hr.depth (KX _ _ lk) rfl S.co S.gen rfl (PySem.W.codeRec_of KX m9) (hb _ _ _ _ ?_)
 refine wpAny_newFunctionEnv_cells S.kind El fun env he s1 x =>?_
 subst he
 refine⟨lim.keeps x.toInCall.keep,codeAny_func ?_⟩
 obtain⟨t,ht,hq⟩:=nN A outer s H vs Q E (hr.deeper _) zD
 have I:Inv (dR CX P w K mg base N qual scope f cJ A outer s H E) [] (start N vs) H s1:=QV S hr.hd e0 hl r x
 refine wpAny_mono (ht [] s1 (start N vs) H _ I hq) (fun fl s' hs =>?_) fun e s' hs=>hs
 have fin:∀ {bw:St} {H':Hp}{v:V}{u:Value},Inv (dR CX P w K mg base N qual scope f cJ A outer s H E) [] bw H' s'->RelV v u->Q v H'->CE outer P w H s Q u s' :=
  fun {bw H' v u} J rv q=>⟨v,H',J.os,J.bare,J.base,J.bh,rv,q⟩
 cases fl with
 | ret u =>
  obtain⟨v, bw,H',J,rv,q⟩:=hs
  exact fin J rv q
 | next =>
  obtain⟨bw,H',J,q⟩:=hs
  exact fin (v:=V.cG) (u:=da) J rfl q
 | brk =>
  obtain⟨_,_,_,q⟩:=hs
  exact dy q
 | cont =>
  obtain⟨_,_,_,q⟩:=hs
  exact dy q
section
variable {X:Cx}{x:Str}{p pos:Pos}{e:Expr}{es:List Expr}{t:TA}{id T:String}{r:List V->Hp->VK->Prop}
def YV(r:List V->Hp->VK->Prop)(t:TA):TE:=fun Y H Q=>t Y H fun vs H1=>r vs H1 Q
theorem cL(hc:kr X (.builtin id) r)(hg:Gl X x)(hm:X.mg x=none)(hv:bootBuiltins x=some (.builtin id))(ha:PA X (e :: es) t)(hn:x ≠ "__name__" := by decide)(sJ:(x == ("__debug__" : Str))=false:=by decide)(he:starEach (e :: es) X.env=(false,eval e X.env) :: starEach es X.env:=by rfl)(mC:(backTo pos (starEach es X.env)).any (·.1)=false:=by rfl):PE X (.Call (.Name x p) (e :: es) [] pos) (YV r t):=by
 intro ah s Y H Q I h
 refine wpAny_Call_Name_kw (pS I hg hm hv ?_ hn sJ)
 exact qi (bB (ha pos ah s Y H _ I h) fun us s1 ⟨vs,H1,I1,r1,q1⟩=>hc ah s1 Y H1 vs us Q I1 r1 q1) he mC
theorem eP(hc:kr X (.type T) r)(hg:Gl X x)(hm:X.mg x=none)(hv:bootBuiltins x=some (.type T))(ha:PA X (e :: es) t)(hn:x ≠ "__name__" := by decide)(sJ:(x == ("__debug__" : Str))=false:=by decide)(he:starEach (e :: es) X.env=(false,eval e X.env) :: starEach es X.env:=by rfl)(mC:(backTo pos (starEach es X.env)).any (·.1)=false:=by rfl):PE X (.Call (.Name x p) (e :: es) [] pos) (YV r t):=by
 intro ah s Y H Q I h
 refine wpAny_Call_Name_kw (pS I hg hm hv ?_ hn sJ)
 exact gB (bB (ha pos ah s Y H _ I h) fun us s1 ⟨vs,H1,I1,r1,q1⟩=>hc ah s1 Y H1 vs us Q I1 r1 q1) he mC
end
end L2
namespace HT
open PySem PyProof.Rows
def lexLt:List Int->List Int->Bool
 | [], []=>false
 | [],_ :: _=>true
 | _ :: _, []=>false
 | x :: xs,y :: ys=>if x=y then lexLt xs ys else decide (x < y)
theorem uz(x y:Int)(xs ys:List Int):lexLt (x :: xs) (y :: ys)=if x=y then lexLt xs ys else decide (x < y):=rfl
theorem HQ:lexLt [] []=false:=rfl
theorem FW(y:Int)(ys:List Int):lexLt [] (y :: ys)=true:=rfl
theorem FX(x:Int)(xs:List Int):lexLt (x :: xs) []=false:=rfl
theorem UC(A:Around)(s:Shared)(a:Int)(t:Tok)(c:Int)(u:Tok):∃ e,qg A s (.int a t) (.int c u) e∧(e=true↔a=c) :=
 ⟨(a == c),qg.int_int a t c u,by simp⟩
theorem I8(A:Around)(s:Shared)(a:Int)(t:Tok)(c:Int)(u:Tok)(prog:Program)(w:World)(E:Value->Shared->Prop)(Q:Value->Shared->Prop)(h:Q (.bool (decide (a < c))) s) :
  wpAny (model prog w) A (richCompare .Lt (.int a t) (.int c u)) Q E s :=
 (PyProof.Rows.lt_int h:wpAny (model prog w) A (compareOp .Lt (.int a t) (.int c u)) Q E s)
section
open PySem.SeqAt
open PySem.AutoSeq1 (wpAny_loadPart')
open PySem.MeetsSeq PySem.MeetsSeq2 PySem.MeetsSeq3
theorem HJ(l b:Addr)(items ou:Array Value)(n n2:Nat)(dd dd2:Option Addr)(sl IM:Array (Option Value))(ns ms:List Int)(hi:IntsAre items.toList ns)(hj:IntsAre ou.toList ms) :
  Meets (Builtin.«tuple.__lt__» ⟨[.ref l,.ref b], []⟩)
   (fun _ R s=>s.heap.get? l=some { cls := .type "tuple",dict:=dd,data := .seq items n,slots:=sl }∧s.heap.get? b=some { cls := .type "tuple",dict:=dd2,data := .seq ou n2,slots:=IM } ∧
    R (.ok (.ret (.bool (lexLt ns ms)))) s) :=
 .of_wp fun prog w A R s h=>by
  obtain⟨hp,g,d,tk,os⟩:=s;obtain⟨hl,hb,h⟩:=h
  have f2:=AutoSeq1.sub_tuple_tuple
  have z1:items.size=ns.length:=by rw[<- hi.length];simp
  have z2:ou.size=ms.length:=by rw[<- hj.length];simp
  wp_walk using wpAny_loadPart' hl,wpAny_loadPart' hb,wpAny_forIn_list _ (fun rest b s'=>b.1=none∧s'=⟨hp,g,d,tk,os⟩∧∃ (vs ws:List Value) (MC MF:List Int),rest=vs.zip ws ∧
   IntsAre vs MC∧IntsAre ws MF∧MC.length+ou.size=MF.length+items.size∧R (.ok (.ret (.bool (lexLt MC MF)))) ⟨hp,g,d,tk,os⟩) _
  case turn =>
   rintro⟨y,x⟩ rest b s' ⟨ug,rfl,vs,ws,MC,MF,hz,hvi,MQ,eD,hR⟩
   cases hvi with
   | nil=>rw[List.zip_nil_left]at hz;cases hz
   | cons a t ag9 =>
    cases MQ with
    | nil=>rw[List.zip_nil_right]at hz;cases hz
    | cons c u ag8 =>
     rw[nB]at hz
     injection hz with hyx adU
     injection hyx with hy hx
     subst hy hx
     rw[uz]at hR
     simp only[bO]at eD
     obtain⟨e,he,abm⟩:=UC A.in1 ⟨hp,g,d,tk,os⟩ a t c u
     refine wpAny_bind (he prog w _ _ ?_)
     cases e with
     | true =>
      rw[if_pos (abm.mp rfl)]at hR
      wp_walk
      exact⟨O,O,_,_,_,_,adU,ag9,ag8,by omega,hR⟩
     | false =>
      rw[if_neg (fun q=>absurd (abm.mpr q) a5)]at hR
      have hri:=I8 A.in1 ⟨hp,g,d,tk,os⟩ a t c u prog w
      wp_walk using hri
      exact⟨_,O,by simpa using hR⟩
  case fin =>
   rintro⟨b1,b2⟩ s' ⟨ug,rfl,vs,ws,MC,MF,hz,hvi,MQ,eD,hR⟩
   simp only at ug
   subst ug
   have hv:lexLt MC MF=decide (items.size < ou.size):=by
    cases hvi with
    | nil =>
     cases MQ with
     | nil =>
      simp only[mK]at eD
      rw[HQ]
      exact(decide_eq_false (by omega)).symm
     | cons c u hw =>
      simp only[mK,bO]at eD
      rw[FW]
      exact(decide_eq_true (by omega)).symm
    | cons a t hv =>
     cases MQ with
     | nil =>
      simp only[mK,bO]at eD
      rw[FX]
      exact(decide_eq_false (by omega)).symm
     | cons c u hw =>
      rw[nB]at hz
      cases hz
   rw[hv]at hR
   wp_walk
   exact⟨_,O,by simpa [Builtin.Tuple.tupleCompareSizes] using hR⟩
  case h =>
   exact⟨O,O,items.toList,ou.toList,ns,ms,O,hi,hj,by omega,h⟩
end
section
variable {prog:Program}{w:World}{A:Around}{E:Value->Shared->Prop}{s:Shared}
theorem OB{l b:Addr}{items ou:Array Value}{ns ms:List Int}{Q:Value->Shared->Prop}(hl:IsTup s.heap l items)(hb:IsTup s.heap b ou)(hi:IntsAre items.toList ns)(hj:IntsAre ou.toList ms)(hu:A.units < cLine)(h:Q (.bool (lexLt ns ms)) s):wpAny (model prog w) A (compareOp .Lt (.ref l) (.ref b)) Q E s:=by
 obtain⟨⟨cls,dd,data,sl⟩,ho,hc,n,hd⟩:=id hl
 obtain⟨⟨alH,dd2,data2,IM⟩,MV,AU,n2,Cf⟩:=id hb
 simp only at hc hd AU Cf
 subst hc hd AU Cf
 exact richCompare_meets_room (op := .Lt) ⟨_,ho,O⟩ ⟨_,MV,O⟩ PySem.F.slot_tuple_lt PySem.F.entry_tuple_lt (PySem.F.args_tuple_lt_2 _ _) (HJ l b items ou n n2 dd dd2 sl IM ns ms hi hj)
  ⟨ho,MV,show jt (lexLt ns ms)≠Value.notImplemented∧Q (.bool (lexLt ns ms)) s from ⟨(fun x=>nomatch x),h⟩⟩ hu
def c7(n d:Nat):Option Int->Nat
 | none=>d
 | some v=>if v < 0 then (v+(n:Int)).toNat else min v.toNat n
theorem S8(n d:Nat):c7 n d none=d:=rfl
theorem Xg(n d k:Nat):c7 n d (some (k:Int))=min k n:=by
 show (if (k:Int) < 0 then ((k:Int)+(n:Int)).toNat else min (k:Int).toNat n)=min k n
 rw[if_neg (by omega),cn]
theorem IT(n d:Nat)(hd:d<=n)(o:Option Int):c7 n d o<=n:=by
 cases o with
 | none=>exact hd
 | some v =>
  show (if v < 0 then (v+(n:Int)).toNat else min v.toNat n)<=n
  by_cases hv:v < 0
  ·rw[if_pos hv];omega
  ·rw[if_neg hv];exact Dm _ _
theorem Nq(v:Int)(n d:Nat):(if v < 0 then max (v+(n:Int)) 0 else min v (n:Int))=((c7 n d (some v):Nat):Int):=by
 show (if v < 0 then max (v+(n:Int)) 0 else min v (n:Int))=(((if v < 0 then (v+(n:Int)).toNat else min v.toNat n):Nat):Int)
 by_cases hv:v < 0
 ·simp only[if_pos hv];omega
 ·simp only[if_neg hv];omega
theorem Pc(lo hi:Option Int)(n:Nat):mM lo hi 1 (n:Int)=(((c7 n 0 lo:Nat):Int),((c7 n n hi:Nat):Int)):=by
 have h1:¬ ((1:Int) < 0):=by omega
 unfold mM
 simp only[h1,if_false]
 refine rE ?_ ?_
 ·cases lo with
  | none=>rfl
  | some v=>exact Nq v n 0
 ·cases hi with
  | none=>rfl
  | some v=>exact Nq v n n
theorem Om(i j:Nat):jx (i:Int) (j:Int) 1=j - i:=by
 unfold jx
 have h1:(1:Int) > 0:=by omega
 simp only[h1,if_true,Int.ediv_one]
 split <;> omega
theorem DK{v:Value}{o:Option Int}{Q:Option Int->Shared->Prop}(p:IsPart v o)(h:Q o s):wpAny (model prog w) A (Builtin.Slice.slicePartIndex v) Q E s:=by
 cases p with
 | none=>exact slicePart_none h
 | int i t=>exact slicePart_int h
theorem CJ{sl:Addr}{vl vu:Value}{lo hi:Option Int}{n:Nat}{Q:Int × Int × Nat->Shared->Prop}(hs:s.heap.IsSliceOf sl vl vu .none)(pl:IsPart vl lo)(pu:IsPart vu hi)(h:Q (((c7 n 0 lo:Nat):Int),1,c7 n n hi - c7 n 0 lo) s):wpAny (model prog w) A (tZ (.ref sl) (pure (n:Int))) Q E s:=by
 obtain⟨os,Q0,hcs,V9⟩:=id hs
 unfold tZ Builtin.Slice.sliceFields
 refine wpAny_bind (wpAny_bind (wpAny_field Q0 V9 (x:=vl) rfl (wpAny_bind (wpAny_field Q0 V9 (x:=vu) rfl (wpAny_bind (wpAny_field Q0 V9 (x := .none) rfl (wpAny_pure ?_)))))))
 refine wpAny_bind (slicePart_none ?_)
 show wpAny _ _ (if ((1:Int) == 0)=true then _ else _) _ _ s
 rw[if_neg (by decide)]
 refine wpAny_bind (DK pl (wpAny_bind (DK pu (wpAny_bind (wpAny_pure ?_)))))
 show wpAny _ _ (match mM lo hi 1 (n:Int) with | (lo,hi)=>pure (lo,(1:Int),jx lo hi 1)) _ _ s
 rw[Pc lo hi n]
 show wpAny _ _ (pure (((c7 n 0 lo:Nat):Int),(1:Int),jx ((c7 n 0 lo:Nat):Int) ((c7 n n hi:Nat):Int) 1)) _ _ s
 rw[Om]
 exact wpAny_pure h
theorem Tg(xs:Array Value)(i k:Nat):((bA k).filterMap fun (m:Nat)=>xs[((i:Int)+(m:Int) * 1).toNat]?).toArray=((xs.toList.drop i).take k).toArray:=by
 have e:(fun (m:Nat)=>xs[((i:Int)+(m:Int) * 1).toNat]?)=fun m=>xs[i+m]? := by
  funext m
  have:((i:Int)+(m:Int) * 1).toNat=i+m:=by omega
  rw[this]
 rw[e]
 have:=pick_run xs i k
 rw[List.filterMap_map]at this
 have e2:((fun x=>xs[x]?) ∘ fun x=>i+x)=fun m=>xs[i+m]? := rfl
 rw[e2]at this
 rw[this]
theorem BM{t sl:Addr}{items:Array Value}{vl vu:Value}{lo hi:Option Int}{Q:Value->Shared->Prop}(ht:IsTup s.heap t items)(hs:s.heap.IsSliceOf sl vl vu .none)(pl:IsPart vl lo)(pu:IsPart vu hi)(hw:¬ (c7 items.size 0 lo=0∧c7 items.size items.size hi=items.size))(h:Q (.ref s.heap.objs.size) { s with heap:=s.heap.push { cls := .type "tuple",data := .seq ((items.toList.drop (c7 items.size 0 lo)).take (c7 items.size items.size hi - c7 items.size 0 lo)).toArray } })(hsz:items.size<=sizeLine):wpAny (model prog w) A (getItem (.ref t) (.ref sl)) Q E s:=by
 have Ie:sizeOk (.seq ((items.toList.drop (c7 items.size 0 lo)).take (c7 items.size items.size hi - c7 items.size 0 lo)).toArray):=by
  show ((items.toList.drop (c7 items.size 0 lo)).take (c7 items.size items.size hi - c7 items.size 0 lo)).toArray.size<=sizeLine
  rw[aJ,bW,oQ,dA]
  omega
 have hj:c7 items.size items.size hi<=items.size:=IT _ _ (ar _) hi
 obtain⟨os,Q0,hcs,V9⟩:=id hs
 have hTs:s.TypeIs (.ref sl) "slice" := ⟨os,Q0,hcs⟩
 unfold getItem
 try with_reducible refine wpAny_holding ?_
 first | refine wpAny_bind (wpAny_pure ?_) | skip
 refine wpAny_bind (wpAny_sequenceKey ht.typeIs (by decide) ?_)
 refine wpAny_bind (wpAny_callSpecial?_slot (name:=eX "__getitem__") ht.typeIs jX
  (wpAny_call_entry jX ht.typeIs entry_tuple_getitem ?_ (args_tuple_getitem _ _)))
 show wpAny _ _ (tY (.ref t) >>= _) _ _ s
 refine wpAny_bind (tupleItemsOf_ ht ?_)
 refine wpAny_bind (wpAny_typeOf hTs ?_)
 rw[if_pos (by decide)]
 refine wpAny_bind (CJ hs pl pu ?_)
 have qF:¬ ((((c7 items.size 0 lo:Nat):Int) == 0 && (1:Int) == 1 && (c7 items.size items.size hi - c7 items.size 0 lo) == items.size)=true):=by
  intro q
  rw[jS,jS]at q
  have q1:((c7 items.size 0 lo:Nat):Int)=0:=eq_of_beq q.1.1
  have q2:c7 items.size items.size hi - c7 items.size 0 lo=items.size:=eq_of_beq q.2
  exact hw ⟨by omega,by omega⟩
 show wpAny _ _ (if (((c7 items.size 0 lo:Nat):Int) == 0 && (1:Int) == 1 && (c7 items.size items.size hi - c7 items.size 0 lo) == items.size)=true then _ else _) _ _ s
 rw[if_neg qF,Tg]
 first
  | exact wpAny_bind (m:=jQ _) (wpAny_newObj_type (wpAny_pure ⟨_,O,wpAny_pure h⟩) Ie)
  | exact wpAny_bind (m:=jQ _) (wpAny_newObj_type (wpAny_bind (wpAny_pure (wpAny_pure ⟨_,O,wpAny_pure h⟩))) Ie)
  | exact wpAny_bind (wpAny_bind (m:=jQ _) (wpAny_newObj_type (wpAny_pure (wpAny_pure ⟨_,O,wpAny_pure h⟩)) Ie))
  | exact wpAny_bind (wpAny_bind (m:=jQ _) (wpAny_newObj_type (wpAny_pure ⟨_,O,wpAny_pure h⟩) Ie))
end
end HT
namespace L2
open PySem PySem.Spec PyProof.Rows
abbrev TO:=St->Hp->(Option Int->Hp->Prop)->Prop
def PO(X:Cx)(e:Option Expr)(t:TO):Prop :=
 ∀ (ah:List (Addr × Obj)) (s:Shared) (Y:St) (H:Hp) (Q:Option Int->Hp->Prop),Inv X ah Y H s->t Y H Q ->
  wpAny (model X.prog X.w) X.A (evalPart e X.env) (fun u s'=>∃ o H',Inv X ah Y H' s'∧IsPart u o∧Q o H') X.xe s
def W4:TO:=fun _ H Q=>Q none H
inductive NG(Q:Option Int->Hp->Prop)(x:V)(H1:Hp):Prop
 | mk:∀ i,(x = .int i)->(Q (some i) H1)->NG Q x H1
def adh(t:TE):TO:=fun Y H Q=>t Y H fun x H1=>NG Q x H1
theorem intsAre_of{ns:List Int}:∀ {us:List Value},Vals (ns.map V.int) us->IntsAre us ns:=by
 induction ns with
 | nil=>intro us r;rw[fE]at r;cases r;exact .nil
 | cons n ns ih =>
  intro us r
  rw[aS]at r
  cases r with
  | cons r1 r2 =>
   obtain⟨t,e⟩:=r1
   subst e
   exact .cons n t (ih r2)
section
variable {X:Cx}{e:Expr}{te:TE}{lo hi:Option Expr}{tl th:TO}{pos p2:Pos}
theorem qV:PO X none W4:=by
 intro ah s Y H Q I h
 rw[evalPart_none]
 exact wpAny_pure ⟨none,H,I,.none,h⟩
theorem qU(h:PE X e te):PO X (some e) (adh te):=by
 intro ah s Y H Q I hw
 rw[evalPart_some]
 refine bB (h ah s Y H _ I hw) fun u s1 ⟨x,H1,I1,r1,q1⟩ =>?_
 obtain⟨i,rfl,q⟩:=q1
 obtain⟨t,rfl⟩:=r1
 exact⟨some i,H1,I1,.int i t,q⟩
def WN(X:Cx)(r:V->Option Int->Option Int->Hp->VK->Prop):Prop :=
 ∀ (ah:List (Addr × Obj)) (s:Shared) (Y:St) (H:Hp) (x:V) (v vl vu:Value) (lo hi:Option Int) (sl:Addr) (Q:VK),Inv X ah Y H s->RelV x v->s.heap.IsSliceOf sl vl vu .none->IsPart vl lo->IsPart vu hi->r x lo hi H Q ->
  ∃ T id,typeLookup (.type T) "__getitem__" = pure (some (.builtin id))∧s.TypeIs v T∧wpAny (model X.prog X.w) X.A (getItem v (.ref sl)) (EP X ah Y Q) X.xe s
def tSl(r:V->Option Int->Option Int->Hp->VK->Prop)(te:TE)(tl th:TO):TE:=fun Y H Q=>te Y H fun x H1=>tl Y H1 fun l H2=>th Y H2 fun u H3=>r x l u H3 Q
theorem oK{r:V->Option Int->Option Int->Hp->VK->Prop}(hr:WN X r)(he:PE X e te)(hl:PO X lo tl)(hu:PO X hi th):PE X (.Subscript e (.Slice lo hi none p2) pos) (tSl r te tl th):=by
 intro ah s Y H Q I h
 refine Subscript_ (bB (he ah s Y H _ I h) fun v s1 ⟨x,H1,I1,r1,q1⟩ =>?_)
 refine wpAny_Slice (bB (hl ah s1 Y H1 _ I1 q1) fun vl s2 ⟨l,H2,I2,pl,q2⟩=>bB (hu ah s2 Y H2 _ I2 q2) fun vu s3 ⟨u,H3,I3,pu,q3⟩ =>?_)
 rw[evalPart_none]
 refine wpAny_pure ?_
 have I4:Inv X ah Y H3 { s3 with heap:=s3.heap.push { cls := .type "slice",data := .fields #[vl,vu,.none] } }:=I3.kept (t':=s3.toks) fun b ob q=>ay _ q
 obtain⟨T,id,hT,ht,hg⟩:=hr ah { s3 with heap:=s3.heap.push { cls := .type "slice",data := .fields #[vl,vu,.none] } } Y H3 x v vl vu l u s3.heap.objs.size Q I4 r1 (Heap.IsSliceOf.new ..) pl pu q3
 show wpAny (model X.prog X.w) X.A (subscriptTail e (.Slice lo hi none p2) v (.ref s3.heap.objs.size)) (EP X ah Y Q) X.xe { s3 with heap:=s3.heap.push { cls := .type "slice",data := .fields #[vl,vu,.none] } }
 exact tail_any (ops := [.ref s3.heap.objs.size,v]) ht hT hg (by with_unfolding_all rfl)
def rj(xs:List V)(lo hi:Option Int):List V:=(xs.drop (HT.c7 xs.length 0 lo)).take (HT.c7 xs.length xs.length hi - HT.c7 xs.length 0 lo)
theorem Cp(xs:List V)(lo hi:Option Int):(rj xs lo hi).length<=xs.length:=by
 unfold rj
 rw[bW,oQ]
 omega
inductive Sj(K:ao)(x:V)(lo:Option Int)(hi:Option Int)(H:Hp)(Q:VK):Prop
 | mk:∀ a xs,(x = .ref a)->(bM K H a xs)->(¬ (HT.c7 xs.length 0 lo=0∧HT.c7 xs.length xs.length hi=xs.length))->(∀ p,H p=none->Q (.ref p) (upd H p (.tup (rj xs lo hi))))->Sj K x lo hi H Q
def agy(K:ao):V->Option Int->Option Int->Hp->VK->Prop:=fun x lo hi H Q=>Sj K x lo hi H Q
theorem Y9:WN X (agy X.K):=by
 intro ah s Y H x v vl vu lo hi sl Q I rx hs pl pu h
 obtain⟨a,xs,rfl,hx,hw,q⟩:=h
 cases rx
 obtain⟨its,r,ht,hz⟩:=I.tuple hx
 have eD:its.toArray.size=xs.length:=by rw[aJ];exact r.length.symm
 refine⟨"tuple",_,jX.lookup,ht.typeIs,?_⟩
 refine HT.BM ht hs pl pu (by rw[eD];exact hw) ?_ (by rw[eD];exact hz)
 rw[eD]
 refine⟨.ref s.heap.objs.size,_,I.laid (t':=s.toks) (o := .tup (rj xs lo hi)) (fun b ob q=>ay _ q) (ar _) ?_,O,q _ (I.bh.fresh (ar _))⟩
 exact⟨bf (Cp xs lo hi) hz,_,(r.drop (HT.c7 xs.length 0 lo)).take (HT.c7 xs.length xs.length hi - HT.c7 xs.length 0 lo),vV.new _ _⟩
end
def Ca(n:Nat)(i:Int):Option Nat:=if 0<=i then (if i < n then some i.toNat else none) else if -(n:Int)<=i then some (i+n).toNat else none
def uh{α : Type}(xs:List α)(i:Int):Option α := (Ca xs.length i).bind fun j=>xs[j]?
theorem MN{n:Nat}{i:Int}{j:Nat}(h:Ca n i=some j):seqIndex? i n=some j∧j < n ∧ -(n:Int)<=i∧i < n:=by
 unfold Ca at h
 by_cases h0:0<=i
 ·rw[if_pos h0]at h
  by_cases h1:i < n
  ·rw[if_pos h1]at h
   have e:i.toNat=j:=aD h
   exact⟨by rw[seqIndex_of h0 h1,e],by omega,by omega,h1⟩
  ·rw[if_neg h1]at h;cases h
 ·rw[if_neg h0]at h
  by_cases h1 : -(n:Int)<=i
  ·rw[if_pos h1]at h
   have e:(i+n).toNat=j:=aD h
   exact⟨by rw[seqIndex_neg (by omega) h1,e],by omega,h1,by omega⟩
  ·rw[if_neg h1]at h;cases h
theorem F9{α : Type}{xs:List α}{i:Int}{v : α}(h:uh xs i=some v):∃ j,seqIndex? i xs.length=some j∧xs[j]? = some v∧j < xs.length ∧ -(xs.length:Int)<=i∧i < xs.length:=by
 unfold uh at h
 cases e:Ca xs.length i with
 | none=>rw[e]at h;cases h
 | some j =>
  rw[e]at h
  obtain⟨h1,h2,h3,h4⟩:=MN e
  exact⟨j,h1,h,h2,h3,h4⟩
theorem aY{α : Type}{xs:List α}{j:Nat}{v : α}(h:xs[j]? = some v):uh xs (j:Int)=some v:=by
 have hj:j < xs.length:=(ai.mp h).1
 have e:Ca xs.length (j:Int)=some j:=by
  unfold Ca
  rw[if_pos (by omega),if_pos (by omega)];simp
 unfold uh;rw[e];exact h
def NF(b:Expr):Prop := ∀ o i,subscripted b false o i=operate [o,i] (getItem o i)
def Sy(X:Cx)(r:R2):Prop :=
 ∀ (value slice:Expr) (ah:List (Addr × Obj)) (s:Shared) (Y:St) (H:Hp) (x y:V) (v u:Value) (Q:VK),Inv X ah Y H s->RelV x v->RelV y u->r x y H Q ->
  subscripted slice false v u=operate [v,u] (getItem v u)->wpAny (model X.prog X.w) X.A (subscriptTail value slice v u) (EP X ah Y Q) X.xe s
def MtR(X:Cx)(id:String)(r:V->List V->Hp->VK->Prop):Prop :=
 ∀ (ah:List (Addr × Obj)) (s:Shared) (Y:St) (H:Hp) (x:V) (xs:List V) (v:Value) (us:List Value) (Q:VK),Inv X ah Y H s->RelV x v->Vals xs us->r x xs H Q ->
  wpAny (model X.prog X.w) X.A (call (.builtin id) (v :: us)) (EP X ah Y Q) X.xe s
section
variable {X:Cx}{a b:Expr}{ta tb:TE}{pos:Pos}
theorem adA{r:R2}(hr:Sy X r)(ha:PE X a ta)(hb:PE X b tb)(hs:NF b):PE X (.Subscript a b pos) (uX r ta tb):=by
 intro ah s Y H Q I h
 exact Subscript_ (US ha hb I h fun v u s2 x y H2 I2 rx ry q=>hr a b ah s2 Y H2 x y v u Q I2 rx ry q (hs _ _))
inductive acU(K:ao)(x y:V)(H:Hp)(Q:VK):Prop
 | mk (p:Addr) (xs:List V) (i:Int) (v:V) (hx:x = .ref p) (hy:y = .int i) (hS:a9 K H p xs) (he:uh xs i=some v) (q:Q v H):acU K x y H Q
def Oj(K:ao):R2:=fun x y H Q=>acU K x y H Q
inductive acT(K:ao)(x y:V)(H:Hp)(Q:VK):Prop
 | mk (p:Addr) (xs:List V) (i:Int) (v:V) (hx:x = .ref p) (hy:y = .int i) (hS:bM K H p xs) (he:uh xs i=some v) (q:Q v H):acT K x y H Q
def agF(K:ao):R2:=fun x y H Q=>acT K x y H Q
inductive Sq(x:V)(y:V)(H:Hp)(Q:VK):Prop
 | mk:∀ z i c,(x = .str z)->(y = .int i)->(z.length<=sizeLine)->(uh z.cps.toList i=some c)->(Q (.str ⟨#[c]⟩) H)->Sq x y H Q
def agG:R2:=fun x y H Q=>Sq x y H Q
theorem bG:Sy X (Oj X.K):=by
 intro value slice ah s Y H x y v u Q I rx ry h hs
 obtain⟨p,xs,i,z,rfl,rfl,hq,he,q⟩:=h
 cases rx
 obtain⟨t,rfl⟩:=ry
 obtain⟨its,r,pl,hz⟩:=I.list hq
 obtain⟨j,h1,h2,h3,h4,h5⟩:=F9 he
 obtain⟨w,ew,kR⟩:=r.get h2
 have hl:=r.length
 have hn:=vm
 have fin:EP X ah Y Q w s:=⟨z,H,I,kR,q⟩
 by_cases h0:0<=i
 ·have hj:i.toNat=j:=by
   rw[seqIndex_of h0 h5]at h1
   exact aD h1
  exact item_listR pl.isList h0 (by omega) (by rw[hj];simpa using ew) fin hs
 ·have hj:(i+(its.toArray.size:Int)).toNat=j:=by
   rw[seqIndex_neg (by omega) h4]at h1
   rw[aJ, <- hl]
   exact aD h1
  exact subscriptTail_builtinR (x:=w) pl.isList.typeIs slot_list_getitem.lookup
   (wpAny_getItem_list_neg (Q:=fun r s'=>r=w∧EP X ah Y Q r s') pl.isList (by omega) (by rw[aJ] <;> omega) (by omega) (by rw[hj];simpa using ew) ⟨O,fin⟩) hs
theorem bF:Sy X (agF X.K):=by
 intro value slice ah s Y H x y v u Q I rx ry h hs
 obtain⟨p,xs,i,z,rfl,rfl,hq,he,q⟩:=h
 cases rx
 obtain⟨t,rfl⟩:=ry
 obtain⟨its,r,pl,hz⟩:=I.tuple hq
 obtain⟨j,h1,h2,h3,h4,h5⟩:=F9 he
 obtain⟨w,ew,kR⟩:=r.get h2
 have hl:=r.length
 have hn:=vm
 have fin:EP X ah Y Q w s:=⟨z,H,I,kR,q⟩
 exact subscriptTail_builtinR (x:=w) pl.typeIs slot_tuple_getitem.lookup
  (getItem_tuple (j:=j) (Q:=fun r s'=>r=w∧EP X ah Y Q r s') pl (by omega) (by omega) (by rw[aJ, <- hl];exact h1) (by simpa using ew) ⟨O,fin⟩) hs
theorem aax:Sy X agG:=by
 intro value slice ah s Y H x y v u Q I rx ry h hs
 obtain⟨z,i,c,rfl,rfl,hz,he,q⟩:=h
 obtain⟨t,rfl⟩:=rx
 obtain⟨t',rfl⟩:=ry
 obtain⟨j,h1,h2,h3,h4,h5⟩:=F9 he
 have hl:z.cps.toList.length=z.length:=by simp[Str.length]
 rw[hl]at h1 h4 h5
 have hn:=vm
 exact tail_any (typeIs_str s z t) slot_str_getitem.lookup (getItem_str (c:=c) (by
  have e1:decide (i < -(2 ^ 63:Int))=false:=decide_eq_false (by omega)
  have e2:decide (i ≥ 2 ^ 63)=false:=decide_eq_false (by omega)
  rw[e1,e2,Bool.or_false]) (by rw[h1];simpa using h2) ⟨.str ⟨#[c]⟩,H,I.tok _,⟨_,O⟩,q⟩) hs
theorem Oy(its:List Value)(n j:Nat)(u:Value):ij (·.setIfInBounds j u) { cls := .type "list",data := .seq its.toArray n }={ cls := .type "list",data := .seq (its.set j u).toArray n }:=by
 simp[ij]
theorem Inv.lst{ah:List (Addr × Obj)}{Y:St}{H:Hp}{s:Shared}{p:Addr}{xs:List V}(I:Inv X ah Y H s)(h:H p=some (.lst xs)) :
  ∃ (its:List Value) (n:Nat),Vals xs its∧s.heap.get? p=some { cls := .type "list",data := .seq its.toArray n }∧xs.length<=sizeLine:=by
 obtain⟨z,its,n,r,e⟩:=I.bh p _ h
 exact⟨its,n,r,e,z⟩
theorem Inv.aad{ah:List (Addr × Obj)}{Y:St}{H:Hp}{s:Shared}{p:Addr}{xs ys:List V}{its its':List Value}{n n':Nat}{f:Obj->Obj}(I:Inv X ah Y H s)(h:H p=some (.lst xs))(ho:s.heap.get? p=some { cls := .type "list",data := .seq its.toArray n })(hf:f { cls := .type "list",data := .seq its.toArray n }={ cls := .type "list",data := .seq its'.toArray n' })(r:Vals ys its')(hz:ys.length<=sizeLine)(t:Nat) :
  Inv X ah Y (upd H p (.lst ys)) { s with heap:=s.heap.update p f,toks:=t }:=by
 have e:(s.heap.update p f).get? p=some { cls := .type "list",data := .seq its'.toArray n' }:=by
  rw[d8 f ho (by rw[hf] <;> rfl),hf]
 refine I.write (x:=p) (e:=p) (by rw[h];trivial) (.inl rfl) (fun b u hb q=>(df _ _ (cm hb)).trans q) ⟨_,e⟩ ?_
 exact⟨hz,its',n',r,e⟩
inductive NO(o:V)(i:V)(v:V)(H:Hp)(Q:Hp->Prop):Prop
 | mk:∀ p xs k j,(o = .ref p)->(i = .int k)->(H p=some (.lst xs))->(Ca xs.length k=some j)->(Q (upd H p (.lst (xs.set j v))))->NO o i v H Q
def adx:V->V->V->Hp->(Hp->Prop)->Prop:=fun o i v H Q=>NO o i v H Q
theorem yx:Pe X adx:=by
 intro ah s Y H o i v ov iv u Q I ro ri rv h
 obtain⟨p,xs,k,j,rfl,rfl,hp,hj,q⟩:=h
 cases ro
 obtain⟨t,rfl⟩:=ri
 obtain⟨its,n,r,ho,hz⟩:=I.lst hp
 obtain⟨h1,h2,h3,h4⟩:=MN hj
 have hl:=r.length
 have hn:=vm
 have I':Inv X ah Y (upd H p (.lst (xs.set j v))) { s with heap:=s.heap.update p (ij (·.setIfInBounds j u)) } :=
  I.aad hp ho (Oy its n j u) (r.set rv j) (by rw[List.length_set];exact hz) s.toks
 by_cases h0:0<=k
 ·have hk:k.toNat=j:=by
   rw[seqIndex_of h0 h4]at h1
   exact aD h1
  exact PySem.W.ki_setAt ho h0 (by omega) (by rw[aJ, <- hl];exact h4) (by rw[hk];exact⟨_,I',q⟩)
 ·have hk:(k+(its.toArray.size:Int)).toNat=j:=by
   rw[seqIndex_neg (by omega) h3]at h1
   rw[aJ, <- hl]
   exact aD h1
  exact PySem.W.ki_setBack ho (by omega) (by rw[aJ, <- hl];exact h3) (by omega) (by rw[hk];exact⟨_,I',q⟩)
theorem Ak(lo hi:Option Int)(n:Nat):(sliceBounds lo hi none n).1=((HT.c7 n 0 lo:Nat):Int)∧(sliceBounds lo hi none n).2.1=((HT.c7 n n hi:Nat):Int)∧(sliceBounds lo hi none n).2.2=1:=by
 refine⟨?_,?_,O⟩
 ·cases lo with
  | none=>simp[sliceBounds,HT.c7]
  | some i =>
   simp only[sliceBounds,HT.c7,Dj,show (1:Int) > 0 by decide,if_true]
   by_cases h:i < 0
   ·simp only[h,if_true] <;> omega
   ·simp only[h,if_false] <;> omega
 ·cases hi with
  | none=>simp[sliceBounds,HT.c7]
  | some i =>
   simp only[sliceBounds,HT.c7,Dj,show (1:Int) > 0 by decide,if_true]
   by_cases h:i < 0
   ·simp only[h,if_true] <;> omega
   ·simp only[h,if_false] <;> omega
theorem HK(its:List Value)(lo hi:Option Int):slicePick its.toArray lo hi none=((its.drop (HT.c7 its.length 0 lo)).take (HT.c7 its.length its.length hi - HT.c7 its.length 0 lo)).toArray:=by
 obtain⟨h1,h2,h3⟩:=Ak lo hi its.toArray.size
 unfold slicePick
 rw[h1,h2,h3]
 simp only[sliceRange_one,pick_run,aJ] <;> rfl
inductive Sl(K:ao)(x:V)(lo:Option Int)(hi:Option Int)(H:Hp)(Q:VK):Prop
 | mk:∀ a xs,(x = .ref a)->(a9 K H a xs)->(∀ p,H p=none->Q (.ref p) (upd H p (.lst (rj xs lo hi))))->Sl K x lo hi H Q
def agA(K:ao):V->Option Int->Option Int->Hp->VK->Prop:=fun x lo hi H Q=>Sl K x lo hi H Q
theorem Fs:WN X (agA X.K):=by
 intro ah s Y H x v vl vu lo hi sl Q I rx hs pl pu h
 obtain⟨a,xs,rfl,hx,q⟩:=h
 cases rx
 obtain⟨its,r,ht,hz⟩:=I.list hx
 have eD:=r.length
 refine⟨"list",_,slot_list_getitem.lookup,ht.isList.typeIs,?_⟩
 refine wpAny_getItem_list_slice ht.isList hs pl pu .none (by simp) ?_ (by rw[aJ] <;> omega)
 rw[HK, <- eD]
 refine⟨.ref s.heap.objs.size,_,I.laid (t':=s.toks) (o := .lst (rj xs lo hi)) (fun b ob q=>ay _ q) (ar _) ?_,O,q _ (I.bh.fresh (ar _))⟩
 exact⟨bf (Cp xs lo hi) hz,_,0,(r.drop (HT.c7 xs.length 0 lo)).take (HT.c7 xs.length xs.length hi - HT.c7 xs.length 0 lo),aT _ rfl⟩
inductive Ph(K:ao)(xs:List V)(H:Hp)(Q:VK):Prop
 | mk:∀ p ys,(xs = [.ref p])->(a9 K H p ys∨bM K H p ys)->(Q (.int ys.length) H)->Ph K xs H Q
theorem dU:kr X (.builtin "len") (fun xs H Q=>Ph X.K xs H Q):=by
 intro ah s Y H xs us Q I r h
 obtain⟨p,ys,rfl,hq,q⟩:=h
 obtain⟨u,rfl,rx⟩:=vals1 r
 cases rx
 have hn:=vm
 rcases hq with hq | hq
 ·obtain⟨its,r',pl,hz⟩:=I.list hq
  have eD:=r'.length
  exact Calls.call_len_list pl.isList (by simp only[aJ] <;> omega) ⟨.int ys.length,H,I.tok _,⟨s.toks+1,by rw[aJ,eD]⟩,q⟩
 ·obtain⟨its,r',pl,hz⟩:=I.tuple hq
  have eD:=r'.length
  exact len_tuple pl (by simp only[aJ] <;> omega) ⟨.int ys.length,H,I.tok _,⟨s.toks+1,by rw[aJ,eD]⟩,q⟩
inductive yk(xs:List V)(H:Hp)(Q:VK):Prop
 | mk:∀ z,(xs = [.str z])->(z.length<=sizeLine)->(Q (.int z.length) H)->yk xs H Q
theorem Lf:kr X (.builtin "len") (fun xs H Q=>yk xs H Q):=by
 intro ah s Y H xs us Q I r h
 obtain⟨z,rfl,hz,q⟩:=h
 obtain⟨u,rfl,t,rfl⟩:=vals1 r
 have hn:=vm
 exact len_str (by omega) ⟨.int z.length,H,I.tok _,⟨_,O⟩,q⟩
inductive yj(kK:ao)(xs:List V)(H:Hp)(Q:VK):Prop
 | mk:∀ p ys,(xs = [.ref p])->((a9 kK H p ys∨bM kK H p ys))->(∀ l,H l=none->Q (.ref l) (upd H l (.lst ys)))->yj kK xs H Q
theorem eE:kr X (.type "list") (fun xs H Q=>yj X.K xs H Q):=by
 intro ah s Y H xs us Q I r h
 obtain⟨p,ys,rfl,hq,q⟩:=h
 obtain⟨u,rfl,rx⟩:=vals1 r
 cases rx
 have fin:∀ (its:List Value),Vals ys its->ys.length<=sizeLine->∀ (h':Heap) (c':Nat),(∀ b o',s.heap.get? b=some o'->h'.get? b=some o') ->
   h'.get? s.heap.objs.size=some { cls := .type "list",dict:=none,data := .seq its.toArray c',slots := #[] }->EP X ah Y Q (.ref s.heap.objs.size) { s with heap:=h' }:=fun its r' hz h' c' kp e =>
  ⟨.ref s.heap.objs.size,_,I.laid (t':=s.toks) kp (ar _) (show cY X.prog X.w _ h' _ (.lst ys) from ⟨hz,its,c',r',e⟩),O,q _ (I.bh.fresh (ar _))⟩
 rcases hq with hq | hq
 ·obtain⟨its,r',pl,hz⟩:=I.list hq
  have eD:=r'.length
  obtain⟨o,ho,hc,n,hd⟩:=pl.isList
  exact call_list_seq p (.inl rfl) ho hc hd (fun h' c' kp e=>fin its r' hz h' c' kp e) (by simp only[aJ] <;> omega)
 ·obtain⟨its,r',pl,hz⟩:=I.tuple hq
  have eD:=r'.length
  obtain⟨o,ho,hc,n,hd⟩:=pl
  exact call_list_seq p (.inr rfl) ho hc hd (fun h' c' kp e=>fin its r' hz h' c' kp e) (by simp only[aJ] <;> omega)
inductive wY(kK:ao)(xs:List V)(H:Hp)(Q:VK):Prop
 | mk:∀ p ys,(xs = [.ref p])->(((a9 kK H p ys∧∀ l,H l=none->Q (.ref l) (upd H l (.tup ys)))∨(bM kK H p ys∧Q (.ref p) H)))->wY kK xs H Q
theorem zI:kr X (.type "tuple") (fun xs H Q=>wY X.K xs H Q):=by
 intro ah s Y H xs us Q I r h
 obtain⟨p,ys,rfl,h⟩:=h
 obtain⟨u,rfl,rx⟩:=vals1 r
 cases rx
 rcases h with⟨hq,q⟩ | ⟨hq,q⟩
 ·obtain⟨its,r',pl,hz⟩:=I.list hq
  have eD:=r'.length
  refine call_tuple_list pl.isList (fun h' kp =>?_) (by simp only[aJ] <;> omega)
  have I1:Inv X ah Y H { s with heap:=h' }:=I.kept (t':=s.toks) kp
  have I2:Inv X ah Y (upd H h'.objs.size (.tup ys)) { s with heap:=h'.push { cls := .type "tuple",data := .seq its.toArray } } :=
   I1.laid (t':=s.toks) (fun b o e=>ay _ e) (ar _) (show cY X.prog X.w _ _ _ (.tup ys) from ⟨hz,its,r',vV.new _ _⟩)
  exact⟨.ref h'.objs.size,_,I2,O,q _ (I1.bh.fresh (ar _))⟩
 ·obtain⟨its,r',pl,hz⟩:=I.tuple hq
  exact call_tuple_same pl ⟨.ref p,H,I,O,q⟩
def Yy(K:ao)(T:String)(x:V)(H:Hp):Prop:=match x with
 | .str _=>T = "str"
 | .int _=>T = "int"
 | .ref p=>(T = "list" ∧ ∃ xs,a9 K H p xs)∨(T = "tuple" ∧ ((∃ o,K.lookup p=some o∧o.cls = .type "tuple" ∧ o.dict=none)∨∃ xs,H p=some (.tup xs))) ∨
   (T = "dict" ∧ ((∃ kvs,H p=some (.dK kvs))∨∃ kvs,H p=some (.dT kvs)))∨(T = "set" ∧ ∃ S n,H p=some (.set S n))
 | _=>False
theorem PH{ah:List (Addr × Obj)}{Y:St}{H:Hp}{s:Shared}{T:String}{x:V}{v:Value}(I:Inv X ah Y H s)(r:RelV x v)(ty:Yy X.K T x H) :
  s.TypeIs v T∧∀ a,v = .ref a->∃ ob,s.heap.get? a=some ob∧ob.dict=none:=by
 cases x with
 | str z =>
  obtain⟨t,rfl⟩:=r
  cases (show T = "str" from ty)
  exact⟨typeIs_str s z t,fun _ e=>nomatch e⟩
 | int i =>
  obtain⟨t,rfl⟩:=r
  cases (show T = "int" from ty)
  exact⟨typeIs_int s i t,fun _ e=>nomatch e⟩
 | ref p =>
  cases r
  rcases ty with⟨rfl,xs,hq⟩ | ⟨rfl,⟨o,hk,hc,hd⟩ | ⟨xs,hk⟩⟩ | ⟨rfl,hk⟩ | ⟨rfl,S,n,hk⟩
  ·obtain⟨its,_,pl,_⟩:=I.list hq
   refine⟨pl.isList.typeIs,fun a e =>?_⟩
   cases e
   obtain⟨o,n,e,c,hd,_⟩:=pl
   exact⟨o,e,hd⟩
  ·refine⟨⟨o,I.jy p o hk,hc⟩,fun a e =>?_⟩
   cases e
   exact⟨o,I.jy _ o hk,hd⟩
  ·obtain⟨_,_,_,o,e,c,n,d,hd⟩:=I.bh p _ hk
   refine⟨⟨o,e,c⟩,fun a e2 =>?_⟩
   cases e2
   exact⟨o,e,hd⟩
  ·have z:∃ o,s.heap.get? p=some o∧o.ExactDict:=by
    rcases hk with⟨kvs,hk⟩ | ⟨kvs,hk⟩
    ·obtain⟨_,_,_,_,o,_,_,e,ex,_⟩:=I.bh p _ hk
     exact⟨o,e,ex⟩
    ·obtain⟨_,_,_,_,o,_,_,e,ex,_⟩:=I.bh p _ hk
     exact⟨o,e,ex⟩
   obtain⟨o,e,ex⟩:=z
   refine⟨⟨o,e,ex.1⟩,fun a e2 =>?_⟩
   cases e2
   exact⟨o,e,ex.2.1⟩
  ·obtain⟨o,_,_,_,e,ex,_⟩:=I.bh p _ hk
   refine⟨⟨o,e,ex.1⟩,fun a e2 =>?_⟩
   cases e2
   exact⟨o,e,ex.2.1⟩
 | _=>exact dy ty
def ago(K:ao)(T:String)(r:V->List V->Hp->VK->Prop)(to:TE):TE:=fun Y H Q=>to Y H fun x H1=>Yy K T x H1∧r x [] H1 Q
def tBM(K:ao)(T:String)(r:V->List V->Hp->VK->Prop)(to:TE)(t:TA):TE:=fun Y H Q=>to Y H fun x H1=>Yy K T x H1∧t Y H1 fun xs H2=>r x xs H2 Q
variable {o e:Expr}{es:List Expr}{to:TE}{t:TA}{name:Str}{c9 cZ:Pos}{T id:String}{r:V->List V->Hp->VK->Prop}
theorem ZL(pa:PlainAttrs T)(slot:Slot T name id)(hty:typeOf (.builtin id)=pure (.type "method_descriptor"))(hm:MtR X id r)(ho:PE X o to)(pW:attributeBase o name X.env (eval o X.env)=eval o X.env:=by rfl)(pV:(c9.endLine == cZ.line)=true:=by rfl):PE X (.Call (.Attribute o name c9) [] [] cZ) (ago X.K T r to):=by
 intro ah s Y H Q I h
 refine wpAny_Call_method0_late pW pV (bB (ho ah s Y H _ I h) fun v s1 ⟨x,H1,I1,r1,ty,q1⟩ =>?_)
 obtain⟨h1,h2⟩:=PH I1 r1 ty
 exact⟨T,id,pa,slot,hty,h1,h2,eK rfl (qH (hm ah s1 Y H1 x [] v [] Q I1 r1 .nil q1))⟩
theorem kG(pa:PlainAttrs T)(slot:Slot T name id)(hty:typeOf (.builtin id)=pure (.type "method_descriptor"))(hm:MtR X id r)(ho:PE X o to)(ha:PA X (e :: es) t)(pW:attributeBase o name X.env (eval o X.env)=eval o X.env:=by rfl)(Uq:((backTo cZ (starEach (e :: es) X.env)).all (fun x => !x.1) && (backToKw cZ (keywordEach [] X.env)).all (fun x=>x.1.isSome)
   && decide ((e :: es).length+([]:List Keyword).length+(if ([]:List Keyword).isEmpty then 0 else 1) < 30))=true:=by rfl)(pV:(c9.endLine == cZ.line)=true:=by rfl)(hs:starEach (e :: es) X.env=(false,eval e X.env) :: starEach es X.env:=by rfl)(J2:(backTo cZ (starEach es X.env)).any (·.1)=false:=by rfl) :
  PE X (.Call (.Attribute o name c9) (e :: es) [] cZ) (tBM X.K T r to t):=by
 intro ah s Y H Q I h
 refine wpAny_Call_method_late pW Uq pV rfl (bB (ho ah s Y H _ I h) fun v s1 ⟨x,H1,I1,r1,ty,q1⟩ =>?_)
 obtain⟨h1,h2⟩:=PH I1 r1 ty
 refine⟨T,id,pa,slot,hty,h1,h2,?_⟩
 have hA:=ha cZ ah s1 Y H1 _ I1 q1
 rw[hs]at hA ⊢
 refine eK (by show (false || (backTo cZ (starEach es X.env)).any (·.1))=false;rw[J2] <;> rfl) (ir ?_)
 exact bB hA fun us s2 ⟨vs,H2,I2,r2,q2⟩=>hm ah s2 Y H2 x vs v us Q I2 r1 r2 q2
/- xs.append(e),list.index on a agX tuple .. are MtR aln of 06m -/
end
def MtM(X:Cx)(id:String)(r:V->List V->Hp->VK->Prop):Prop :=
 ∀ (ah:List (Addr × Obj)) (s:Shared) (Y:St) (H:Hp) (x:V) (xs:List V) (v:Value) (us:List Value) (Q:VK),Inv X ah Y H s->RelV x v->Vals xs us->r x xs H Q ->
  wpAny (model X.prog X.w) X.A (call (.builtin id) (v :: us)) (EP X ah Y Q) X.xe s
theorem Vals.one:∀ {x:V}{us:List Value},Vals [x] us->∃ u,us = [u]∧RelV x u
 | _,_,.cons r .nil=>⟨_,O,r⟩
theorem Vals.zero:∀ {us:List Value},Vals [] us->us = []
 | _,.nil=>rfl
theorem Vals.dropLast{xs:List V}{us:List Value}(h:Vals xs us):Vals xs.dropLast us.dropLast:=by
 induction h with
 | nil=>exact .nil
 | cons r t ih =>
  cases t with
  | nil=>exact .nil
  | cons q t'=>exact .cons r ih
theorem Vals.rep{xs:List V}{us:List Value}(h:Vals xs us):∀ k:Nat,Vals (bR k xs).flatten (bR k us).flatten
 | 0 => .nil
 | k+1=>by
  rw[gG,gG,kM,kM]
  exact Vals.append h (Vals.rep h k)
theorem O8{α : Type}(l:List α):l.eraseIdx (l.length - 1)=l.dropLast:=by
 induction l with
 | nil=>rfl
 | cons a r ih =>
  cases r with
  | nil=>rfl
  | cons b r =>
   have e:(a :: b :: r).length - 1=((b :: r).length - 1)+1:=by
    have h1:(a :: b :: r).length=r.length+2:=rfl
    have h2:(b :: r).length=r.length+1:=rfl
    omega
   rw[e,List.eraseIdx_cons_succ,ih]
   all_goals rfl
theorem foldl_rep(its:List Value):∀ (k:Nat) (acc:List Value),
  E5 (fun x1 x2=>x1 ++ x2) acc.toArray (bR k its.toArray)=(acc ++ (bR k its).flatten).toArray
 | 0,acc=>by simp
 | k+1,acc=>by
  have e:acc.toArray ++ its.toArray=(acc ++ its).toArray:=by simp
  have e2:(acc ++ its) ++ (bR k its).flatten=acc ++ (bR (k+1) its).flatten:=by
   rw[gG,kM,kN]
  rw[<- e2, <- foldl_rep its k (acc ++ its), <- e,gG,qt]
section
variable {X:Cx}{ah:List (Addr × Obj)}{Y:St}{H:Hp}{s:Shared}{l b:Addr}{xs ys zs:List V}
theorem Inv.T3{its its':List Value}{n:Nat}{f:Array Value->Array Value}{t':Nat}(I:Inv X ah Y H s)(hH:H l=some (.lst xs))(e:s.heap.get? l=some { cls := .type "list",data := .seq its.toArray n })(hf:f its.toArray=its'.toArray)(hv:Vals ys its')(hz:ys.length<=sizeLine) :
  Inv X ah Y (upd H l (.lst ys)) { s with heap:=s.heap.update l (ij f),toks:=t' }:=by
 have q:=PySem.IsL.update e f
 rw[hf]at q
 refine I.write (x:=l) (e:=l) (by rw[hH];exact trivial) (.inl rfl) (fun b' u hb hu=>(df s.heap (ij f) (cm hb)).trans hu) ⟨_,q⟩ ?_
 exact⟨hz,its',_,hv,q⟩
theorem Inv.OD{its:List Value}{t':Nat}(I:Inv X ah Y H s)(hv:Vals ys its)(hz:ys.length<=sizeLine) :
  Inv X ah Y (upd H s.heap.objs.size (.lst ys)) { s with heap:=s.heap.push { cls := .type "list",data := .seq its.toArray },toks:=t' } :=
 I.laid (fun _ _ q=>ay _ q) (ar _) ⟨hz,its,0,hv,aT _ rfl⟩
theorem Inv.fresh(I:Inv X ah Y H s):H s.heap.objs.size=none:=I.bh.fresh (ar _)
theorem Inv.C2(I:Inv X ah Y H s)(hH:H l=some (.lst xs)):xs.length<=sizeLine∧∃ (its:List Value) (n:Nat),Vals xs its∧xs.length=its.length∧s.heap.get? l=some { cls := .type "list",data := .seq its.toArray n }:=by
 obtain⟨z,its,n,r,e⟩:=I.bh l _ hH
 exact⟨z,its,n,r,r.length,e⟩
theorem Js{n:Nat}(h:n<=sizeLine):jR n=false:=by
 unfold jR
 exact decide_eq_false (by omega)
end
section
variable {X:Cx}
inductive HE(x:V)(vs:List V)(H:Hp)(Q:VK):Prop
 | mk:∀ l xs y,(x = .ref l)->(vs = [y])->(H l=some (.lst xs))->(xs.length < sizeLine)->(Q .cG (upd H l (.lst (xs ++ [y]))))->HE x vs H Q
def Xk:V->List V->Hp->VK->Prop:=fun x vs H Q=>HE x vs H Q
theorem fJ:MtM X "list.append" Xk:=by
 intro ah s Y H x vs v us Q I rx rv h
 obtain⟨l,xs,y,rfl,rfl,hH,hz,q⟩:=h
 cases rx
 obtain⟨u,rfl,ru⟩:=rv.one
 obtain⟨z,its,n,r,hl,e⟩:=I.C2 hH
 refine call_meets F.slot_list_append ⟨_,e,O⟩ F.entry_list_append (F.args_list_append_2 _ _) (PySem.list_append l its.toArray n u (by rw[aJ];omega)) ⟨e,?_⟩
 refine⟨.cG,_,I.T3 (its':=its ++ [u]) hH e (by simp) (r.append (.cons ru .nil)) ?_,O,q⟩
 rw[aG,cX]
 omega
inductive HD(x:V)(vs:List V)(H:Hp)(Q:VK):Prop
 | mk:∀ l b xs zs,(x = .ref l)->(vs = [.ref b])->(H l=some (.lst xs))->(H b=some (.lst zs))->(xs.length+zs.length<=sizeLine)->(Q .cG (upd H l (.lst (xs ++ zs))))->HD x vs H Q
def Xj:V->List V->Hp->VK->Prop:=fun x vs H Q=>HD x vs H Q
theorem GO:MtM X "list.extend" Xj:=by
 intro ah s Y H x vs v us Q I rx rv h
 obtain⟨l,b,xs,zs,rfl,rfl,hH,hB,hz,q⟩:=h
 cases rx
 obtain⟨u,rfl,ru⟩:=rv.one
 cases ru
 obtain⟨z,its,n,r,hl,e⟩:=I.C2 hH
 obtain⟨z2,C5,n2,r2,hl2,e2⟩:=I.C2 hB
 have hsz:its.toArray.size+C5.toArray.size<=sizeLine:=by rw[aJ,aJ];omega
 have OT:¬ (!its.toArray.isEmpty && jR (its.toArray.size+C5.toArray.size))=true:=by
  rw[Js hsz,Bool.and_false]
  exact a5
 refine call_meets F.slot_list_extend ⟨_,e,O⟩ F.entry_list_extend (F.args_list_extend_2 _ _)
  (AutoSeq1.list_extend_list_list_0 l its.toArray n b C5.toArray n2 OT (by rw[aJ];omega) (by omega)) ⟨e,e2,?_⟩
 refine⟨.cG,_,I.T3 (its':=its ++ C5) hH e (by simp) (r.append r2) ?_,O,q⟩
 rw[aG]
 omega
inductive Sn(x:V)(vs:List V)(H:Hp)(Q:VK):Prop
 | mk:∀ l xs y,(x = .ref l)->(vs = [])->(H l=some (.lst xs))->(xs[xs.length - 1]? = some y)->(Q y (upd H l (.lst xs.dropLast)))->Sn x vs H Q
def agD:V->List V->Hp->VK->Prop:=fun x vs H Q=>Sn x vs H Q
theorem aac:MtM X "list.pop" agD:=by
 intro ah s Y H x vs v us Q I rx rv h
 obtain⟨l,xs,y,rfl,rfl,hH,hy,q⟩:=h
 cases rx
 have hus:=rv.zero
 subst hus
 obtain⟨z,its,n,r,hl,e⟩:=I.C2 hH
 obtain⟨u,hu,ru⟩:=r.get hy
 have hy':its.toArray[its.toArray.size - 1]? = some u:=by
  show its.toArray[its.length - 1]? = some u
  rw[<- fX, <- hl]
  exact hu
 refine call_meets F.slot_list_pop ⟨_,e,O⟩ F.entry_list_pop (F.args_list_pop_1 _) (MeetsSeq.list_pop_last l its.toArray n u hy' (by rw[aJ];omega)) ⟨e,?_⟩
 refine⟨y,_,I.T3 (its':=its.dropLast) hH e ?_ r.dropLast ?_,ru,q⟩
 ·show its.toArray.eraseIdxIfInBounds (its.toArray.size - 1)=its.dropLast.toArray
  rw[aJ,List.eraseIdxIfInBounds_toArray,O8]
 ·rw[List.length_dropLast]
  omega
inductive Su(x:V)(y:V)(H:Hp)(Q:VK):Prop
 | mk:∀ l b xs zs,(x = .ref l)->(y = .ref b)->(H l=some (.lst xs))->(H b=some (.lst zs))->(xs.length+zs.length<=sizeLine)->(∀ p,H p=none->Q (.ref p) (upd H p (.lst (xs ++ zs))))->Su x y H Q
def agI:R2:=fun x y H Q=>Su x y H Q
theorem ZU:lI X (binaryOp .Add) agI:=by
 intro ah s Y H x y v u Q I rx ry h
 obtain⟨l,b,xs,zs,rfl,rfl,hH,hB,hz,q⟩:=h
 cases rx
 cases ry
 obtain⟨z,its,n,r,hl,e⟩:=I.C2 hH
 obtain⟨z2,C5,n2,r2,hl2,e2⟩:=I.C2 hB
 refine PySem.P.add_list e e2 ?_ (by rw[aJ,aJ];omega)
 have ea:its.toArray ++ C5.toArray=(its ++ C5).toArray:=by simp
 rw[ea]
 exact⟨.ref _,_,I.OD (t':=s.toks) (r.append r2) (by rw[aG];omega),O,q _ I.fresh⟩
inductive Sm(x:V)(y:V)(H:Hp)(Q:VK):Prop
 | mk:∀ l k xs,(x = .ref l)->(y = .int k)->(H l=some (.lst xs))->(-(2 ^ 63)<=k)->(k < 2 ^ 63)->(xs.length * k.toNat<=sizeLine)->(∀ p,H p=none->Q (.ref p) (upd H p (.lst (bR k.toNat xs).flatten)))->Sm x y H Q
def agC:R2:=fun x y H Q=>Sm x y H Q
theorem XS{α : Type}(xs:List α)(k:Nat):(bR k xs).flatten.length=k * xs.length:=by
 induction k with
 | zero=>simp
 | succ k ih=>rw[gG,kM,aG,ih,vP,Nat.add_comm]
theorem ZP:lI X (binaryOp .Mult) agC:=by
 intro ah s Y H x y v u Q I rx ry h
 obtain⟨l,k,xs,rfl,rfl,hH,h1,h2,hz,q⟩:=h
 cases rx
 obtain⟨t,rfl⟩:=ry
 obtain⟨z,its,n,r,hl,e⟩:=I.C2 hH
 have eD:its.toArray.size * k.toNat<=sizeLine:=by rw[aJ, <- hl];exact hz
 have ahv:¬ its.toArray.size * k.toNat > (2 ^ 63 - 1) / 8:=by
  have:(sizeLine:Nat)<=(2 ^ 63 - 1) / 8:=by decide
  omega
 have OV:¬ (!Builtin.List.listFitsIndex k)=true:=by
  rw[fitsIndex_both h1 h2]
  exact a5
 have OT:¬ jR (its.toArray.size * k.toNat)=true:=by
  rw[Js eD]
  exact a5
 have Uo:E5 (fun x1 x2=>x1 ++ x2) #[] (bR (if its.toArray.isEmpty=true then 0 else k.toNat) its.toArray)=(bR k.toNat its).flatten.toArray:=by
  have f0:∀ m:Nat,E5 (fun x1 x2=>x1 ++ x2) #[] (bR m its.toArray)=(bR m its).flatten.toArray:=fun m=>by
   have:=foldl_rep its m []
   rw[qo]at this
   exact this
  rw[f0]
  cases its with
  | nil=>simp
  | cons a r'=>rw[if_neg (by simp)]
 refine wpAny_binaryOp_repeat_ref (T := "list") (U := "int") (by decide) ⟨_,e,O⟩ (fun s'=>typeIs_int s' k t) noFill_list_mul F.fills_int_mul F.slot_int_rmul repeat_list F.slot_int_index.lookup
  (call_meets F.slot_int_rmul (typeIs_int s k t) F.entry_int_rmul (F.args_int_rmul_2 _ _) (int___rmul___int_list k t l its.toArray n)
   ⟨e,O,⟨_,e,O⟩,call_meets F.slot_list_mul ⟨_,e,O⟩ F.entry_list_mul (F.args_list_mul_2 _ _) (AutoListH.list___mul___list_int_3 l its.toArray n k t OV ahv OT) ⟨e,?_⟩⟩)
 rw[Uo]
 exact⟨.ref _,_,I.OD (t':=s.toks) (r.rep k.toNat) (by rw[XS,Bb];exact hz),O,q _ I.fresh⟩
end
section
variable {prog:Program}{w:World}{A:Around}{E:Value->Shared->Prop}{s:Shared}
end
section
variable {X:Cx}
end
end L2
namespace Att
open PySem PySem.W PySem.Calls PyProof.Rows
theorem Ea{P:Params}{h:Heap}:∀ (ns:List Int) (vs:List Value),WellAll P h vs (ns.map wM)->IntsAre vs ns:=by
 intro ns
 induction ns with
 | nil =>
  intro vs w
  rw[fE]at w
  cases w
  exact .nil
 | cons n ns ih =>
  intro vs w
  rw[aS]at w
  cases w with
  | cons a b =>
   cases a
   exact .cons _ _ (ih _ b)
theorem Qg{l:OpenLaw}{n:Nat}(hn:l.most=some n){P:Params}{h:Heap}{args:List WData}{vals:List Value}(OR:l.row.toRowW.claim.pre args=true)(hwl:WellAll P h vals args) :
  ∃ a vs ns,vals = [aH a]∧args = [ET (ns.map wM)]∧h.get? a=some { cls := .type "list",data := .seq vs.toArray }∧IntsAre vs ns∧ns.length<=n:=by
 have hsh:WShape.hasAll [] args [.list .int]=true:=(pre_splitW OR).1
 have hc:l.pre.holds [] { args:=args }=true:=(pre_splitW OR).2
 obtain⟨d,r,rfl,h1,h2⟩:=hasAllW_cons hsh
 obtain rfl:=hasAllW_nil h2
 obtain⟨xs,rfl,h3⟩:=hasW_list h1
 obtain⟨ns,rfl⟩:=items_int h3
 have eD:ns.length<=n:=by
  unfold OpenLaw.pre at hc
  have h4:(WTm.not (.lt (.lit (.int (n:Int))) (.len (.arg 0)))).holds [] { args := [.list (ns.map .int)] }=true:=by
   have h4:=(holds_andW hc).1
   rw[hn]at h4
   exact h4
  have h5:=condW_of h4 (w_not (w_lt w_lit (w_len_list (w_arg rfl))))
  rw[az]at h5
  refine oP fun q =>?_
  have q':(n:Int) < ((ns.length:Nat):Int):=by omega
  first
   | (rw[decide_eq_true q']at h5;exact absurd h5 (by decide))
   | (simp at h5;omega)
 cases hwl with
 | cons w1 w2 =>
  cases w2
  cases w1 with
  | list ho iQ=>exact⟨_,_,ns,O,O,ho,Ea ns _ iQ,eD⟩
theorem Qo(l:OpenLaw)(args:List WData):l.row.toRowW.claim.post args (.bool true) args=true :=
 postW_of (r:=l.row.toRowW) (X:=(true == true))
  (show WShape.has [] (.bool true) .bool=true by first | rfl | decide | simp[WShape.has,WShape.arms,WShape.armsAll])
  (show (WTm.eq .res (.lit (.bool true))).value [] { args:=args,res:=some (.bool true),after:=args }=some (.bool (true == true)) from w_eq_bool (w_res rfl) w_lit) rfl
section
variable {prog:Program}{w:World}{A:Around}{E:Value->Shared->Prop}{s:Shared}{K:Frag}
end
end Att
namespace L2
open PySem PySem.Spec PyProof.Rows
theorem Gp:∀ {vs:List Value}{ns:List Int},IntsAre vs ns->Vals (ns.map V.int) vs
 | _,_,.nil => .nil
 | _,_,.cons n t h => .cons ⟨t,O⟩ (Gp h)
def pf(s:Stmt)(j:Nat):Stmt:=match s with
 | .ClassDef _ _ _ body _ _ _ _ _ _ _=>body.getD j (.Pass ⟨0,0,0,0⟩)
 | _ => .Pass ⟨0,0,0,0⟩
def i9(s:Stmt):Arguments:=match s with
 | .FunctionDef _ a _ _ _ _ _ _ _ _=>a
 | _=>{ posonlyargs := [],args := [],vararg:=none,kwonlyargs := [],kw_defaults := [],kwarg:=none,defaults := [] }
def fW(s:Stmt):List Stmt:=match s with
 | .FunctionDef _ _ b _ _ _ _ _ _ _=>b
 | _ => []
def aX(s:Stmt):Scope:=match s with
 | .FunctionDef _ _ _ _ _ _ sc _ _ _=>sc
 | _=>{ kind := .function,names := [],isGenerator:=false,isCoroutine:=false }
abbrev Fc:w5:=fun _ _ _ _ _ _=>False
abbrev E0:XK:=fun _ _ _=>False
theorem adB{X:Cx}:Passes Fc X E0:=fun _ _ _ _ _ _ _ h=>h.elim
structure Bi(K:ao)(x qual:Str)(st:Stmt)(f:Addr)(fd:FuncData):Prop where
 ex:∃ (oc:Value) (od:Option Addr) (kV doc pm:Value) (an:Option Addr) (cJ ct:Value) (zA:Array (Option Value)),
  fd=dW x qual (i9 st) (fW st) (aX st) .none kV doc pm an cJ ct∧K.lookup f=some ⟨oc,od,.func fd,zA⟩∧hG K cJ qual=true
 kp:du K (.ref f)=true
section
variable {P:Program}{w:World}{K:ao}{mg:Str->Option Value}{base:Heap}{CB CF CH CS CN CE CM tB:Addr}
theorem Bi.ok{x qual:Str}{st:Stmt}{f:Addr}{fd:FuncData}{N ps:List Str}{k:Nat}{sp:Sp}(F:Bi K x qual st f fd)(S:cy N ps (aX st))(len:∀ vs H Q E,sp vs H Q E->vs.length=ps.length)(nN:∀ (cJ:Value) (A:Around) (outer:List Env) (s:Shared) (H:Hp) (vs:List V) (Q:VK) (E:XK),fg k (A.deeper (envOfC qual (aX st) s.heap.objs.size f cJ))->sp vs H Q E ->
   ∃ t,qj (dR Fc P w K mg base N qual (aX st) f cJ A outer s H E).Jq (fW st) t∧t { nx:=fun _ H'=>Q .cG H',rt:=Q } (start N vs) H):lC P w K mg base Fc (k+1) f fd ps sp:=by
 obtain⟨oc,od,kV,doc,pm,an,cJ,ct,zA,rfl,lk,m9⟩:=F.ex
 refine O4 lk m9 S len fun A outer s H vs Q E hr zD =>?_
 obtain⟨t,h,q⟩:=nN cJ A outer s H vs Q E hr zD
 exact⟨t,h.Jq,q⟩
theorem Bi.binds{x qual:Str}{st:Stmt}{f:Addr}{fd:FuncData}{ps:List Str}(F:Bi K x qual st f fd)(h:∀ (kV doc pm:Value) (an:Option Addr) (cJ ct:Value) (us:List Value),us.length=ps.length->bindArgs (dW x qual (i9 st) (fW st) (aX st) .none kV doc pm an cJ ct) ⟨us, []⟩=pure (ps.zip us)):Binds K fd ps []:=by
 obtain⟨oc,od,kV,doc,pm,an,cJ,ct,zA,rfl,lk,m9⟩:=F.ex
 exact .all (h kV doc pm an cJ ct)
theorem vA{x qual:Str}{st:Stmt}{f:Addr}{oc:Value}{od an:Option Addr}{zA:Array (Option Value)}{kV doc pm cJ ct:Value}(l:K.lookup f=some ⟨oc,od,.func (dW x qual (i9 st) (fW st) (aX st) .none kV doc pm an cJ ct),zA⟩)(c:hG K cJ qual=true)(k:du K (.ref f)=true):Bi K x qual st f (dW x qual (i9 st) (fW st) (aX st) .none kV doc pm an cJ ct):=⟨⟨oc,od,kV,doc,pm,an,cJ,ct,zA,O,l,c⟩,k⟩
end
theorem BD{A:Around}{k:Nat}(hr:fg k A):A.units+1 < cLine:=gh (zR (by decide:1<=64) _) hr.units
theorem cU{n:Nat}(h:n<=1000):n < sizeLine:=gh h (by decide)
section
variable {X:Cx}
theorem pv(i:Nat){x:Str}{pos:Pos}(hN:X.N[i]? = some x:=by rfl)(hv:Nw X.env.scope x:=by first | exact aO rfl | exact vO (aO rfl) | exact vO (vO rfl))(hd:(x == ("__debug__" : Str))=false:=by decide)(m9:(x == ("__classdict__" : Str))=false:=by decide):PE X (.Name x pos) (YH i):=ZH hN hv hd m9
end
theorem iF{A B:Prop}(h:B):if false=true then A else B:=by
 rw[if_neg a5]
 exact h
theorem oM{A B:Prop}(h:A):if true=true then A else B:=by
 rw[if_pos rfl]
 exact h
def bJ(H H':Hp):Prop := ∀ b o,H b=some o->H' b=some o
theorem bJ.refl(H:Hp):bJ H H:=fun _ _ h=>h
theorem bJ.trans{H H1 H2:Hp}(a:bJ H H1)(b:bJ H1 H2):bJ H H2:=fun c o h=>b c o (a c o h)
theorem bJ.free{H H':Hp}(e:bJ H H'){l:Addr}(h:H' l=Option.none):H l=Option.none:=by
 cases q:H l with
 | none=>rfl
 | some o =>
  rw[e l o q]at h
  cases h
theorem bJ.seq{K:ao}{H H':Hp}{a:Addr}{xs:List V}(e:bJ H H')(h:a9 K H a xs):a9 K H' a xs:=by
 rcases h with(h | ⟨o,h⟩) | h
 ·exact .inl (.inl (e _ _ h))
 ·exact .inl (.inr ⟨o,e _ _ h⟩)
 ·exact .inr h
section
variable {X:Cx}{ah:List (Addr × Obj)}{Y:St}{H:Hp}{s:Shared} {h':Heap}
theorem Inv.DC{ch:List Addr}{a:Addr}{o:HO}{t':Nat}(I:Inv X ah Y H s)(k:∀ b u,b ∉ ch->s.heap.get? b=some u->h'.get? b=some u)(wB:∀ b∈ch,oh X ah H b)(hp:s.heap.objs.size<=a)(new:cY X.prog X.w (upd H a o) h' a o):Inv X ah Y (upd H a o) { s with heap:=h',toks:=t' }:=by
 have Q5:H a=none:=I.bh.fresh hp
 have old:∀ b ob,s.heap.get? b=some ob->b≠a:=fun b ob e z=>by subst z;exact absurd (bu (aP e) hp) (eU _)
 have tr:∀ b u,H b=some u->b≠a:=fun b u e z=>by rw[z,Q5]at e;cases e
 have trc:∀ b u,H b=some u->b ∉ ch:=fun b u e z=>by rw[(wB b z).1]at e;cases e
 refine I.step (g':=s.gens) (d':=s.drawn) (ch:=ch) (fun b hb =>?_) (fun b ob _ _ hc e _=>k b ob hc e) (fun b ob _ _ hc e _=>⟨ob.slots,k b ob hc e⟩) (fun b ob _ e n =>?_)
  (fun b ob hc e=>⟨ob,k b ob hc e⟩) (fun b xs e =>?_) (fun b ob u e =>?_) (fun b ps e=>⟨#[],?_⟩) (fun m hm =>?_) (fun b u e =>?_) I.bare
 ·obtain⟨_,f1,_,f3,f4,f5⟩:=wB b hb
  exact⟨f3,f1,f4,f5⟩
 ·rw[aE (old b ob e)];exact n
 ·rw[aE (tr b _ e)];exact e
 ·rw[aE (tr b _ e)];exact e
 ·rw[aE (tr b _ e),e];simp
 ·obtain⟨ob,es,ep,ho,r⟩:=hm
  exact⟨ob,es,ep,k _ ob (fun z=>(wB _ z).2.1 rfl) ho,r⟩
 ·by_cases hb:b=a
  ·subst hb
   rw[aF]at e;cases e
   exact new
  ·rw[aE hb]at e
   refine(I.bh b u e).sY (fun c v hc q=>k c v ?_ q) (fun c q=>by rw[aE (tr c _ q)];exact q) fun c xs q=>by rw[aE (tr c _ q)];exact q
   rcases hc with z | z
   ·rw[z];exact trc b u e
   ·exact trc c _ z
end
def Sz(K:ao)(a:Addr):It :=
 ⟨fun i H=>∃ xs x,a9 K H a xs∧xs[i]? = some x,
  fun i H x H'=>∃ p v,H p=none∧x = .ref p∧(∀ xs,a9 K H a xs->xs[i]? = some v)∧H'=upd H p (.tup [.int (i:Int),v]),
  fun i H=>∃ xs,a9 K H a xs∧xs.length=i⟩
theorem PN{P:Program}{w:World}{K:ao}{De:List Expr}{k:Nat}{tp:Pos}(a e it:Addr)(gw:e≠it) :
  Turn P w K (.Tuple De k tp) (Sz K a) [e,it] e (fun i h=>(∃ old,IsEnum h e it (i:Int) old)∧h.IsListIter it a i) where
 mem:=by simp
 obj:=fun i h st b hb=>by
  obtain⟨⟨old,he⟩,fV⟩:=st
  rcases aW.mp hb with rfl | hb
  ·exact⟨_,he,fun v z=>by
    have z':Cy _=w4 v:=z
    cases z'⟩
  ·have e:b=it:=by simpa using hb
   subst e
   obtain⟨o,e,c,d⟩:=fV
   exact⟨o,e,fun v z=>by rw[d]at z;cases z⟩
 keep:=fun i h h' st k=>by
  obtain⟨⟨old,he⟩,fV⟩:=st
  exact⟨⟨old,k e (by simp) _ he⟩,fV.at fun o q=>k it (by simp) o q⟩
 item:=by
  intro X hP hw hK hc i ah s Y H E I hf st hg
  subst hP hw hK
  obtain⟨⟨old,he⟩,fV⟩:=st
  obtain⟨xs,x,hq,hx⟩:=hg
  obtain⟨its,rv,p,hz⟩:=I.list hq
  obtain⟨u,hu,ru⟩:=rv.get hx
  have hai:a≠it:=fun z=>by
   obtain⟨o,n,e1,c1,_⟩:=p
   obtain⟨o',e2,c2,_⟩:=fV
   rw[z,e2]at e1;cases e1
   rw[c1]at c2
   exact absurd (g9 c2) (by decide)
  have hae:a≠e:=fun z=>by
   obtain⟨o,n,e1,c1,_⟩:=p
   rw[z,he]at e1;cases e1
   exact absurd (g9 c1) (by decide)
  have cW:i < its.toArray.size:=by
   rw[aJ]
   exact(ai.mp hu).1
  have Ce:e < s.heap.objs.size:=aP he
  have hil:it < s.heap.objs.size:=by obtain⟨o,q,_⟩:=fV;exact aP q
  refine wpAny_pyNext_enum_itemD (Draws.list (A:=X.A.in1) (I.ok.hd hc) it a hai its.toArray) he ⟨fV,p.isList⟩ cW gw (by
   intro z
   rcases aW.mp z with z | z
   ·exact gw z
   ·exact hae (ax.mp z).symm) fun y h1 tk hy ho sE hT hsz hk =>?_
  have hyu:y=u:=by
   have e1:its[i]? = some y:=by simpa using hy
   rw[hu]at e1
   exact(aD e1).symm
  subst hyu
  refine⟨_,O,wpAny_letOwnedTupleGo_enum ho fun h2 M3 jW =>?_⟩
  have kk:∀ b o,b ∉ [e,it]->s.heap.get? b=some o->h2.get? b=some o:=fun b o hb q=>by
   have b1:b≠e:=fun z=>hb (by simp[z])
   have b2:b≠it:=fun z=>hb (by simp[z])
   exact(jW.2 b b1).trans (hk b o b1 b2 q)
  have hTe:s.heap.objs.size≠e:=jK Ce
  refine⟨.ref s.heap.objs.size,upd H s.heap.objs.size (.tup [.int (i:Int),x]),?_,O,⟨_,x,I.bh.fresh (ar _),O,fun ys hy=>by rw[I.JC hy hq];exact hx,O⟩,
   ⟨⟨_,by simpa using M3⟩,sE.1.at fun o q=>(jW.2 it (cm gw)).trans q⟩,fun b hb =>?_⟩
  ·refine I.DC (ch := [e,it]) (t':=tk+1) kk hf (ar _) ⟨by show 2<=sizeLine;decide, [.int (i:Int) tk,y],.cons ⟨_,O⟩ (.cons ru .nil),?_⟩
   exact⟨_,(jW.2 _ hTe).trans hT,O,_,O,O⟩
  ·have ug:=hf b hb
   have:b≠s.heap.objs.size:=by
    rcases aW.mp hb with rfl | hb
    ·exact br Ce
    ·rw[ax.mp hb];exact br hil
   rw[aE this]
   exact ug.1
 done:=by
   intro X hP hw hK hc i ah s Y H E I hf st hg
   subst hP hw hK
   obtain⟨⟨old,he⟩,fV⟩:=st
   obtain⟨xs,hq,hx⟩:=hg
   obtain⟨its,rv,p,hz⟩:=I.list hq
   have hai:a≠it:=fun z=>by
    obtain⟨o,n,e1,c1,_⟩:=p
    obtain⟨o',e2,c2,_⟩:=fV
    rw[z,e2]at e1;cases e1
    rw[c1]at c2
    exact absurd (g9 c2) (by decide)
   have hl:=rv.length
   have hi:i=its.toArray.size:=by rw[aJ];omega
   subst hi
   obtain⟨f0,f1,f2,f3,f4,f5⟩:=hf it (by simp)
   exact wpAny_pyNext_enum_endD (Draws.list (A:=X.A.in1) (I.ok.hd hc) it a hai its.toArray) he ⟨fV,p.isList⟩ fun h1 eb=>⟨O,I.turned (t':=s.toks) (fun b o hb q=>eb b o hb q) f0 f1 f3 f4 f5⟩
 self:=fun _ _ _ _ _ st h=>by
  obtain⟨⟨old,he⟩,_⟩:=st
  exact wpAny_pyIter_enum he h
inductive NV(K:ao)(R:It->Hp->Prop)(vs:List V)(H1:Hp):Prop
 | mk:∀ a,(vs = [.ref a])->((∃ xs,a9 K H1 a xs))->(R (Sz K a) H1)->NV K R vs H1
def adR(K:ao)(ta:TA):TI:=fun Y H R=>ta Y H fun vs H1=>NV K R vs H1
theorem RW:bootBuiltins "enumerate" = some (.type "enumerate"):=by decide +kernel
section
variable {X:Cx}
theorem Bx{l:Expr}{ta:TA}{De:List Expr}{k:Nat}{tp p pos:Pos}(hg:Gl X "enumerate")(hm:X.mg "enumerate" = none)(ha:PA X [l] ta)(hs:starEach [l] X.env = [(false,eval l X.env)]:=by rfl) :
  PI X (.Tuple De k tp) (.Call (.Name "enumerate" p) [l] [] pos) (adR X.K ta):=by
 intro ah s Y H R I h
 refine Call_ (pS I hg hm RW (gB (bB (ha pos ah s Y H _ I h) fun us s1 ⟨vs,H1,I1,r1,q1⟩ =>?_) hs rfl))
 obtain⟨a,e,⟨xs,hq⟩,q⟩:=q1
 subst e
 obtain⟨u,rfl,ru⟩:=vals1 r1
 cases ru
 obtain⟨its,rv,pl,hz⟩:=I1.list hq
 refine call_enumerate_list pl.isList fun h1 he fV hsz hk =>?_
 have I2:Inv X ah Y H1 { s1 with heap:=h1 }:=I1.kept (t':=s1.toks) hk
 have gw:s1.heap.objs.size+1≠s1.heap.objs.size:=Nat.succ_ne_self _
 refine wpAny_pyIter_enum (s := { s1 with heap:=h1 }) he ⟨_, [s1.heap.objs.size+1,s1.heap.objs.size],_,_,H1,O,I2,PN a _ _ gw,⟨⟨_,he⟩,fV⟩,fun b hb =>?_,q⟩
 rcases aW.mp hb with rfl | hb
 ·exact I1.yT (rV _) (I1.bh.fresh (rV _))
 ·rw[ax.mp hb]
  exact I1.yT (ar _) (I1.bh.fresh (ar _))
end
theorem yU{K:ao}{a:Addr}{xs:List V}{g:TG}{tb:TS}{D:Ends}{Y:St}{H:Hp}(Pv:Nat->St->Hp->Prop)(h0:Pv 0 Y H)(hl:∀ i Y H,i<=xs.length->Pv i Y H->a9 K H a xs)(hs:∀ i x p Y H,xs[i]? = some x->Pv i Y H->H p=none->g (.ref p) Y (upd H p (.tup [.int (i:Int),x])) fun j6 H2=>tb { D with nx:=Pv (i+1),ct:=Pv (i+1),bk:=D.nx } j6 H2)(hd:∀ Y H,Pv xs.length Y H->D.nx Y H) :
  ∃ W:Nat->Nat->St->Hp->Prop,(∃ m,W 0 m Y H)∧∀ i m Y H,W i m Y H ->
   ((Sz K a).stop i H∧D.nx Y H)∨((Sz K a).go i H∧∃ N:St->Hp->Prop,(∀ bw H',N bw H'->∃ m',m' < m∧W (i+1) m' bw H')∧∀ x H',(Sz K a).zY i H x H'->g x Y H' fun j6 H2=>tb { D with nx:=N,ct:=N,bk:=D.nx } j6 H2):=by
 refine⟨fun i m Y H=>m=xs.length - i∧i<=xs.length∧Pv i Y H,⟨xs.length,by simp,bx _,h0⟩,?_⟩
 rintro i m Y H ⟨rfl,hi,p⟩
 have q:=hl i Y H hi p
 by_cases cW:i < xs.length
 ·refine .inr ⟨⟨xs,xs[i],q,by simp[cW]⟩,Pv (i+1),fun bw H' p'=>⟨xs.length - (i+1),by omega,O,cW,p'⟩,fun x H' y =>?_⟩
  obtain⟨pa,v,qE,rfl,hv,rfl⟩:=y
  exact hs i v pa Y H (hv xs q) p qE
 ·have e:i=xs.length:=by omega
  subst e
  exact .inl ⟨⟨xs,q,O⟩,hd Y H p⟩
section
variable {X:Cx}
inductive Sk(x:V)(lo:Option Int)(hi:Option Int)(H:Hp)(Q:VK):Prop
 | mk:∀ z,(x = .str z)->(z.length<=sizeLine)->(Q (.str (gg z lo hi)) H)->Sk x lo hi H Q
def agz:V->Option Int->Option Int->Hp->VK->Prop:=fun x lo hi H Q=>Sk x lo hi H Q
theorem IL:WN X agz:=by
 intro ah s Y H x v vl vu lo hi sl Q I rx hs pl pu h
 obtain⟨z,rfl,hz,q⟩:=h
 obtain⟨t,rfl⟩:=rx
 refine⟨"str",_,F.slot_str_getitem.lookup,typeIs_str _ _ _,?_⟩
 obtain⟨o,ho,hc,hd⟩:=hs
 have fin:∀ t' k,EP X ah Y Q (.str (gg z lo hi) t') { s with toks:=k }:=fun t' k=>⟨.str _,H,I.tok _,⟨_,O⟩,q⟩
 cases pl with
 | none =>
  cases pu with
  | none=>exact wpAny_getItem_str_slice (l:=none) (u:=none) (st:=none) ⟨o,ho,hc,hd⟩ rfl (post_val_or_str ⟨bf (vG z _ _) hz,fin⟩)
  | int j uj=>exact wpAny_getItem_str_slice (l:=none) (u:=some (j,uj)) (st:=none) ⟨o,ho,hc,hd⟩ rfl (post_val_or_str ⟨bf (vG z _ _) hz,fin⟩)
 | int i ui =>
  cases pu with
  | none=>exact wpAny_getItem_str_slice (l:=some (i,ui)) (u:=none) (st:=none) ⟨o,ho,hc,hd⟩ rfl (post_val_or_str ⟨bf (vG z _ _) hz,fin⟩)
  | int j uj=>exact wpAny_getItem_str_slice (l:=some (i,ui)) (u:=some (j,uj)) (st:=none) ⟨o,ho,hc,hd⟩ rfl (post_val_or_str ⟨bf (vG z _ _) hz,fin⟩)
inductive Ct(kK:ao)(xs:List V)(H:Hp)(Q:VK):Prop
 | mk:∀ (p:Addr) (ns:List Int),(xs = [.ref p])->(a9 kK H p (ns.map V.int))->(Q (.int ns.sum) H)->Ct kK xs H Q
theorem RO(hc:X.calm=true):kr X (.builtin "sum") (fun xs H Q=>Ct X.K xs H Q):=by
 intro ah s Y H xs us Q I r h
 obtain⟨p,ns,rfl,hq,q⟩:=h
 obtain⟨u,rfl,ru⟩:=vals1 r
 cases ru
 obtain⟨its,rv,pl,hz⟩:=I.list hq
 have hi:IntsAre its ns:=intsAre_of rv
 obtain⟨ys,hx⟩:=hi.allInts.items
 have MY:s.heap.IsList p (intItems ys):=hx ▸ pl.isList
 refine sum_intListG (I.ok.hd hc) MY fun h' tk t' hk =>?_
 have e1:ns=ys.toList.map (·.1):=by
  rw[<- nums_intItems, <- hx]
  exact(show numsOf its.toArray.toList=ns from hi.numsOf).symm
 have e2:preSum (numAt ys) ys.size=ns.sum:=by
  rw[preSum_eq,xv (by simp),e1]
 exact⟨.int ns.sum,H,I.kept hk,⟨t',by rw[e2]⟩,q⟩
inductive E7(kK:ao)(xs:List V)(H:Hp)(Q:VK):Prop
 | mk:∀ x T t b,(xs = [x,.ty T])->(rp kK H x t)->(bS kK t (.type T)=some b)->(Q (.bl b) H)->E7 kK xs H Q
theorem UQ:kr X (.builtin "isinstance") (fun xs H Q=>E7 X.K xs H Q):=by
 intro ah s Y H xs us Q I r h
 obtain⟨x,T,t,b,rfl,ty,e,q⟩:=h
 obtain⟨u,w',rfl,rx,ry⟩:=vals2 r
 cases ry
 exact QT I rx ty e fun tk=>⟨.bl b,H,I.tok _,O,q⟩
end
def i3(cells:List (Str × Addr)):List (Str × NameKind)->List (Str × Addr)->List (Str × Addr)
 | [],acc=>acc
 | (n,k) :: r,acc=>if k == .free then (match cells.lookup n with | some c=>i3 cells r ((n,c) :: acc) | none=>i3 cells r acc) else i3 cells r acc
theorem p7{cells:List (Str × Addr)}:∀ {names:List (Str × NameKind)}{acc:List (Str × Addr)}{x:Str}{c:Addr},(∀ x c,acc.lookup x=some c->cells.lookup x=some c)->(i3 cells names acc).lookup x=some c->cells.lookup x=some c
 | [],_,x,c,ha,h=>ha x c h
 | (n,k) :: r,acc,x,c,ha,h=>by
  unfold i3 at h
  by_cases hk:(k == fC)=true
  ·rw[if_pos hk]at h
   cases e:cells.lookup n with
   | none =>
    rw[e]at h
    exact p7 ha h
   | some d =>
    rw[e]at h
    refine p7 (fun y z hy =>?_) h
    rw[gW]at hy
    cases q:y == n with
    | true =>
     rw[q]at hy
     have:y=n:=by simpa using q
     rw[this,e];exact hy
    | false =>
     rw[q]at hy
     exact ha y z hy
  ·rw[if_neg hk]at h
   exact p7 ha h
theorem uD{cells:List (Str × Addr)}:∀ {names:List (Str × NameKind)}{acc:List (Str × Addr)}{x:Str},(acc.lookup x).isSome=true->((i3 cells names acc).lookup x).isSome=true
 | [],_,_,h=>h
 | (n,k) :: r,acc,x,h=>by
  unfold i3
  by_cases hk:(k == fC)=true
  ·rw[if_pos hk]
   cases e:cells.lookup n with
   | none=>exact uD h
   | some d =>
    refine uD ?_
    rw[gW]
    cases q:x == n with
    | true=>rfl
    | false=>exact h
  ·rw[if_neg hk];exact uD h
theorem pZ{cells:List (Str × Addr)}:∀ {names:List (Str × NameKind)}{acc:List (Str × Addr)}{x:Str},(x,fC)∈names->(cells.lookup x).isSome=true->((i3 cells names acc).lookup x).isSome=true
 | [],_,_,h,_=>nomatch h
 | (n,k) :: r,acc,x,h,hc=>by
  unfold i3
  rcases aW.mp h with e | h
  ·cases e
   rw[if_pos (show (fC == fC)=true from rfl)]
   cases e:cells.lookup n with
   | none=>rw[e]at hc;cases hc
   | some d =>
    refine uD ?_
    rw[gW]
    simp
  ·by_cases hk:(k == fC)=true
   ·rw[if_pos hk]
    cases e:cells.lookup n with
    | none=>exact pZ h hc
    | some d=>exact pZ h hc
   ·rw[if_neg hk];exact pZ h hc
theorem kc{cells:List (Str × Addr)}{names:List (Str × NameKind)}{x:Str}{c:Addr}(h:(i3 cells names []).lookup x=some c):cells.lookup x=some c :=
 p7 (fun _ _ z=>by simp at z) h
theorem yV{env:Env}:∀ (names:List (Str × NameKind)) (acc:List (Str × Addr)),(∀ y∈names,y.2 = .free->∃ c,env.cells.lookup y.1=some c) ->
  (forIn names acc fun x r=>match x with
   | (name,kind)=>if (kind == fC)=true then (do let c <- cellOf env name;pure (qv ((name,c) :: r))) else pure (qv r):Sem (List (Str × Addr)))=pure (i3 env.cells names acc)
 | [],acc,_=>rfl
 | (n,k) :: r,acc,h=>by
  have hr:∀ y∈r,y.2 = .free->∃ c,env.cells.lookup y.1=some c:=fun y hy=>h y (aR _ hy)
  rw[wW]
  by_cases hk:(k == fC)=true
  ·have ek:k = .free:=by simpa using hk
   obtain⟨c,hc⟩:=h (n,k) bb ek
   have e1:cellOf env n=pure c:=by
    have uf:env.cells.lookup n=some c:=hc
    unfold cellOf
    rw[uf]
   unfold i3
   rw[if_pos hk]
   have uf:env.cells.lookup n=some c:=hc
   rw[uf]
   simp only[hk,if_true,e1]
   exact yV r ((n,c) :: acc) hr
  ·unfold i3
   rw[if_neg hk]
   simp only[hk]
   exact yV r acc hr
theorem A6{scope:Scope}{env:Env}(h:∀ y∈scope.names,y.2 = .free->∃ c,env.cells.lookup y.1=some c):closureFor scope env=pure (i3 env.cells scope.names []):=by
 have e:=yV scope.names [] h
 unfold closureFor
 show (Bind.bind (forIn scope.names [] fun x r=>match x with
   | (name,kind)=>if (kind == fC)=true then (do let c <- cellOf env name;pure (qv ((name,c) :: r))) else pure (qv r):Sem (List (Str × Addr))) fun r=>pure r)=_
 rw[e]
 rfl
theorem Ar{scope:Scope}{env:Env}{x:Str}(hc:∀ y∈scope.names,y.2 ≠ .cell)(h:(relabel scope env).names.lookup x=some .cell∨(relabel scope env).names.lookup x=some .free):(x,fC)∈scope.names:=by
 unfold relabel at h
 simp only at h
 generalize scope.names=names at h hc
 induction names with
 | nil=>rcases h with h | h <;> cases h
 | cons y r ih =>
  obtain⟨n,k⟩:=y
  have hr:∀ y∈r,y.2≠NameKind.cell:=fun y hy=>hc y (aR _ hy)
  rw[aS]at h
  by_cases hk:(k == fC && env.scope.kind == .function && env.kindOf n == some .cell)=true
  ·simp only[hk,if_true,gW]at h
   cases q:x == n with
   | true =>
    have e:x=n:=by simpa using q
    have ek:k = .free:=by
     have:=(gu.mp (gu.mp hk).1).1
     simpa using this
    rw[e,ek];exact bb
   | false =>
    rw[q]at h
    exact aR _ (ih h hr)
  ·simp only[hk,dP,if_false,gW]at h
   cases q:x == n with
   | true =>
    rw[q]at h
    have e:x=n:=by simpa using q
    have hk0:k ≠ .cell:=hc (n,k) bb
    rcases h with h | h
    ·exact absurd (aD h) hk0
    ·rw[e,aD h];exact bb
   | false =>
    rw[q]at h
    exact aR _ (ih h hr)
theorem wk{scope:Scope}{env:Env}{x:Str}(h:scope.names.lookup x=some .free):(relabel scope env).names.lookup x=some .cell∨(relabel scope env).names.lookup x=some .free:=by
 unfold relabel
 simp only
 generalize scope.names=names at h
 induction names with
 | nil=>cases h
 | cons y r ih =>
  obtain⟨n,k⟩:=y
  rw[aS]
  rw[gW]at h
  by_cases hk:(k == fC && env.scope.kind == .function && env.kindOf n == some .cell)=true
  ·simp only[hk,if_true,gW]
   cases q:x == n with
   | true=>exact .inl rfl
   | false=>rw[q]at h;exact ih h
  ·simp only[hk,dP,if_false,gW]
   cases q:x == n with
   | true=>rw[q]at h;exact .inr h
   | false=>rw[q]at h;exact ih h
def dS(X:Cx)(scope:Scope)(N:List Str)(fp:List Addr)(s:Shared)(H:Hp):Cx :=
 { X with N:=N,kO := s,Bh := H,env:=compEnvC scope (i3 X.env.cells scope.names []) s.heap.objs.size X.env,outer:=X.stack,ex:=fp,fn:=fun _=>false,pn := [],xe:=fun _ _=>False }
structure kq(X:Cx)(scope:Scope)(own:List Str)(caps:List (Str × Nat)):Prop where
 kind:scope.kind = .function
 DX:∀ y∈scope.names,y.2 ≠ .cell
 locs:∀ y∈scope.names,y.2 = .local->scope.names.lookup y.1=some .local
 frees:∀ y∈scope.names,y.2 = .free->X.env.kindOf y.1=some .cell
 own:∀ x∈own,scope.names.lookup x=some .local
 caps:∀ p∈caps,X.N[p.2]? = some p.1∧X.env.kindOf p.1=some .cell∧scope.names.lookup p.1=some .free
def jY(Y:St)(caps:List (Str × Nat)):St:=caps.map fun p=>(Y[p.2]?).join
section
variable {X:Cx}{scope:Scope}{own:List Str}{caps:List (Str × Nat)}{ah:List (Addr × Obj)}{Y:St}{H:Hp}{s:Shared}{fp:List Addr}
theorem X9(S:kq X scope own caps)(I:Inv X ah Y H s)(hf:∀ b∈fp,oh X ah H b)(hl:∀ b∈fp,b < s.heap.objs.size):(dS X scope (own ++ caps.map (·.1)) fp s H).Ok where
 mod:=I.ok.mod
 kind:=S.kind
 glob:=I.ok.glob
 blt:=I.ok.blt
 above:=ar _
 inj:=fun x y c h1 h2=>I.ok.inj x y c (kc h1) (kc h2)
 has:=fun x h=>by
  have hm:=Ar S.DX h
  obtain⟨c,hc⟩:=I.ok.has x (.inl (S.frees _ hm rfl))
  exact jJ.mp (pZ hm (by rw[hc];rfl))
 Hr:=fun x c h _=>nomatch h
 hd:=I.ok.hd
 frames:=I.ok.frames
 IC := .inl rfl
 Ru:=fun b hb=>⟨br (hl b hb),fun x c h=>(hf b hb).2.2.2.2.1 x c (kc h)⟩
 bs:=I.bs
 zJ:=bf I.ok.zJ I.sz
 AD:=fun b o e hb=>by
  rcases(hf b hb).2.2.2.1 with z | z
  ·exact I.ok.AD b o e z
  ·exact absurd (bu (bu (aP e) I.ok.zJ) z) (eU _)
 Dd:=fun b hb z=>by
  rcases aW.mp (I.Af b z) with e | e
  ·exact(hf b hb).2.1 e
  ·exact(hf b hb).2.2.1 e
 oN:=I.stack
 Cn:=I.Fm
theorem EG(S:kq X scope own caps)(I:Inv X ah Y H s)(hf:∀ b∈fp,oh X ah H b)(hl:∀ b∈fp,b < s.heap.objs.size){h1:Heap}{m:Str->Option Value}{t:Nat}(hn:h1.Ns s.heap.objs.size m)(hk:∀ b o,s.heap.get? b=some o->h1.get? b=some o):Inv (dS X scope (own ++ caps.map (·.1)) fp s H) [] (bR own.length none ++ jY Y caps) H { s with heap:=h1,toks:=t }:=by
 refine⟨X9 S I hf hl,O,I.bare,Un.kept hk,⟨m,hn,fun i y v e1 e2 e3 =>?_⟩,fun x c e =>?_,I.bh.fresh (ar _),fun x c e=>I.nO x c (kc e),(fun p hp=>by cases hp),I.bh.kept hk,?_⟩
 ·have hi:own.length<=i:=by
   by_cases hi:i < own.length
   ·rw[eL (by simpa using hi),wc,if_pos hi]at e2
    cases e2
   ·omega
  rw[mj (by simpa using hi),yh]at e2
  unfold jY at e2
  rw[aK]at e2
  have e1':(own ++ caps.map (·.1))[i]? = some y:=e1
  rw[mj hi,aK]at e1'
  cases q:caps[i - own.length]? with
  | none=>rw[q]at e2;cases e2
  | some p =>
   rw[q]at e1' e2
   have ey:p.1=y:=aD e1'
   have ev:(Y[p.2]?).join=some v:=aD e2
   have eσ : Y[p.2]? = some (some v):=by
    cases z : Y[p.2]? with
    | none=>rw[z]at ev;cases ev
    | some w'=>rw[z]at ev;rw[show w'=some v from ev]
   obtain⟨hN,El,BF⟩:=S.caps p (ak q)
   rw[ey]at hN El BF
   obtain⟨mX,hnX,hlX⟩:=I.loc
   obtain⟨u,ru,lk⟩:=hlX p.2 y v hN eσ (.inr (.inl El))
   refine⟨u,ru,?_⟩
   rcases lk with⟨k1,_⟩ | ⟨_,c,hc,iH⟩
   ·rw[El]at k1;cases k1
   ·have hm:=Ar S.DX (wk (env:=X.env) BF)
    obtain⟨c',uf⟩:=jJ.mp (pZ (acc := []) hm (by rw[hc];rfl))
    have:=kc uf
    rw[hc]at this;cases this
    obtain⟨o,ho,hd⟩:=iH
    exact .inr ⟨wk (env:=X.env) BF,c,uf,⟨o,hk _ _ ho,hd⟩⟩
 ·obtain⟨v,o,ho,hd⟩:=I.cell x c (kc e)
  exact⟨v,o,hk _ _ ho,hd⟩
 ·show _=(own ++ caps.map (·.1)).length
  simp[jY]
theorem Hm{N:List Str}{G:St}{H':Hp}{s':Shared}(I:Inv X ah Y H s)(J:Inv (dS X scope N fp s H) [] G H' s')(hf:∀ b∈fp,oh X ah H b):Inv X ah Y H' s' :=
 I.WD (ch:=fp) J.os J.base J.bh J.bare fun b hb=>by
  obtain⟨_,f1,_,f3,f4,f5⟩:=hf b hb
  exact⟨f3,f1,f4,f5⟩
theorem Yb{prog:Program}{w:World}{A:Around}{R:Result->Shared->Prop}{jG mS iter:Expr}{pos:Pos}{it acc:Value}{env:Env}(Iv:Nat->Shared->Prop)(turn:∀ n s,Iv n s->wpAny (model prog w) A (pyNext it) (fun r eJ => match r with
   | none=>R (.ok .next) eJ
   | some v=>wpAny (model prog w) A (letOwnedTupleGo mS it v) (fun _ ic => wpAny (model prog w) A (assign mS env v) (fun _ my => wpAny (model prog w) A (eval jG env) (fun x IB =>
       wpAny (model prog w) A (call (.builtin "list.append") [acc,x]) (fun _ IA => ∃ m,m < n∧Iv m IA) (fun _ _=>False) IB) (fun _ _=>False) my) (fun _ _=>False) ic) (fun _ _=>False) eJ) (fun _ _=>False) s)(n:Nat)(h:Iv n s):codeAny (model prog w) A (.compLoop (.ListComp jG [⟨mS,iter, [],0⟩] scope pos) 0 it acc env) R s:=by
 refine codeAny_loop rfl Iv (fun n s hI =>?_) n h
 show wpAny _ A ((compTurn (.ListComp jG [⟨mS,iter, [],0⟩] scope pos) 0 it acc env).onRaise (fun x=>do noteFrame x env;theTreesLotGoes x)) _ _ s
 refine wpAny_noted ?_
 rw[compTurn_list]
 refine wpAny_bind (wpAny_standAt (wpAny_bind (wpAny_mono (turn n s hI) (fun r eJ iG =>?_) fun _ _ z=>z.elim)))
 cases r with
 | none=>exact wpAny_pure iG
 | some v =>
  refine wpAny_bind (wpAny_mono iG (fun _ ic tu => wpAny_bind (wpAny_mono tu (fun _ my JP => wpAny_bind (wpAny_tests_nil ?_)) fun _ _ z=>z.elim)) fun _ _ z=>z.elim)
  exact wpAny_bind (wpAny_bind (wpAny_mono JP (fun x IB ON => wpAny_bind (wpAny_mono ON (fun _ IA C6 => wpAny_pure (wpAny_pure ⟨O,C6⟩)) fun _ _ z=>z.elim)) fun _ _ z=>z.elim))
def zr(J:It)(g:TG)(te:TE)(Yo:St)(H1:Hp)(Q:VK):Prop := ∀ D,H1 D=none->∃ W:Nat->Nat->St->List V->Hp->Prop,
 (∃ m,W 0 m Yo [] (upd H1 D (.lst []))) ∧
 ∀ i m G ys H,W i m G ys H->H D=some (.lst ys)∧((J.stop i H∧Q (.ref D) H)∨(J.go i H∧ys.length < sizeLine∧∀ x H',J.zY i H x H'->g x G H' fun rZ H2=>te rZ H2 fun y H3 =>
  H3 D=some (.lst ys)∧∃ m',m' < m∧W (i+1) m' rZ (ys ++ [y]) (upd H3 D (.lst (ys ++ [y])))))
def Oc(wi:TI)(g:TG)(te:TE)(k:Nat)(caps:List (Str × Nat)):TE:=fun Y H Q=>wi Y H fun J H1=>zr J g te (bR k none ++ jY Y caps) H1 Q
theorem Hl{tg jG iter:Expr}{wi:TI}{g:TG}{te:TE}{pos p2:Pos}{use:Option (Value->Sem Unit)}{Q:VK}{Q':Value->Shared->Prop}(S:kq X scope own caps)(hi:PI X tg iter wi)(hc:X.calm=true)(hg:∀ fp s H,PG (dS X scope (own ++ caps.map (·.1)) fp s H) tg g)(he:∀ fp s H,PE (dS X scope (own ++ caps.map (·.1)) fp s H) jG te)(I:Inv X ah Y H s)(h:Oc wi g te own.length caps Y H Q)(fin:∀ D C H5 s5,Inv X ah Y H5 s5->Q (.ref D) H5->(∃ m,s5.heap.Ns C m)->H5 C=none->C≠X.env.locals->X.kO.heap.objs.size<=C->(∀ x c,X.env.cells.lookup x=some c->c≠C)->(∀ p∈X.pn ++ ah,p.1≠C) ->
   compPost (model X.prog X.w) X.A X.xe use Q' (.ref D) C (.ok .next) s5)(hs:∀ x,foldedSetIterable iter X.env x=pure x:=by intro _;rfl) :
  wpAny (model X.prog X.w) X.A (comprehension (.ListComp jG [⟨tg,iter, [],0⟩] scope pos) scope X.env p2 (newList []) false (eval iter X.env) use) Q' X.xe s:=by
 have OY:closureFor scope X.env=pure (i3 X.env.cells scope.names []):=A6 fun y hy hk=>I.ok.has y.1 (.inl (S.frees y hy hk))
 refine wpAny_comprehension_free (g:=⟨tg,iter, [],0⟩) (gs := []) rfl hs OY S.kind S.locs (bB (hi ah s Y H _ I h) fun v s1 h1=>bB h1 fun VO s2 h2 =>?_)
 obtain⟨it,fp,tn,J,H2,e,I2,T,Ah,f2,R⟩:=h2
 subst e
 refine wpAny_newObj_type (wpAny_newFunctionEnv S.DX (by intro y hy;simp at hy) (fun iG Ke JW =>?_) S.kind)
 have fr2:H2 s2.heap.objs.size=none:=I2.bh.fresh (ar _)
 obtain⟨W,⟨m0,w0⟩,turn⟩:=R s2.heap.objs.size fr2
 have I3:Inv X ah Y (upd H2 s2.heap.objs.size (.lst [])) { s2 with heap:=s2.heap.push { cls := .type "list",dict:=none,data := .seq ([]:List Value).toArray } }:=I2.OD (its := []) (t':=s2.toks) .nil (bx _)
 have AF:∀ b∈fp,b < s2.heap.objs.size:=fun b hb=>by
  obtain⟨o,ho,_⟩:=T.obj _ _ Ah b hb
  exact aP ho
 have f3:∀ b∈fp,oh X ah (upd H2 s2.heap.objs.size (.lst [])) b:=fun b hb=>⟨by rw[aE (br (AF b hb))];exact(f2 b hb).1,(f2 b hb).2⟩
 generalize xR:({ s2 with heap:=s2.heap.push { cls := .type "list",dict:=none,data := .seq ([]:List Value).toArray } }:Shared)=s3 at I3
 have hz3:s3.heap.objs.size=s2.heap.objs.size+1:=by rw[<- xR];exact fI _ _
 have Ub:∀ b o,s2.heap.get? b=some o->s3.heap.get? b=some o:=fun b o e=>by rw[<- xR];exact ay _ e
 have QF:∀ b∈fp,b < s3.heap.objs.size:=fun b hb=>by rw[hz3];exact kJ (AF b hb)
 have F0:iG.Ns s3.heap.objs.size (fun x=>([]:List (Str × Value)).reverse.lookup x):=by rw[<- xR];exact Ke
 have JI:∀ b o,s3.heap.get? b=some o->iG.get? b=some o:=fun b o e=>by
  have hb:b≠s3.heap.objs.size:=br (aP e)
  rw[<- xR]at e hb
  exact JW.extBut b o hb (ay _ e)
 have J1:=EG S I3 f3 QF (t:=s2.toks+([]:List (Str × Value)).length) F0 JI
 have P4:tn 0 iG := T.keep _ _ _ Ah fun b hb o e=>JI b o (Ub b o e)
 -- oY loop
 have loop:∀ my : Shared,my = { s3 with heap:=iG,toks:=s2.toks+([]:List (Str × Value)).length } ->
   codeAny (model X.prog X.w) X.A (.compLoop (.ListComp jG [⟨tg,iter, [],0⟩] scope pos) 0 (.ref it) (.ref s2.heap.objs.size) (dS X scope (own ++ caps.map (·.1)) fp s3 (upd H2 s2.heap.objs.size (.lst []))).env)
    (compPost (model X.prog X.w) X.A X.xe use Q' (.ref s2.heap.objs.size) s3.heap.objs.size) my := by
  rintro my rfl
  refine Yb (fun n s'=>∃ i G ys H',Inv (dS X scope (own ++ caps.map (·.1)) fp s3 (upd H2 s2.heap.objs.size (.lst []))) [] G H' s'∧tn i s'.heap∧(∀ b∈fp,H' b=none)∧W i n G ys H') ?_ m0
   ⟨0,_, [],_,J1,P4,fun b hb=>(f3 b hb).1,w0⟩
  rintro n s' ⟨i, G,ys,H',J',mW,Rq,w'⟩
  have fY:∀ {gQ:Hp},(∀ b∈fp,gQ b=none)->∀ b∈fp,oh (dS X scope (own ++ caps.map (·.1)) fp s3 (upd H2 s2.heap.objs.size (.lst []))) [] gQ b:=fun hn b hb =>
   ⟨hn b hb,br (QF b hb),fun z=>by
     rcases aW.mp (I3.Af b z) with e | e
     ·exact(f3 b hb).2.1 e
     ·exact(f3 b hb).2.2.1 e,.inl hb,fun x c e=>(f3 b hb).2.2.2.2.1 x c (kc e),(fun p hp=>by cases hp)⟩
  obtain⟨hD,tt⟩:=turn i n G ys H' w'
  rcases tt with⟨stop,qn⟩ | ⟨go,eD,step⟩
  ·refine bB (T.done (dS X scope (own ++ caps.map (·.1)) fp s3 (upd H2 s2.heap.objs.size (.lst []))) rfl rfl rfl hc i [] s' G H' (fun _ _=>False) J' (fY Rq) mW stop) fun r s4 ⟨hr,J4⟩ =>?_
   subst hr
   obtain⟨m4,hn4,_⟩:=J4.loc
   have I5:=Hm I3 J4 f3
   refine fin _ _ _ s4 I5 qn ⟨m4,hn4⟩ J4.free ?_ ?_ (fun x c e z =>?_) fun p hp z =>?_
   ·exact jK I3.lt
   ·exact I3.sz
   ·obtain⟨v,q⟩:=I3.cell x c e
    rw[z]at q
    exact absurd q.lt (eU _)
   ·have q:=(I3.pin p hp).1
    rw[z]at q
    exact absurd (aP q) (eU _)
  ·refine bB (T.item (dS X scope (own ++ caps.map (·.1)) fp s3 (upd H2 s2.heap.objs.size (.lst []))) rfl rfl rfl hc i [] s' G H' (fun _ _=>False) J' (fY Rq) mW go) fun r s4 ⟨u,hr,h4⟩ =>?_
   subst hr
   refine bB h4 fun _ s5 ⟨x,H5,J5,r5,y5,Ag,Rp⟩ =>?_
   have J5':=J5.pinned (fY Rp) (T.obj _ _ Ag)
   refine bB (hg fp s3 _ _ s5 G H5 x u _ J5' r5 (step x H5 y5)) fun _ s6 ⟨xB,H6,J6,q6⟩ =>?_
   refine bB (he fp s3 _ _ s6 xB H6 _ J6 q6) fun yv s7 ⟨y,H7,J7,r7,hD7,m',xS,w7⟩ =>?_
   refine bB (fJ (X:=dS X scope (own ++ caps.map (·.1)) fp s3 (upd H2 s2.heap.objs.size (.lst []))) _ s7 xB H7 (.ref s2.heap.objs.size) [y] _ [yv] (fun _ H8=>H8=upd H7 s2.heap.objs.size (.lst (ys ++ [y]))) J7 rfl (.cons r7 .nil) ⟨_,ys,y,O,O,hD7,eD,O⟩) fun _ s8 ⟨_,H8,J8,_,e8⟩ =>?_
   subst e8
   refine⟨m',xS,i+1, xB,ys ++ [y],_,J8.qM,T.keep _ _ _ Ag fun b hb o e=>(J8.pin (b,o) (ck _ (ck _ (nM hb e)))).1,fun b hb =>?_,w7⟩
   obtain⟨o,e,d⟩:=T.obj _ _ Ag b hb
   exact(J8.pin (b,o) (ck _ (ck _ (nM hb e)))).2.1
 have Ek:=loop _ rfl
 subst xR
 exact codeAny_compStart_list Ek (T.self _ 0 _ _ _ P4 Ek)
theorem xJ{tg jG iter:Expr}{wi:TI}{g:TG}{te:TE}{pos:Pos}(S:kq X scope own caps)(hi:PI X tg iter wi)(hc:X.calm=true)(hg:∀ fp s H,PG (dS X scope (own ++ caps.map (·.1)) fp s H) tg g)(he:∀ fp s H,PE (dS X scope (own ++ caps.map (·.1)) fp s H) jG te)(hs:∀ x,foldedSetIterable iter X.env x=pure x:=by intro _;rfl):PE X (.ListComp jG [⟨tg,iter, [],0⟩] scope pos) (Oc wi g te own.length caps):=by
 intro ah s Y H Q I h
 rw[eval_ListComp]
 refine Hl (use:=none) (Q:=Q) S hi hc hg he I h (fun D C H5 s5 I5 q ⟨m,hn⟩ hC hL hz iH C7 =>?_) hs
 refine⟨m,hn,fun h' lF =>?_⟩
 exact⟨.ref D,H5,I5.turned (t':=s5.toks) (fun b o hb e=>(lF.2 b hb).trans e) hC hL (.inr hz) iH C7,O,q⟩
theorem DR{i:Nat}{y:Str}{tg jG iter:Expr}{wi:TI}{g:TG}{te:TE}{pos IE py:Pos}(hN:X.N.Nodup)(hiN:X.N[i]? = some y)(hy:X.env.scope.names.lookup y=some .local)(S:kq X scope own caps)(hi:PI X tg iter wi)(hc:X.calm=true)(hg:∀ fp s H,PG (dS X scope (own ++ caps.map (·.1)) fp s H) tg g)(he:∀ fp s H,PE (dS X scope (own ++ caps.map (·.1)) fp s H) jG te)(hsw:swapsWith (.ListComp jG [⟨tg,iter, [],0⟩] scope pos) (some (.Name y py)) IE.line X.env=pure true)(hs:∀ x,foldedSetIterable iter X.env x=pure x:=by intro _;rfl):PS X (.Assign [.Name y py] (.ListComp jG [⟨tg,iter, [],0⟩] scope pos) IE) (Iz (Oc wi g te own.length caps) (bq i)):=by
 intro ah s Y H D I h
 rw[exec_Assign_Name_used _ _ _ _ hsw]
 refine wpAny_bind (wpAny_standAt (wpAny_bind ?_))
 show wpAny _ X.A (do let _ <- comprehension (.ListComp jG [⟨tg,iter, [],0⟩] scope pos) scope X.env _ (newList []) false (eval iter X.env) (some (assign (.Name y py) X.env))) _ _ s
 refine wpAny_bind (wpAny_mono (Hl (use:=some (assign (.Name y py) X.env)) (Q:=fun x H1=>D.nx (Y.set i (some x)) H1) (Q':=fun _ s'=>SP X ah D .next s') S hi hc hg he I h (fun A C H5 s5 I5 q ⟨m,hn⟩ hC hL hz iH C7 =>?_) hs)
  (fun _ s' hq=>wpAny_pure (wpAny_pure hq)) fun _ _ e=>e)
 show wpAny _ X.A (assign (.Name y py) X.env (.ref A)) _ _ _
 refine wpAny_assign_Name (Ae I5 hN hiN (.inl hy) (v := .ref A) rfl (fun s6 I6 ⟨a,MS,ha⟩ =>?_) (.inr hy))
 have haC:C≠a:=by
  rcases ha with ha | ha
  ·rw[ha];exact hL
  ·exact fun z=>iH y a ha z.symm
 refine⟨m,hn.sameBut MS haC,fun h' lF =>?_⟩
 exact⟨_,H5,I6.turned (t':=s6.toks) (fun b o hb e=>(lF.2 b hb).trans e) hC hL (.inr hz) iH C7,q⟩
end
structure dQ(P:Program)(w:World)(K:ao)(mg:Str->Option Value)(base:Heap)(k:Nat)(x:Str)(ps:List Str)(sp:Sp):Prop where
 ex:∃ f fd,lC P w K mg base Fc k f fd ps sp∧mg x=some (.ref f)∧du K (.ref f)=true∧Binds K fd ps []
section
variable {X:Cx} {k k':Nat}{x:Str}{ps:List Str}{sp:Sp}{p pos:Pos}{e:Expr}{es:List Expr}{t:TA}
theorem bp(h:dQ X.prog X.w X.K X.mg X.base k x ps sp)(hr:fg k' X.A)(hk:k<=k')(hg:Gl X x)(ha:PA X (e :: es) t)(sJ:(x == ("__debug__" : Str))=false:=by decide)(he:starEach (e :: es) X.env=(false,eval e X.env) :: starEach es X.env:=by rfl)(mC:(backTo pos (starEach es X.env)).any (·.1)=false:=by rfl) :
  PE X (.Call (.Name x p) (e :: es) [] pos) (Bs sp [] E0 t):=by
 obtain⟨f,fd,F,hm,Kh,hb⟩:=h.ex
 exact Mw F (hr.mono hk) hg hm Kh hb .nil adB ha sJ he mC
end
structure Def(K:ao)(mg:Str->Option Value)(x:Str)(st:Stmt)(ps:List Str):Prop where
 ex:∃ f fd,Bi K x x st f fd∧mg x=some (.ref f)∧Binds K fd ps []
theorem Def.has{P:Program}{w:World}{K:ao}{mg:Str->Option Value}{base:Heap}{x:Str}{st:Stmt}{N ps:List Str}{k:Nat}{sp:Sp}(D:Def K mg x st ps)(S:cy N ps (aX st))(len:∀ vs H Q E,sp vs H Q E->vs.length=ps.length)(nN:∀ (f:Addr) (cJ:Value) (A:Around) (outer:List Env) (s:Shared) (H:Hp) (vs:List V) (Q:VK) (E:XK),fg k (A.deeper (envOfC x (aX st) s.heap.objs.size f cJ))->sp vs H Q E ->
   ∃ t,qj (dR Fc P w K mg base N x (aX st) f cJ A outer s H E).Jq (fW st) t∧t { nx:=fun _ H'=>Q .cG H',rt:=Q } (start N vs) H):dQ P w K mg base (k+1) x ps sp:=by
 obtain⟨f,fd,F,hm,hb⟩:=D.ex
 exact⟨f,fd,F.ok S len (nN f),hm,F.kp,hb⟩
theorem bo{H:Hp}{p:Addr}(h:H p=none)(o:HO):bJ H (upd H p o):=fun b u q=>by rw[aE (bQ q h)];exact q
theorem bJ.tup{K:ao}{H H':Hp}{a:Addr}{xs:List V}(e:bJ H H')(h:bM K H a xs):bM K H' a xs:=by
 rcases h with(h | ⟨o,h⟩) | h
 ·exact .inl (.inl (e _ _ h))
 ·exact .inl (.inr ⟨o,e _ _ h⟩)
 ·exact .inr h
theorem bJ.put{H0 H:Hp}{p:Addr}{o:HO}(e:bJ H0 H)(h:H0 p=none):bJ H0 (upd H p o):=fun b u q=>by rw[aE (bQ q h)];exact e b u q
theorem RN{K:ao}{a:Addr}{xs:List V}{te:TE}{Y:St}{caps:List (Str × Nat)}{H:Hp}{Q:VK}(f:V->V)(hS:a9 K H a xs)(hz:xs.length<=1000)(Ce:∀ x∈xs,∀ H',bJ H H'->∀ Q':VK,Q' (f x) H'->te (some x :: jY Y caps) H' Q')(hq:∀ D,H D=none->Q (.ref D) (upd H D (.lst (xs.map f)))) :
  zr (LB K a) (bq 0) te (bR 1 none ++ jY Y caps) H Q:=by
 intro D hD
 refine⟨fun i m G ys H'=>m=xs.length - i∧i<=xs.length∧(∃ o, G = o :: jY Y caps)∧ys=(xs.take i).map f∧H'=upd H D (.lst ys),⟨xs.length,by simp,bx _,⟨none,O⟩,by simp,O⟩,?_⟩
 rintro i m G ys H' ⟨rfl,hi,⟨o,rfl⟩,rfl,rfl⟩
 have sm:bJ H (upd H D (.lst ((xs.take i).map f))):=bo hD _
 refine⟨aF,?_⟩
 by_cases cW:i < xs.length
 ·refine .inr ⟨⟨xs,xs[i],sm.seq hS,by simp[cW]⟩,?_,fun x gQ y =>?_⟩
  ·rw[az,bW]
   exact cU (by omega)
  obtain⟨e,y⟩:=y
  subst e
  have hx:=y xs (sm.seq hS)
  show te (some x :: jY Y caps) _ _
  refine Ce x (ak hx) _ sm _ ?_
  refine⟨aF,xs.length - (i+1),by omega,O,cW,⟨_,O⟩,?_,?_⟩
  ·rw[iw,hx,dv];rfl
  ·rw[Fj]
 ·have e:i=xs.length:=by omega
  subst e
  refine .inl ⟨⟨xs,sm.seq hS,ar _⟩,?_⟩
  rw[bK]
  exact hq D hD
def Hn(Py:Scope)(xN:List Str)(scope:Scope)(own:List Str)(caps:List (Str × Nat)):Bool :=
 scope.names.all (fun y=>y.2 != .cell) && scope.names.all (fun y=>y.2 != .local || scope.names.lookup y.1 == some .local) && scope.names.all (fun y=>y.2 != .free || Py.names.lookup y.1 == some .cell)
  && own.all (fun x=>scope.names.lookup x == some .local) && caps.all (fun p=>xN[p.2]? == some p.1 && Py.names.lookup p.1 == some .cell && scope.names.lookup p.1 == some .free)
theorem iW{X:Cx}{scope:Scope}{own:List Str}{caps:List (Str × Nat)}(Py:Scope)(xN:List Str)(hx:X.env.scope=Py)(hN:X.N=xN)(hk:scope.kind = .function)(c:Hn Py xN scope own caps=true):kq X scope own caps:=by
 unfold Hn at c
 simp only[jS,oS,Fe,bne_iff_ne,beq_iff_eq,ne_eq]at c
 obtain⟨⟨⟨⟨c1,c2⟩,c3⟩,c4⟩,c5⟩:=c
 refine⟨hk,c1,fun y hy e =>?_,fun y hy e =>?_,c4,fun p hp =>?_⟩
 ·rcases c2 y hy with z | z
  ·exact absurd e z
  ·exact z
 ·rcases c3 y hy with z | z
  ·exact absurd e z
  ·show X.env.scope.names.lookup y.1=_
   rw[hx];exact z
 ·obtain⟨⟨z1,z2⟩,z3⟩:=c5 p hp
  refine⟨by rw[hN];exact z1,?_,z3⟩
  show X.env.scope.names.lookup p.1=_
  rw[hx];exact z2
structure lK(mg:Str->Option Value):Prop where
 m7:mg "len" = none
 FU:mg "min" = none
 Ox:mg "max" = none
 agr:mg "sum" = none
 As:mg "range" = none
 uB:mg "enumerate" = none
 ow:mg "isinstance" = none
 PR:mg "tuple" = none
 alB:mg "int" = none
 alp:mg "bool" = none
 aly:mg "str" = none
 kH:mg "list" = none
theorem sQ:bootBuiltins "min" = some (.builtin "min"):=by decide +kernel
theorem wL:bootBuiltins "max" = some (.builtin "max"):=by decide +kernel
theorem RV:bootBuiltins "sum" = some (.builtin "sum"):=by decide +kernel
theorem jH:bootBuiltins "isinstance" = some (.builtin "isinstance"):=by decide +kernel
theorem Cr:bootBuiltins "tuple" = some (.type "tuple"):=by decide +kernel
theorem eQ:bootBuiltins "list" = some (.type "list"):=by decide +kernel
theorem Paired.at{α β : Type}{F : α -> β -> Prop}:∀ {JA : List α}{Jz : List β}{i:Nat}{a : α},Paired F JA Jz -> JA[i]? = some a->∃ b,Jz[i]? = some b∧F a b
 | _,_,_,_,.nil,e=>by simp at e
 | _,_,0,_,.cons h _,e=>by simp at e;subst e;exact⟨_,O,h⟩
 | _,_,i+1,a,.cons _ t,e=>by
  obtain⟨b,h1,h2⟩:=Paired.at (i:=i) (a:=a) t (by simpa using e)
  exact⟨b,by simpa using h1,h2⟩
theorem n6{j:Int}(h:decide (0 < j)=true:=by decide):0 < j:=of_decide_eq_true h
theorem K6{i j:Int}(h:(decide (0 < j) && decide (j < 1073741824))=true:=by decide):ac6 i j :=
 ⟨of_decide_eq_true (gu.mp h).1,of_decide_eq_true (gu.mp h).2⟩
theorem iZ{c A B:Prop}[Decidable c](h1:c->A)(h2:¬ c->B):if decide c=true then A else B:=by
 by_cases h:c
 ·rw[decide_eq_true h];exact oM (h1 h)
 ·rw[decide_eq_false h];exact iF (h2 h)
theorem rM{c A B:Prop}[Decidable c](h1:¬ c->A)(h2:c->B):if (!decide c)=true then A else B:=by
 by_cases h:c
 ·rw[decide_eq_true h];exact iF (h2 h)
 ·rw[decide_eq_false h];exact oM (h1 h)
def F2(h:Heap)(e:Addr)(x:Value):Prop := ∃ o vs,h.get? e=some o∧o.data = .fields vs∧vs[2]? = some x
def ahP:Option Addr->Value
 | none => .none
 | some a => .ref a
theorem F2.other{h:Heap}{e b:Addr}{x:Value}{f:Obj->Obj}(c:F2 h e x)(n:b≠e):F2 (h.update b f) e x:=by
 obtain⟨o,vs,a,d,i⟩:=c
 exact⟨o,vs,(df _ _ n).trans a,d,i⟩
section
variable {M:Model}{A:Around}{E:Value->Shared->Prop}{s:Shared}
inductive uU(l:List Env)(e:Addr)(oe:Obj)(L:Addr)(h h':Heap):Prop
 | mk (T:Addr) (oT:Obj) (ts:Array Value) (old:∀ b o,b≠e->b ∉ l.filterMap (·.frame)->h.get? b=some o->h'.get? b=some o) (slots:∀ b o,b≠e->h.get? b=some o->∃ sl,h'.get? b=some { o with slots:=sl })
  (own:h'.get? e=some (oe.mapFields (·.setIfInBounds 1 (.ref T)))) (new:h.get? T=none) (ne:T≠e) (size:h.objs.size<=T) (there:h'.get? T=some oT) (data:oT.data = .fields ts) (fl:ts[3]? = some (rawInt L)):uU l e oe L h h'
theorem KY{base:Heap}{env:Env}{outer:List Env}{L e:Addr}{oe:Obj}{vs:Array Value}{hd:Value}{nx:Bool}{Q:Unit->Shared->Prop}(af:A.frames=some (env :: outer))(ff:s.heap.FunFrames base (env :: outer))(fL:env.frame=some L)(ge:s.heap.get? e=some oe)(gd:oe.data = .fields vs)(gz:1 < vs.size)(k:∀ h',uU (env :: outer) e oe L s.heap h'->Q () { s with heap:=h' }) :
  wpAny M A (do let a <- frameOf env;let pl <- entryPlaceOf L nx;let b <- zT hd a .none (rawInt L) .none pl;setField (.ref e) 1 b) Q E s:=by
 have gw:e ∉ (env :: outer).filterMap (·.frame):=fun m=>by
  obtain⟨_,o,q,nf⟩:=ff.mem m
  rw[ge]at q
  cases q
  exact nf vs gd
 refine wpAny_bind (wpAny_frameOf_fun af ff fL fun h1 sl =>?_)
 refine wpAny_bind (wpAny_entryPlaceOf fun pl hp =>?_)
 unfold zT newFields
 refine wpAny_bind (wpAny_newObj_type ?_ (hp.sizeOk5 _ _ _ _ _))
 have g1:h1.get? e=some oe:=(sl.2.1 e gw).trans ge
 generalize hO:({ cls := .type "traceback",dict:=none,data := .fields ([hd,.ref L,.none,rawInt L,.none] ++ (if pl.isEmpty then bR 6 da else pl)).toArray }:Obj)=oT
 have g2:=ay (h:=h1) oT g1
 refine wpAny_setField g2 gd gz (k _ ?_)
 have nT:h1.objs.size≠e:=jK (aP g1)
 have dd:=dO gd (·.setIfInBounds 1 (aH h1.objs.size))
 have up:∀ b o,b≠e->h1.get? b=some o->((h1.push oT).update e (gN (·.setIfInBounds 1 (aH h1.objs.size)))).get? b=some o:=fun b o n q=>by
  rw[df _ _ (cm n)]
  exact ay _ q
 refine⟨h1.objs.size,oT,_,fun b o n m q=>up b o n ((sl.2.1 b m).trans q),fun b o n q =>?_,d8 _ g2 (ja dd),iq (nz sl.1.symm),nT,nz sl.1.symm,?_,(by rw[<- hO]),?_⟩
 ·obtain⟨x,q'⟩:=sl.2.2 b o q
  exact⟨x,up b _ n q'⟩
 ·rw[df _ _ (cm nT)]
  exact aT h1 (by rw[<- hO];rfl)
 ·first
   | (simp;done)
   | (rcases hp with rfl | ⟨_,_,_,_,_,_,_,rfl⟩ <;> simp)
theorem uU.Vz{base:Heap}{l:List Env}{e L:Addr}{oe:Obj}{vs:Array Value}{a0:Value}{h h':Heap}(x:uU l e oe L h h')(kb:base.StaysIn h)(be:base.get? e=none)(ff:h.FunFrames base l)(gd:oe.data = .fields vs)(gz:1 < vs.size)(g0:vs[0]? = some a0)(ge:h.get? e=some oe) :
  Heap.NotedW base l e oe.cls a0 (rawInt L) h h':=by
 obtain⟨T,oT,ts,old,slots,own,new,ne,size,there,data,fl⟩:=x
 have nr:∀ b o,h.get? b=some o->(∀ ws,o.data ≠ .fields ws)->b≠e:=fun b o q nf z=>by
  rw[z,ge]at q
  cases q
  exact nf vs gd
 refine⟨fun b o q=>old b o (fun z=>by rw[z,be]at q;cases q) (fun m=>by rw[(ff.mem m).1]at q;cases q) (kb b o q),ff.of_keeps fun b o q nf =>?_,?_,fun b o q nf=>slots b o (nr b o q nf) q⟩
 ·obtain⟨sl,q'⟩:=slots b o (nr b o q nf) q
  exact⟨_,q',O⟩
 ·refine⟨_,_,T,oT,ts,own,⟨oa _ _,?_⟩,dO gd _,by simp[gz],?_,ne,there,data,fl⟩
  ·rw[pF (by decide)];exact g0
  ·cases q:base.get? T with
   | none=>rfl
   | some o=>have:=kb _ _ q;rw[new]at this;cases this
theorem uU.ctx{l:List Env}{e L:Addr}{oe:Obj}{vs:Array Value}{h h':Heap}{y:Value}(x:uU l e oe L h h')(gd:oe.data = .fields vs)(ge:h.get? e=some oe)(c:F2 h e y):F2 h' e y:=by
 obtain⟨T,oT,ts,old,slots,own,new,ne,size,there,data,fl⟩:=x
 obtain⟨o,ws,q1,q2,q3⟩:=c
 rw[ge]at q1
 cases q1
 rw[gd]at q2
 cases q2
 exact⟨_,_,own,dO gd _,by rw[pF (by decide)];exact q3⟩
theorem TV{base:Heap}{env:Env}{outer:List Env}{L e:Addr}{oe:Obj}{vs:Array Value}{a0:Value}{Q:Unit->Shared->Prop}(af:A.frames=some (env :: outer))(ff:s.heap.FunFrames base (env :: outer))(fL:env.frame=some L)(ge:s.heap.get? e=some oe)(kb:base.StaysIn s.heap)(be:base.get? e=none)(gd:oe.data = .fields vs)(g1:vs[1]? = some .none)(g0:vs[0]? = some a0)(k:∀ h',Heap.HeldW base (env :: outer) e oe.cls a0 L h'->s.heap.UpToSlots h'->(∀ y,F2 s.heap e y->F2 h' e y)->Q () { s with heap:=h' }):wpAny M A (noteFrame (.ref e) env) Q E s:=by
 have gz:=(gO.mp g1).1
 unfold noteFrame
 simp only[fL]
 refine wpAny_bind (wpAny_field ge gd g1 ?_)
 rw[if_neg (by decide)]
 refine KY af ff fL ge gd gz fun h' x =>?_
 obtain⟨n1,n2,n3,n4⟩:=x.Vz kb be ff gd gz g0 ge
 exact k h' ⟨n1,be,n2,n3⟩ n4 fun y c=>x.ctx gd ge c
theorem XD{base:Heap}{env:Env}{outer:List Env}{L e:Addr}{cls a0:Value}{Q:Unit->Shared->Prop}(af:A.frames=some (env :: outer))(fL:env.frame=some L)(fl:jP base (env :: outer) e cls a0 s.heap)(k:∀ h',Heap.HeldW base (env :: outer) e cls a0 L h'->s.heap.UpToSlots h'->(∀ y,F2 s.heap e y->F2 h' e y)->Q () { s with heap:=h' }):wpAny M A (noteFrame (.ref e) env) Q E s:=by
 obtain⟨kb,be,ff,oe,vs,Tr,oT,ts,ge,⟨gc,g0⟩,gd,g1,bT,ME,gT,dT,g3⟩:=fl
 subst gc
 have gz:=(gO.mp g1).1
 unfold noteFrame
 simp only[fL]
 refine wpAny_bind (wpAny_field ge gd g1 ?_)
 rw[if_pos (show (aH Tr != da)=true by simp)]
 refine wpAny_bind (wpAny_field gT dT g3 ?_)
 rw[if_neg (show ¬ ((da == rawInt L)=true) by simp[rawInt])]
 refine wpAny_bind (wpAny_setField gT dT (gO.mp g3).1 ?_)
 have ot:∀ b,b≠Tr->(s.heap.update Tr (gN (·.setIfInBounds 3 da))).get? b=s.heap.get? b:=fun b n=>df _ _ (cm n)
 have nr:∀ b o,s.heap.get? b=some o->(∀ ws,o.data ≠ .fields ws)->b≠Tr:=fun b o q nf z=>by
  rw[z,gT]at q
  cases q
  exact nf ts dT
 have ff1:=ff.of_keeps (h':=s.heap.update Tr (gN (·.setIfInBounds 3 da))) fun b o q nf=>⟨o,(ot b (nr b o q nf)).trans q,O⟩
 have kb1:base.StaysIn (s.heap.update Tr (gN (·.setIfInBounds 3 da))):=fun b o q=>(ot b fun z=>by rw[z,bT]at q;cases q).trans (kb b o q)
 have ge1:=(ot e (cm ME)).trans ge
 refine KY (s := { s with heap:=_ }) af ff1 fL ge1 gd gz fun h' x =>?_
 obtain⟨n1,n2,n3,n4⟩:=x.Vz kb1 be ff1 gd gz g0 ge1
 exact k h' ⟨n1,be,n2,n3⟩ (fun b o q nf=>n4 b o ((ot b (nr b o q nf)).trans q) nf) fun y c=>x.ctx gd ge1 (c.other ME)
theorem Ew{base:Heap}{l:List Env}{e:Addr}{cls a0 m:Value}{Q:Unit->Shared->Prop}(kb:base.StaysIn s.heap)(be:base.get? e=none)(ff:s.heap.FunFrames base l)(tr:s.heap.TracedAtW base e cls a0 m)(k:∀ h',jP base l e cls a0 h'->s.heap.UpToSlots h'->(∀ y,F2 s.heap e y->F2 h' e y)->Q () { s with heap:=h' }):wpAny M A (setFlight (.ref e) none) Q E s:=by
 obtain⟨oe,vs,Tr,oT,ts,ge,gc,gd,g1,bT,ME,gT,dT,g3⟩:=tr
 have z3:=(gO.mp g3).1
 have ot:∀ b,b≠Tr->(s.heap.update Tr (gN (·.setIfInBounds 3 ((none:Option Addr).elim da fun f=>rawInt f)))).get? b=s.heap.get? b:=fun b n=>df _ _ (cm n)
 have nr:∀ b o,s.heap.get? b=some o->(∀ ws,o.data ≠ .fields ws)->b≠Tr:=fun b o q nf z=>by
  rw[z,gT]at q
  cases q
  exact nf ts dT
 unfold setFlight
 refine wpAny_bind (wpAny_field ge gd g1 ?_)
 rw[if_pos (show (aH Tr != da)=true by simp)]
 refine wpAny_setField gT dT z3 (k _ ⟨fun b o q=>(ot b fun z=>by rw[z,bT]at q;cases q).trans (kb b o q),be,ff.of_keeps fun b o q nf=>⟨o,(ot b (nr b o q nf)).trans q,O⟩,?_⟩ (fun b o q nf=>⟨o.slots,(ot b (nr b o q nf)).trans q⟩) fun y c=>c.other ME)
 exact⟨oe,vs,Tr,_,_,(ot e (cm ME)).trans ge,gc,gd,g1,bT,ME,d8 _ gT (ja (dO dT _)),dO dT _,by simp[z3]⟩
theorem T9{base:Heap}{env:Env}{outer:List Env}{L e:Addr}{cls a0:Value}{Q:Unit->Shared->Prop}(af:A.frames=some (env :: outer))(fL:env.frame=some L)(fl:jP base (env :: outer) e cls a0 s.heap)(k:∀ h',jP base outer e cls a0 h'->s.heap.UpToSlots h'->(∀ y,F2 s.heap e y->F2 h' e y)->Q () { s with heap:=h' }):wpAny M A (leaving env (.ref e)) Q E s:=by
 unfold leaving
 refine wpAny_bind (XD af fL fl fun h1 hh sl c1 =>?_)
 obtain⟨n1,n2,n3,n4⟩:=hh
 refine Ew (s := { s with heap:=h1 }) n1 n2 n3 n4 fun h2 f2 IM c2 =>?_
 obtain⟨m1,m2,⟨_,_,m3⟩,m4⟩:=f2
 exact k h2 ⟨m1,m2,m3,m4⟩ (sl.trans IM) fun y c=>c2 y (c1 y c)
theorem leave_new{base:Heap}{env:Env}{outer:List Env}{L e:Addr}{oe:Obj}{vs:Array Value}{a0:Value}{Q:Unit->Shared->Prop}(af:A.frames=some (env :: outer))(ff:s.heap.FunFrames base (env :: outer))(fL:env.frame=some L)(ge:s.heap.get? e=some oe)(kb:base.StaysIn s.heap)(be:base.get? e=none)(gd:oe.data = .fields vs)(g1:vs[1]? = some .none)(g0:vs[0]? = some a0)(k:∀ h',jP base outer e oe.cls a0 h'->s.heap.UpToSlots h'->(∀ y,F2 s.heap e y->F2 h' e y)->Q () { s with heap:=h' }):wpAny M A (leaving env (.ref e)) Q E s:=by
 unfold leaving
 refine wpAny_bind (TV af ff fL ge kb be gd g1 g0 fun h1 hh sl c1 =>?_)
 obtain⟨n1,n2,n3,n4⟩:=hh
 refine Ew (s := { s with heap:=h1 }) n1 n2 n3 n4 fun h2 f2 IM c2 =>?_
 obtain⟨m1,m2,⟨_,_,m3⟩,m4⟩:=f2
 exact k h2 ⟨m1,m2,m3,m4⟩ (sl.trans IM) fun y c=>c2 y (c1 y c)
end
section
variable {P:Program}{w:World} {H H':Hp} {h h':Heap}{a:Addr}{o:HO}
theorem cY.there(x:cY P w H h a o):∃ ob,h.get? a=some ob:=by
 cases o with
 | lst xs=>obtain⟨_,_,_,_,e⟩:=x;exact⟨_,e⟩
 | tup xs=>obtain⟨_,_,_,_,e,_⟩:=x;exact⟨_,e⟩
 | dK kvs=>obtain⟨_,_,_,_,o,_,_,e,_⟩:=x;exact⟨_,e⟩
 | dT kvs=>obtain⟨_,_,_,_,o,_,_,e,_⟩:=x;exact⟨_,e⟩
 | set S n=>obtain⟨o,_,_,_,e,_⟩:=x;exact⟨_,e⟩
 | ins C dx fs=>obtain⟨_,_,_,e,_⟩:=x;exact⟨_,e⟩
 | own y=>exact x
 | xd fs=>obtain⟨_,⟨_,_,_,e,_⟩,_⟩:=x;exact⟨_,e⟩
 | Aq lo hi=>obtain⟨_,_,_,e⟩:=x;exact⟨_,e⟩
 | vB ob u=>obtain⟨e,_⟩:=x;exact⟨_,e⟩
 | nU ps=>exact⟨_,(show h.get? a=some _ from x)⟩
 | met f y=>exact⟨_,(show h.get? a=some _ from x)⟩
 | ext φ => obtain⟨_,e,_⟩:=x;exact e
theorem gE.TX(x:gE P w H h)(e:h.get? a=none):H a=none:=by
 cases q:H a with
 | none=>rfl
 | some u=>obtain⟨ob,z⟩:=(x a u q).there;rw[e]at z;cases z
theorem gE.part(x:gE P w H h)(k:∀ b u v,H b=some u->h.get? b=some v->h'.get? b=some v):gE P w H h':=fun a o e =>
 (x a o e).sY (fun b u hb q=>by
  rcases hb with z | z
  ·subst z;exact k _ _ _ e q
  ·exact k _ _ _ z q) (fun _ q=>q) fun _ _ q=>q
end
theorem Un.fly{fs:List Addr}{L:Addr}{Bh H H':Hp}{h0 h h1 h2 B:Heap}(U1:Un fs [] Bh H h0 h)(U2:Un (L :: fs) [] H H' h h1)(hL:h0.get? L=none)(mE:∀ b o,h.get? b=some o->b ∉ L :: fs->∃ o',B.get? b=some o')(k1:∀ b o,B.get? b=some o->h1.get? b=some o)(k2:∀ b o,B.get? b=some o->h2.get? b=some o)(sl:h1.UpToSlots h2)(nf:∀ b∈fs,∃ o,h1.get? b=some o∧∀ vs,o.data ≠ .fields vs):Un fs [] Bh H' h0 h2:=by
 have nL:∀ b o,h0.get? b=some o->b ∉ fs->b ∉ L :: fs:=fun b o q hb z=>by
  rcases aW.mp z with z | z
  ·rw[z,hL]at q;cases q
  ·exact hb z
 refine⟨fun b o q n hb hx =>?_,fun b o q n hb hx =>?_,fun b o q n hx =>?_,fun b o q hx =>?_,fun b xs q=>U2.qN _ _ (U1.qN _ _ q),fun b o u q=>U2.pY _ _ _ (U1.pY _ _ _ q),fun b ps q =>?_⟩
 ·have q1:=U1.keep b o q n hb hx
  have q2:=U2.keep b o q1 (U1.free b o q n hx) (nL b o q hb) hx
  obtain⟨o',e⟩:=mE b o q1 (nL b o q hb)
  have e1:=k1 _ _ e
  rw[q2]at e1
  cases e1
  exact k2 _ _ e
 ·obtain⟨s1,q1⟩:=U1.slot b o q n hb hx
  obtain⟨s2,q2⟩:=U2.slot b _ q1 (U1.free b o q n hx) (aR _ hb) hx
  obtain⟨ob,q3,d⟩:=nf b hb
  rw[q2]at q3
  cases q3
  obtain⟨s4,q4⟩:=sl b _ q2 d
  exact⟨s4,q4⟩
 ·obtain⟨o1,q1⟩:=U1.there b o q hx
  exact U2.free b o1 q1 (U1.free b o q n hx) hx
 ·by_cases hb:b∈fs
  ·obtain⟨ob,q3,d⟩:=nf b hb
   obtain⟨s4,q4⟩:=sl b _ q3 d
   exact⟨_,q4⟩
  ·obtain⟨o1,q1⟩:=U1.there b o q hx
   obtain⟨o',e⟩:=mE b o1 q1 (nL b o q hb)
   exact⟨_,k2 _ _ e⟩
 ·obtain⟨m1,e1⟩:=U1.pG b ps q
  obtain⟨m2,e2⟩:=U2.pG b _ e1
  exact⟨m1 ++ m2,by rw[e2,Bp]⟩
def qA(P:Program)(w:World):w5:=fun outer H s E e s'=>∃ (ea C:Addr) (a0:Value) (B:Heap) (H':Hp),e = .ref ea∧jP B outer ea (.ref C) a0 s'.heap∧s'.os=s.os∧AllBare s'.gens ∧
 gE P w H' B∧Un (iy outer) [] H H' s.heap s'.heap∧(∀ b o,s.heap.get? b=some o->b ∉ iy outer->∃ o',B.get? b=some o')∧∃ m:Option Addr,F2 s'.heap ea (ahP m)∧E (.ref C) m H'
section
variable {P:Program}{w:World}{K:ao}{mg:Str->Option Value}{base:Heap}{N:List Str}{qual:Str}{scope:Scope}{f:Addr}{cJ:Value}{A:Around}{outer:List Env}{s0 s:Shared}{H0 H:Hp} {E E':XK}
 {ah:List (Addr × Obj)}{Y:St}{CX:w5}
theorem Gv{e:Env}{L:Addr}{l:List Env}(h:e.frame=some L):iy (e :: l)=L :: iy l:=by
 unfold iy
 rw[jU,h]
theorem ad0{h':Heap}{e C:Addr}{args:List Value}(I:Inv (dR (qA P w) P w K mg base N qual scope f cJ A outer s0 H0 E) ah Y H s)(hx:Gg s.heap h' e (.ref C) args)(q:E (.ref C) none H) :
  (dR (qA P w) P w K mg base N qual scope f cJ A outer s0 H0 E).xe (.ref e) { s with heap:=h' }:=by
 have fr:s.heap.FunFrames base (envOfC qual scope s0.heap.objs.size f cJ :: outer):=I.stack
 have sf:∀ b∈iy (envOfC qual scope s0.heap.objs.size f cJ :: outer),H b=none:=I.Fm
 have sH:∀ env∈(envOfC qual scope s0.heap.objs.size f cJ :: outer),∀ b,env.frame=some b->b∈iy (envOfC qual scope s0.heap.objs.size f cJ :: outer):=fun env he b hb=>sS.mpr ⟨env,he,hb⟩
 have es:iy (envOfC qual scope s0.heap.objs.size f cJ :: outer)=s0.heap.objs.size :: iy outer:=Gv rfl
 show wpAny _ _ (leaving _ _) _ _ _
 obtain⟨t,gt,_,_⟩:=hx.there
 have ff:=(PySem.W.funFrames_hide fr sH).of_keeps (h':=h') fun b o z _=>⟨o,hx.keeps b o z,O⟩
 have kb:(mH s.heap (iy (envOfC qual scope s0.heap.objs.size f cJ :: outer))).StaysIn h':=fun b o z=>hx.keeps b o (nj _ z)
 have be:(mH s.heap (iy (envOfC qual scope s0.heap.objs.size f cJ :: outer))).get? e=none:=by
  cases z:(mH s.heap (iy (envOfC qual scope s0.heap.objs.size f cJ :: outer))).get? e with
  | none=>rfl
  | some o=>have:=nj _ z;rw[hx.new]at this;cases this
 refine leave_new (s := { s with heap:=h' }) (a0 := .ref t) I.ok.frames ff rfl gt kb be rfl rfl rfl ?_
 intro KL x1 x4 x5
 have mE:∀ b o,s.heap.get? b=some o->b ∉ s0.heap.objs.size :: iy outer->(mH s.heap (iy (envOfC qual scope s0.heap.objs.size f cJ :: outer))).get? b=some o:=fun b o z hb=>qJ _ z (by rw[es];exact hb)
 have Ib:Un (iy outer) [] H0 H s0.heap s.heap:=I.base
 refine⟨e,C,.ref t,_,H,O,x1,I.os,I.bare,gE.part I.bh fun b u v z1 z2=>qJ _ z2 fun hm =>?_,?_,?_,none,x5 _ ⟨_,_,gt,O,O⟩,q⟩
 ·rw[sf b hm]at z1;cases z1
 ·refine Un.fly (h:=s.heap) (h1:=h') (L:=s0.heap.objs.size) Ib (Un.kept hx.keeps) (iq (ar _)) (fun b o z hb=>⟨o,mE b o z hb⟩) (fun b o z=>hx.keeps _ _ (nj _ z)) x1.1 x4 fun b hb =>?_
  obtain⟨_,o,z,d⟩:=fr.mem (b:=b) (by show b∈iy _;rw[es];exact aR _ hb)
  exact⟨o,hx.keeps _ _ z,d⟩
 ·intro b o z hb
  obtain⟨o1,z1⟩:=Ib.there b o z (by simp)
  refine⟨o1,mE b o1 z1 fun hm =>?_⟩
  rcases aW.mp hm with y | y
  ·rw[y,iq (ar _)]at z;cases z
  ·exact hb y
theorem yI(hE:∀ c m H',E' c m H'->E c m H'):Passes (qA P w) (dR (qA P w) P w K mg base N qual scope f cJ A outer s0 H0 E) E':=by
 intro ah Y H s e s' I h
 obtain⟨ea,C,a0,B,H',rfl,fl,os,bare,bh,un,mE,m,hm,q⟩:=h
 have es:iy (envOfC qual scope s0.heap.objs.size f cJ :: outer)=s0.heap.objs.size :: iy outer:=Gv rfl
 have Ib:Un (iy outer) [] H0 H s0.heap s.heap:=I.base
 have un':Un (s0.heap.objs.size :: iy outer) [] H H' s.heap s'.heap:=by rw[<- es];exact un
 have acv:∀ b o,s.heap.get? b=some o->b ∉ s0.heap.objs.size :: iy outer->∃ o',B.get? b=some o':=fun b o z hb=>mE b o z (by show b ∉ iy (envOfC qual scope s0.heap.objs.size f cJ :: outer);rw[es];exact hb)
 show wpAny _ _ (leaving _ _) _ _ _
 refine T9 I.ok.frames rfl fl fun KL x1 x2 x3 =>?_
 refine⟨ea,C,a0,B,H',O,x1,os.trans I.os,bare,bh,?_,?_,m,x3 _ hm,hE _ _ _ q⟩
 ·refine Un.fly Ib un' (iq (ar _)) acv fl.1 x1.1 x2 fun b hb =>?_
  obtain⟨_,o,z,d⟩:=fl.2.2.1.mem (b:=b) (by show b∈iy (envOfC qual scope s0.heap.objs.size f cJ :: outer);rw[es];exact aR _ hb)
  exact⟨o,z,d⟩
 ·intro b o z hb
  obtain⟨o1,z1⟩:=Ib.there b o z (by simp)
  refine acv b o1 z1 fun hm =>?_
  rcases aW.mp hm with y | y
  ·rw[y,iq (ar _)]at z;cases z
  ·exact hb y
end
structure Exc(K:ao)(mg:Str->Option Value)(x:Str)(C:Addr):Prop where
 glob:mg x=some (.ref C)
 here:zN K C [.type "ValueError",.type "Exception",.type "BaseException",.type "object"] "ValueError.__new__" = true
theorem Exc.own{K:ao}{mg:Str->Option Value}{x:Str}{C:Addr}{h:Heap}(e:Exc K mg x C)(X:K.In h):OwnCls x C [.type "ValueError",.type "Exception",.type "BaseException",.type "object"] "ValueError.__new__" mg h:=by
 refine⟨e.glob,?_⟩
 have q:=e.here
 unfold zN at q
 split at q
 ·rename_i dd cd sl ho
  split at q
  ·rename_i C' bm k0 k1 k2 k3 n k5 hm hs
   simp only[jS,beq_iff_eq,Bool.not_eq_true']at q
   obtain⟨⟨⟨⟨⟨rfl,rfl⟩,abB⟩,ht⟩,bh⟩,G2⟩:=q
   obtain⟨nm,bs,mro,ns,qn,hd,sn,sub,ab,col,del⟩:=cd
   dsimp only at hm abB bh G2
   subst hm abB
   have QX:sl = #[k0,k1,k2,k3,some (.builtin "ValueError.__new__"),k5]:=by
    obtain⟨l⟩:=sl
    simp only at hs
    rw[hs]
   subst QX
   exact⟨bm,ns,nm,qn,bs,hd,sn,sub,ab,col,dd,k0,k1,k2,k3,k5,_,X _ _ ho,.of_isNs (PySem.W.isNs_of_in X bh),PySem.W.nsMap_none_of_in X bh G2,PySem.W.tail_of_in X ht⟩
  ·cases q
 ·cases q
def ad6(X:Cx)(C:Addr)(E:XK):Prop := ∀ (ah:List (Addr × Obj)) (Y:St) (H:Hp) (s:Shared) (h':Heap) (e:Addr) (args:List Value),Inv X ah Y H s->Gg s.heap h' e (.ref C) args->E (.ref C) none H->X.xe (.ref e) { s with heap:=h' }
def YJ(C:Addr)(E:XK)(t:TA):TS:=fun _ Y H=>t Y H fun vs H1=>vs.length<=sizeLine∧E (.ref C) none H1
theorem Td{X:Cx}{x:Str}{C:Addr}{E:XK}{O7 : Expr}{rest:List Expr}{t:TA}{np cZ pos:Pos}(On:Exc X.K X.mg x C)(hc:X.calm=true)(F:ad6 X C E)(ha:PA X (O7 :: rest) t)(hg:Gl X x)(he:starEach (O7 :: rest) X.env=(false,eval O7 X.env) :: starEach rest X.env:=by rfl)(J2:(backTo cZ (starEach rest X.env)).any (·.1)=false:=by rfl)(hd:(x == ("__debug__" : Str))=false:=by decide) :
  PS X (.Raise (some (.Call (.Name x np) (O7 :: rest) [] cZ)) none pos) (YJ C E t):=by
 intro ah s Y H D I h
 obtain⟨tl,N,nm,q,bs,hdct,sn,sub,ab,col,dd,k0,k1,k2,k3,k5,mN,hC,hN,G2,T⟩:=(On.own I.ok.mod.D6).obj
 refine wpAny_Raise_call_subT (C:=C) (nm:=nm) (q:=q) (N:=N) (bs:=bs) (bm:=tl) (hdct:=hdct) (sn:=sn) (sub:=sub) (ab:=ab) (col:=col) (dd:=dd) (k0:=k0) (k1:=k1) (k2:=k2) (k3:=k3) (k5:=k5)
  tJ (mN:=mN) (T.hasType tJ.hasBase) (I.ok.hd hc) (by rw[he];show (false || (backTo cZ (starEach rest X.env)).any (·.1))=false;rw[J2];rfl) G2 (uN I hg On.glob ⟨O,?_⟩ hd)
 have tu := ha cZ ah s Y H _ I h
 rw[he]at tu ⊢
 exact ir (wpAny_mono tu (fun vs ic ⟨xs,H1,I1,r,hl,hq⟩=>⟨O,by rw[<- r.length];exact hl,I1.bk _ _ hC,hN.keeps I1.bk,T.keeps I1.bk,fun h' e hm=>F ah Y H1 ic h' e vs I1 hm hq⟩) fun _ _ y=>y)
end L2
namespace L2
open PySem PySem.Spec PyProof.Rows PySem.W
section
variable {prog:Program}{w:World}{A:Around}{E:Value->Shared->Prop}{h:Heap}{g:Array GenState}{d:Drawn}{t:Nat}{os:OsState}{a:Addr}{o:Obj}
 {nm q:Str}{C N:Addr}{bs bm:List Value}{hdct:Bool}{sn:List Str}{sub:List Value}{ab:Bool}{col:Option Bool}{dd:Option Addr}{k0 k1 k2 k3 k5:Option Value}{wq:String}
theorem Yq{R:Result->Shared->Prop}(hC:h.get? C=some (excClassObj nm q C N bs bm hdct sn sub ab col dd k0 k1 k2 k3 k5 wq))(hb:bm.contains (.type "object")=true)(hx:h.get? a=some o)(hc:o.cls = .ref C)(hq:R (.ok (.ret (.ref C))) ⟨h,g,d,t,os⟩) :
  codeAny (model prog w) A (.call (.builtin "getset_descriptor.__get__") ⟨[.builtin "object.__class__",.ref a,.ref C], []⟩) R ⟨h,g,d,t,os⟩:=by
 have Wh:(⟨h,g,d,t,os⟩:Shared).TypeIs (.builtin "object.__class__") "getset_descriptor" := pD
 have hcB:(aH C :: bm).contains (.type (".".intercalate ("object.__class__".cutAt '.').dropLast))=true:=by
  rw[F.owner_object_class,Be,hb];rfl
 refine codeAny_call_builtin zQ.plain F.entry_gs_get (zQ.check _ _ _ _ _ _ _ _ Wh (F.args_gs_get _ _ _) ?_)
 repeat (any_goals (first | assumption | (with_reducible refine wpAny_loadPart_at hx ?_;rw[hc]) | (with_reducible refine wpAny_isSubtype_exc hC ?_;rw[hcB]) | wp_step))
 refine⟨Code.quiet_builtin _ (by decide +kernel),codeAny_builtin F.entry_object_class ?_⟩
 repeat (any_goals (first | assumption | (with_reducible refine wpAny_loadPart_at hx ?_;rw[hc]) | wp_step))
theorem SM{M:Model}{VD:Value}{Q:Unit->Shared->Prop}(hC:h.get? C=some (excClassObj nm q C N bs bm hdct sn sub ab col dd k0 k1 k2 k3 k5 wq))(hb:bm.contains (.type "BaseException")=true)(hx:h.get? a=some o)(hc:o.cls = .ref C)(hq:Q () ⟨h,g,d,t,os⟩):wpAny M A (checkBuiltinCall "BaseException.__getattribute__" ⟨[.ref a,VD], []⟩) Q E ⟨h,g,d,t,os⟩:=by
 have hk:builtinKind "BaseException.__getattribute__" = some .slot:=by decide +kernel
 have aaU:splitId "BaseException.__getattribute__" = some ("BaseException", "__getattribute__"):=by decide +kernel
 have hcB:(aH C :: bm).contains (.type "BaseException")=true:=by rw[Be,hb];rfl
 have ha:=F.args_bexc_ga (.ref a) VD
 simp only[checkBuiltinCall,hk,aaU]
 refine wpAny_bind ?_
 ·unfold isInstance
  repeat (first | (with_reducible refine wpAny_loadPart_at hx ?_;rw[hc]) | (with_reducible refine wpAny_isSubtype_exc hC ?_;rw[hcB]) | wp_step)
  exact hq
theorem SK{tk:Tok}{Q:Fin->Shared->Prop}(hC:h.get? C=some (excClassObj nm q C N bs bm hdct sn sub ab col dd k0 k1 k2 k3 k5 wq))(hb:bm.contains (.type "object")=true)(lk:Looks (model prog w) h (typeLookup (.ref C) "__class__") (some (.builtin "object.__class__")))(hx:h.get? a=some o)(hc:o.cls = .ref C)(hq:Q (.done (.ret (.ref C))) ⟨h,g,d,t,os⟩) :
  wpAny (model prog w) A (Builtin.«object.__getattribute__» ⟨[.ref a,.str "__class__" tk], []⟩) Q E ⟨h,g,d,t,os⟩:=by
 have Wh:(⟨h,g,d,t,os⟩:Shared).TypeIs (.builtin "object.__class__") "getset_descriptor" := pD
 have f5:=pD
 have f6:=zQ.lookup
 have f7:=F.slot_gs_set.lookup
 repeat (any_goals (first | assumption | (with_reducible refine wpAny_loadPart_at hx ?_;rw[hc]) | with_reducible refine lk.at ?_ | wp_step))
 refine Yq hC hb hx hc ?_
 repeat (any_goals (first | assumption | wp_step))
theorem ac9{tk:Tok}{fill expr:Bool}{Q:Value->Shared->Prop}(hC:h.get? C=some (excClassObj nm q C N bs bm hdct sn sub ab col dd k0 k1 k2 k3 k5 wq))(hb:bm.contains (.type "object")=true)(Rb:bm.contains (.type "BaseException")=true)(lk:Looks (model prog w) h (typeLookup (.ref C) "__class__") (some (.builtin "object.__class__")))(lg:Looks (model prog w) h (typeLookup (.ref C) "__getattribute__") (some (.builtin "BaseException.__getattribute__")))(ln:Looks (model prog w) h (typeLookup (.ref C) "__getattr__") none)(hx:h.get? a=some o)(hc:o.cls = .ref C)(hq:Q (.ref C) ⟨h,g,d,t,os⟩) :
  wpAny (model prog w) A (getAttrBy (.ref a) (.str "__class__" tk) fill expr) Q E ⟨h,g,d,t,os⟩:=by
 have FB:=F.attrBase_ValueError
 have f3:=FB.ga.bind (.ref a)
 have JQ:(expr && onTheHeap (mi "BaseException.__getattribute__"))=false:=by cases expr <;> rfl
 have MP:(mi "BaseException.__getattribute__" == mi "object.__getattribute__")=false:=by decide +kernel
 have AM:(onTheHeap (aH C) && mi "BaseException.__getattribute__" == mi "object.__getattribute__")=false:=by rw[MP];rfl
 repeat (any_goals (first | assumption | (with_reducible refine wpAny_loadPart_at hx ?_;rw[hc]) | with_reducible refine lg.at ?_ | with_reducible refine ln.at ?_ | wp_step))
 refine codeAny_call_builtin FB.ga.plain F.entry_bexc_ga (SM hC Rb hx hc (SK hC hb lk hx hc ?_))
 repeat (any_goals (first | assumption | wp_step))
theorem Ma{Q:Option Value->Shared->Prop}(hC:h.get? C=some (excClassObj nm q C N bs bm hdct sn sub ab col dd k0 k1 k2 k3 k5 wq))(hb:bm.contains (.type "object")=true)(Rb:bm.contains (.type "BaseException")=true)(lk:Looks (model prog w) h (typeLookup (.ref C) "__class__") (some (.builtin "object.__class__")))(lg:Looks (model prog w) h (typeLookup (.ref C) "__getattribute__") (some (.builtin "BaseException.__getattribute__")))(ln:Looks (model prog w) h (typeLookup (.ref C) "__getattr__") none)(hx:h.get? a=some o)(hc:o.cls = .ref C)(hq:Q (some (.ref C)) ⟨h,g,d,t+1,os⟩) :
  wpAny (model prog w) A (getAttr? (.ref a) "__class__") Q E ⟨h,g,d,t,os⟩:=by
 unfold getAttr? getAttrBy?
 repeat (any_goals (first | assumption | with_reducible apply ac9 hC hb Rb lk lg ln hx hc | wp_step))
end
end L2
namespace L2
open PySem PySem.Spec PyProof.Rows
def XO(ea C:Addr):HO := .ext fun h=>∃ o,h.get? ea=some o∧o.cls = .ref C
abbrev Cx.r9(X:Cx)(A:Around)(xe:Value->Shared->Prop):Cx := { X with A:=A,calm:=false,xe:=xe }
section
variable {X:Cx}{ah:List (Addr × Obj)}{Y:St}{H:Hp}{s:Shared}{xe:Value->Shared->Prop}{A:Around}
theorem Inv.r9(I:Inv X ah Y H s)(hf:A.frames=X.A.frames):Inv (X.r9 A xe) ah Y H s :=
 ⟨⟨I.ok.mod,I.ok.kind,I.ok.glob,I.ok.blt,I.ok.above,I.ok.inj,I.ok.has,I.ok.Hr,(fun h=>absurd (show false=true from h) (by decide)),hf.trans I.ok.frames,I.ok.IC,I.ok.Ru,I.ok.bs,I.ok.zJ,I.ok.AD,I.ok.Dd,I.ok.oN,I.ok.Cn⟩,
   I.os,I.bare,I.base,I.loc,I.cell,I.free,I.nO,I.pin,I.bh,I.len⟩
theorem Inv.Zm(I:Inv (X.r9 A xe) ah Y H s)(hd:X.calm=true->X.A.handled=none)(hf:X.A.frames=A.frames):Inv X ah Y H s :=
 ⟨⟨I.ok.mod,I.ok.kind,I.ok.glob,I.ok.blt,I.ok.above,I.ok.inj,I.ok.has,I.ok.Hr,hd,hf.trans I.ok.frames,I.ok.IC,I.ok.Ru,I.ok.bs,I.ok.zJ,I.ok.AD,I.ok.Dd,I.ok.oN,I.ok.Cn⟩,
   I.os,I.bare,I.base,I.loc,I.cell,I.free,I.nO,I.pin,I.bh,I.len⟩
end
theorem Un.on{fs:List Addr}{H H':Hp}{h h1 h2 B:Heap}(U:Un fs [] H H' h h1)(mE:∀ b o,h.get? b=some o->b ∉ fs->∃ o',B.get? b=some o')(k1:∀ b o,B.get? b=some o->h1.get? b=some o)(k2:∀ b o,B.get? b=some o->h2.get? b=some o)(sl:h1.UpToSlots h2)(nf:∀ b∈fs,∃ o,h1.get? b=some o∧∀ vs,o.data ≠ .fields vs):Un fs [] H H' h h2:=by
 refine⟨fun b o q n hb hx =>?_,fun b o q n hb hx =>?_,U.free,fun b o q hx =>?_,U.qN,U.pY,U.pG⟩
 ·have q2:=U.keep b o q n hb hx
  obtain⟨o',e⟩:=mE b o q hb
  have e1:=k1 _ _ e
  rw[q2]at e1
  cases e1
  exact k2 _ _ e
 ·obtain⟨s1,q1⟩:=U.slot b o q n hb hx
  obtain⟨ob,q3,d⟩:=nf b hb
  rw[q1]at q3
  cases q3
  obtain⟨s4,q4⟩:=sl b _ q1 d
  exact⟨s4,q4⟩
 ·by_cases hb:b∈fs
  ·obtain⟨ob,q3,d⟩:=nf b hb
   obtain⟨s4,q4⟩:=sl b _ q3 d
   exact⟨_,q4⟩
  ·obtain⟨o',e⟩:=mE b o q hb
   exact⟨_,k2 _ _ e⟩
theorem Un.more{fs:List Addr}{H H':Hp}{h h2:Heap}{a:Addr}{o:HO}(U:Un fs [] H H' h h2)(hn:h.get? a=none)(hH:H' a=none):Un fs [] H (upd H' a o) h h2:=by
 have ne:∀ b u,h.get? b=some u->b≠a:=fun b u q z=>by rw[z,hn]at q;cases q
 refine⟨U.keep,U.slot,fun b u q n hx=>by rw[aE (ne b u q)];exact U.free b u q n hx,U.there,fun b xs q =>?_,fun b u xs q =>?_,fun b ps q =>?_⟩
 ·have e:=U.qN b xs q
  rw[aE (bQ e hH)];exact e
 ·have e:=U.pY b u xs q
  rw[aE (bQ e hH)];exact e
 ·obtain⟨m,e⟩:=U.pG b ps q
  exact⟨m,by rw[aE (bQ e hH)];exact e⟩
section
variable {X:Cx}{ah:List (Addr × Obj)}{Y:St} {H0 H':Hp} {s0 s':Shared}{ea C:Addr}{a0:Value}{B h5:Heap}{env:Env}{outer:List Env}
theorem EK(I:Inv X ah Y H0 s0)(fl:jP B X.stack ea (.ref C) a0 s'.heap)(os:s'.os=s0.os)(bare:AllBare s'.gens)(bh:gE X.prog X.w H' B)(un:Un (iy X.stack) [] H0 H' s0.heap s'.heap)(mE:∀ b o,s0.heap.get? b=some o->b ∉ iy X.stack->∃ o',B.get? b=some o')(k5:∀ b o,B.get? b=some o->h5.get? b=some o)(sl:s'.heap.UpToSlots h5)(he:∃ o vs,h5.get? ea=some o∧o.cls = .ref C∧o.data = .fields vs) :
  Inv X ah Y (upd H' ea (XO ea C)) { s' with heap:=h5 }∧H' ea=none:=by
 have hn:H' ea=none:=bh.TX fl.2.1
 have fm:∀ b∈iy X.stack,∃ o,s'.heap.get? b=some o∧∀ vs,o.data ≠ .fields vs:=fun b hb=>(fl.2.2.1.mem hb).2
 obtain⟨oe,vs,h1,h2,h3⟩:=he
 have new:s0.heap.get? ea=none:=by
  cases q:s0.heap.get? ea with
  | none=>rfl
  | some o =>
   by_cases hb:ea∈iy X.stack
   ·obtain⟨ob,q3,d⟩:=fm ea hb
    obtain⟨s4,q4⟩:=sl ea _ q3 d
    rw[h1]at q4
    cases q4
    exact absurd h3 (d vs)
   ·obtain⟨o',e⟩:=mE ea o q hb
    rw[fl.2.1]at e;cases e
 refine⟨Inv.WD (s' := { s' with heap:=h5 }) I os ((un.on mE fl.1 k5 sl fm).more new hn) ?_ bare (fun b z=>absurd z (by simp)),hn⟩
 intro b u e
 have tup:∀ c xs,H' c=some (.tup xs)->upd H' ea (XO ea C) c=some (.tup xs):=fun c xs z=>by rw[aE (bQ z hn)];exact z
 have own:∀ c y,H' c=some (.own y)->upd H' ea (XO ea C) c=some (.own y):=fun c y z=>by rw[aE (bQ z hn)];exact z
 by_cases hb:b=ea
 ·subst hb
  rw[aF]at e
  cases e
  refine⟨⟨oe,h1,h2⟩,⟨oe,h1⟩,fun g1 g2 ⟨o,z1,z2⟩ k=>⟨o,k o z1,z2⟩⟩
 ·rw[aE hb]at e
  exact(bh b u e).sY (fun c v hc q=>k5 _ _ q) (fun c z=>own c b z) tup
end
theorem BG{X:Cx}{ah:List (Addr × Obj)}{Y:St}{H:Hp}{s:Shared}{M:Model}{A:Around}{E:Value->Shared->Prop}{i:Nat}{n:Str}{pos:Pos}{Q:Unit->Shared->Prop}(I:Inv X ah Y H s)(hN:X.N.Nodup)(hi:X.N[i]? = some n)(hk:X.env.scope.names.lookup n=some .local)(h:∀ s',Inv X ah (Y.set i none) H s'->Q () s'):wpAny M A (do bindName X.env n .none;unbindBehindTheSuite X.env n pos) Q E s:=by
 obtain⟨m,hn,hl⟩:=id I.loc
 have Uu:(X.env.scope.kind == .class || (X.env.scope.kind == .module && X.env.locals != X.env.globals))=false:=by rw[I.ok.kind];rfl
 have OU : i < Y.length:=by rw[I.len];exact(ai.mp hi).1
 have A5:=I.A5
 obtain⟨oL,_,_,hoL,_⟩:=id hn
 refine wpAny_nameGoes_keeps hk hn Uu fun h' v hn' hs =>?_
 refine h _ ⟨I.ok,I.os,I.bare,⟨fun b o e n hb hx =>?_,fun b o e n hb hx =>?_,I.base.free,fun b o e hx =>?_,I.base.qN,I.base.pY,I.base.pG⟩,⟨_,hn',fun j y v' e1 e2 e3 =>?_⟩,fun y c e =>?_,I.free,I.nO,fun p hp =>?_,fun b ob e =>?_,by simpa using I.len⟩
 ·exact(hs.2 b (br (bu (aP e) I.ok.above))).trans (I.base.keep b o e n hb hx)
 ·obtain⟨sl,e1⟩:=I.base.slot b o e n hb hx
  exact⟨sl,(hs.2 b (br (bu (aP e) I.ok.above))).trans e1⟩
 ·obtain⟨o',e1⟩:=I.base.there b o e hx
  exact⟨o',(hs.2 b (br (bu (aP e) I.ok.above))).trans e1⟩
 ·by_cases hj:j=i
  ·subst hj
   rw[oC OU]at e2
   cases e2
  ·rw[qr (cm hj)]at e2
   obtain⟨u',r',q⟩:=hl j y v' e1 e2 e3
   refine⟨u',r',?_⟩
   rcases q with⟨k,e⟩ | ⟨k,c,e,z⟩
   ·refine .inl ⟨k,?_⟩
    have:y≠n:=fun e=>hj (C0 hN e1 (e ▸ hi))
    simp[this,e]
   ·exact .inr ⟨k,c,e,z.sameBut hs (A5 y c e)⟩
 ·obtain⟨w',z⟩:=I.cell y c e
  exact⟨w',z.sameBut hs (A5 y c e)⟩
 ·obtain⟨e,n,ne,nf,d⟩:=I.pin p hp
  exact⟨(hs.2 p.1 ne).trans e,n,ne,nf,d⟩
 ·refine(I.bh b ob e).sY (fun c w' hc q=>(hs.2 c ?_).trans q) (fun _ q=>q) fun _ _ q=>q
  rintro rfl
  rcases hc with rfl | hc
  ·rw[I.free]at e;cases e
  ·rw[I.free]at hc;cases hc
def acE(X:Cx)(ah:List (Addr × Obj))(Y:St)(E:XK)(xe:Value->Shared->Prop):Prop := ∀ (H0:Hp) (s0:Shared) (e:Value) (s':Shared),Inv X ah Y H0 s0->qA X.prog X.w X.stack H0 s0 E e s'->xe e s'
def PEt(X:Cx)(e:Expr)(t:XK->TE):Prop := ∀ (E:XK) (ah:List (Addr × Obj)) (s:Shared) (Y:St) (H:Hp) (Q:VK) (xe:Value->Shared->Prop),acE X ah Y E xe->Inv X ah Y H s->t E Y H Q ->
 wpAny (model X.prog X.w) X.A (eval e X.env) (EP X ah Y Q) xe s
def PSt(X:Cx)(st:List Stmt)(t:XK->TS):Prop := ∀ (E:XK) (ah:List (Addr × Obj)) (s:Shared) (Y:St) (H:Hp) (D:Ends) (xe:Value->Shared->Prop),acE X ah Y E xe->Inv X ah Y H s->t E D Y H ->
 wpAny (model X.prog X.w) X.A (execs st X.env) (SP X ah D) xe s
section
variable {X:Cx}{k:Nat}{f:Addr}{fd:FuncData}{ps:List Str}{sp:Sp}{jz:List V}{ds:List Value}{x:Str}{p pos:Pos}{e:Expr}{es:List Expr}{t:TA}
theorem Xh{CX:w5}{E:XK}{xe:Value->Shared->Prop}{ah:List (Addr × Obj)}{Y:St}{H:Hp}{s:Shared}{Q:VK}{us:List Value}{vs:List V}(F:lC X.prog X.w X.K X.mg X.base CX k f fd ps sp)(hr:fg k X.A)(hb:Binds X.K fd ps ds)(hd:Vals jz ds)(I:Inv X ah Y H s)(hx:∀ e s',CX X.stack H s E e s'->xe e s')(r:Vals vs us)(h:sp (vs ++ jz) H Q E):wpAny (model X.prog X.w) X.A (call (.ref f) us) (EP X ah Y Q) xe s:=by
 have r2:Vals (vs ++ jz) (us ++ ds):=r.append hd
 have hl:(us ++ ds).length=ps.length:=by rw[<- r2.length];exact F.len _ _ _ _ h
 refine wpAny_call (codeAny_mono (F.run X.A X.stack s H ⟨us, []⟩ (us ++ ds) (vs ++ jz) Q E hr I.UD (hb s us I.jy hl) r2 h) fun r s' hq =>?_)
 cases r with
 | error e=>exact hx e s' hq
 | ok fl =>
  cases fl with
  | ret u=>exact I.after hq
  | next=>exact dy hq
  | brk=>exact dy hq
  | cont=>exact dy hq
theorem Tj(F:lC X.prog X.w X.K X.mg X.base (qA X.prog X.w) k f fd ps sp)(hr:fg k X.A)(hg:Gl X x)(hm:X.mg x=some (.ref f))(hk:du X.K (.ref f)=true)(hb:Binds X.K fd ps ds)(hd:Vals jz ds)(ha:PA X.Jq (e :: es) t)(sJ:(x == ("__debug__" : Str))=false:=by decide)(he:starEach (e :: es) X.env=(false,eval e X.env) :: starEach es X.env:=by rfl)(mC:(backTo pos (starEach es X.env)).any (·.1)=false:=by rfl) :
  PEt X (.Call (.Name x p) (e :: es) [] pos) (fun E=>Bs sp jz E t):=by
 intro E ah s Y H Q xe W I h
 refine wpAny_Call_Name_kw (uN I hg hm ?_ sJ)
 refine nv (h₀ := X.base) I.ok.mod.D6 hk (wpAny_mono (ha pos ah s Y H _ (I.uW _) h) (fun us s1 ⟨vs,H1,I1,r,q⟩=>⟨I1.mQ.jy,?_⟩) fun _ _ z=>dy z) he mC
 exact Xh F hr hb hd I1.mQ (fun e s' hq=>W H1 s1 e s' I1.mQ hq) r q
end
def agh(K:ao)(CH:Addr)(i:Nat)(tb:XK->TS)(th:TS):TS:=fun D Y H =>
 tb (fun cls _ H'=>∃ C,cls = .ref C∧nQ K (.ref C) (.ref CH)=some true∧∀ ea,H' ea=none ->
  th { nx:=fun bw gQ=>D.nx (bw.set i none) gQ,rt:=D.rt,bk:=fun bw gQ=>D.bk (bw.set i none) gQ,ct:=fun bw gQ=>D.ct (bw.set i none) gQ } (Y.set i (some (.ref ea))) (upd H' ea (XO ea C))) D Y H
theorem Ql{X:Cx}{body:List Stmt}{tb:XK->TS}{th:TS}{x n:Str}{i:Nat}{CH:Addr}{acx : Stmt}{Vk:List Stmt}{np J0 pos:Pos}(jV:X.stack=X.env :: X.outer∧X.env.frame=some X.env.locals)(hN:X.N.Nodup)(hi:X.N[i]? = some n)(hl:X.env.scope.names.lookup n=some .local)(hg:Gl X x)(hm:X.mg x=some (.ref CH))(hb:PSt X body tb)(hh:∀ ea:Addr,qj (X.r9 (X.A.mark (some (.ref ea))) fun _ _=>False) (acx :: Vk) th)(hd:(x == ("__debug__" : Str))=false:=by decide) :
  PS X (.Try body [.ExceptHandler (some (.Name x np)) (some n) (acx :: Vk) J0] [] [] pos) (agh X.K CH i tb th):=by
 intro ah s Y H D I h
 refine wpAny_Try_except (wpAny_mono (hb _ ah s Y H D _ ?W I h) (fun f s1 q =>?_) fun _ _ z=>z)
 case W =>
  intro H0 s0 e s' I0 hx
  obtain⟨ea,C,a0,B,H',rfl,fl,os,bare,bh,un,mE,_,_,C',hc,hex,hth⟩:=hx
  cases hc
  have Q5:X.A.frames=some (X.env :: X.outer):=by rw[I0.ok.frames,jV.1]
  have fl0:jP B (X.env :: X.outer) ea (.ref C) a0 s'.heap:=by rw[<- jV.1];exact fl
  refine wpAny_looks_onW Q5 jV.2 fl0 fun ON XZ Vo =>?_
  refine wpAny_landsW XZ fun C6 O5 Vn =>?_
  obtain⟨o5,vs5,g1,g2,g3,_⟩:=O5.first
  obtain⟨I5,AS⟩:=EK (h5:=C6) I0 fl os bare bh un mE O5.1 (Vo.trans Vn) ⟨o5,vs5,g1,g2,g3⟩
  have J5:Inv (X.r9 (X.A.mark (some (.ref ea))) fun _ _=>False) ah Y (upd H' ea (XO ea C)) { s' with heap:=C6 }:=I5.r9 rfl
  refine wpAny_handleBy_cons (codeAny_handlers_test (uN J5 hg hm ?_ hd)) (by intro q;cases q)
  have LT:oH (model X.prog X.w) C6 (typeOf (.ref ea)) (.ref C):=g2 ▸ (vJ g1).andThen .now
  refine(PySem.W.exm_one (M:=model X.prog X.w) I5.jy LT hex).at ?_
  show codeAny _ _ _ _ _
  refine codeAny_handlers_suite_as ?_
  refine lands_againW O5 fun OM Wv adq =>?_
  obtain⟨o6,vs6,j1,j2,j3,_⟩:=Wv.first
  obtain⟨I6,_⟩:=EK (h5:=OM) I0 fl os bare bh un mE Wv.1 ((Vo.trans Vn).trans adq) ⟨o6,vs6,j1,j2,j3⟩
  refine yw I6 hN hi (.inl hl) (v := .ref ea) rfl (fun s7 J7 =>?_) (.inr hl)
  refine wpAny_mono (hh ea ah s7 _ _ _ (J7.r9 rfl) (hth ea AS)) (fun f s8 q8 =>?_) fun _ _ z=>dy z
  have back:∀ {bw gQ}{s9:Shared},Inv (X.r9 (X.A.mark (some (.ref ea))) fun _ _=>False) ah bw gQ s9->Inv X ah bw gQ s9:=fun J=>J.Zm I0.ok.hd rfl
  cases f with
  | next =>
   obtain⟨bw,gQ,J,q⟩:=q8
   exact BG (back J) hN hi hl fun s9 I9=>⟨_,_,I9,q⟩
  | brk =>
   obtain⟨bw,gQ,J,q⟩:=q8
   exact BG (back J) hN hi hl fun s9 I9=>⟨_,_,I9,q⟩
  | cont =>
   obtain⟨bw,gQ,J,q⟩:=q8
   exact BG (back J) hN hi hl fun s9 I9=>⟨_,_,I9,q⟩
  | ret u =>
   obtain⟨v, bw,gQ,J,r,q⟩:=q8
   exact BG (back J) hN hi hl fun s9 I9=>⟨v,_,_,I9,r,q⟩
 cases f with
 | next=>exact wpAny_execs_nil q
 | brk=>exact q
 | cont=>exact q
 | ret u=>exact q
structure LD(K:ao)(C:Addr):Prop where
 cl:bH K (.ref C) "__class__" = some (some (.builtin "object.__class__"))
 ga:bH K (.ref C) "__getattribute__" = some (some (.builtin "BaseException.__getattribute__"))
 gn:bH K (.ref C) "__getattr__" = some none
theorem UP{X:Cx}{x:Str}{C:Addr}(On:Exc X.K X.mg x C)(Z:LD X.K C) :
  kr X (.builtin "isinstance") (fun xs H Q=>∃ ea c cv b,xs = [.ref ea,c]∧H ea=some (XO ea C)∧RelV c cv∧(∀ u v,RelV c u->RelV c v->u=v)∧bS X.K (.ref C) cv=some b∧Q (.bl b) H):=by
 intro ah s Y H xs us Q I r h
 obtain⟨ea,c,cv,b,rfl,AS,rc,Wb,e,q⟩:=h
 obtain⟨u,w',rfl,rx,ry⟩:=vals2 r
 cases (show u=aH ea from rx)
 obtain⟨⟨o,h1,h2⟩,_⟩:=(show cY X.prog X.w H s.heap ea (XO ea C) from I.bh ea _ AS)
 have hw:w'=cv:=Wb _ _ ry rc
 subst hw
 obtain⟨bm,N,nm,qn,bs,hdct,sn,sub,ab,col,dd,k0,k1,k2,k3,k5,mN,hC,hN,G2,TL⟩:=(On.own I.jy).obj
 have hob:bm.contains (.type "object")=true:=TL.hasType (by decide +kernel)
 have hbb:bm.contains (.type "BaseException")=true:=TL.hasType (by decide +kernel)
 have Zx:Lq X.K (.ref ea) (.ref C) (fun h=>(∃ o,h.get? ea=some o∧o.cls = .ref C)) := {
  ty:=fun M h _ p=>by
   obtain⟨o,h1,h2⟩:=p
   exact h2 ▸ (vJ h1).andThen .now
  it:=fun M h XX _=>by
   obtain⟨bm,N,nm,qn,bs,hdct,sn,sub,ab,col,dd,k0,k1,k2,k3,k5,mN,hC,_⟩:=(On.own XX).obj
   intro A' Q' E' s' k q
   unfold isType loadHead
   exact wpAny_bind (wpAny_loadPart (k _ _ hC) (wpAny_pure q))
  ne:=fun h tp ya its n sl XX xQ=>by
   obtain⟨bm,N,nm,qn,bs,hdct,sn,sub,ab,col,dd,k0,k1,k2,k3,k5,mN,hC,_⟩:=(On.own XX).obj
   refine BY.mpr fun q =>?_
   have e:C=tp:=HU (beq_iff_eq.mp q)
   subst e
   rw[hC]at xQ
   have z2:=congrArg Obj.cls (aD xQ)
   exact absurd (g9 z2) (by decide)
  ca:=fun {prog w A E Q s} XX p hq=>by
   obtain⟨bm,N,nm,qn,bs,hdct,sn,sub,ab,col,dd,k0,k1,k2,k3,k5,mN,hC,hN,G2,TL⟩:=(On.own XX).obj
   obtain⟨o,h1,h2⟩:=p
   obtain⟨hp,g,d,t,os⟩:=s
   exact Ma hC (TL.hasType (by decide +kernel)) (TL.hasType (by decide +kernel)) (gk XX Z.cl) (gk XX Z.ga) (gk XX Z.gn) h1 h2 hq }
 exact eF Zx I.jy ⟨o,h1,h2⟩ e nofun fun tk=>⟨.bl b,H,I.tok _,O,q⟩
theorem D8{M:Model}{A:Around}{E:Value->Shared->Prop}{R R':Str->Shared->Prop}(h:∀ z s,R z s->R' z s):∀ {l:List (Sem Value)}{acc:Str}{s:Shared},Joins M A E l acc R s->Joins M A E l acc R' s
 | [],acc,s,q=>h _ _ q
 | x :: r,acc,s,q=>wpAny_mono q (fun v s1 ⟨y,t,e,hz,q1⟩=>⟨y,t,e,hz,D8 h q1⟩) fun _ _ z=>z
section
variable {X:Cx}
abbrev TJ:=St->Hp->(Hp->Prop)->Prop
def PJ(X:Cx)(es:List Expr)(t:TJ):Prop := ∀ (ah:List (Addr × Obj)) (s:Shared) (Y:St) (H:Hp) (acc:Str) (Q:Hp->Prop),Inv X ah Y H s->acc.length+1000 * es.length<=100000 ->
 t Y H Q->Joins (model X.prog X.w) X.A X.xe (evalEach es X.env) acc (fun gY s1=>gY.length<=100000∧∃ H1,Inv X ah Y H1 s1∧Q H1) s
def ag6:TJ:=fun _ H Q=>Q H
def adL(te:TE)(t:TJ):TJ:=fun Y H Q=>te Y H fun x H1=>∃ z,x = .str z∧z.length<=1000∧t Y H1 Q
theorem ZE:PJ X [] ag6:=fun ah s Y H acc R I hl h=>⟨by simpa using hl,H,I,h⟩
theorem Bw{e:Expr}{es:List Expr}{te:TE}{t:TJ}(he:PE X e te)(hr:PJ X es t)(hs:evalEach (e :: es) X.env=eval e X.env :: evalEach es X.env:=by rfl):PJ X (e :: es) (adL te t):=by
 intro ah s Y H acc R I hl h
 rw[hs]
 rw[bO]at hl
 refine bB (he ah s Y H _ I h) fun v s1 ⟨x,H1,I1,rx,z,ex,hz,q⟩ =>?_
 subst ex
 obtain⟨tk,rfl⟩:=rx
 have eD:(acc ++ z).length=acc.length+z.length:=BN _ _
 refine⟨z,tk,O,by rw[eD];exact bf (by omega:_<=100000) (by decide),hr ah s1 Y H1 (acc ++ z) R I1 (by rw[eD];omega) q⟩
def W6(n:Nat)(t:TJ):TE:=fun Y H Q=>n<=90∧t Y H fun H1=>∀ z:Str,Q (.str z) H1
theorem Qr{a b:Expr}{r:List Expr}{t:TJ}{pos:Pos}(h:PJ X (a :: b :: r) t):PE X (.JoinedStr (a :: b :: r) pos) (W6 (a :: b :: r).length t):=by
 intro ah s Y H Q I hw
 obtain⟨hn,hq⟩:=hw
 refine wpAny_JoinedStr (D8 (fun z s1 ⟨hz,H1,I1,q⟩=>⟨bf hz (by decide),⟨.str z,H1,I1.tok _,⟨_,O⟩,q z⟩⟩) (h ah s Y H Hx _ I ?_ hq))
 show 0+_<=_
 omega
def adk(tv:TE):TE:=fun Y H Q=>tv Y H fun x H1=>∃ i,x = .int i∧i.natAbs.log2 < 1920∧Q (.str (toString i)) H1
theorem Mv{v:Expr}{tv:TE}{pos:Pos}(h:PE X v tv):PE X (.FormattedValue v (-1) none pos) (adk tv):=by
 intro ah s Y H Q I hw
 refine FormattedValue_plain (bB (h ah s Y H _ I hw) fun u s1 ⟨x,H1,I1,rx,i,ex,hi,q⟩ =>?_)
 subst ex
 obtain⟨tk,rfl⟩:=rx
 exact formatField_int_small hi ⟨.str _,H1,I1.tok _,⟨_,O⟩,q⟩
end
theorem Bi.okE{P:Program}{w:World}{K:ao}{mg:Str->Option Value}{base:Heap}{x qual:Str}{st:Stmt}{f:Addr}{fd:FuncData}{N ps:List Str}{k:Nat}{sp:Sp}(F:Bi K x qual st f fd)(S:cy N ps (aX st))(len:∀ vs H Q E,sp vs H Q E->vs.length=ps.length)(nN:∀ (cJ:Value) (A:Around) (outer:List Env) (s:Shared) (H:Hp) (vs:List V) (Q:VK) (E:XK),fg k (A.deeper (envOfC qual (aX st) s.heap.objs.size f cJ))->sp vs H Q E ->
   ∃ t,qj (dR (qA P w) P w K mg base N qual (aX st) f cJ A outer s H E) (fW st) t∧t { nx:=fun _ H'=>Q .cG H',rt:=Q } (start N vs) H):lC P w K mg base (qA P w) (k+1) f fd ps sp:=by
 obtain⟨oc,od,kV,doc,pm,an,cJ,ct,zA,rfl,lk,m9⟩:=F.ex
 exact O4 lk m9 S len fun A outer s H vs Q E hr zD=>nN cJ A outer s H vs Q E hr zD
structure Gh(P:Program)(w:World)(K:ao)(mg:Str->Option Value)(base:Heap)(k:Nat)(x:Str)(ps:List Str)(sp:Sp):Prop where
 ex:∃ f fd,lC P w K mg base (qA P w) k f fd ps sp∧mg x=some (.ref f)∧du K (.ref f)=true∧Binds K fd ps []
structure lY(P:Program)(w:World)(K:ao)(mg:Str->Option Value)(base:Heap)(k:Nat)(C:Addr)(m:Str)(ps:List Str)(sp:Sp):Prop where
 ex:∃ f fd,lC P w K mg base (qA P w) k f fd ps sp∧Meth K C m f∧Binds K fd ps []
structure Pj(P:Program)(w:World)(K:ao)(mg:Str->Option Value)(base:Heap)(k:Nat)(x:Str)(C:Addr)(ps:List Str)(sp:Sp):Prop where
 ex:∃ f fd,lC P w K mg base (qA P w) k f fd ps sp∧mg x=some (.ref C)∧Mk K C f∧Binds K fd ps []
structure nF(K:ao)(C:Addr)(m qual:Str)(st:Stmt)(ps:List Str):Prop where
 ex:∃ f fd,Bi K m qual st f fd∧Meth K C m f∧Binds K fd ps []
structure Pn(K:ao)(mg:Str->Option Value)(x:Str)(C:Addr)(qual:Str)(st:Stmt)(ps:List Str):Prop where
 ex:∃ f fd,Bi K "__init__" qual st f fd∧mg x=some (.ref C)∧Mk K C f∧Binds K fd ps []
section
variable {P:Program}{w:World}{K:ao}{mg:Str->Option Value}{base:Heap}{x m qual:Str}{C:Addr}{st:Stmt}{N ps:List Str}{k:Nat}{sp:Sp}
theorem nF.has(D:nF K C m qual st ps)(S:cy N ps (aX st))(len:∀ vs H Q E,sp vs H Q E->vs.length=ps.length)(nN:∀ (f:Addr) (cJ:Value) (A:Around) (outer:List Env) (s:Shared) (H:Hp) (vs:List V) (Q:VK) (E:XK),fg k (A.deeper (envOfC qual (aX st) s.heap.objs.size f cJ))->sp vs H Q E ->
   ∃ t,qj (dR (qA P w) P w K mg base N qual (aX st) f cJ A outer s H E) (fW st) t∧t { nx:=fun _ H'=>Q .cG H',rt:=Q } (start N vs) H):lY P w K mg base (k+1) C m ps sp:=by
 obtain⟨f,fd,F,hm,hb⟩:=D.ex
 exact⟨f,fd,F.okE S len (nN f),hm,hb⟩
theorem Pn.has(D:Pn K mg x C qual st ps)(S:cy N ps (aX st))(len:∀ vs H Q E,sp vs H Q E->vs.length=ps.length)(nN:∀ (f:Addr) (cJ:Value) (A:Around) (outer:List Env) (s:Shared) (H:Hp) (vs:List V) (Q:VK) (E:XK),fg k (A.deeper (envOfC qual (aX st) s.heap.objs.size f cJ))->sp vs H Q E ->
   ∃ t,qj (dR (qA P w) P w K mg base N qual (aX st) f cJ A outer s H E) (fW st) t∧t { nx:=fun _ H'=>Q .cG H',rt:=Q } (start N vs) H):Pj P w K mg base (k+1) x C ps sp:=by
 obtain⟨f,fd,F,hm,hb⟩:=D.ex
 exact⟨f,fd,F.okE S len (nN f),hm,hb⟩
end
section
variable {X:Cx} {k k':Nat}{x m:Str}{C:Addr}{ps:List Str}{sp:Sp}{p pos c9:Pos}{e o:Expr}{es:List Expr}{ta:TE}{t:TA}{E:XK}
theorem Tx(h:Gh X.prog X.w X.K X.mg X.base k x ps sp)(hr:fg k' X.A)(hk:k<=k')(hx:Passes (qA X.prog X.w) X E)(hg:Gl X x)(ha:PA X (e :: es) t)(sJ:(x == ("__debug__" : Str))=false:=by decide)(he:starEach (e :: es) X.env=(false,eval e X.env) :: starEach es X.env:=by rfl)(mC:(backTo pos (starEach es X.env)).any (·.1)=false:=by rfl) :
  PE X (.Call (.Name x p) (e :: es) [] pos) (Bs sp [] E t):=by
 obtain⟨f,fd,F,hm,Kh,hb⟩:=h.ex
 exact Mw F (hr.mono hk) hg hm Kh hb .nil hx ha sJ he mC
theorem GH(h:Gh X.prog X.w X.K X.mg X.base k x ps sp)(hr:fg k' X.A)(hk:k<=k')(hg:Gl X x)(ha:PA X.Jq (e :: es) t)(sJ:(x == ("__debug__" : Str))=false:=by decide)(he:starEach (e :: es) X.env=(false,eval e X.env) :: starEach es X.env:=by rfl)(mC:(backTo pos (starEach es X.env)).any (·.1)=false:=by rfl) :
  PEt X (.Call (.Name x p) (e :: es) [] pos) (fun E=>Bs sp [] E t):=by
 obtain⟨f,fd,F,hm,Kh,hb⟩:=h.ex
 exact Tj F (hr.mono hk) hg hm Kh hb .nil ha sJ he mC
theorem ux{pl:Sem Bool}(h:lY X.prog X.w X.K X.mg X.base k C m ps sp)(c:ym X.K C)(hr:fg k' X.A)(hk:k<=k')(hx:Passes (qA X.prog X.w) X E)(he:PE X o ta)(ha:PA X (e :: es) t)(jV:starEach (e :: es) X.env=(false,eval e X.env) :: starEach es X.env:=by rfl)(mC:(backTo pos (starEach es X.env)).any (·.1)=false:=by rfl)(ht:eval (.Call (.Attribute o m c9) (e :: es) [] pos) X.env=(do
   let ov <- eval o X.env
   standAt c9.atName
   let (f,first) <- holding [ov] (getMethod ov m pl)
   callWith pos f first (backTo pos (starEach (e :: es) X.env)) (backToKw pos (keywordEach [] X.env))):=by rfl) :
  PE X (.Call (.Attribute o m c9) (e :: es) [] pos) (HZ C m sp [] E ta t):=by
 obtain⟨f,fd,F,hm,hb⟩:=h.ex
 exact Xu he c hm F (hr.mono hk) hb .nil hx ha jV mC ht
theorem ZJ{pl:Sem Bool}(h:lY X.prog X.w X.K X.mg X.base k C m ps sp)(c:ym X.K C)(hr:fg k' X.A)(hk:k<=k')(hx:Passes (qA X.prog X.w) X E)(he:PE X o ta)(ht:eval (.Call (.Attribute o m c9) [] [] pos) X.env=(do
   let ov <- eval o X.env
   standAt c9.atName
   let (f,first) <- holding [ov] (getMethod ov m pl)
   callWith pos f first (backTo pos (starEach [] X.env)) (backToKw pos (keywordEach [] X.env))):=by rfl) :
  PE X (.Call (.Attribute o m c9) [] [] pos) (HZ C m sp [] E ta yt):=by
 obtain⟨f,fd,F,hm,hb⟩:=h.ex
 exact Tt he c hm F (hr.mono hk) hb .nil hx ht
theorem Tu(h:Pj X.prog X.w X.K X.mg X.base k x C ps sp)(hr:fg k' X.A)(hk:k+1<=k')(hx:Passes (qA X.prog X.w) X E)(hg:Gl X x)(ha:PA X (e :: es) t)(sJ:(x == ("__debug__" : Str))=false:=by decide)(he:starEach (e :: es) X.env=(false,eval e X.env) :: starEach es X.env:=by rfl)(mC:(backTo pos (starEach es X.env)).any (·.1)=false:=by rfl) :
  PE X (.Call (.Name x p) (e :: es) [] pos) (Vg C sp [] E t):=by
 obtain⟨f,fd,F,hm,M,hb⟩:=h.ex
 exact Xv M F (hr.mono hk) hg hm hb .nil hx ha sJ he mC
end
theorem Dg:bootBuiltins "ValueError" = some (.type "ValueError"):=by rfl
theorem A7{X:Cx}{K:ao}(hK:X.K=K){x:Str}{C:Addr}(On:Exc K X.mg x C)(Z:LD K C) :
  kr X (.builtin "isinstance") (fun xs H Q=>∃ ea c cv b,xs = [.ref ea,c]∧H ea=some (XO ea C)∧RelV c cv∧(∀ u v,RelV c u->RelV c v->u=v)∧bS K (.ref C) cv=some b∧Q (.bl b) H):=by
 subst hK
 exact UP On Z
section
variable {X:Cx}
end
theorem Hj{K:ao}{a:Addr}{xs ys:List V}{te:TE}{Y:St}{caps:List (Str × Nat)}{H:Hp}{Q:VK}(hS:bM K H a xs)(hz:xs.length<=1000)(hy:ys.length=xs.length)(Ce:∀ (i:Nat) (x y:V),xs[i]? = some x->ys[i]? = some y->∀ H',bJ H H'->∀ Q':VK,(∀ gQ,bJ H' gQ->Q' y gQ)->te (some x :: jY Y caps) H' Q')(hq:∀ D H',H D=none->bJ H H'->H' D=some (.lst ys)->Q (.ref D) H') :
  zr (NX K a) (bq 0) te (bR 1 none ++ jY Y caps) H Q:=by
 intro D hD
 refine⟨fun i m G zs H'=>m=xs.length - i∧i<=xs.length∧(∃ o, G = o :: jY Y caps)∧zs=ys.take i∧bJ H H'∧H' D=some (.lst zs),⟨xs.length,by simp,bx _,⟨none,O⟩,by simp,bo hD _,aF⟩,?_⟩
 rintro i m G zs H' ⟨rfl,hi,⟨o,rfl⟩,rfl,sm,xX⟩
 refine⟨xX,?_⟩
 by_cases cW:i < xs.length
 ·refine .inr ⟨⟨xs,xs[i],sm.tup hS,by simp[cW]⟩,?_,fun x gQ y =>?_⟩
  ·rw[bW]
   exact cU (by omega)
  obtain⟨e,y⟩:=y
  subst e
  have hx:=y xs (sm.tup hS)
  have hyi:ys[i]? = some ys[i]:=aj (by omega)
  show te (some x :: jY Y caps) _ _
  refine Ce i x ys[i] hx hyi _ sm _ (fun H2 s2 =>?_)
  refine⟨s2 _ _ xX,xs.length - (i+1),by omega,O,cW,⟨_,O⟩,?_,(sm.trans s2).put hD,?_⟩
  ·rw[iw,hyi];rfl
  ·rw[aF]
 ·have e:i=xs.length:=by omega
  subst e
  refine .inl ⟨⟨xs,sm.tup hS,ar _⟩,?_⟩
  rw[<- hy,bK]at xX
  exact hq D H' hD sm xX
inductive D where
 | cG | int (i:Int) | str (x:Str) | tup (ds:List D) | lst (ds:List D)
instance:DecidableEq D:=fun _ _=>iL _
mutual
def D.deep:D->Nat
 | .tup ds=>D.dX ds+1
 | .lst ds=>D.dX ds+1
 | .cG=>0
 | .int _=>0
 | .str _=>0
def D.dX:List D->Nat
 | []=>0
 | d :: ds=>max d.deep (D.dX ds)
end
theorem vE:∀ {ds:List D}{d:D},d∈ds->d.deep<=D.dX ds
 | e :: ds,d,h=>by
  rw[D.dX]
  rcases aW.mp h with rfl | h
  ·omega
  ·have:=vE h;omega
mutual
def bP(h:Heap):D->Value->Prop
 | .cG,u=>u=da
 | .int i,u=>(∃ t,u=ni i t)∨∃ b,u=jt b∧i=(if b then 1 else 0)
 | .str x,u=>∃ t,u=pC x t
 | .tup ds,u=>∃ a us,u=aH a∧h.IsTuple a us.toArray∧eG h ds us
 | .lst ds,u=>∃ a us,u=aH a∧h.IsList a us.toArray∧eG h ds us
def eG(h:Heap):List D->List Value->Prop
 | [],us=>us = []
 | d :: ds,us=>∃ u dj,us=u :: dj∧bP h d u∧eG h ds dj
end
mutual
def Den(H:Hp):D->V->Prop
 | .cG,v=>v = .cG
 | .int i,v=>v = .int i∨∃ b,v = .bl b∧i=(if b then 1 else 0)
 | .str x,v=>v = .str x
 | .tup ds,v=>∃ a vs,v = .ref a∧H a=some (.tup vs)∧oj H ds vs
 | .lst ds,v=>∃ a vs,v = .ref a∧H a=some (.lst vs)∧oj H ds vs
def oj(H:Hp):List D->List V->Prop
 | [],vs=>vs = []
 | d :: ds,vs=>∃ v jk,vs=v :: jk∧Den H d v∧oj H ds jk
end
theorem g6{h:Heap}:∀ {ds:List D}{us:List Value},eG h ds us->us.length=ds.length
 | [],us,r=>by rw[eG]at r;subst r;rfl
 | d :: ds,us,r=>by
  rw[eG]at r
  obtain⟨u,dj,rfl,_,r⟩:=r
  rw[bO,bO,g6 r]
theorem oO{h:Heap}:∀ {ds:List D}{us:List Value}{j:Nat}{d:D},eG h ds us->ds[j]? = some d->∃ u,us[j]? = some u∧bP h d u
 | [],us,j,d,r,e=>by simp at e
 | c :: ds,us,0,d,r,e=>by
  rw[eG]at r
  obtain⟨u,dj,rfl,r1,_⟩:=r
  simp at e;subst e
  exact⟨u,O,r1⟩
 | c :: ds,us,j+1,d,r,e=>by
  rw[eG]at r
  obtain⟨u,dj,rfl,_,r⟩:=r
  obtain⟨u',e',r'⟩:=oO (j:=j) (d:=d) r (by simpa using e)
  exact⟨u',by simpa using e',r'⟩
theorem j9{H:Hp}{d:D}{v:V}{ds:List D}{vs:List V}(r:Den H d v)(q:oj H ds vs):oj H (d :: ds) (v :: vs):=by
 rw[oj];exact⟨v,vs,O,r,q⟩
theorem vD{H:Hp}:oj H [] []:=by rw[oj]
mutual
theorem pB{P:Program}{w:World}{H:Hp}{h:Heap}(ok:gE P w H h):∀ {d:D}{v:V}{u:Value},Den H d v->RelV v u->bP h d u
 | .cG,v,u,r,q=>by rw[Den]at r;subst r;rw[bP];exact q
 | .int i,v,u,r,q=>by
  rw[Den]at r
  rw[bP]
  rcases r with rfl | ⟨b,rfl,e⟩
  ·exact .inl q
  ·exact .inr ⟨b,q,e⟩
 | .str x,v,u,r,q=>by rw[Den]at r;subst r;rw[bP];exact q
 | .tup ds,v,u,r,q=>by
  rw[Den]at r
  obtain⟨a,vs,rfl,e,r⟩:=r
  rw[bP]
  obtain⟨_,its,rv,p⟩:=(show cY P w H h a (.tup vs) from ok a _ e)
  exact⟨a,its,q,p.tup,Df ok r rv⟩
 | .lst ds,v,u,r,q=>by
  rw[Den]at r
  obtain⟨a,vs,rfl,e,r⟩:=r
  rw[bP]
  obtain⟨_,its,n,rv,p⟩:=(show cY P w H h a (.lst vs) from ok a _ e)
  exact⟨a,its,q,⟨_,p,O,n,O⟩,Df ok r rv⟩
theorem Df{P:Program}{w:World}{H:Hp}{h:Heap}(ok:gE P w H h):∀ {ds:List D}{vs:List V}{us:List Value},oj H ds vs->Vals vs us->eG h ds us
 | [],vs,us,r,q=>by rw[oj]at r;subst r;cases q;rw[eG]
 | d :: ds,vs,us,r,q=>by
  rw[oj]at r
  obtain⟨v,jk,rfl,r1,r⟩:=r
  cases q with
  | cons q1 q2 =>
   rw[eG]
   exact⟨_,_,O,pB ok r1 q1,Df ok r q2⟩
end
theorem Md{h:Heap}{a:Addr}{x y:Array Value}(p:h.IsTuple a x)(q:h.IsTuple a y):x=y:=by
 obtain⟨o,e,_,n,d⟩:=p
 obtain⟨o',e',_,n',d'⟩:=q
 rw[e]at e';cases e'
 rw[d]at d'
 injection d'
theorem XN{h:Heap}{a:Addr}{x y:Array Value}(p:h.IsList a x)(q:h.IsList a y):x=y:=by
 obtain⟨o,e,_,n,d⟩:=p
 obtain⟨o',e',_,n',d'⟩:=q
 rw[e]at e';cases e'
 rw[d]at d'
 injection d'
theorem MI{h:Heap}{a:Addr}{x y:Array Value}(p:h.IsList a x)(q:h.IsTuple a y):False:=by
 obtain⟨o,e,c,n,d⟩:=p
 obtain⟨o',e',c',n',d'⟩:=q
 rw[e]at e';cases e'
 rw[c]at c'
 exact absurd (g9 c') (by decide)
mutual
theorem za{h:Heap}:∀ {d e:D}{u:Value},bP h d u->bP h e u->d=e
 | .cG,e,u,r,q=>by
  rw[bP]at r;subst r
  cases e with
  | cG=>rfl
  | int i=>rw[bP]at q;rcases q with⟨t,z⟩ | ⟨b,z,_⟩ <;> cases z
  | str x=>rw[bP]at q;obtain⟨t,z⟩:=q;cases z
  | tup es=>rw[bP]at q;obtain⟨a,us,z,_⟩:=q;cases z
  | lst es=>rw[bP]at q;obtain⟨a,us,z,_⟩:=q;cases z
 | .int i,e,u,r,q=>by
  rw[bP]at r
  cases e with
  | cG=>rw[bP]at q;subst q;rcases r with⟨t,z⟩ | ⟨b,z,_⟩ <;> cases z
  | int j =>
   rw[bP]at q
   rcases r with⟨t,rfl⟩ | ⟨b,rfl,hb⟩ <;> rcases q with⟨t',z⟩ | ⟨b',z,ug⟩ <;> cases z
   ·rfl
   ·rw[hb,ug]
  | str x=>rw[bP]at q;obtain⟨t,rfl⟩:=q;rcases r with⟨t,z⟩ | ⟨b,z,_⟩ <;> cases z
  | tup es=>rw[bP]at q;obtain⟨a,us,rfl,_⟩:=q;rcases r with⟨t,z⟩ | ⟨b,z,_⟩ <;> cases z
  | lst es=>rw[bP]at q;obtain⟨a,us,rfl,_⟩:=q;rcases r with⟨t,z⟩ | ⟨b,z,_⟩ <;> cases z
 | .str x,e,u,r,q=>by
  rw[bP]at r
  obtain⟨t,rfl⟩:=r
  cases e with
  | cG=>rw[bP]at q;cases q
  | int i=>rw[bP]at q;rcases q with⟨t,z⟩ | ⟨b,z,_⟩ <;> cases z
  | str x=>rw[bP]at q;obtain⟨t,z⟩:=q;cases z;rfl
  | tup es=>rw[bP]at q;obtain⟨a,us,z,_⟩:=q;cases z
  | lst es=>rw[bP]at q;obtain⟨a,us,z,_⟩:=q;cases z
 | .tup ds,e,u,r,q=>by
  rw[bP]at r
  obtain⟨a,us,rfl,p,r⟩:=r
  cases e with
  | cG=>rw[bP]at q;cases q
  | int i=>rw[bP]at q;rcases q with⟨t,z⟩ | ⟨b,z,_⟩ <;> cases z
  | str x=>rw[bP]at q;obtain⟨t,z⟩:=q;cases z
  | tup es =>
   rw[bP]at q;obtain⟨a',dj,z,p',q⟩:=q;cases z
   have e:us=dj:=by have:=Md p p';simpa using this
   subst e
   rw[A4 r q]
  | lst es=>rw[bP]at q;obtain⟨a',dj,z,p',_⟩:=q;cases z;exact absurd p (fun p=>MI p' p)
 | .lst ds,e,u,r,q=>by
  rw[bP]at r
  obtain⟨a,us,rfl,p,r⟩:=r
  cases e with
  | cG=>rw[bP]at q;cases q
  | int i=>rw[bP]at q;rcases q with⟨t,z⟩ | ⟨b,z,_⟩ <;> cases z
  | str x=>rw[bP]at q;obtain⟨t,z⟩:=q;cases z
  | tup es=>rw[bP]at q;obtain⟨a',dj,z,p',_⟩:=q;cases z;exact absurd p (fun p=>MI p p')
  | lst es =>
   rw[bP]at q;obtain⟨a',dj,z,p',q⟩:=q;cases z
   have e:us=dj:=by have:=XN p p';simpa using this
   subst e
   rw[A4 r q]
theorem A4{h:Heap}:∀ {ds es:List D}{us:List Value},eG h ds us->eG h es us->ds=es
 | [],es,us,r,q=>by
  rw[eG]at r;subst r
  cases es with
  | nil=>rfl
  | cons e es=>rw[eG]at q;obtain⟨u,dj,z,_⟩:=q;cases z
 | d :: ds,es,us,r,q=>by
  rw[eG]at r
  obtain⟨u,dj,rfl,r1,r⟩:=r
  cases es with
  | nil=>rw[eG]at q;cases q
  | cons e es =>
   rw[eG]at q;obtain⟨u',N4,z,q1,q⟩:=q
   cases z
   rw[za r1 q1,A4 r q]
end
theorem zb{p:Prop}[Decidable p]{b:Bool}(h:p↔b=true):b=decide p:=by
 cases b with
 | true=>exact(decide_eq_true (h.mpr rfl)).symm
 | false=>exact(decide_eq_false fun z=>a5 (h.mp z)).symm
theorem Li(ds es:List D):((bA (min ds.length es.length)).all (fun j=>decide (ds[j]? = es[j]?)) && ds.length == es.length)=decide (ds=es):=by
 refine zb ⟨fun h=>by subst h;simp,fun h =>?_⟩
 rw[jS,oS]at h
 have hl:ds.length=es.length:=eq_of_beq h.2
 refine d9 fun j =>?_
 by_cases hj:j < ds.length
 ·exact of_decide_eq_true (h.1 j (cI.mpr (by omega)))
 ·rw[eY (by omega),eY (by omega)]
theorem Nv(ds es:List D)(hl:ds.length=es.length):(bA ds.length).all (fun j=>decide (ds[j]? = es[j]?))=decide (ds=es):=by
 have:=Li ds es
 rw[<- hl,Nat.min_self]at this
 simpa using this
section
open SeqAt
variable {A:Around}{s:Shared}
theorem bD{u v:Value}{b c:Bool}(h:EqAt A s u v b)(e:b=c):EqAt A s u v c:=e ▸ h
theorem KU:∀ (n:Nat) {d e:D}{A:Around}{u v:Value},d.deep<=n->bP s.heap d u->bP s.heap e v->A.units+n < cLine->EqAt A s u v (decide (d=e)):=by
 intro n
 induction n with
 | zero =>?_
 | succ n ih =>?_
 all_goals intro d e A u v hn r q hu
 all_goals have mf:A.units < cLine:=by omega
 all_goals cases d with
  | cG =>
   rw[bP]at r;subst r
   cases e with
   | cG=>rw[bP]at q;subst q;exact bD (HH _) (decide_eq_true rfl).symm
   | int j =>
    rw[bP]at q
    rcases q with⟨t,rfl⟩ | ⟨b,rfl,_⟩
    ·exact bD (EqAt.none_int j t) (decide_eq_false nofun).symm
    ·exact bD (EqAt.none_bool b) (decide_eq_false nofun).symm
   | str y=>rw[bP]at q;obtain⟨t,rfl⟩:=q;exact bD (EqAt.none_str y t) (decide_eq_false nofun).symm
   | tup es=>rw[bP]at q;obtain⟨a,us,rfl,p,_⟩:=q;exact bD (EqAt.none_tuple p mf) (decide_eq_false nofun).symm
   | lst es=>rw[bP]at q;obtain⟨a,us,rfl,p,_⟩:=q;exact bD (EqAt.none_list p mf) (decide_eq_false nofun).symm
  | int i =>
   rw[bP]at r
   cases e with
   | cG =>
    rw[bP]at q;subst q
    rcases r with⟨t,rfl⟩ | ⟨b,rfl,_⟩
    ·exact bD (EqAt.int_none i t) (decide_eq_false nofun).symm
    ·exact bD (EqAt.bool_none b) (decide_eq_false nofun).symm
   | int j =>
    rw[bP]at q
    have key:∀ x y:Int,(x == y)=decide (D.int x=D.int y):=fun x y=>zb ⟨fun z=>by cases z;simp,fun z=>by rw[eq_of_beq z]⟩
    rcases r with⟨t,rfl⟩ | ⟨b,rfl,hb⟩ <;> rcases q with⟨t',rfl⟩ | ⟨b',rfl,ug⟩
    ·exact bD (EqAt.int_int i t j t') (key i j)
    ·rw[ug];exact bD (EqAt.int_bool i t b') (key _ _)
    ·rw[hb];exact bD (EqAt.bool_int b j t') (key _ _)
    ·rw[hb,ug];exact bD (EqAt.bool_bool b b') (by rw[<- key];cases b <;> cases b' <;> rfl)
   | str y =>
    rw[bP]at q;obtain⟨t,rfl⟩:=q
    rcases r with⟨t',rfl⟩ | ⟨b,rfl,_⟩
    ·exact bD (EqAt.int_str i t' y t) (decide_eq_false nofun).symm
    ·exact bD (EqAt.bool_str b y t) (decide_eq_false nofun).symm
   | tup es =>
    rw[bP]at q;obtain⟨a,us,rfl,p,_⟩:=q
    rcases r with⟨t',rfl⟩ | ⟨b,rfl,_⟩
    ·exact bD (EqAt.int_tuple i t' p mf) (decide_eq_false nofun).symm
    ·exact bD (EqAt.bool_tuple b p mf) (decide_eq_false nofun).symm
   | lst es =>
    rw[bP]at q;obtain⟨a,us,rfl,p,_⟩:=q
    rcases r with⟨t',rfl⟩ | ⟨b,rfl,_⟩
    ·exact bD (EqAt.int_list i t' p mf) (decide_eq_false nofun).symm
    ·exact bD (EqAt.bool_list b p mf) (decide_eq_false nofun).symm
  | str x =>
   rw[bP]at r;obtain⟨t',rfl⟩:=r
   cases e with
   | cG=>rw[bP]at q;subst q;exact bD (EqAt.str_none x t') (decide_eq_false nofun).symm
   | int j =>
    rw[bP]at q
    rcases q with⟨t,rfl⟩ | ⟨b,rfl,_⟩
    ·exact bD (EqAt.str_int x t' j t) (decide_eq_false nofun).symm
    ·exact bD (EqAt.str_bool x t' b) (decide_eq_false nofun).symm
   | str y =>
    rw[bP]at q;obtain⟨t,rfl⟩:=q
    exact bD (EqAt.str_str x t' y t) (zb ⟨fun z=>by cases z;simp,fun z=>by rw[eq_of_beq z]⟩)
   | tup es=>rw[bP]at q;obtain⟨a,us,rfl,p,_⟩:=q;exact bD (EqAt.str_tuple x t' p mf) (decide_eq_false nofun).symm
   | lst es=>rw[bP]at q;obtain⟨a,us,rfl,p,_⟩:=q;exact bD (EqAt.str_list x t' p mf) (decide_eq_false nofun).symm
  | tup ds =>?_
  | lst ds =>?_
 ·rw[D.deep]at hn;omega
 ·rw[D.deep]at hn;omega
 ·rw[D.deep]at hn
  have r0:=r
  rw[bP]at r
  obtain⟨a,us,rfl,p,r⟩:=r
  cases e with
  | cG=>rw[bP]at q;subst q;exact bD (EqAt.tuple_none p mf) (decide_eq_false nofun).symm
  | int j =>
   rw[bP]at q
   rcases q with⟨t,rfl⟩ | ⟨b,rfl,_⟩
   ·exact bD (EqAt.tuple_int j t p mf) (decide_eq_false nofun).symm
   ·exact bD (EqAt.tuple_bool b p mf) (decide_eq_false nofun).symm
  | str y=>rw[bP]at q;obtain⟨t,rfl⟩:=q;exact bD (EqAt.tuple_str y t p mf) (decide_eq_false nofun).symm
  | tup es =>
   have q0:=q
   rw[bP]at q
   obtain⟨b,dj,rfl,p',q⟩:=q
   by_cases ia:a=b
   ·subst ia
    rw[za r0 q0]
    exact bD (HH _) (decide_eq_true rfl).symm
   ·refine bD (Bj ia (RcAt.tuples (e:=fun j=>decide (ds[j]? = es[j]?)) p p' mf fun j h1 h2 =>?_)) ?_
    ·have l1:=g6 r
     have l2:=g6 q
     have Rn:j < us.length:=by simpa using h1
     have Rl:j < dj.length:=by simpa using h2
     have e1:=aj (l:=ds) (i:=j) (by omega)
     have e2:=aj (l:=es) (i:=j) (by omega)
     obtain⟨u,f1,g1⟩:=oO r e1
     obtain⟨v,f2,g2⟩:=oO q e2
     have z1:us.toArray[j]=u:=by rw[aj Rn]at f1;simpa using f1
     have z2:dj.toArray[j]=v:=by rw[aj Rl]at f2;simpa using f2
     rw[z1,z2]
     have:=ih (d:=ds[j]) (e:=es[j]) (A:=A.in1) (by have:=vE (jO (l:=ds) (n:=j) (by omega));omega) g1 g2 (by show A.units+1+n < cLine;omega)
     refine bD this ?_
     rw[e1,e2]
     exact decide_eq_decide.mpr ⟨fun z=>by rw[z],fun z=>aD z⟩
    ·have:=Li ds es
     simp only[aJ,g6 r,g6 q]
     rw[this]
     exact decide_eq_decide.mpr ⟨fun z=>by rw[z],fun z=>by injection z⟩
  | lst es=>rw[bP]at q;obtain⟨b,dj,rfl,p',_⟩:=q;exact bD (EqAt.tuple_list p p' mf) (decide_eq_false nofun).symm
 ·rw[D.deep]at hn
  have r0:=r
  rw[bP]at r
  obtain⟨a,us,rfl,p,r⟩:=r
  cases e with
  | cG=>rw[bP]at q;subst q;exact bD (EqAt.list_none p mf) (decide_eq_false nofun).symm
  | int j =>
   rw[bP]at q
   rcases q with⟨t,rfl⟩ | ⟨b,rfl,_⟩
   ·exact bD (EqAt.list_int j t p mf) (decide_eq_false nofun).symm
   ·exact bD (EqAt.list_bool b p mf) (decide_eq_false nofun).symm
  | str y=>rw[bP]at q;obtain⟨t,rfl⟩:=q;exact bD (EqAt.list_str y t p mf) (decide_eq_false nofun).symm
  | tup es=>rw[bP]at q;obtain⟨b,dj,rfl,p',_⟩:=q;exact bD (EqAt.list_tuple p p' mf) (decide_eq_false nofun).symm
  | lst es =>
   have q0:=q
   rw[bP]at q
   obtain⟨b,dj,rfl,p',q⟩:=q
   have l1:=g6 r
   have l2:=g6 q
   by_cases ia:a=b
   ·subst ia
    rw[za r0 q0]
    exact bD (HH _) (decide_eq_true rfl).symm
   by_cases hl:ds.length=es.length
   ·refine bD (Bj ia (RcAt.lists (e:=fun j=>decide (ds[j]? = es[j]?)) p p' (by simp only[aJ];omega) mf fun j h1 h2 =>?_)) ?_
    ·have Rn:j < us.length:=by simpa using h1
     have Rl:j < dj.length:=by simpa using h2
     have e1:=aj (l:=ds) (i:=j) (by omega)
     have e2:=aj (l:=es) (i:=j) (by omega)
     obtain⟨u,f1,g1⟩:=oO r e1
     obtain⟨v,f2,g2⟩:=oO q e2
     have z1:us.toArray[j]=u:=by rw[aj Rn]at f1;simpa using f1
     have z2:dj.toArray[j]=v:=by rw[aj Rl]at f2;simpa using f2
     rw[z1,z2]
     have:=ih (d:=ds[j]) (e:=es[j]) (A:=A.in1) (by have:=vE (jO (l:=ds) (n:=j) (by omega));omega) g1 g2 (by show A.units+1+n < cLine;omega)
     refine bD this ?_
     rw[e1,e2]
     exact decide_eq_decide.mpr ⟨fun z=>by rw[z],fun z=>aD z⟩
    ·have:=Nv ds es hl
     simp only[aJ,l1]
     rw[this]
     exact decide_eq_decide.mpr ⟨fun z=>by rw[z],fun z=>by injection z⟩
   ·refine bD (Bj ia (RcAt.lists_lengths p p' (by simp only[aJ];simp;omega) mf)) ?_
    exact(decide_eq_false (fun z=>hl (by injection z with z;rw[z]))).symm
end
section
variable {X:Cx}
inductive So(x:V)(y:V)(H:Hp)(Q:VK):Prop
 | mk:∀ ds es,(((Den H (.tup ds) x∧Den H (.tup es) y)∨(Den H (.lst ds) x∧Den H (.lst es) y)))->(D.dX ds<=150)->(Q (.bl (!decide (ds=es))) H)->So x y H Q
def agE:R2:=fun x y H Q=>So x y H Q
theorem EF{A:Around}{s:Shared}{ds es:List D}{us dj:List Value}(hu:A.units+151 < cLine)(hd:D.dX ds<=150)(r:eG s.heap ds us)(q:eG s.heap es dj)(j:Nat)(h1:j < us.toArray.size)(h2:j < dj.toArray.size) :
  qg A.in1 s us.toArray[j] dj.toArray[j] (decide (ds[j]? = es[j]?)):=by
 have l1:=g6 r
 have l2:=g6 q
 have Rn:j < us.length:=by simpa using h1
 have Rl:j < dj.length:=by simpa using h2
 have e1:=aj (l:=ds) (i:=j) (by omega)
 have e2:=aj (l:=es) (i:=j) (by omega)
 obtain⟨u,f1,g1⟩:=oO r e1
 obtain⟨v,f2,g2⟩:=oO q e2
 have z1:us.toArray[j]=u:=by rw[aj Rn]at f1;simpa using f1
 have z2:dj.toArray[j]=v:=by rw[aj Rl]at f2;simpa using f2
 rw[z1,z2]
 refine bD (KU 150 (by have:=vE (jO (l:=ds) (n:=j) (by omega));omega) g1 g2 (by show A.units+1+150 < cLine;omega)) ?_
 rw[e1,e2]
 exact decide_eq_decide.mpr ⟨fun z=>by rw[z],fun z=>aD z⟩
theorem ZQ(hu:X.A.units+151 < cLine):lI X (compareOp .NotEq) agE:=by
 intro ah s Y H x y v u Q I rx ry h
 obtain⟨ds,es,hh,hd,q⟩:=h
 have mf:X.A.units < cLine:=by omega
 rcases hh with⟨h1,h2⟩ | ⟨h1,h2⟩
 ·have g1:=pB I.bh h1 rx
  have g2:=pB I.bh h2 ry
  rw[bP]at g1 g2
  obtain⟨a,us,rfl,p,r⟩:=g1
  obtain⟨b,dj,rfl,p',r'⟩:=g2
  refine Ba.tuples (e:=fun j=>decide (ds[j]? = es[j]?)) p p' mf (EF hu hd r r') _ _ _ _ ?_
  refine⟨.bl (!decide (ds=es)),H,I,?_,q⟩
  have:=Li ds es
  simp only[aJ,g6 r,g6 r']
  rw[this]
  rfl
 ·have g1:=pB I.bh h1 rx
  have g2:=pB I.bh h2 ry
  rw[bP]at g1 g2
  obtain⟨a,us,rfl,p,r⟩:=g1
  obtain⟨b,dj,rfl,p',r'⟩:=g2
  have l1:=g6 r
  have l2:=g6 r'
  by_cases hl:ds.length=es.length
  ·refine Ba.lists (e:=fun j=>decide (ds[j]? = es[j]?)) p p' (by simp only[aJ];omega) mf (EF hu hd r r') _ _ _ _ ?_
   refine⟨.bl (!decide (ds=es)),H,I,?_,q⟩
   have:=Nv ds es hl
   simp only[aJ,l1]
   rw[this]
   rfl
  ·refine Ba.lists_lengths p p' (by simp only[aJ];simp;omega) mf _ _ _ _ ⟨.bl (!decide (ds=es)),H,I,?_,q⟩
   rw[decide_eq_false (fun z=>hl (by rw[z]))]
   rfl
inductive Ss(neg:Bool)(x:V)(y:V)(H:Hp)(Q:VK):Prop
 | mk:∀ d ds,(Den H d x)->((Den H (.lst ds) y∨Den H (.tup ds) y))->(D.dX ds<=150)->(Q (.bl (if neg then !decide (d∈ds) else decide (d∈ds))) H)->Ss neg x y H Q
def agH(neg:Bool):R2:=fun x y H Q=>Ss neg x y H Q
def Nf(h:Heap)(d:D)(y:Value):Bool := @decide (bP h d y) (iL _)
theorem Ry{h:Heap}{d e:D}{y:Value}(r:bP h e y):Nf h d y=decide (e=d):=by
 unfold Nf
 by_cases z:e=d
 ·subst z;rw[decide_eq_true rfl];exact @decide_eq_true _ (iL _) r
 ·rw[decide_eq_false z];exact @decide_eq_false _ (iL _) fun q=>z (za r q)
theorem Hi{h:Heap}:∀ {ds:List D}{us:List Value}{u:Value},eG h ds us->u∈us->∃ d∈ds,bP h d u
 | [],us,u,r,m=>by rw[eG]at r;subst r;cases m
 | d :: ds,us,u,r,m=>by
  rw[eG]at r
  obtain⟨v,dj,rfl,r1,r⟩:=r
  rcases aW.mp m with rfl | m
  ·exact⟨d,bb,r1⟩
  ·obtain⟨e,he,q⟩:=Hi r m
   exact⟨e,aR _ he,q⟩
theorem Ga{h:Heap}{d:D}:∀ {ds:List D}{us:List Value},eG h ds us->us.any (Nf h d)=decide (d∈ds)
 | [],us,r=>by rw[eG]at r;subst r;simp
 | e :: ds,us,r=>by
  rw[eG]at r
  obtain⟨v,dj,rfl,r1,r⟩:=r
  rw[tN,Ga r,Ry r1]
  refine zb ⟨fun z =>?_,fun z =>?_⟩
  ·rcases aW.mp z with rfl | z
   ·simp
   ·rw[decide_eq_true z];simp
  ·rw[Fe]at z
   rcases z with z | z
   ·rw[of_decide_eq_true z];exact bb
   ·exact aR _ (of_decide_eq_true z)
theorem Qu(hu:X.A.units+151 < cLine):lI X (compareOp .NotIn) (agH true):=by
 intro ah s Y H x y v u Q I rx ry h
 obtain⟨d,ds,h1,h2,hd,q⟩:=h
 have g1:=pB I.bh h1 rx
 have el:∀ us:List Value,eG s.heap ds us->∀ y,y∈us.toArray->qg X.A.in1 s y v (Nf s.heap d y):=fun us r y hy=>by
  obtain⟨e,he,r1⟩:=Hi r (by simpa using hy)
  refine bD (KU 150 (by have:=vE he;omega) r1 g1 (by show X.A.units+1+150 < cLine;omega)) (Ry r1).symm
 rcases h2 with h2 | h2
 ·have g2:=pB I.bh h2 ry
  rw[bP]at g2
  obtain⟨b,dj,rfl,p',r'⟩:=g2
  refine SeqAt.notIn_listAt (Nf s.heap d) p' (el dj r') ⟨.bl (!decide (d∈ds)),H,I,?_,q⟩
  rw[<- Ga r']
  show jt _=jt _
  rw[Ds]
 ·have g2:=pB I.bh h2 ry
  rw[bP]at g2
  obtain⟨b,dj,rfl,p',r'⟩:=g2
  refine SeqAt.notIn_tupleAt (Nf s.heap d) p' (el dj r') ⟨.bl (!decide (d∈ds)),H,I,?_,q⟩
  rw[<- Ga r']
  show jt _=jt _
  rw[Ds]
end
section
variable {κ : Type} [DecidableEq κ]
def bL(kvs:List (κ × V))(k : κ):Option V:=(kvs.find? fun kv=>decide (kv.1=k)).map (·.2)
def eW(kvs:List (κ × V))(k : κ)(v:V):List (κ × V) :=
 if (kvs.any fun kv=>decide (kv.1=k))=true then kvs.map (fun kv=>if kv.1=k then (kv.1,v) else kv) else kvs ++ [(k,v)]
def lQ(kvs:List (κ × V))(k : κ):List (κ × V):=kvs.filter fun kv=>decide (kv.1≠k)
theorem yq{k : κ}:bL ([]:List (κ × V)) k=none:=rfl
theorem eV{p : κ × V}{r:List (κ × V)}{k : κ}(e:p.1=k):bL (p :: r) k=some p.2:=by simp[bL,ip,e]
theorem eI{p : κ × V}{r:List (κ × V)}{k : κ}(e:¬ p.1=k):bL (p :: r) k=bL r k:=by simp[bL,ip,e]
theorem lM(k : κ):∀ kvs:List (κ × V),(kvs.any fun kv=>decide (kv.1=k))=(bL kvs k).isSome
 | []=>rfl
 | p :: r=>by
  rw[tN]
  by_cases e:p.1=k
  ·simp only[eV e,decide_eq_true e,Bool.true_or,Option.isSome_some]
  ·rw[eI e,decide_eq_false e,Bool.false_or];exact lM k r
theorem Iq(k j : κ)(y:V):∀ kvs:List (κ × V),bL (kvs.map fun kv=>if kv.1=k then (kv.1,y) else kv) j=(bL kvs j).map fun x=>if j=k then y else x
 | []=>rfl
 | p :: r=>by
  have ih:=Iq k j y r
  rw[aS]
  by_cases h:p.1=k
  ·rw[if_pos h]
   by_cases e:p.1=j
   ·rw[eV (p:=(p.1,y)) e,eV e,qk,if_pos (e.symm.trans h)]
   ·rw[eI (p:=(p.1,y)) e,eI e,ih]
  ·rw[if_neg h]
   by_cases e:p.1=j
   ·rw[eV (p:=p) e,eV e,qk,if_neg (fun z=>h (e.trans z))]
   ·rw[eI (p:=p) e,eI e,ih]
theorem wj(k j : κ)(y:V):∀ kvs:List (κ × V),bL kvs k=none->bL (kvs ++ [(k,y)]) j=if j=k then some y else bL kvs j
 | [],_=>by
  by_cases e:k=j
  ·rw[if_pos e.symm];exact eV (p:=(k,y)) e
  ·rw[if_neg (fun z=>e z.symm)];exact eI (p:=(k,y)) e
 | p :: r,hn=>by
  rw[vR]
  have hk:¬ p.1=k:=fun z=>by rw[eV z]at hn;cases hn
  rw[eI hk]at hn
  have ih:=wj k j y r hn
  by_cases e:p.1=j
  ·rw[eV e,eV e,if_neg (fun z=>hk (e.trans z))]
  ·rw[eI e,eI e,ih]
theorem oJ(kvs:List (κ × V))(k j : κ)(y:V):bL (eW kvs k y) j=if j=k then some y else bL kvs j:=by
 unfold eW
 by_cases a:(kvs.any fun kv=>decide (kv.1=k))=true
 ·rw[if_pos a,Iq]
  rw[lM]at a
  by_cases e:j=k
  ·obtain⟨x,hx⟩:=jJ.mp a
   rw[if_pos e,e,hx,qk,if_pos rfl]
  ·rw[if_neg e]
   cases bL kvs j with
   | none=>rfl
   | some x=>rw[qk,if_neg e]
 ·rw[if_neg a]
  refine wj k j y kvs ?_
  rw[lM]at a
  cases q:bL kvs k with
  | none=>rfl
  | some x=>rw[q]at a;exact(a rfl).elim
theorem xk(kvs:List (κ × V))(k : κ)(v:V):(eW kvs k v).length<=kvs.length+1:=by
 unfold eW
 split
 ·rw[az];omega
 ·rw[aG,bO,mK];omega
theorem qT{kvs:List (κ × V)}{k : κ}(v:V)(h:bL kvs k=none):eW kvs k v=kvs ++ [(k,v)]:=by
 unfold eW
 rw[lM,h]
 exact if_neg (by decide)
theorem jZ.pe{o:Option V}{u:Option Value}(r:jZ o u):o.isSome=u.isSome:=by
 cases o with
 | none=>cases u with
  | none=>rfl
  | some _=>exact(show False from r).elim
 | some _=>cases u with
  | none=>exact(show False from r).elim
  | some _=>rfl
theorem jZ.getD{o:Option V}{u:Option Value}{d:V}{d':Value}(r:jZ o u)(rd:RelV d d'):RelV (o.getD d) (u.getD d'):=by
 cases o with
 | none=>cases u with
  | none=>exact rd
  | some _=>exact(show False from r).elim
 | some _=>cases u with
  | none=>exact(show False from r).elim
  | some _=>exact r
theorem KV.val{kvs:List (κ × V)}{vs:List (κ × Value)}(r:KV kvs vs)(k : κ):jZ (bL kvs k) (valueAt vs k):=by
 unfold KV at r
 induction r with
 | nil=>exact ft
 | @cons p q ps qs h t ih =>
  obtain⟨h1,h2⟩:=h
  by_cases e:p.1=k
  ·have e':q.1=k:=h1.symm.trans e
   have b:valueAt (q :: qs) k=some q.2:=by simp[valueAt,ip,e']
   rw[eV e,b];exact h2
  ·have e':¬ q.1=k:=fun z=>e (h1.trans z)
   have b:valueAt (q :: qs) k=valueAt qs k:=by simp[valueAt,ip,e']
   rw[eI e,b];exact ih
theorem KV.any{kvs:List (κ × V)}{vs:List (κ × Value)}(r:KV kvs vs)(k : κ):(kvs.any fun kv=>decide (kv.1=k))=vs.any fun kv=>decide (kv.1=k):=by
 unfold KV at r
 induction r with
 | nil=>rfl
 | cons h t ih=>rw[tN,tN,ih,h.1]
theorem KV.IX{kvs:List (κ × V)}{vs:List (κ × Value)}(r:KV kvs vs)(k : κ){y:V}{u:Value}(ry:RelV y u) :
  KV (kvs.map fun kv=>if kv.1=k then (kv.1,y) else kv) (vs.map fun kv=>if kv.1=k then (kv.1,u) else kv):=by
 unfold KV at r ⊢
 induction r with
 | nil=>exact .nil
 | @cons p q ps qs h t ih =>
  rw[aS,aS]
  refine .cons ?_ ih
  obtain⟨h1,h2⟩:=h
  by_cases e:p.1=k
  ·rw[if_pos e,if_pos (h1.symm.trans e)];exact⟨h1,ry⟩
  ·rw[if_neg e,if_neg (fun z=>e (h1.trans z))];exact⟨h1,h2⟩
theorem KV.put{kvs:List (κ × V)}{vs:List (κ × Value)}(r:KV kvs vs)(k : κ){y:V}{u:Value}(ry:RelV y u):KV (eW kvs k y) (stored vs k u):=by
 unfold eW stored
 rw[r.any k]
 by_cases e:(vs.any fun kv=>decide (kv.1=k))=true
 ·rw[if_pos e,if_pos e];exact r.IX k ry
 ·rw[if_neg e,if_neg e];exact rQ r ⟨O,ry⟩
theorem KV.drop{kvs:List (κ × V)}{vs:List (κ × Value)}(r:KV kvs vs)(k : κ):KV (lQ kvs k) (without vs k):=by
 unfold KV at r ⊢
 unfold lQ without
 induction r with
 | nil=>exact .nil
 | @cons p q ps qs h t ih =>
  obtain⟨h1,h2⟩:=h
  rw[oR,oR]
  by_cases e:p.1=k
  ·have a:¬ decide (p.1≠k)=true:=by simp[e]
   have b:¬ decide (q.1≠k)=true:=by simp[h1.symm.trans e]
   rw[if_neg a,if_neg b];exact ih
  ·have e':¬ q.1=k:=fun z=>e (h1.trans z)
   have a:decide (p.1≠k)=true:=by simp[e]
   have b:decide (q.1≠k)=true:=by simp[e']
   rw[if_pos a,if_pos b];exact .cons ⟨h1,h2⟩ ih
theorem KV.keys{kvs:List (κ × V)}{vs:List (κ × Value)}(r:KV kvs vs):kvs.map (·.1)=vs.map (·.1):=by
 unfold KV at r
 induction r with
 | nil=>rfl
 | cons h t ih=>rw[aS,aS,ih,h.1]
theorem KV.length{kvs:List (κ × V)}{vs:List (κ × Value)}(r:KV kvs vs):kvs.length=vs.length:=aV r
theorem UH(kvs:List (κ × V))(k : κ):(lQ kvs k).length<=kvs.length:=jc _ _
end
theorem yO{P:Program}{w:World}{k:Key}{u:Value}(r:RelV (kV k) u):(di P w).is k u=true:=by
 cases k with
 | inl i=>obtain⟨t,e⟩:=(show ∃ t,u=ni i t from r);subst e;exact LY P w i t
 | inr x=>obtain⟨t,e⟩:=(show ∃ t,u=pC x t from r);subst e;exact LX P w x t
theorem GS{P:Program}{w:World}:∀ {ks:List Key}{us:List Value},Vals (ks.map kV) us->ItemsAre (di P w) ks us
 | [],_,r=>by rw[fE]at r;cases r;exact .nil
 | k :: ks,_,r=>by
  rw[aS]at r
  cases r with
  | cons h t=>exact .cons (yO h) (GS t)
abbrev KT(H:Hp):List (List Key × V)->List (List Key × Addr × Value)->Prop:=Paired fun p q=>p.1=q.1∧H q.2.1=some (.tup (p.1.map kV))∧RelV p.2 q.2.2
theorem KT.val{H:Hp}{kvs:List (List Key × V)}{xs:List (List Key × Addr × Value)}(r:KT H kvs xs)(k:List Key):jZ (bL kvs k) ((atKey xs k).map (·.2)):=by
 induction r with
 | nil=>exact ft
 | @cons p q ps qs h t ih =>
  obtain⟨h1,_,h2⟩:=h
  by_cases e:p.1=k
  ·have e':q.1=k:=h1.symm.trans e
   have b:atKey (q :: qs) k=some q.2:=by simp[atKey,ip,e']
   rw[eV e,b];exact h2
  ·have e':¬ q.1=k:=fun z=>e (h1.trans z)
   have b:atKey (q :: qs) k=atKey qs k:=by simp[atKey,ip,e']
   rw[eI e,b];exact ih
theorem KT.IX{H:Hp}{kvs:List (List Key × V)}{xs:List (List Key × Addr × Value)}(r:KT H kvs xs)(k:List Key){y:V}{u:Value}(ry:RelV y u) :
  KT H (kvs.map fun kv=>if kv.1=k then (kv.1,y) else kv) (xs.map (putAt k u)):=by
 induction r with
 | nil=>exact .nil
 | @cons p q ps qs h t ih =>
  rw[aS,aS]
  refine .cons ?_ ih
  obtain⟨h1,h2,h3⟩:=h
  unfold putAt
  by_cases e:p.1=k
  ·rw[if_pos e,if_pos (h1.symm.trans e)];exact⟨h1,h2,ry⟩
  ·rw[if_neg e,if_neg (fun z=>e (h1.trans z))];exact⟨h1,h2,h3⟩
theorem KT.put{H:Hp}{kvs:List (List Key × V)}{xs:List (List Key × Addr × Value)}(r:KT H kvs xs)(k:List Key){b:Addr}{y:V}{u:Value}(hb:H b=some (.tup (k.map kV)))(ry:RelV y u) :
  KT H (eW kvs k y) (storedH xs k b u):=by
 have e:(kvs.any fun kv=>decide (kv.1=k))=(atKey xs k).isSome:=by
  rw[lM,(r.val k).pe,kI]
 unfold eW storedH
 rw[e]
 by_cases q:(atKey xs k).isSome=true
 ·rw[if_pos q,if_pos q];exact r.IX k ry
 ·rw[if_neg q,if_neg q];exact rQ r ⟨O,hb,ry⟩
theorem KT.keeps{H H':Hp}{kvs:List (List Key × V)}{xs:List (List Key × Addr × Value)}(r:KT H kvs xs)(ht:∀ b ys,H b=some (.tup ys)->H' b=some (.tup ys)):KT H' kvs xs :=
 Paired.xj r fun _ _ z=>⟨z.1,ht _ _ z.2.1,z.2.2⟩
section
variable {P:Program}{w:World}{H:Hp}{h:Heap}{a:Addr}
theorem Vr{u:HO}(ok:gE P w H h)(e:Rd H a u):cY P w H h a u:=e.ok ok
theorem ED{kvs:List (Key × V)}(ok:gE P w H h)(e:Rd H a (.dK kvs)):kvs.length<=sizeLine∧(a == sysModules)=false∧∃ vs,KV kvs vs∧h.DictOf (di P w) a vs :=
 show cY P w H h a (.dK kvs) from Vr ok e
theorem Ij{kvs:List (Key × V)}(ok:gE P w H h)(e:H a=some (.dK kvs)):kvs.length<=sizeLine∧(a == sysModules)=false∧∃ vs,KV kvs vs∧h.DictOf (di P w) a vs:=ED ok (.inl e)
theorem AK{ks:List Key}(ok:gE P w H h)(e:H a=some (.tup (ks.map kV))):(tupleKind (di P w)).is h ks a:=by
 obtain⟨_,its,r,o,h1,h2,n,h3,_⟩:=(show cY P w H h a (.tup (ks.map kV)) from ok a _ e)
 exact⟨o,its.toArray,n,h1,h2,h3,by simpa using GS r⟩
theorem Ey{kvs:List (List Key × V)}(ok:gE P w H h)(e:Rd H a (.dT kvs)):kvs.length<=sizeLine∧(a == sysModules)=false ∧
  ∃ xs,KT H kvs xs∧h.DictOfH (tupleKind (di P w)) a xs:=by
 obtain⟨z,y,xs,r,o,es,ep,h1,h2,h3,h4,h5⟩:=(show cY P w H h a (.dT kvs) from Vr ok e)
 refine⟨z,y,xs,r,o,es,ep,h1,h2,h3,h4,fun x hx =>?_,h5⟩
 have all:∀ {l:List (List Key × V)}{m:List (List Key × Addr × Value)},KT H l m->∀ x∈m,(tupleKind (di P w)).is h x.1 x.2.1:=by
  intro l m q
  induction q with
  | nil=>intro x hx;exact nomatch hx
  | @cons p q ps qs hq t ih =>
   intro x hx
   rcases aW.mp hx with e | hx
   ·subst e
    exact AK ok (by rw[<- hq.1];exact hq.2.1)
   ·exact ih x hx
 exact all r x hx
theorem ad1{kvs:List (List Key × V)}(ok:gE P w H h)(e:H a=some (.dT kvs)):kvs.length<=sizeLine∧(a == sysModules)=false ∧
  ∃ xs,KT H kvs xs∧h.DictOfH (tupleKind (di P w)) a xs:=Ey ok (.inl e)
end
def v9(H:Hp)(a:Addr)(y:V)(r:Option V):Prop :=
 (∃ kvs k,Rd H a (.dK kvs)∧y=kV k∧r=bL kvs k)∨∃ kvs k b,Rd H a (.dT kvs)∧y = .ref b∧H b=some (.tup (k.map kV))∧r=bL kvs k
def Dx(H:Hp)(a:Addr)(y v:V)(H':Hp):Prop :=
 (∃ kvs k,H a=some (.dK kvs)∧y=kV k∧kvs.length < sizeLine∧H'=upd H a (.dK (eW kvs k v))) ∨
 ∃ kvs k b,H a=some (.dT kvs)∧y = .ref b∧H b=some (.tup (k.map kV))∧kvs.length < sizeLine∧H'=upd H a (.dT (eW kvs k v))
theorem v9.k{H:Hp}{a:Addr}{kvs:List (Key × V)}{k:Key}(e:H a=some (.dK kvs)):v9 H a (kV k) (bL kvs k) := .inl ⟨kvs,k,.inl e,O,O⟩
theorem Dx.k{H:Hp}{a:Addr}{kvs:List (Key × V)}{k:Key}{v:V}(e:H a=some (.dK kvs))(hl:kvs.length < sizeLine):Dx H a (kV k) v (upd H a (.dK (eW kvs k v))) := .inl ⟨kvs,k,e,O,hl,O⟩
section
variable {X:Cx}{ah:List (Addr × Obj)}{Y:St}{H:Hp}{s:Shared}{a:Addr}{y v:V}{u r:Value}{o:Option V}{A:Around}{E:Value->Shared->Prop}
theorem Inv.big(I:Inv X ah Y H s):sysModules < s.heap.objs.size:=by
 have h:mainGlobals < s.heap.objs.size:=(I.mod.glob.keeps I.bk).lt
 exact Bc (by decide) h
theorem RL{Q:Value->Shared->Prop}(hu:A.units+1 < cLine)(I:Inv X ah Y H s)(g:v9 H a y (some v))(ry:RelV y u)(h:∀ w' s',Inv X ah Y H s'->RelV v w'->Q w' s') :
  wpAny (model X.prog X.w) A (getItem (.ref a) u) Q E s:=by
 rcases g with⟨kvs,k,e,ey,l⟩ | ⟨kvs,k,b,e,ey,eb,l⟩
 ·subst ey
  obtain⟨z,hd,vs,cV,dd⟩:=ED I.bh e
  obtain⟨w',hw,kR⟩:=jZ.some_of (v:=v) (o:=valueAt vs k) (by rw[l];exact cV.val k)
  exact wpAny_getItem_of (yO ry) dd.mapOf hw (h w' _ (I.tok _) kR)
 ·subst ey
  cases (show u=aH b from ry)
  obtain⟨z,hd,xs,cV,dd⟩:=Ey I.bh e
  obtain⟨w',hw,kR⟩:=jZ.some_of (v:=v) (o:=(atKey xs k).map (·.2)) (by rw[l];exact cV.val k)
  obtain⟨p,hp,pw⟩:=cP.mp hw
  refine wpAny_getItem_heap (tupleKind_room_in1 hu) (AK I.bh eb) dd hp ?_
  rw[pw]
  exact h w' _ (I.tok _) kR
theorem X8{Q:Value->Shared->Prop}(hu:A.units+1 < cLine)(I:Inv X ah Y H s)(g:v9 H a y o)(ry:RelV y u)(h:∀ s',Inv X ah Y H s'->Q (.bool (!o.isSome)) s') :
  wpAny (model X.prog X.w) A (compareOp .NotIn u (.ref a)) Q E s:=by
 rcases g with⟨kvs,k,e,ey,l⟩ | ⟨kvs,k,b,e,ey,eb,l⟩
 ·subst ey
  obtain⟨z,hd,vs,cV,dd⟩:=ED I.bh e
  refine wpAny_notIn_of (yO ry) hd dd.mapOf ?_
  rw[<- (cV.val k).pe, <- l]
  exact h _ (I.tok _)
 ·subst ey
  cases (show u=aH b from ry)
  obtain⟨z,hd,xs,cV,dd⟩:=Ey I.bh e
  refine wpAny_notIn_heap (tupleKind_room_in1 hu) (AK I.bh eb) hd dd ?_
  have q:=(cV.val k).pe
  rw[kI]at q
  rw[<- q, <- l]
  exact h _ (I.tok _)
theorem uS{h':Heap}{t':Nat}{ob:HO}(I:Inv X ah Y H s)(mu:Se (H a))(hs:cf a s.heap h')(he:∃ q,h'.get? a=some q)(new:cY X.prog X.w (upd H a ob) h' a ob) :
  Inv X ah Y (upd H a ob) { s with heap:=h',toks:=t' } :=
 I.write (x:=a) (e:=a) mu (.inl rfl) (fun b q hb z=>(hs.2 b hb).trans z) he new
theorem K5{P:Program}{w:World}{H':Hp}{h':Heap}{kvs:List (Key × V)}{vs:List (Key × Value)}(z:kvs.length<=sizeLine)(hd:(a == sysModules)=false)(cV:KV kvs vs)(dd:h'.DictOf (di P w) a vs) :
  cY P w H' h' a (.dK kvs):=⟨z,hd,vs,cV,dd⟩
theorem RK{H':Hp}{Q:Unit->Shared->Prop}(hu:A.units+1 < cLine)(I:Inv X ah Y H s)(g:Dx H a y v H')(ry:RelV y u)(rv:RelV v r)(h:∀ s',Inv X ah Y H' s'->Q () s') :
  wpAny (model X.prog X.w) A (setItem (.ref a) u r) Q E s:=by
 rcases g with⟨kvs,k,e,ey,l,eH⟩ | ⟨kvs,k,b,e,ey,eb,l,eH⟩
 ·subst ey eH
  obtain⟨z,hd,vs,cV,dd⟩:=Ij I.bh e
  have hz:vs.length<=sizeLine:=by rw[<- cV.length];exact z
  have hl:(eW kvs k v).length<=sizeLine:=by have:=xk kvs k v;omega
  refine wpAny_setItem_pairs (hsz:=hz) (yO ry) dd fun h' ya hs=>h _ ?_
  have he:∃ q,h'.get? a=some q:=let ⟨q,_,_,hq,_⟩:=ya; ⟨q,hq⟩
  exact uS I (by rw[e];exact ft) hs he (K5 hl hd (cV.put k rv) ya)
 ·subst ey eH
  cases (show u=aH b from ry)
  obtain⟨z,hd,xs,cV,dd⟩:=ad1 I.bh e
  have hz:xs.length<=sizeLine:=by rw[<- aV cV];exact z
  have hl:(eW kvs k v).length<=sizeLine:=by have:=xk kvs k v;omega
  refine wpAny_setItem_heap (hsz:=hz) (tupleKind_room_in1 hu) (AK I.bh eb) dd fun h' ya hs=>h _ ?_
  obtain⟨q,es,ep,hq,h2,h3,h4,_,h5⟩:=ya
  refine uS I (by rw[e];exact ft) hs ⟨q,hq⟩ ⟨hl,hd,_,(cV.put k eb rv).keeps fun c ys ec =>?_,q,es,ep,hq,h2,h3,h4,h5⟩
  rw[aE (aZ ec e nofun)]
  exact ec
end
section
variable {X:Cx}{ah:List (Addr × Obj)}{Y:St}{H:Hp}{s:Shared}{a:Addr}{kvs:List (Key × V)}{k:Key}{u:Value}{A:Around}{E:Value->Shared->Prop}
theorem ad3{v:V}{more:List Value}{Q:Value->Shared->Prop}(I:Inv X ah Y H s)(e:H a=some (.dK kvs))(ry:RelV (kV k) u)(l:bL kvs k=some v)(hm:more = []∨∃ x,more = [x])(h:∀ w' s',Inv X ah Y (upd H a (.dK (lQ kvs k))) s'->RelV v w'->Q w' s'):wpAny (model X.prog X.w) A (call (.builtin "dict.pop") (.ref a :: u :: more)) Q E s:=by
 obtain⟨z,hd,vs,cV,dd⟩:=Ij I.bh e
 obtain⟨w',hw,kR⟩:=jZ.some_of (v:=v) (o:=valueAt vs k) (by rw[<- l];exact cV.val k)
 have hp:(keyPart u).isSome=true:=by
  cases k with
  | inl i=>obtain⟨t,q⟩:=(show ∃ t,u=ni i t from ry);subst q;rfl
  | inr x=>obtain⟨t,q⟩:=(show ∃ t,u=pC x t from ry);subst q;rfl
 have ha:argsOk "dict.pop" ⟨.ref a :: u :: more, []⟩:=by
  rcases hm with q | ⟨x,q⟩
  ·subst q;exact PySem.F.args_dict_pop_2 _ _
  ·subst q;exact PySem.F.args_dict_pop_3 _ _ _
 refine call_meetsIn ye dd.typeIs PySem.F.entry_dict_pop ha (meets_dict_pop_there (di X.prog X.w) a (yO ry) more hm hp)
  ⟨vs,w',dd,by rw[<- cV.length];exact z,hw,fun h' ya hs=>h w' _ ?_ kR⟩
 have he:∃ q,h'.get? a=some q:=let ⟨q,_,_,hq,_⟩:=ya; ⟨q,hq⟩
 exact uS I (by rw[e];exact ft) hs he (K5 (bf (UH kvs k) z) hd (cV.drop k) ya)
end
def Pf(i:Expr):Prop := ∀ ov iv,subscripted i false ov iv=operate [ov,iv] (getItem ov iv)
theorem uK{prog:Program}{w:World}{A:Around}{E:Value->Shared->Prop}{s:Shared}{env:Env}{value slice:Expr}{pos:Pos}{T id:String}{Q:Value->Shared->Prop}(hl:typeLookup (.type T) "__getitem__" = pure (some (.builtin id)))(hs:Pf slice)(h:wpAny (model prog w) A (eval value env) (fun o eJ => wpAny (model prog w) A (eval slice env) (fun i ic => ic.TypeIs o T∧wpAny (model prog w) A (getItem o i) Q E ic) E eJ) E s) :
  wpAny (model prog w) A (eval (.Subscript value slice pos) env) Q E s:=by
 refine Subscript_ (wpAny_mono h (fun o eJ iG => wpAny_mono iG (fun i ic tu =>?_) fun _ _ x=>x) fun _ _ x=>x)
 obtain⟨hT,tu⟩:=tu
 unfold subscriptTail
 refine wpAny_bind ?_
 rw[getitemInPython_of_ne hT.not_modules]
 refine wpAny_bind (wpAny_specialOf hT hl ?_)
 have fin:wpAny (model prog w) A (subscripted slice false o i) (fun r my => wpAny (model prog w) A (letTemporaryGo value o r >>= fun _=>pure r) Q E my) E ic := by
  rw[hs o i]
  exact wpAny_operating (wpAny_mono tu (fun r my JP => wpAny_bind (wpAny_letTemporaryGo (wpAny_pure JP))) fun _ _ x=>x)
 first
  | exact wpAny_pure (wpAny_bind fin)
  | exact wpAny_bind (wpAny_pure (wpAny_bind fin))
  | exact wpAny_bind fin
theorem L0{X:Cx}{ah:List (Addr × Obj)}{Y:St}{H:Hp}{s:Shared}{a:Addr}{y:V}{o:Option V}(I:Inv X ah Y H s)(g:v9 H a y o):s.TypeIs (.ref a) "dict" := by
 rcases g with⟨kvs,k,e,_,_⟩ | ⟨kvs,k,b,e,_,_,_⟩
 ·obtain⟨_,_,vs,_,dd⟩:=ED I.bh e
  exact dd.typeIs
 ·obtain⟨_,_,xs,_,dd⟩:=Ey I.bh e
  exact dd.typeIs
inductive NL(Q:VK)(x:V)(y:V)(H2:Hp):Prop
 | mk:∀ a v,(x = .ref a)->(v9 H2 a y (some v))->(Q v H2)->NL Q x y H2
def adl(td ty:TE):TE:=fun Y H Q=>td Y H fun x H1=>ty Y H1 fun y H2=>NL Q x y H2
inductive HC(Q:VK)(y:V)(x:V)(H2:Hp):Prop
 | mk:∀ a o,(x = .ref a)->(v9 H2 a y o)->(Q (.bl (!o.isSome)) H2)->HC Q y x H2
def W7(ty td:TE):TE:=fun Y H Q=>ty Y H fun y H1=>td Y H1 fun x H2=>HC Q y x H2
inductive NN(D:Ends)(Y:St)(v:V)(x:V)(y:V)(H3:Hp):Prop
 | mk:∀ a H4,(x = .ref a)->(Dx H3 a y v H4)->(D.nx Y H4)->NN D Y v x y H3
def adv(td ty tv:TE):TS:=fun D Y H=>tv Y H fun v H1=>td Y H1 fun x H2=>ty Y H2 fun y H3=>NN D Y v x y H3
section
variable {X:Cx}{o i e value:Expr}{pos n6 SV:Pos}{td ty tv:TE}
theorem Xw(hu:X.A.units+1 < cLine)(ho:PE X o td)(hi:PE X i ty)(hs:Pf i):PE X (.Subscript o i pos) (adl td ty):=by
 intro ah s Y H Q I h
 refine uK mI.lookup hs (bB (ho ah s Y H _ I h) fun u s1 ⟨x,H1,I1,rx,q1⟩=>bB (hi ah s1 Y H1 _ I1 q1) fun iv s2 ⟨y,H2,I2,ry,a,v,ex,g,q2⟩ =>?_)
 subst ex
 obtain rfl:u=aH a:=rx
 exact⟨L0 I2 g,RL hu I2 g ry fun w' s3 I3 kR=>⟨v,H2,I3,kR,q2⟩⟩
theorem Qt(hu:X.A.units+1 < cLine)(hi:PE X i ty)(ho:PE X o td):PC X .NotIn i o (W7 ty td):=by
 intro ah s Y H Q I h
 refine bB (hi ah s Y H _ I h) fun iv s1 ⟨y,H1,I1,ry,q1⟩=>bB (ho ah s1 Y H1 _ I1 q1) fun u s2 ⟨x,H2,I2,rx,a,ov,ex,g,q2⟩ =>?_
 subst ex
 obtain rfl:u=aH a:=rx
 exact X8 hu I2 g ry fun s3 I3=>⟨.bl (!ov.isSome),H2,I3,O,q2⟩
theorem FF(hu:X.A.units+1 < cLine)(ho:PE X o td)(hi:PE X i ty)(hv:PE X value tv)(hs:swapsWith value (some (.Subscript o i n6)) pos.line X.env=pure false) :
  PS X (.Assign [.Subscript o i n6] value pos) (adv td ty tv):=by
 intro ah s Y H D I h
 refine wpAny_Assign_Subscript (bB (hv ah s Y H _ I h) fun r s1 ⟨v,H1,I1,rv,q1⟩=>bB (ho ah s1 Y H1 _ I1 q1) fun u s2 ⟨x,H2,I2,rx,q2⟩=>bB (hi ah s2 Y H2 _ I2 q2) fun iv s3 ⟨y,H3,I3,ry,a,H4,ex,g,q3⟩ =>?_) hs
 subst ex
 obtain rfl:u=aH a:=rx
 exact RK hu I3 g ry rv fun s4 I4=>⟨Y,H4,I4,q3⟩
end
theorem UJ{P:Program}{w:World}{H:Hp}(h:Heap)(hb:sysModules < h.objs.size):cY P w H (h.push { cls := .type "dict",data := .dict #[] }) h.objs.size (.dK []) :=
 ⟨bx _,beq_eq_false_iff_ne.mpr (cm (br hb)), [],.nil,Heap.DictOf.new h⟩
def YT:TE:=fun _ H Q=>∀ p,H p=none->Q (.ref p) (upd H p (.dK []))
section
variable {X:Cx}{pos:Pos}
theorem Jj:PE X (.Dict [] [] pos) YT:=fun ah s Y H Q I h =>
 wpAny_Dict_empty ⟨.ref s.heap.objs.size,_,I.laid (a:=s.heap.objs.size) (o := .dK []) (t':=s.toks) (fun _ _ q=>ay _ q) (ar _) (UJ s.heap I.big),O,h _ (I.bh.fresh (ar _))⟩
end
structure M1(X:Cx)(o:Expr)(m:Str)(c9:Pos)(e:Expr)(cZ:Pos):Prop where
 base:attributeBase o m X.env (eval o X.env)=eval o X.env
 dG:((backTo cZ (starEach [e] X.env)).all (fun x => !x.1) && (backToKw cZ (keywordEach [] X.env)).all (fun x=>x.1.isSome)
  && decide (([e]:List Expr).length+([]:List Keyword).length+(if ([]:List Keyword).isEmpty then 0 else 1) < 30))=true
 line:(c9.endLine == cZ.line)=true
 trees:backTo cZ (starEach [e] X.env) = [(false,eval e X.env)]
structure M2(X:Cx)(o:Expr)(m:Str)(c9:Pos)(e f:Expr)(cZ:Pos):Prop where
 base:attributeBase o m X.env (eval o X.env)=eval o X.env
 dG:((backTo cZ (starEach [e,f] X.env)).all (fun x => !x.1) && (backToKw cZ (keywordEach [] X.env)).all (fun x=>x.1.isSome)
  && decide (([e,f]:List Expr).length+([]:List Keyword).length+(if ([]:List Keyword).isEmpty then 0 else 1) < 30))=true
 line:(c9.endLine == cZ.line)=true
 trees:backTo cZ (starEach [e,f] X.env) = [(false,eval e X.env),(false,eval f X.env)]
def IsD(H:Hp)(a:Addr):Prop:=(∃ kvs,Rd H a (.dK kvs))∨∃ kvs,Rd H a (.dT kvs)
theorem aay{X:Cx}{ah:List (Addr × Obj)}{Y:St}{H:Hp}{s:Shared}{a:Addr}(I:Inv X ah Y H s)(d:IsD H a) :
  s.TypeIs (.ref a) "dict" ∧ (∀ b,aH a = .ref b->∃ ob,s.heap.get? b=some ob∧ob.dict=none)∧(a == sysModules)=false:=by
 rcases d with⟨kvs,e⟩ | ⟨kvs,e⟩
 ·obtain⟨_,hd,vs,_,dd⟩:=ED I.bh e
  refine⟨dd.typeIs,fun b q =>?_,hd⟩
  cases q
  obtain⟨ob,_,_,h1,h2,_⟩:=dd
  exact⟨ob,h1,h2.2.1⟩
 ·obtain⟨_,hd,xs,_,dd⟩:=Ey I.bh e
  refine⟨dd.typeIs,fun b q =>?_,hd⟩
  cases q
  obtain⟨ob,_,_,h1,h2,_⟩:=dd
  exact⟨ob,h1,h2.2.1⟩
section
variable {X:Cx}{ah:List (Addr × Obj)}{Y:St}{H:Hp}{s:Shared}{a:Addr}{y d:V}{u r:Value}{o:Option V}{A:Around}{E:Value->Shared->Prop}
end
def YR(td ty:TE):TE:=fun Y H Q=>td Y H fun x H1=>∃ a,x = .ref a∧IsD H1 a∧ty Y H1 fun y H2=>∃ kvs k v,H2 a=some (.dK kvs)∧y=kV k∧bL kvs k=some v∧Q v (upd H2 a (.dK (lQ kvs k)))
section
variable {X:Cx}{o e f:Expr}{c9 cZ:Pos}{td ty tx:TE}
theorem Ji(ho:PE X o td)(he:PE X e ty)(m:M1 X o "pop" c9 e cZ):PE X (.Call (.Attribute o "pop" c9) [e] [] cZ) (YR td ty):=by
 intro ah s Y H Q I h
 refine wpAny_Call_method m.base m.dG m.line gx ye PySem.F.type_dict_pop (bB (ho ah s Y H _ I h) fun u s1 ⟨x,H1,I1,rx,a,ex,d,q1⟩ =>?_)
 subst ex
 obtain rfl:u=aH a:=rx
 obtain⟨t1,t2,_⟩:=aay I1 d
 refine⟨t1,t2,?_⟩
 rw[m.trees]
 refine eK rfl (ir (gi (bB (he ah s1 Y H1 _ I1 q1) fun iv s2 ⟨y,H2,I2,ry,kvs,k,v,ea,ey,l,q2⟩=>jr ?_)))
 subst ey
 exact ad3 I2 ea ry l (.inl rfl) fun w' s3 I3 kR=>⟨v,_,I3,kR,q2⟩
end
section
variable {X:Cx}{ah:List (Addr × Obj)}{Y:St}{H:Hp}{s:Shared}{a:Addr}{kvs:List (Key × V)}{A:Around}{E:Value->Shared->Prop}
end
section
variable {X:Cx}{ah:List (Addr × Obj)}{Y:St}{H:Hp}{s:Shared}{a:Addr}{y:V}{u:Value}{A:Around}{E:Value->Shared->Prop}
end
abbrev NK:=List (Sum Key (List Key))
def kD:Key->D
 | .inl i => .int i
 | .inr x => .str x
def iD:Sum Key (List Key)->D
 | .inl k=>kD k
 | .inr l => .tup (l.map kD)
def GK(k:NK):D := .tup (k.map iD)
theorem QR{a b:Key}(e:kD a=kD b):a=b:=by
 cases a with
 | inl i=>cases b with
  | inl j=>have e':D.int i=D.int j:=e;injection e' with e';rw[e']
  | inr y=>exact nomatch (show D.int i=D.str y from e)
 | inr x=>cases b with
  | inl j=>exact nomatch (show D.str x=D.int j from e)
  | inr y=>have e':D.str x=D.str y:=e;injection e' with e';rw[e']
theorem uy{α β : Type}{f : α -> β}(hf:∀ a b,f a=f b->a=b):∀ {x y:List α},x.map f=y.map f->x=y
 | [], [],_=>rfl
 | [],_ :: _,e=>by simp at e
 | _ :: _, [],e=>by simp at e
 | a :: xs,b :: ys,e=>by
  rw[aS,aS]at e
  injection e with e1 e2
  rw[hf _ _ e1,uy hf e2]
theorem aaF{a b:Sum Key (List Key)}(e:iD a=iD b):a=b:=by
 cases a with
 | inl i=>cases b with
  | inl j=>rw[QR e]
  | inr y=>cases i <;> exact nomatch e
 | inr x=>cases b with
  | inl j=>cases j <;> exact nomatch e
  | inr y =>
   have e':D.tup (x.map kD)=D.tup (y.map kD):=e
   injection e' with e'
   rw[uy (fun _ _=>QR) e']
theorem XG{a b:NK}(e:GK a=GK b):a=b:=by
 have e':D.tup (a.map iD)=D.tup (b.map iD):=e
 injection e' with e'
 exact uy (fun _ _=>aaF) e'
section
variable (P:Program) (w:World)
def fz(h:Heap):NK->List Value->Prop
 | [],us=>us = []
 | .inl k :: ks,us=>∃ u dj,us=u :: dj∧(di P w).is k u=true∧fz h ks dj
 | .inr l :: ks,us=>∃ b dj,us=aH b :: dj∧IsTupleKey (di P w) h l b∧fz h ks dj
def qu(h:Heap)(k:NK)(a:Addr):Prop := ∃ us:List Value,IsTup h a us.toArray∧fz P w h k us
def rN:Sum Key (List Key)->Int
 | .inl k=>(di P w).hash k
 | .inr l=>tupleKeyHash (di P w) l
def xO:Sum Key (List Key)->Nat
 | .inl _=>1
 | .inr l=>l.length+1
def Ju(k:NK):Int:=reduceHash (fT (k.map (rN P w)))
def FQ(k:NK):Nat:=(k.map xO).sum+1
end
section
variable {P:Program}{w:World} {h h':Heap}
theorem fz.inj:∀ {x y:NK}{us:List Value},fz P w h x us->fz P w h y us->x=y
 | [], [],us,_,_=>rfl
 | [],.inl k :: ks,us,r,q=>by rw[fz]at r;rw[fz]at q;subst r;obtain⟨_,_,z,_⟩:=q;cases z
 | [],.inr k :: ks,us,r,q=>by rw[fz]at r;rw[fz]at q;subst r;obtain⟨_,_,z,_⟩:=q;cases z
 | .inl k :: ks, [],us,r,q=>by rw[fz]at r;rw[fz]at q;subst q;obtain⟨_,_,z,_⟩:=r;cases z
 | .inr k :: ks, [],us,r,q=>by rw[fz]at r;rw[fz]at q;subst q;obtain⟨_,_,z,_⟩:=r;cases z
 | .inl k :: ks,.inl l :: ls,us,r,q=>by
  rw[fz]at r;rw[fz]at q
  obtain⟨u,dj,rfl,r1,r⟩:=r
  obtain⟨u',N4,z,q1,q⟩:=q
  cases z
  rw[(di P w).inj _ _ _ r1 q1,fz.inj r q]
 | .inr k :: ks,.inr l :: ls,us,r,q=>by
  rw[fz]at r;rw[fz]at q
  obtain⟨u,dj,rfl,r1,r⟩:=r
  obtain⟨u',N4,z,q1,q⟩:=q
  cases z
  rw[r1.inj q1,fz.inj r q]
 | .inl k :: ks,.inr l :: ls,us,r,q=>by
  rw[fz]at r;rw[fz]at q
  obtain⟨u,dj,rfl,r1,r⟩:=r
  obtain⟨u',N4,z,q1,q⟩:=q
  cases z
  rcases fG r1 with⟨i,t,_,e⟩ | ⟨x,t,_,e⟩ <;> cases e
 | .inr k :: ks,.inl l :: ls,us,r,q=>by
  rw[fz]at r;rw[fz]at q
  obtain⟨u,dj,rfl,r1,r⟩:=r
  obtain⟨u',N4,z,q1,q⟩:=q
  cases z
  rcases fG q1 with⟨i,t,_,e⟩ | ⟨x,t,_,e⟩ <;> cases e
theorem fz.keeps{d:Addr}{o:Obj}{es ep}(ho:h.get? d=some o)(hd:o.data = .dict es ep)(hs:cf d h h'):∀ {k:NK}{us:List Value},fz P w h k us->fz P w h' k us
 | [],us,r=>by rw[fz]at r ⊢;exact r
 | .inl k :: ks,us,r=>by
  rw[fz]at r ⊢
  obtain⟨u,dj,e,r1,r⟩:=r
  exact⟨u,dj,e,r1,fz.keeps ho hd hs r⟩
 | .inr k :: ks,us,r=>by
  rw[fz]at r ⊢
  obtain⟨u,dj,e,r1,r⟩:=r
  exact⟨u,dj,e,r1.keeps ho hd hs,fz.keeps ho hd hs r⟩
theorem qu.inj{x y:NK}{a:Addr}(r:qu P w h x a)(q:qu P w h y a):x=y:=by
 obtain⟨us,p,r⟩:=r
 obtain⟨dj,p',q⟩:=q
 have e:us=dj:=by have:=Md p p';simpa using this
 subst e
 exact r.inj q
theorem qu.keeps{k:NK}{a d:Addr}{o:Obj}{es ep}(r:qu P w h k a)(ho:h.get? d=some o)(hd:o.data = .dict es ep)(hs:cf d h h'):qu P w h' k a:=by
 obtain⟨us,⟨o',e',c',n',d'⟩,r⟩:=r
 have gw:a≠d:=by
  rintro rfl
  rw[ho]at e';cases e'
  rw[hd]at d';cases d'
 exact⟨us,⟨o',(hs.2 a gw).trans e',c',n',d'⟩,r.keeps ho hd hs⟩
theorem JL{k:Key}{u:Value}(r:(di P w).is k u=true):bP h (kD k) u:=by
 rcases fG r with⟨i,t,rfl,rfl⟩ | ⟨x,t,rfl,rfl⟩
 ·show bP h (.int i) _
  rw[bP];exact .inl ⟨t,O⟩
 ·show bP h (.str x) _
  rw[bP];exact⟨t,O⟩
theorem OJ{ks:List Key}{us:List Value}(r:ItemsAre (di P w) ks us):eG h (ks.map kD) us:=by
 induction r with
 | nil=>rw[fE,eG]
 | cons r1 _ ih=>rw[aS,eG];exact⟨_,_,O,JL r1,ih⟩
theorem fz.F7:∀ {k:NK}{us:List Value},fz P w h k us->eG h (k.map iD) us
 | [],us,r=>by rw[fz]at r;rw[fE,eG];exact r
 | .inl k :: ks,us,r=>by
  rw[fz]at r
  obtain⟨u,dj,e,r1,r⟩:=r
  rw[aS,eG]
  exact⟨u,dj,e,JL r1,fz.F7 r⟩
 | .inr k :: ks,us,r=>by
  rw[fz]at r
  obtain⟨b,dj,e,⟨o,its,n,g,c,d,i⟩,r⟩:=r
  rw[aS,eG]
  refine⟨_,dj,e,?_,fz.F7 r⟩
  show bP h (.tup (k.map kD)) _
  rw[bP]
  exact⟨b,its.toList,O,⟨o,g,c,n,by simpa using d⟩,OJ i⟩
theorem qu.F7{k:NK}{a:Addr}(r:qu P w h k a):bP h (GK k) (.ref a):=by
 obtain⟨us,p,r⟩:=r
 rw[GK,bP]
 exact⟨a,us,O,p,r.F7⟩
theorem C4:∀ l:List Key,D.dX (l.map kD)=0
 | []=>by rw[fE,D.dX]
 | .inl k :: ks=>by rw[aS,D.dX,C4 ks];show max (D.deep (.int k)) 0=0;rw[D.deep];rfl
 | .inr k :: ks=>by rw[aS,D.dX,C4 ks];show max (D.deep (.str k)) 0=0;rw[D.deep];rfl
theorem yK:∀ l:NK,D.dX (l.map iD)<=1
 | []=>by rw[fE,D.dX];omega
 | .inl (.inl k) :: ks=>by rw[aS,D.dX];have:=yK ks;show max (D.deep (.int k)) _<=1;rw[D.deep];omega
 | .inl (.inr k) :: ks=>by rw[aS,D.dX];have:=yK ks;show max (D.deep (.str k)) _<=1;rw[D.deep];omega
 | .inr l :: ks=>by rw[aS,D.dX];have:=yK ks;show max (D.deep (.tup (l.map kD))) _<=1;rw[D.deep,C4];omega
theorem XF(k:NK):(GK k).deep<=2:=by rw[GK,D.deep];have:=yK k;omega
end
section
variable {P:Program}{w:World}{A:Around}{E:Value->Shared->Prop}{s:Shared}
theorem DB{x y:NK}{a b:Addr}{Q:Bool->Shared->Prop}(hu:A.units+5 < cLine)(hx:qu P w s.heap x a)(hy:qu P w s.heap y b)(h:Q (decide (x=y)) s) :
  wpAny (model P w) A (eqBool (.ref a) (.ref b)) Q E s:=by
 refine KU 2 (XF x) hx.F7 hy.F7 (by omega) P w E Q ?_
 have e:decide (GK x=GK y)=decide (x=y):=decide_eq_decide.mpr ⟨XG,fun z=>by rw[z]⟩
 rw[e];exact h
theorem Ol{K:Type}[DecidableEq K]{knd:KeyKind P w K}(n:Nat){ks:List K}{a:Addr}{Q:Bool->Shared->Prop}(hk:IsTupleKey knd s.heap ks a)(h:Q true s):wpAny (model P w) A (eqIsQuiet (n+1) (.ref a)) Q E s:=by
 have hT:=hk.typeIs
 obtain⟨o,items,m,ho,_,hd,hi⟩:=hk
 unfold eqIsQuiet
 refine wpAny_bind (wpAny_specialOf hT F.slot_tuple_eq.lookup ?_)
 show wpAny _ _ (isInstance (.ref a) (.type "tuple") >>= _) _ _ s
 refine wpAny_bind (wpAny_isInstance hT isSubtype_tuple_tuple ?_)
 simp only[oI,dP,if_false]
 refine wpAny_bind (wpAny_seqItems ho hd ?_)
 refine wpAny_bind ?_
 show wpAny _ _ (forIn items _ _) _ _ s
 rw[<- sX]
 refine wpAny_forIn_list _ (fun rest r s'=>r.1=none∧s'=s∧∀ v∈rest,carriedByValue v=true) _ ?_ ?_ _ _ ⟨O,O,hi.byValue⟩
 ·rintro v rest r s' ⟨hr,rfl,iQ⟩
  rw[eqIsQuiet_byValue _ (iQ v bb)]
  refine wpAny_bind (wpAny_pure ?_)
  simp only[oI,dP,if_false]
  exact wpAny_pure ⟨O,O,fun u JU=>iQ u (aR _ JU)⟩
 ·rintro⟨r1,r2⟩ s' ⟨hr,rfl,_⟩
  simp only at hr
  subst hr
  exact wpAny_pure h
theorem Tc{k:NK}{a:Addr}{Q:Bool->Shared->Prop}(hk:qu P w s.heap k a)(h:Q true s):wpAny (model P w) A (eqIsQuiet 8 (.ref a)) Q E s:=by
 obtain⟨us,p,hi⟩:=hk
 have hT:s.TypeIs (.ref a) "tuple" := p.typeIs
 obtain⟨o,ho,_,m,hd⟩:=p
 unfold eqIsQuiet
 refine wpAny_bind (wpAny_specialOf hT F.slot_tuple_eq.lookup ?_)
 show wpAny _ _ (isInstance (.ref a) (.type "tuple") >>= _) _ _ s
 refine wpAny_bind (wpAny_isInstance hT isSubtype_tuple_tuple ?_)
 simp only[oI,dP,if_false]
 refine wpAny_bind (wpAny_seqItems ho hd ?_)
 refine wpAny_bind ?_
 show wpAny _ _ (forIn us.toArray _ _) _ _ s
 rw[<- sX]
 refine wpAny_forIn_list _ (fun rest r s'=>r.1=none∧s'=s∧∃ left,fz P w s.heap left rest) _ ?_ ?_ _ _ ⟨O,O,k,by simpa using hi⟩
 ·rintro v rest r s' ⟨hr,rfl,left,hl⟩
  cases left with
  | nil=>rw[fz]at hl;cases hl
  | cons i left =>
   cases i with
   | inl k =>
    rw[fz]at hl
    obtain⟨u,dj,e,r1,hl⟩:=hl
    cases e
    rw[eqIsQuiet_byValue _ ((di P w).byValue _ _ r1)]
    refine wpAny_bind (wpAny_pure ?_)
    simp only[oI,dP,if_false]
    exact wpAny_pure ⟨O,O,left,hl⟩
   | inr l =>
    rw[fz]at hl
    obtain⟨b,dj,e,r1,hl⟩:=hl
    cases e
    refine wpAny_bind (Ol 6 r1 ?_)
    simp only[oI,dP,if_false]
    exact wpAny_pure ⟨O,O,left,hl⟩
 ·rintro⟨r1,r2⟩ s' ⟨hr,rfl,_⟩
  simp only at hr
  subst hr
  exact wpAny_pure h
theorem DA{k:NK}{a:Addr}{Q:Int->Shared->Prop}(hu:A.units+5 < cLine)(hk:qu P w s.heap k a)(h:Q (Ju P w k) { s with toks:=s.toks+FQ k }) :
  wpAny (model P w) A (pyHash (.ref a)) Q E s:=by
 obtain⟨us,p,hi⟩:=hk
 have hT:s.TypeIs (.ref a) "tuple" := p.typeIs
 obtain⟨o,ho,_,n,hd⟩:=p
 unfold pyHash
 first | unfold pyHashByItsType | skip
 first | refine wpAny_bind (wpAny_cRoomFor_or (.inr (by omega)) ?_) | skip
 refine wpAny_bind (wpAny_specialOf hT oi.lookup ?_)
 show wpAny _ _ (if (some (mi "tuple.__hash__") == some da)=true then _ else _) Q E s
 rw[if_neg (by rw[beq_builtin_none];exact a5)]
 refine wpAny_bind (wpAny_specialOf hT oi.lookup ?_)
 show wpAny _ _ (callSpecialIfBoundUnlessNone? (.ref a) "__hash__" _ >>= _) Q E s
 refine wpAny_bind (wpAny_callSpecialIfBoundUnlessNone?_slot hT oi (wpAny_call_entry oi hT F.entry_tuple_hash ?_ (F.args_tuple_hash_1 _)))
 show wpAny _ _ (tY (.ref a) >>= _) _ _ s
 refine wpAny_bind (wpAny_tupleItemsOf ho hd ?_)
 refine wpAny_bind ?_
 rw[<- sX]
 refine wpAny_forIn_list _
  (fun rest (b:Array Int) s'=>∃ done left:NK,k=done ++ left∧fz P w s.heap left rest∧b.toList=done.map (rN P w)∧s'={ s with toks:=s.toks+(done.map xO).sum })
  _ ?_ ?_ _ _ ⟨[],k,O,by simpa using hi,O,O⟩
 ·rintro x rest b s' ⟨done,left,rfl,hl,hb,rfl⟩
  cases left with
  | nil=>rw[fz]at hl;cases hl
  | cons i left =>
   cases i with
   | inl k =>
    rw[fz]at hl
    obtain⟨u,dj,e,r1,hl⟩:=hl
    cases e
    refine wpAny_bind ((di P w).pyHash r1 ?_)
    first
     | exact wpAny_pure ⟨done ++ [.inl k],left,by simp,hl,by simp[hb,rN],by simp[j5,xO]⟩
     | exact wpAny_bind (wpAny_pure (wpAny_pure ⟨done ++ [.inl k],left,by simp,hl,by simp[hb,rN],by simp[j5,xO]⟩))
   | inr l =>
    rw[fz]at hl
    obtain⟨c,dj,e,r1,hl⟩:=hl
    cases e
    refine wpAny_bind (wpAny_pyHash_tuple (by show A.units+1 < cLine;omega) r1 ?_)
    first
     | exact wpAny_pure ⟨done ++ [.inr l],left,by simp,hl,by simp[hb,rN],by simp[j5,xO]⟩
     | exact wpAny_bind (wpAny_pure (wpAny_pure ⟨done ++ [.inr l],left,by simp,hl,by simp[hb,rN],by simp[j5,xO]⟩))
 ·rintro b s' ⟨done,left,rfl,hl,hb,rfl⟩
  have e:left = []:=by
   cases left with
   | nil=>rfl
   | cons i left=>cases i <;> rw[fz]at hl <;> obtain⟨_,_,z,_⟩:=hl <;> cases z
  subst e
  rw[dw]at h
  show wpAny _ _ (retInt (fT b.toList)) _ _ _
  rw[hb]
  refine wpAny_ret_mkInt ?_
  show wpAny _ _ (if (decide (-(2:Int) ^ 63<=fT (done.map (rN P w))) && decide (fT (done.map (rN P w)) < 2 ^ 63))=true then _ else _) Q E _
  unfold Ju reduceHash FQ at h
  by_cases hr:(decide (-(2:Int) ^ 63<=fT (done.map (rN P w))) && decide (fT (done.map (rN P w)) < 2 ^ 63))=true
  ·rw[if_pos hr]
   rw[if_pos hr]at h
   exact wpAny_pure (by simpa [j5] using h)
  ·rw[if_neg hr]
   rw[if_neg hr]at h
   exact wpAny_bind (wpAny_rule (wpAny_pure (by simpa [j5] using h)))
end
def kY(P:Program)(w:World):HeapKind P w NK where
 is:=qu P w
 hash:=Ju P w
 draws:=FQ
 room:=fun A=>A.units+5 < cLine
 inj:=fun hx hy=>hx.inj hy
 keeps:=fun x ho hd hs=>x.keeps ho hd hs
 pyHash:=fun hu hk h=>DA hu hk h
 eqBool:=fun hu hx hy h=>DB hu hx hy h
 quiet:=fun hk h=>Tc hk h
section
variable {prog:Program}{w:World}{K:Type} [DecidableEq K] {knd:HeapKind prog w K}{A:Around}{E:Value->Shared->Prop}{s:Shared}{d a:Addr}{k:K}{xs:List (K × Addr × Value)}
theorem uu{dflt:Value}{Q:Value->Shared->Prop}(hu:knd.room A)(vv:knd.is s.heap k a)(hm:s.heap.DictOfH knd d xs)(aaR:∀ p,atKey xs k=some p->Q p.2 { s with toks:=s.toks+knd.draws k })(Uo:atKey xs k=none->∀ h',h'.DictOfH knd d (xs ++ [(k,a,dflt)])->cf d s.heap h'->Q dflt { s with heap:=h',toks:=s.toks+knd.draws k })(hsz:xs.length<=sizeLine):wpAny (model prog w) A (dictSetDefault d (.ref a) dflt) Q E s:=by
 obtain⟨o,es,ep,ho,hc,hd,he,his,hn⟩:=hm
 unfold dictSetDefault
 try with_reducible refine wpAny_holding ?_
 refine wpAny_bind (knd.pyHash hu vv ?_)
 refine wpAny_bind (wpAny_dictFind_heap (s := { s with toks:=s.toks+knd.draws k }) hu vv ho hd he his hn ?_ ?_)
 ·intro qF
  have ahi:k ∉ xs.map (·.1):=not_mem_keys_of_get qF
  refine wpAny_bind (wpAny_rule (wpAny_bind (wpAny_updateDictKeys (hz:=by have e:=size_of_entries he;omega) (s := { s with toks:=s.toks+knd.draws k }) ho hd (wpAny_pure (Uo (atKey_none_of_get qF) _ ⟨_,_,ep+1,d8 _ ho (Obj.isFreed_of_dict (zg hd _)),
   hc.mapDictKeys _,zg hd _,?_,?_,?_⟩ (cO ..))))))
  ·simp[he,entryOfKey]
  ·intro x hx
   rcases au.mp hx with hx | hx
   ·exact knd.keeps (his x hx) ho hd (cO ..)
   ·simp only[ax]at hx
    subst hx
    exact knd.keeps vv ho hd (cO ..)
  ·rw[dv,eR]
   refine⟨hn,by simp,?_⟩
   intro x hx y hy
   simp only[aS,fE,ax]at hy
   subst hy
   exact fun e=>ahi (e ▸ hx)
 ·intro j p hj
  refine wpAny_bind (wpAny_dictEntries (s := { s with toks:=s.toks+knd.draws k }) ho hd ?_)
  rw[entry_at he j,hj]
  exact wpAny_bind (wpAny_rule (wpAny_pure (aaR p (atKey_of_get hn hj))))
end
section
variable {prog:Program}{w:World}{K:Type} [DecidableEq K] (knd:HeapKind prog w K) (d a:Addr)
theorem xi(hd:(d == sysModules)=false)(dflt:Value) :
  MeetsIn prog w (Builtin.«dict.setdefault» ⟨[.ref d,.ref a,dflt], []⟩) (fun A R s=>knd.room A.in1∧∃ k xs,knd.is s.heap k a∧s.heap.DictOfH knd d xs∧xs.length<=sizeLine ∧
   (∀ p,atKey xs k=some p->R (.ok (.ret p.2)) { s with toks:=s.toks+knd.draws k }) ∧
   (atKey xs k=none->∀ h',h'.DictOfH knd d (xs ++ [(k,a,dflt)])->cf d s.heap h'->R (.ok (.ret dflt)) { s with heap:=h',toks:=s.toks+knd.draws k })) :=
 .of_wp fun A R s ⟨hu,k,xs,vv,hm,hz,h1,h2⟩=>by
  unfold Builtin.«dict.setdefault»
  refine wpAny_bind ?_
  unfold Builtin.Dict.keyAndDefault
  refine wpAny_bind (wpAny_notOrdered_dict hm.typeIs ?_)
  show wpAny _ _ (pure (d,aH a,some dflt)) _ _ s
  refine wpAny_pure ?_
  show wpAny _ _ (if (d == sysModules)=true then _ else (dictSetDefault d (.ref a) dflt >>= _)) _ _ s
  rw[if_neg (by rw[hd];exact a5)]
  exact wpAny_bind (uu hu vv hm (fun p hp=>wpAny_pure ⟨p.2,O,h1 p hp⟩) (fun hn h' xS lF=>wpAny_pure ⟨dflt,O,h2 hn h' xS lF⟩) hz)
end
section
variable {X:Cx}{scope:Scope}{own:List Str}{caps:List (Str × Nat)}{ah:List (Addr × Obj)}{Y:St}{H:Hp}{s:Shared}{fp:List Addr}
theorem UN{prog:Program}{w:World}{A:Around}{R:Result->Shared->Prop}{jG mS iter sh:Expr}{pos:Pos}{it acc:Value}{env:Env}(Iv:Nat->Shared->Prop)(turn:∀ n s,Iv n s->wpAny (model prog w) A (pyNext it) (fun r eJ => match r with
   | none=>R (.ok .next) eJ
   | some v=>wpAny (model prog w) A (letOwnedTupleGo mS it v) (fun _ ic => wpAny (model prog w) A (assign mS env v) (fun _ my => wpAny (model prog w) A (isTrue sh env (eval sh env)) (fun ok Od => if ok=true then wpAny (model prog w) A (eval jG env) (fun x IB =>
       wpAny (model prog w) A (call (.builtin "list.append") [acc,x]) (fun _ IA => ∃ m,m < n∧Iv m IA) (fun _ _=>False) IB) (fun _ _=>False) Od else ∃ m,m < n∧Iv m Od) (fun _ _=>False) my) (fun _ _=>False) ic) (fun _ _=>False) eJ) (fun _ _=>False) s)(n:Nat)(h:Iv n s):codeAny (model prog w) A (.compLoop (.ListComp jG [⟨mS,iter, [sh],0⟩] scope pos) 0 it acc env) R s:=by
 refine codeAny_loop rfl Iv (fun n s hI =>?_) n h
 show wpAny _ A ((compTurn (.ListComp jG [⟨mS,iter, [sh],0⟩] scope pos) 0 it acc env).onRaise (fun x=>do noteFrame x env;theTreesLotGoes x)) _ _ s
 refine wpAny_noted ?_
 rw[compTurn_list]
 refine wpAny_bind (wpAny_standAt (wpAny_bind (wpAny_mono (turn n s hI) (fun r eJ iG =>?_) fun _ _ z=>z.elim)))
 cases r with
 | none=>exact wpAny_pure iG
 | some v =>
  refine wpAny_bind (wpAny_mono iG (fun _ ic tu => wpAny_bind (wpAny_mono tu (fun _ my JP => wpAny_bind (wpAny_tests_one (wpAny_mono JP (fun ok Od OM =>?_) fun _ _ z=>z.elim))) fun _ _ z=>z.elim)) fun _ _ z=>z.elim)
  cases ok with
  | true =>
   have OL:=(if_pos rfl:(if true=true then _ else _)=_) ▸ OM
   exact wpAny_bind (wpAny_bind (wpAny_mono OL (fun x IB ON => wpAny_bind (wpAny_mono ON (fun _ IA C6 => wpAny_pure (wpAny_pure ⟨O,C6⟩)) fun _ _ z=>z.elim)) fun _ _ z=>z.elim))
  | false =>
   have OL:∃ m,m < n∧Iv m Od := OM
   exact wpAny_bind (wpAny_pure (wpAny_pure ⟨O,OL⟩))
def HI(J:It)(g:TG)(ct:TT)(te:TE)(Yo:St)(H1:Hp)(Q:VK):Prop := ∀ D,H1 D=none->∃ W:Nat->Nat->St->List V->Hp->Prop,
 (∃ m,W 0 m Yo [] (upd H1 D (.lst []))) ∧
 ∀ i m G ys H,W i m G ys H->H D=some (.lst ys)∧((J.stop i H∧Q (.ref D) H)∨(J.go i H∧ys.length < sizeLine∧∀ x H',J.zY i H x H'->g x G H' fun rZ H2=>ct rZ H2 fun b H4=>if b=true then te rZ H4 fun y H3 =>
  H3 D=some (.lst ys)∧∃ m',m' < m∧W (i+1) m' rZ (ys ++ [y]) (upd H3 D (.lst (ys ++ [y]))) else ∃ m',m' < m∧W (i+1) m' rZ ys H4))
def Iy(wi:TI)(g:TG)(ct:TT)(te:TE)(k:Nat)(caps:List (Str × Nat)):TE:=fun Y H Q=>wi Y H fun J H1=>HI J g ct te (bR k none ++ jY Y caps) H1 Q
theorem EH{tg jG iter sh:Expr}{wi:TI}{g:TG}{ct:TT}{te:TE}{pos p2:Pos}{use:Option (Value->Sem Unit)}{Q:VK}{Q':Value->Shared->Prop}(S:kq X scope own caps)(hi:PI X tg iter wi)(hc:X.calm=true)(hg:∀ fp s H,PG (dS X scope (own ++ caps.map (·.1)) fp s H) tg g)(Q7:∀ fp s H,PT (dS X scope (own ++ caps.map (·.1)) fp s H) sh ct)(he:∀ fp s H,PE (dS X scope (own ++ caps.map (·.1)) fp s H) jG te)(I:Inv X ah Y H s)(h:Iy wi g ct te own.length caps Y H Q)(fin:∀ D C H5 s5,Inv X ah Y H5 s5->Q (.ref D) H5->(∃ m,s5.heap.Ns C m)->H5 C=none->C≠X.env.locals->X.kO.heap.objs.size<=C->(∀ x c,X.env.cells.lookup x=some c->c≠C)->(∀ p∈X.pn ++ ah,p.1≠C) ->
   compPost (model X.prog X.w) X.A X.xe use Q' (.ref D) C (.ok .next) s5)(hs:∀ x,foldedSetIterable iter X.env x=pure x:=by intro _;rfl) :
  wpAny (model X.prog X.w) X.A (comprehension (.ListComp jG [⟨tg,iter, [sh],0⟩] scope pos) scope X.env p2 (newList []) false (eval iter X.env) use) Q' X.xe s:=by
 have OY:closureFor scope X.env=pure (i3 X.env.cells scope.names []):=A6 fun y hy hk=>I.ok.has y.1 (.inl (S.frees y hy hk))
 refine wpAny_comprehension_free (g:=⟨tg,iter, [sh],0⟩) (gs := []) rfl hs OY S.kind S.locs (bB (hi ah s Y H _ I h) fun v s1 h1=>bB h1 fun VO s2 h2 =>?_)
 obtain⟨it,fp,tn,J,H2,e,I2,T,Ah,f2,R⟩:=h2
 subst e
 refine wpAny_newObj_type (wpAny_newFunctionEnv S.DX (by intro y hy;simp at hy) (fun iG Ke JW =>?_) S.kind)
 have fr2:H2 s2.heap.objs.size=none:=I2.bh.fresh (ar _)
 obtain⟨W,⟨m0,w0⟩,turn⟩:=R s2.heap.objs.size fr2
 have I3:Inv X ah Y (upd H2 s2.heap.objs.size (.lst [])) { s2 with heap:=s2.heap.push { cls := .type "list",dict:=none,data := .seq ([]:List Value).toArray } }:=I2.OD (its := []) (t':=s2.toks) .nil (bx _)
 have AF:∀ b∈fp,b < s2.heap.objs.size:=fun b hb=>by
  obtain⟨o,ho,_⟩:=T.obj _ _ Ah b hb
  exact aP ho
 have f3:∀ b∈fp,oh X ah (upd H2 s2.heap.objs.size (.lst [])) b:=fun b hb=>⟨by rw[aE (br (AF b hb))];exact(f2 b hb).1,(f2 b hb).2⟩
 generalize xR:({ s2 with heap:=s2.heap.push { cls := .type "list",dict:=none,data := .seq ([]:List Value).toArray } }:Shared)=s3 at I3
 have hz3:s3.heap.objs.size=s2.heap.objs.size+1:=by rw[<- xR];exact fI _ _
 have Ub:∀ b o,s2.heap.get? b=some o->s3.heap.get? b=some o:=fun b o e=>by rw[<- xR];exact ay _ e
 have QF:∀ b∈fp,b < s3.heap.objs.size:=fun b hb=>by rw[hz3];exact kJ (AF b hb)
 have F0:iG.Ns s3.heap.objs.size (fun x=>([]:List (Str × Value)).reverse.lookup x):=by rw[<- xR];exact Ke
 have JI:∀ b o,s3.heap.get? b=some o->iG.get? b=some o:=fun b o e=>by
  have hb:b≠s3.heap.objs.size:=br (aP e)
  rw[<- xR]at e hb
  exact JW.extBut b o hb (ay _ e)
 have J1:=EG S I3 f3 QF (t:=s2.toks+([]:List (Str × Value)).length) F0 JI
 have P4:tn 0 iG := T.keep _ _ _ Ah fun b hb o e=>JI b o (Ub b o e)
 -- oY loop
 have loop:∀ my : Shared,my = { s3 with heap:=iG,toks:=s2.toks+([]:List (Str × Value)).length } ->
   codeAny (model X.prog X.w) X.A (.compLoop (.ListComp jG [⟨tg,iter, [sh],0⟩] scope pos) 0 (.ref it) (.ref s2.heap.objs.size) (dS X scope (own ++ caps.map (·.1)) fp s3 (upd H2 s2.heap.objs.size (.lst []))).env)
    (compPost (model X.prog X.w) X.A X.xe use Q' (.ref s2.heap.objs.size) s3.heap.objs.size) my := by
  rintro my rfl
  refine UN (fun n s'=>∃ i G ys H',Inv (dS X scope (own ++ caps.map (·.1)) fp s3 (upd H2 s2.heap.objs.size (.lst []))) [] G H' s'∧tn i s'.heap∧(∀ b∈fp,H' b=none)∧W i n G ys H') ?_ m0
   ⟨0,_, [],_,J1,P4,fun b hb=>(f3 b hb).1,w0⟩
  rintro n s' ⟨i, G,ys,H',J',mW,Rq,w'⟩
  have fY:∀ {gQ:Hp},(∀ b∈fp,gQ b=none)->∀ b∈fp,oh (dS X scope (own ++ caps.map (·.1)) fp s3 (upd H2 s2.heap.objs.size (.lst []))) [] gQ b:=fun hn b hb =>
   ⟨hn b hb,br (QF b hb),fun z=>by
     rcases aW.mp (I3.Af b z) with e | e
     ·exact(f3 b hb).2.1 e
     ·exact(f3 b hb).2.2.1 e,.inl hb,fun x c e=>(f3 b hb).2.2.2.2.1 x c (kc e),(fun p hp=>by cases hp)⟩
  obtain⟨hD,tt⟩:=turn i n G ys H' w'
  rcases tt with⟨stop,qn⟩ | ⟨go,eD,step⟩
  ·refine bB (T.done (dS X scope (own ++ caps.map (·.1)) fp s3 (upd H2 s2.heap.objs.size (.lst []))) rfl rfl rfl hc i [] s' G H' (fun _ _=>False) J' (fY Rq) mW stop) fun r s4 ⟨hr,J4⟩ =>?_
   subst hr
   obtain⟨m4,hn4,_⟩:=J4.loc
   have I5:=Hm I3 J4 f3
   refine fin _ _ _ s4 I5 qn ⟨m4,hn4⟩ J4.free ?_ ?_ (fun x c e z =>?_) fun p hp z =>?_
   ·exact jK I3.lt
   ·exact I3.sz
   ·obtain⟨v,q⟩:=I3.cell x c e
    rw[z]at q
    exact absurd q.lt (eU _)
   ·have q:=(I3.pin p hp).1
    rw[z]at q
    exact absurd (aP q) (eU _)
  ·refine bB (T.item (dS X scope (own ++ caps.map (·.1)) fp s3 (upd H2 s2.heap.objs.size (.lst []))) rfl rfl rfl hc i [] s' G H' (fun _ _=>False) J' (fY Rq) mW go) fun r s4 ⟨u,hr,h4⟩ =>?_
   subst hr
   refine bB h4 fun _ s5 ⟨x,H5,J5,r5,y5,Ag,Rp⟩ =>?_
   have J5':=J5.pinned (fY Rp) (T.obj _ _ Ag)
   have D7:∀ {xB:St}{H8:Hp}{s8:Shared},Inv (dS X scope (own ++ caps.map (·.1)) fp s3 (upd H2 s2.heap.objs.size (.lst []))) ([] ++ Ax fp s5.heap) xB H8 s8->tn (i+1) s8.heap∧∀ b∈fp,H8 b=none:=fun {xB H8 s8} J8=>by
    refine⟨T.keep _ _ _ Ag fun b hb o e=>(J8.pin (b,o) (ck _ (ck _ (nM hb e)))).1,fun b hb =>?_⟩
    obtain⟨o,e,d⟩:=T.obj _ _ Ag b hb
    exact(J8.pin (b,o) (ck _ (ck _ (nM hb e)))).2.1
   refine bB (hg fp s3 _ _ s5 G H5 x u _ J5' r5 (step x H5 y5)) fun _ s6 ⟨xB,H6,J6,q6⟩ =>?_
   refine bB (Q7 fp s3 _ _ s6 xB H6 _ J6 q6) fun ok s9 ⟨H9,J9,q9⟩ =>?_
   cases ok with
   | false =>
    obtain⟨m',xS,w9⟩:=(show ∃ m',m' < n∧W (i+1) m' xB ys H9 from q9)
    exact⟨m',xS,i+1, xB,ys,_,J9.qM,(D7 J9).1,(D7 J9).2,w9⟩
   | true =>
    refine bB (he fp s3 _ _ s9 xB H9 _ J9 q9) fun yv s7 ⟨y,H7,J7,r7,hD7,m',xS,w7⟩ =>?_
    refine bB (fJ (X:=dS X scope (own ++ caps.map (·.1)) fp s3 (upd H2 s2.heap.objs.size (.lst []))) _ s7 xB H7 (.ref s2.heap.objs.size) [y] _ [yv] (fun _ H8=>H8=upd H7 s2.heap.objs.size (.lst (ys ++ [y]))) J7 rfl (.cons r7 .nil) ⟨_,ys,y,O,O,hD7,eD,O⟩) fun _ s8 ⟨_,H8,J8,_,e8⟩ =>?_
    subst e8
    exact⟨m',xS,i+1, xB,ys ++ [y],_,J8.qM,(D7 J8).1,(D7 J8).2,w7⟩
 have Ek:=loop _ rfl
 subst xR
 exact codeAny_compStart_list Ek (T.self _ 0 _ _ _ P4 Ek)
theorem Tv{tg jG iter sh:Expr}{wi:TI}{g:TG}{ct:TT}{te:TE}{pos:Pos}(S:kq X scope own caps)(hi:PI X tg iter wi)(hc:X.calm=true)(hg:∀ fp s H,PG (dS X scope (own ++ caps.map (·.1)) fp s H) tg g)(Q7:∀ fp s H,PT (dS X scope (own ++ caps.map (·.1)) fp s H) sh ct)(he:∀ fp s H,PE (dS X scope (own ++ caps.map (·.1)) fp s H) jG te)(hs:∀ x,foldedSetIterable iter X.env x=pure x:=by intro _;rfl):PE X (.ListComp jG [⟨tg,iter, [sh],0⟩] scope pos) (Iy wi g ct te own.length caps):=by
 intro ah s Y H Q I h
 rw[eval_ListComp]
 refine EH (use:=none) (Q:=Q) S hi hc hg Q7 he I h (fun D C H5 s5 I5 q ⟨m,hn⟩ hC hL hz iH C7 =>?_) hs
 refine⟨m,hn,fun h' lF =>?_⟩
 exact⟨.ref D,H5,I5.turned (t':=s5.toks) (fun b o hb e=>(lF.2 b hb).trans e) hC hL (.inr hz) iH C7,O,q⟩
theorem B5{i:Nat}{y:Str}{tg jG iter sh:Expr}{wi:TI}{g:TG}{ct:TT}{te:TE}{pos IE py:Pos}(hN:X.N.Nodup)(hiN:X.N[i]? = some y)(hy:X.env.scope.names.lookup y=some .local)(S:kq X scope own caps)(hi:PI X tg iter wi)(hc:X.calm=true)(hg:∀ fp s H,PG (dS X scope (own ++ caps.map (·.1)) fp s H) tg g)(Q7:∀ fp s H,PT (dS X scope (own ++ caps.map (·.1)) fp s H) sh ct)(he:∀ fp s H,PE (dS X scope (own ++ caps.map (·.1)) fp s H) jG te)(hsw:swapsWith (.ListComp jG [⟨tg,iter, [sh],0⟩] scope pos) (some (.Name y py)) IE.line X.env=pure true)(hs:∀ x,foldedSetIterable iter X.env x=pure x:=by intro _;rfl):PS X (.Assign [.Name y py] (.ListComp jG [⟨tg,iter, [sh],0⟩] scope pos) IE) (Iz (Iy wi g ct te own.length caps) (bq i)):=by
 intro ah s Y H D I h
 rw[exec_Assign_Name_used _ _ _ _ hsw]
 refine wpAny_bind (wpAny_standAt (wpAny_bind ?_))
 show wpAny _ X.A (do let _ <- comprehension (.ListComp jG [⟨tg,iter, [sh],0⟩] scope pos) scope X.env _ (newList []) false (eval iter X.env) (some (assign (.Name y py) X.env))) _ _ s
 refine wpAny_bind (wpAny_mono (EH (use:=some (assign (.Name y py) X.env)) (Q:=fun x H1=>D.nx (Y.set i (some x)) H1) (Q':=fun _ s'=>SP X ah D .next s') S hi hc hg Q7 he I h (fun A C H5 s5 I5 q ⟨m,hn⟩ hC hL hz iH C7 =>?_) hs)
  (fun _ s' hq=>wpAny_pure (wpAny_pure hq)) fun _ _ e=>e)
 show wpAny _ X.A (assign (.Name y py) X.env (.ref A)) _ _ _
 refine wpAny_assign_Name (Ae I5 hN hiN (.inl hy) (v := .ref A) rfl (fun s6 I6 ⟨a,MS,ha⟩ =>?_) (.inr hy))
 have haC:C≠a:=by
  rcases ha with ha | ha
  ·rw[ha];exact hL
  ·exact fun z=>iH y a ha z.symm
 refine⟨m,hn.sameBut MS haC,fun h' lF =>?_⟩
 exact⟨_,H5,I6.turned (t':=s6.toks) (fun b o hb e=>(lF.2 b hb).trans e) hC hL (.inr hz) iH C7,q⟩
end
def nY(H:Hp):NK->List V->Prop
 | [],vs=>vs = []
 | .inl k :: ks,vs=>∃ jk,vs=kV k :: jk∧nY H ks jk
 | .inr l :: ks,vs=>∃ b jk,vs=V.ref b :: jk∧H b=some (.tup (l.map kV))∧nY H ks jk
def fD(H:Hp)(k:NK)(a:Addr):Prop := ∃ vs,H a=some (.tup vs)∧nY H k vs
theorem nY.keep{H H':Hp}(ht:∀ b ys,H b=some (.tup ys)->H' b=some (.tup ys)):∀ {k:NK}{vs:List V},nY H k vs->nY H' k vs
 | [],vs,r=>by rw[nY]at r ⊢;exact r
 | .inl k :: ks,vs,r=>by
  rw[nY]at r ⊢
  obtain⟨jk,e,r⟩:=r
  exact⟨jk,e,nY.keep ht r⟩
 | .inr l :: ks,vs,r=>by
  rw[nY]at r ⊢
  obtain⟨b,jk,e,q,r⟩:=r
  exact⟨b,jk,e,ht _ _ q,nY.keep ht r⟩
theorem fD.keep{H H':Hp}{k:NK}{a:Addr}(ht:∀ b ys,H b=some (.tup ys)->H' b=some (.tup ys))(r:fD H k a):fD H' k a:=by
 obtain⟨vs,e,r⟩:=r
 exact⟨vs,ht _ _ e,r.keep ht⟩
section
variable {P:Program}{w:World}{H:Hp}{h:Heap}
theorem Jt(ok:gE P w H h):∀ {k:NK}{vs:List V}{us:List Value},nY H k vs->Vals vs us->fz P w h k us
 | [],vs,us,r,q=>by rw[nY]at r;subst r;cases q;rw[fz]
 | .inl k :: ks,vs,us,r,q=>by
  rw[nY]at r
  obtain⟨jk,rfl,r⟩:=r
  cases q with
  | cons q1 q2=>rw[fz];exact⟨_,_,O,yO q1,Jt ok r q2⟩
 | .inr l :: ks,vs,us,r,q=>by
  rw[nY]at r
  obtain⟨b,jk,rfl,e,r⟩:=r
  cases q with
  | cons q1 q2 =>
   rw[fz]
   cases (show _=aH b from q1)
   exact⟨b,_,O,AK ok e,Jt ok r q2⟩
theorem o8{k:NK}{a:Addr}(ok:gE P w H h)(r:fD H k a):qu P w h k a:=by
 obtain⟨vs,e,r⟩:=r
 obtain⟨_,its,rv,p⟩:=(show cY P w H h a (.tup vs) from ok a _ e)
 exact⟨its,p.tup,Jt ok r rv⟩
end
abbrev KN(H:Hp):List (NK × V)->List (NK × Addr × Value)->Prop:=Paired fun p q=>p.1=q.1∧fD H p.1 q.2.1∧RelV p.2 q.2.2
theorem KN.val{H:Hp}{kvs:List (NK × V)}{xs:List (NK × Addr × Value)}(r:KN H kvs xs)(k:NK):jZ (bL kvs k) ((atKey xs k).map (·.2)):=by
 induction r with
 | nil=>exact ft
 | @cons p q ps qs h t ih =>
  obtain⟨h1,_,h2⟩:=h
  by_cases e:p.1=k
  ·have e':q.1=k:=h1.symm.trans e
   have b:atKey (q :: qs) k=some q.2:=by simp[atKey,ip,e']
   rw[eV e,b];exact h2
  ·have e':¬ q.1=k:=fun z=>e (h1.trans z)
   have b:atKey (q :: qs) k=atKey qs k:=by simp[atKey,ip,e']
   rw[eI e,b];exact ih
theorem KN.keeps{H H':Hp}{kvs:List (NK × V)}{xs:List (NK × Addr × Value)}(r:KN H kvs xs)(ht:∀ b ys,H b=some (.tup ys)->H' b=some (.tup ys)):KN H' kvs xs :=
 Paired.xj r fun _ _ z=>⟨z.1,z.2.1.keep ht,z.2.2⟩
def DN(P:Program)(w:World)(H:Hp)(a:Addr)(kvs:List (NK × V)):Prop:=kvs.length<=sizeLine∧(a == sysModules)=false∧∃ (xs:List (NK × Addr × Value)) (o:Obj) (es:Array DictEntry) (ep:Nat),
 H a=some (.ext fun h=>h.get? a=some o)∧KN H kvs xs∧o.ExactDict∧o.data = .dict es ep∧es.toList=xs.map (entryOfKey (kY P w))∧(xs.map (·.1)).Nodup
theorem DN.keep{P:Program}{w:World}{H H':Hp}{a:Addr}{kvs:List (NK × V)}(d:DN P w H a kvs)(ha:∀ φ,H a=some (.ext φ)->H' a=some (.ext φ))(ht:∀ b ys,H b=some (.tup ys)->H' b=some (.tup ys)):DN P w H' a kvs:=by
 obtain⟨z,hd,xs,o,es,ep,e,r,q⟩:=d
 exact⟨z,hd,xs,o,es,ep,ha _ e,r.keeps ht,q⟩
theorem DN.same{P:Program}{w:World}{H H':Hp}{a:Addr}{kvs:List (NK × V)}(d:DN P w H a kvs)(sm:bJ H H'):DN P w H' a kvs:=d.keep (fun φ => sm _ _) (fun b ys=>sm _ _)
theorem DN.ext{P:Program}{w:World}{H:Hp}{a:Addr}{kvs:List (NK × V)}(d:DN P w H a kvs):∃ φ,H a=some (.ext φ):=by
 obtain⟨_,_,xs,o,es,ep,e,_⟩:=d
 exact⟨_,e⟩
theorem uC{P:Program}{w:World}{H:Hp}{h:Heap}{a:Addr}{kvs:List (NK × V)}(ok:gE P w H h)(d:DN P w H a kvs):kvs.length<=sizeLine∧(a == sysModules)=false ∧
  ∃ xs,KN H kvs xs∧h.DictOfH (kY P w) a xs:=by
 obtain⟨z,hd,xs,o,es,ep,e,r,h2,h3,h4,h5⟩:=d
 obtain⟨h1,_⟩:=(show cY P w H h a (.ext fun h=>h.get? a=some o) from ok a _ e)
 refine⟨z,hd,xs,r,o,es,ep,h1,h2,h3,h4,fun x hx =>?_,h5⟩
 have all:∀ {l:List (NK × V)}{m:List (NK × Addr × Value)},KN H l m->∀ x∈m,(kY P w).is h x.1 x.2.1:=by
  intro l m q
  induction q with
  | nil=>intro x hx;exact nomatch hx
  | @cons p q ps qs hq t ih =>
   intro x hx
   rcases aW.mp hx with e | hx
   ·subst e
    exact o8 ok (by rw[<- hq.1];exact hq.2.1)
   ·exact ih x hx
 exact all r x hx
theorem KQ{P:Program}{w:World}{H:Hp}{h:Heap}{a:Addr}{o:Obj}(e:h.get? a=some o):cY P w H h a (.ext fun h=>h.get? a=some o):=⟨e,⟨o,e⟩,fun h1 h2 e1 k=>k o e1⟩
section
variable {X:Cx}{ah:List (Addr × Obj)}{Y:St}{H:Hp}{s:Shared}{a b:Addr}{kvs OF:List (NK × V)}{k:NK}{y v:V}{u r:Value}{A:Around}{E:Value->Shared->Prop}
theorem K2{h':Heap}{t':Nat}{L9:List (NK × Addr × Value)}(I:Inv X ah Y H s)(d:DN X.prog X.w H a kvs)(hs:cf a s.heap h')(dd:h'.DictOfH (kY X.prog X.w) a L9)(cV:KN H OF L9)(hl:OF.length<=sizeLine) :
  ∃ φ,Inv X ah Y (upd H a (.ext φ)) { s with heap:=h',toks:=t' }∧DN X.prog X.w (upd H a (.ext φ)) a OF:=by
 obtain⟨Pp,e0⟩:=d.ext
 have hd:=d.2.1
 obtain⟨q,es,ep,hq,h2,h3,h4,_,h5⟩:=dd
 have ht:∀ c ys,H c=some (.tup ys)->(upd H a (.ext fun h=>h.get? a=some q)) c=some (.tup ys):=fun c ys ec=>by
  rw[aE (aZ ec e0 nofun)]
  exact ec
 exact⟨_,uS I (by rw[e0];exact ft) hs ⟨q,hq⟩ (KQ hq),hl,hd,L9,q,es,ep,aF,cV.keeps ht,h2,h3,h4,h5⟩
theorem KN.snoc{xs:List (NK × Addr × Value)}(cV:KN H kvs xs)(nk:fD H k b)(rv:RelV v r):KN H (kvs ++ [(k,v)]) (xs ++ [(k,b,r)]):=rQ cV ⟨O,nk,rv⟩
theorem HR{Q:Value->Shared->Prop}(hu:A.units+10 < cLine)(I:Inv X ah Y H s)(d:DN X.prog X.w H a kvs)(nk:fD H k b)(rv:RelV v r)(hl:kvs.length < sizeLine)(h1:∀ v' w' s',bL kvs k=some v'->RelV v' w'->Inv X ah Y H s'->Q w' s')(h2:bL kvs k=none->∀ φ s',Inv X ah Y (upd H a (.ext φ)) s'->DN X.prog X.w (upd H a (.ext φ)) a (kvs ++ [(k,v)])->Q r s') :
  wpAny (model X.prog X.w) A (call (.builtin "dict.setdefault") [.ref a,.ref b,r]) Q E s:=by
 obtain⟨z,hd,xs,cV,dd⟩:=uC I.bh d
 have hz:xs.length<=sizeLine:=by rw[<- aV cV];exact z
 have ro:=cV.val k
 refine call_meetsIn rA dd.typeIs PySem.F.entry_dict_setdefault (PySem.F.args_dict_setdefault_3 _ _ _) (xi (kY X.prog X.w) a b hd r)
  ⟨(show A.units+1+5 < cLine by omega),k,xs,o8 I.bh nk,dd,hz,fun p hp =>?_,fun hn h' ya hs =>?_⟩
 ·rw[hp]at ro
  cases e:bL kvs k with
  | none=>rw[e]at ro;exact ro.elim
  | some v'=>rw[e]at ro;exact h1 v' _ _ e ro (I.tok _)
 ·rw[hn]at ro
  cases e:bL kvs k with
  | some v'=>rw[e]at ro;exact ro.elim
  | none =>
   obtain⟨φ,I',d'⟩:=K2 (t':=s.toks+(kY X.prog X.w).draws k) I d hs ya (cV.snoc nk rv) (by rw[aG];exact hl)
   exact h2 e φ _ I' d'
end
def adg(P:Program)(w:World)(td ty tx:TE):TE:=fun Y H Q=>td Y H fun x H1=>∃ a,x = .ref a∧(∃ kvs,DN P w H1 a kvs)∧ty Y H1 fun y H2=>tx Y H2 fun z H3=>∃ kvs k b,DN P w H3 a kvs∧y = .ref b∧fD H3 k b∧kvs.length < sizeLine ∧
 (∀ v,bL kvs k=some v->Q v H3)∧(bL kvs k=none->∀ φ,DN P w (upd H3 a (.ext φ)) a (kvs ++ [(k,z)])->Q z (upd H3 a (.ext φ)))
theorem AL{X:Cx}{ah:List (Addr × Obj)}{Y:St}{H:Hp}{s:Shared}{a:Addr}(I:Inv X ah Y H s)(d:∃ kvs,DN X.prog X.w H a kvs) :
  s.TypeIs (.ref a) "dict" ∧ (∀ b,aH a = .ref b->∃ ob,s.heap.get? b=some ob∧ob.dict=none)∧(a == sysModules)=false:=by
 obtain⟨kvs,e⟩:=d
 obtain⟨_,hd,xs,_,dd⟩:=uC I.bh e
 refine⟨dd.typeIs,fun b q =>?_,hd⟩
 cases q
 obtain⟨ob,_,_,h1,h2,_⟩:=dd
 exact⟨ob,h1,h2.2.1⟩
section
variable {X:Cx}{o e f:Expr}{c9 cZ:Pos}{td ty tx:TE}
theorem FG(hu:X.A.units+10 < cLine)(ho:PE X o td)(he:PE X e ty)(hf:PE X f tx)(m:M2 X o "setdefault" c9 e f cZ):PE X (.Call (.Attribute o "setdefault" c9) [e,f] [] cZ) (adg X.prog X.w td ty tx):=by
 intro ah s Y H Q I h
 refine wpAny_Call_method m.base m.dG m.line gx rA PySem.F.type_dict_setdefault (bB (ho ah s Y H _ I h) fun u s1 ⟨x,H1,I1,rx,a,ex,d,q1⟩ =>?_)
 subst ex
 obtain rfl:u=aH a:=rx
 obtain⟨t1,t2,_⟩:=AL I1 d
 refine⟨t1,t2,?_⟩
 rw[m.trees]
 refine eK rfl (ir (gi (bB (he ah s1 Y H1 _ I1 q1) fun iv s2 ⟨y,H2,I2,ry,q2⟩ =>
  gi (bB (hf ah s2 Y H2 _ I2 q2) fun fv s3 ⟨z,H3,I3,rz,kvs,k,b,d3,ey,nk,hl,q3,q4⟩=>jr ?_))))
 subst ey
 obtain rfl:iv=aH b:=ry
 exact HR hu I3 d3 nk rz hl (fun v' w' s4 e4 r4 I4=>⟨v',H3,I4,r4,q3 v' e4⟩) fun hn φ s4 I4 d4=>⟨z,_,I4,rz,q4 hn φ d4⟩
def YS(P:Program)(w:World):TE:=fun _ H Q=>∀ p φ,H p=none->DN P w (upd H p (.ext φ)) p []->Q (.ref p) (upd H p (.ext φ))
theorem m6{pos:Pos}:PE X (.Dict [] [] pos) (YS X.prog X.w):=by
 intro ah s Y H Q I h
 have hd:(s.heap.objs.size == sysModules)=false:=beq_eq_false_iff_ne.mpr (cm (br I.big))
 refine wpAny_Dict_empty ⟨.ref s.heap.objs.size,_,I.laid (a:=s.heap.objs.size) (o := .ext fun h=>h.get? s.heap.objs.size=some { cls := .type "dict",data := .dict #[] }) (t':=s.toks) (fun _ _ q=>ay _ q) (ar _) (KQ (aT _ rfl)),O,h _ _ (I.bh.fresh (ar _)) ?_⟩
 exact⟨bx _,hd, [],_, #[],0,aF,.nil,⟨O,O,O⟩,O,O,c6⟩
end
end L2
namespace Sw
inductive TM(S:Type) where
 | num (n:Int) | name (x:S) | of (x:S) (as:List Nat)
section
variable {S:Type}
inductive Eqv(ts:List (TM S))(es:List (Nat × Nat)):Nat->Nat->Prop where
 | refl (i:Nat):Eqv ts es i i
 | symm {i j:Nat}:Eqv ts es i j->Eqv ts es j i
 | trans {i j k:Nat}:Eqv ts es i j->Eqv ts es j k->Eqv ts es i k
 | dH {i j:Nat}:(i,j)∈es->Eqv ts es i j
 | same {i j:Nat}{t:TM S}:ts[i]? = some t->ts[j]? = some t->Eqv ts es i j
 | La {i j:Nat}{x:S}{as bs:List Nat}:ts[i]? = some (.of x as)->ts[j]? = some (.of x bs)->as.length=bs.length->(∀ (k a b:Nat),as[k]? = some a->bs[k]? = some b->Eqv ts es a b)->Eqv ts es i j
def nR(ls:List Nat):Prop := ∀ k v:Nat,ls[k]? = some v->v<=k∧ls[v]? = some v
def l5(hi lo v:Nat):Nat:=if v=hi then lo else v
def jn(ls:List Nat)(hi lo:Nat):List Nat:=ls.map (l5 hi lo)
theorem pT{ls:List Nat}{hi lo k:Nat}:(jn ls hi lo)[k]? = (ls[k]?).map (l5 hi lo):=by unfold jn;rw[aK]
theorem QS{ls:List Nat}{hi lo:Nat}:(jn ls hi lo).length=ls.length:=by unfold jn;rw[az]
theorem Nb{ls:List Nat}{hi lo:Nat}(g:nR ls)(AQ:ls[lo]? = some lo)(hl:lo < hi):nR (jn ls hi lo):=by
 intro k v h
 rw[pT]at h
 cases e:ls[k]? with
 | none=>rw[e]at h;cases h
 | some u =>
  rw[e]at h
  have h':l5 hi lo u=v:=aD h
  obtain⟨g1,g2⟩:=g k u e
  unfold l5 at h'
  by_cases hu:u=hi
  ·rw[if_pos hu]at h'
   subst h'
   refine⟨by omega,?_⟩
   rw[pT,AQ]
   show some (l5 hi lo lo)=some lo
   unfold l5
   rw[if_neg (by omega)]
  ·rw[if_neg hu]at h'
   subst h'
   refine⟨g1,?_⟩
   rw[pT,g2]
   show some (l5 hi lo u)=some u
   unfold l5
   rw[if_neg hu]
def Sound(ts:List (TM S))(es:List (Nat × Nat))(ls:List Nat):Prop := ∀ k v:Nat,ls[k]? = some v->Eqv ts es k v
theorem IK{ts:List (TM S)}{es:List (Nat × Nat)}{ls:List Nat}{hi lo:Nat}(h:Sound ts es ls)(e:Eqv ts es hi lo):Sound ts es (jn ls hi lo):=by
 intro k v q
 rw[pT]at q
 cases z:ls[k]? with
 | none=>rw[z]at q;cases q
 | some u =>
  rw[z]at q
  have h':l5 hi lo u=v:=aD q
  have:=h k u z
  unfold l5 at h'
  by_cases hu:u=hi
  ·rw[if_pos hu]at h'
   subst h' hu
   exact .trans this e
  ·rw[if_neg hu]at h'
   subst h'
   exact this
def Keeps(ls gv:List Nat):Prop := ∀ i j v:Nat,ls[i]? = some v->ls[j]? = some v->∃ u,gv[i]? = some u∧gv[j]? = some u
theorem OI(ls:List Nat):Keeps ls ls:=fun i j v h1 h2=>⟨v,h1,h2⟩
theorem Keeps.trans{a b c:List Nat}(h:Keeps a b)(h':Keeps b c):Keeps a c:=fun i j v h1 h2=>by
 obtain⟨u,e1,e2⟩:=h i j v h1 h2
 exact h' i j u e1 e2
theorem Uc(ls:List Nat)(hi lo:Nat):Keeps ls (jn ls hi lo):=fun i j v h1 h2=>⟨l5 hi lo v,by rw[pT,h1];rfl,by rw[pT,h2];rfl⟩
theorem Mi{hi lo:Nat}(hl:lo<=hi):∀ ls:List Nat,(ls.map (l5 hi lo)).sum<=ls.sum
 | []=>ar _
 | v :: ls=>by
  have:=Mi hl ls
  rw[aS,tM,tM]
  have h1:l5 hi lo v<=v:=by unfold l5;split <;> omega
  omega
theorem P0{hi lo:Nat}(hl:lo < hi):∀ {ls:List Nat},hi∈ls->(jn ls hi lo).sum < ls.sum
 | v :: ls,h=>by
  unfold jn
  rw[aS,tM,tM]
  have h1:l5 hi lo v<=v:=by unfold l5;split <;> omega
  have h2:=Mi (hi:=hi) (lo:=lo) (by omega) ls
  rcases aW.mp h with e | e
  ·have:l5 hi lo v < v:=by unfold l5;rw[if_pos e.symm];omega
   omega
  ·have:=P0 hl e
   unfold jn at this
   omega
def md(ls:List Nat)(hi lo m:Nat):List Nat:=ls.mapIdx fun k v=>if k < m then l5 hi lo v else v
theorem vk{ls:List Nat}{hi lo m k:Nat}:(md ls hi lo m)[k]? = (ls[k]?).map fun v=>if k < m then l5 hi lo v else v:=by unfold md;rw[List.getElem?_mapIdx]
theorem MG{ls:List Nat}{hi lo m:Nat}:(md ls hi lo m).length=ls.length:=by unfold md;rw[List.length_mapIdx]
theorem QD{ls:List Nat}{hi lo:Nat}(g:nR ls):md ls hi lo hi=ls:=by
 refine d9 fun k =>?_
 rw[vk]
 cases e:ls[k]? with
 | none=>rfl
 | some v =>
  have:=(g k v e).1
  show some _=some _
  dsimp only
  by_cases hk:k < hi
  ·rw[if_pos hk];unfold l5;rw[if_neg (by omega)]
  ·rw[if_neg hk]
theorem XI{ls:List Nat}{hi lo m v:Nat}(h:ls[m]? = some v):(md ls hi lo m).set m (l5 hi lo v)=md ls hi lo (m+1):=by
 have hm:=(ai.mp h).1
 refine d9 fun k =>?_
 rw[BU,vk,vk,MG]
 by_cases hk:m=k
 ·subst hk
  rw[if_pos rfl,if_pos hm,h]
  show some _=some _
  dsimp only
  rw[if_pos (by omega)]
 ·rw[if_neg hk]
  cases e:ls[k]? with
  | none=>rfl
  | some u =>
   show some _=some _
   dsimp only
   by_cases h1:k < m
   ·rw[if_pos h1,if_pos (by omega)]
   ·rw[if_neg h1,if_neg (by omega)]
theorem TZ{ls:List Nat}{hi lo m v:Nat}(h:ls[m]? = some v)(hv:v≠hi):md ls hi lo (m+1)=md ls hi lo m:=by
 refine d9 fun k =>?_
 rw[vk,vk]
 by_cases hk:k=m
 ·subst hk
  rw[h]
  show some _=some _
  dsimp only
  rw[if_pos (by omega),if_neg (by omega)]
  unfold l5
  rw[if_neg hv]
 ·cases e:ls[k]? with
  | none=>rfl
  | some u =>
   show some _=some _
   dsimp only
   by_cases h1:k < m
   ·rw[if_pos h1,if_pos (by omega)]
   ·rw[if_neg h1,if_neg (by omega)]
theorem XJ{ls:List Nat}{hi lo m:Nat}(h:ls.length<=m):md ls hi lo m=jn ls hi lo:=by
 refine d9 fun k =>?_
 rw[vk,pT]
 cases e:ls[k]? with
 | none=>rfl
 | some u =>
  have:=(ai.mp e).1
  show some _=some _
  dsimp only
  rw[if_pos (by omega)]
def mk(ls:List Nat):TM S->TM S
 | .num n => .num n
 | .name x => .name x
 | .of x as => .of x (as.map fun a=>ls.getD a 0)
def EV(ts:List (TM S))(es:List (Nat × Nat)):TM S->TM S->Prop
 | .of x as,.of y vs=>x=y∧as.length=vs.length∧∀ k a v:Nat,as[k]? = some a->vs[k]? = some v->Eqv ts es a v
 | t,m=>t=m
theorem Gu{ts:List (TM S)}{es:List (Nat × Nat)}{ls:List Nat}(h:Sound ts es ls):∀ {t:TM S},(∀ x as,t = .of x as->∀ a∈as,a < ls.length)->EV ts es t (mk ls t)
 | .num n,_=>rfl
 | .name x,_=>rfl
 | .of x as,hb=>by
  refine⟨O,by rw[az],fun k a v h1 h2 =>?_⟩
  rw[aK,h1]at h2
  have e:ls.getD a 0=v:=aD h2
  have ha:=hb x as rfl a (ak h1)
  rw[bc,aj ha]at e
  refine h a v ?_
  rw[aj ha, <- e]
  rfl
theorem Oe{ts:List (TM S)}{es:List (Nat × Nat)}{i j:Nat}{t u m:TM S}(hi:ts[i]? = some t)(hj:ts[j]? = some u)(h1:EV ts es t m)(h2:EV ts es u m):Eqv ts es i j:=by
 cases t with
 | num n =>
  have e:TM.num n=m:=h1
  subst e
  cases u with
  | num k=>cases (show TM.num k=TM.num n from h2);exact .same hi hj
  | name y=>cases (show TM.name y=TM.num n from h2)
  | of y bs=>cases (show TM.of y bs=TM.num n from h2)
 | name x =>
  have e:TM.name x=m:=h1
  subst e
  cases u with
  | num k=>cases (show TM.num k=TM.name x from h2)
  | name y=>cases (show TM.name y=TM.name x from h2);exact .same hi hj
  | of y bs=>cases (show TM.of y bs=TM.name x from h2)
 | of x as =>
  cases m with
  | num k=>cases (show TM.of x as=TM.num k from h1)
  | name y=>cases (show TM.of x as=TM.name y from h1)
  | of y vs =>
   obtain⟨rfl,l1,q1⟩:=h1
   cases u with
   | num k=>cases (show TM.num k=TM.of x vs from h2)
   | name z=>cases (show TM.name z=TM.of x vs from h2)
   | of z bs =>
    obtain⟨rfl,l2,q2⟩:=h2
    refine .La hi hj (by omega) fun k a b ha hb =>?_
    have hk:k < vs.length:=by have:=(ai.mp ha).1;omega
    exact .trans (q1 k a _ ha (aj hk)) (.symm (q2 k b _ hb (aj hk)))
def Bo(ts:List (TM S))(es:List (Nat × Nat))(ls:List Nat):Prop :=
 ls.length=ts.length∧nR ls∧Sound ts es ls∧∀ i j:Nat,i < ts.length->j < ts.length->Eqv ts es i j->ls[i]? = ls[j]?
def rJ(ts:List (TM S)):Prop := ∀ (i:Nat) (x:S) (as:List Nat),ts[i]? = some (.of x as)->∀ a∈as,a < i
theorem UM{ts:List (TM S)}{es:List (Nat × Nat)}{ls:List Nat}(ha:rJ ts)(he:∀ a b:Nat,(a,b)∈es->a < ts.length∧b < ts.length)(hl:ls.length=ts.length)(h1:∀ a b:Nat,(a,b)∈es->ls[a]? = ls[b]?)(h2:∀ (i j:Nat) (t u:TM S),ts[i]? = some t->ts[j]? = some u->mk ls t=mk ls u->ls[i]? = ls[j]?){i j:Nat}(h:Eqv ts es i j):ls[i]? = ls[j]? := by
 induction h with
 | refl i=>rfl
 | symm _ ih=>exact ih.symm
 | trans _ _ JO GV=>exact JO.trans GV
 | dH h=>exact h1 _ _ h
 | same q1 q2=>exact h2 _ _ _ _ q1 q2 rfl
 | @La i j x as bs q1 q2 MY _ ih =>
  refine h2 _ _ _ _ q1 q2 ?_
  have e:as.map (fun a=>ls.getD a 0)=bs.map (fun a=>ls.getD a 0):=by
   refine d9 fun k =>?_
   rw[aK,aK]
   by_cases hk:k < as.length
   ·have e1:=aj (l:=as) hk
    have e2:=aj (l:=bs) (show k < bs.length by omega)
    have:=ih k _ _ e1 e2
    rw[e1,e2]
    show some (ls.getD _ 0)=some (ls.getD _ 0)
    rw[bc,bc,this]
   ·rw[eY (by omega),eY (by omega)]
  show TM.of x _=TM.of x _
  rw[e]
theorem X0(n:Nat):nR (bA n):=fun k v h=>by
 have hk:k < (bA n).length:=(ai.mp h).1
 rw[cN]at hk
 rw[iO hk]at h
 cases h
 exact⟨ar _,iO hk⟩
theorem S4(ts:List (TM S))(es:List (Nat × Nat))(n:Nat):Sound ts es (bA n):=fun k v h=>by
 have hk:k < (bA n).length:=(ai.mp h).1
 rw[cN]at hk
 rw[iO hk]at h
 cases h
 exact .refl _
end
end Sw
namespace L2
open PySem PySem.Spec PyProof.Rows
section
variable {X:Cx}
inductive yi(xs:List V)(H:Hp)(Q:VK):Prop
 | mk:∀ (j:Int),(xs = [.int j])->(∀ p,H p=none->Q (.ref p) (upd H p (.Aq 0 j)))->yi xs H Q
theorem Le:kr X (.type "range") (fun xs H Q=>yi xs H Q):=by
 intro ah s Y H xs us Q I r h
 obtain⟨j,rfl,q⟩:=h
 obtain⟨u,rfl,ru⟩:=vals1 r
 obtain⟨t,rfl⟩:=ru
 exact call_range_1 ⟨.ref s.heap.objs.size,_,I.laid (a:=s.heap.objs.size) (o := .Aq 0 j) (fun _ _ q=>ay _ q) (ar _) ⟨_,_,_,aT _ rfl⟩,O,q _ (I.bh.fresh (ar _))⟩
inductive wZ(xs:List V)(H:Hp)(Q:VK):Prop
 | mk:∀ (p:Addr) (n:Nat),(xs = [.ref p])->(H p=some (.Aq 0 (n:Int)))->(n<=1000000)->(∀ l,H l=none->Q (.ref l) (upd H l (.lst ((bA n).map fun i:Nat=>V.int (i:Int)))))->wZ xs H Q
theorem HS(hc:X.calm=true):kr X (.type "list") (fun xs H Q=>wZ xs H Q):=by
 intro ah s Y H xs us Q I r h
 obtain⟨p,n,rfl,hp,hn,q⟩:=h
 obtain⟨u,rfl,ru⟩:=vals1 r
 cases (show u=aH p from ru)
 obtain⟨t,t',t'',e⟩:=(show cY X.prog X.w H s.heap p (.Aq 0 (n:Int)) from I.bh p _ hp)
 have hz:wg 0 (n:Int) 1=n:=by rw[rangeSize_one];split <;> omega
 refine call_list_range (I.ok.hd hc) e (small_one (by omega) (by omega) (by omega) (by omega)) hz (by omega) fun h' tk ahT c' kp hS Uw =>?_
 refine⟨.ref s.heap.objs.size,_,I.laid kp (ar _) (show cY X.prog X.w _ h' _ (.lst ((bA n).map fun i:Nat=>V.int (i:Int))) from ⟨?_,ahT.toList,c',?_,by simpa using hS⟩),O,q _ (I.bh.fresh (ar _))⟩
 ·rw[az,cN]
  exact bf hn (by decide)
 ·refine PF (by rw[az,cN,dA];exact Uw.1.symm) fun j x v hx hv =>?_
  obtain⟨t2,t6⟩:=Uw.2 j v (by rw[<- fX];exact hv)
  rw[aK]at hx
  have hj:j < n:=by
   have:=(ai.mp hv).1
   rw[dA,Uw.1]at this
   exact this
  rw[iO hj]at hx
  have ex:V.int ((j:Nat):Int)=x:=aD hx
  rw[<- ex,t6]
  exact⟨t2,by congr 1;omega⟩
where
 PF:∀ {xs:List V}{us:List Value},xs.length=us.length->(∀ (j:Nat) x u,xs[j]? = some x->us[j]? = some u->RelV x u)->Vals xs us
 | [], [],_,_ => .nil
 | [],_ :: _,h,_=>by cases h
 | _ :: _, [],h,_=>by cases h
 | x :: xs,u :: us,h,f => .cons (f 0 x u rfl rfl) (PF (by simpa using h) fun j a b ha hb=>f (j+1) a b (by simpa using ha) (by simpa using hb))
end
theorem n5{k:Nat}{A:Around}(hr:fg k A):A.units+10 < cLine:=by have:=hr.un;omega
theorem U9{k:Nat}{A:Around}(hr:fg k A):A.units+151 < cLine:=by have:=hr.un;omega
theorem Cq{lo:Int}{n:Nat}{ct:TT}{te:TE}{Y:St}{caps:List (Str × Nat)}{H:Hp}{Q:VK}(f:Int->Option V)(hn:n<=1000)(Ce:∀ (i:Nat),i < n->∀ H',bJ H H'->∀ (R:Bool->Hp->Prop),(R (f (lo+i)).isSome H')->ct (some (.int (lo+i)) :: jY Y caps) H' R)(hev:∀ (i:Nat) v,i < n->f (lo+i)=some v->∀ H',bJ H H'->∀ Q':VK,Q' v H'->te (some (.int (lo+i)) :: jY Y caps) H' Q')(hq:∀ D,H D=none->Q (.ref D) (upd H D (.lst ((bA n).filterMap fun i:Nat=>f (lo+i))))) :
  HI (HF lo n) (bq 0) ct te (bR 1 none ++ jY Y caps) H Q:=by
 intro D hD
 refine⟨fun i m G zs H'=>m=n - i∧i<=n∧(∃ o, G = o :: jY Y caps)∧zs=(bA i).filterMap (fun i:Nat=>f (lo+i))∧H'=upd H D (.lst zs),⟨n,by simp,bx _,⟨none,O⟩,by simp,O⟩,?_⟩
 rintro i m G zs H' ⟨rfl,hi,⟨o,rfl⟩,rfl,rfl⟩
 refine⟨aF,?_⟩
 have sm:∀ zs,bJ H (upd H D (.lst zs)):=fun zs=>bo hD _
 by_cases cW:i < n
 ·refine .inr ⟨cW,?_,fun x gQ y =>?_⟩
  ·refine cU (bf (List.length_filterMap_le _ _) ?_)
   rw[cN];omega
  obtain⟨e,e2⟩:=y
  subst e e2
  show ct (some (.int (lo+(i:Int))) :: jY Y caps) _ _
  refine Ce i cW _ (sm _) _ ?_
  have step:(bA (i+1)).filterMap (fun i:Nat=>f (lo+i))=(bA i).filterMap (fun i:Nat=>f (lo+i)) ++ (match f (lo+i) with | some v => [v] | none => []):=by
   rw[kf,List.filterMap_append]
   congr 1
   rw[jU,List.filterMap_nil]
   cases f (lo+(i:Int)) <;> rfl
  cases e:f (lo+(i:Int)) with
  | none =>
   rw[e]at step
   refine⟨n - (i+1),by omega,O,cW,⟨_,O⟩,?_,O⟩
   rw[step,dw]
  | some v =>
   rw[e]at step
   refine hev i v cW e _ (sm _) _ ?_
   refine⟨aF,n - (i+1),by omega,O,cW,⟨_,O⟩,step.symm,?_⟩
   rw[Fj]
 ·have e:i=n:=by omega
  subst e
  exact .inl ⟨ar _,hq D hD⟩
end L2
namespace Sw
open PySem L2
abbrev Tm:=TM Str
abbrev nV(n:Nat):V:=V.int (n:Int)
abbrev aa(a:Addr):Option V:=some (.ref a)
abbrev aN(a:Nat):Option V:=some (nV a)
def oU(H:Hp):Tm->V->Prop
 | .num n,v=>∃ a,v = .ref a∧H a=some (.tup [.str "num",.int n])
 | .name x,v=>∃ a,v = .ref a∧H a=some (.tup [.str "name",.str x])
 | .of x as,v=>∃ a b,v = .ref a∧H a=some (.tup [.str "of",.str x,.ref b])∧H b=some (.tup (as.map nV))
theorem oU.keep{H H':Hp}(ht:∀ b ys,H b=some (.tup ys)->H' b=some (.tup ys)):∀ {t:Tm}{v:V},oU H t v->oU H' t v
 | .num n,v,h=>by obtain⟨a,e,h⟩:=h;exact⟨a,e,ht _ _ h⟩
 | .name x,v,h=>by obtain⟨a,e,h⟩:=h;exact⟨a,e,ht _ _ h⟩
 | .of x as,v,h=>by obtain⟨a,b,e,h,h2⟩:=h;exact⟨a,b,e,ht _ _ h,ht _ _ h2⟩
abbrev lH(H:Hp):List V->List Tm->Prop:=Paired fun v t=>oU H t v
theorem mR{H H':Hp}{us:List V}{ts:List Tm}(ht:∀ b ys,H b=some (.tup ys)->H' b=some (.tup ys))(h:lH H us ts):lH H' us ts:=Paired.xj h fun _ _ z=>z.keep ht
theorem gb{H H':Hp}{us:List V}{ts:List Tm}(sm:bJ H H')(h:lH H us ts):lH H' us ts:=mR (fun b ys=>sm _ _) h
theorem DG{H:Hp}:∀ {us:List V}{ts:List Tm}{i:Nat}{v:V},lH H us ts->us[i]? = some v->∃ t,ts[i]? = some t∧oU H t v
 | _,_,_,_,.nil,e=>by simp at e
 | _,_,0,_,.cons h _,e=>by simp at e;subst e;exact⟨_,O,h⟩
 | _,_,i+1,v,.cons _ r,e=>by
  obtain⟨t,e',h⟩:=DG (i:=i) (v:=v) r (by simpa using e)
  exact⟨t,by simpa using e',h⟩
theorem Ir{H:Hp}{us:List V}{ts:List Tm}{v:V}{t:Tm}(h:lH H us ts)(q:oU H t v):lH H (us ++ [v]) (ts ++ [t]):=rQ h q
def iY:Tm->NK
 | .num n => [.inl (.inr "num"),.inl (.inl n)]
 | .name x => [.inl (.inr "name"),.inl (.inr x)]
 | .of x as => [.inl (.inr "of"),.inl (.inr x),.inr (as.map fun n:Nat=>(.inl (n:Int):Key))]
theorem Iw:∀ {t u:Tm},iY t=iY u->t=u
 | .num n,.num m,e=>by unfold iY at e;simp at e;rw[e]
 | .name x,.name y,e=>by unfold iY at e;simp at e;rw[e]
 | .of x as,.of y bs,e=>by
  unfold iY at e
  simp only[wX,zM,zL,and_true,true_and]at e
  rw[e.1]
  have:=uy (f:=fun n:Nat=>(.inl (n:Int):Key)) (fun a b h=>by have h:=gH h;omega) e.2
  rw[this]
 | .num n,.name y,e=>by
  unfold iY at e
  simp only[wX,zM,zL]at e
  exact absurd e.1 (by decide)
 | .name n,.num y,e=>by
  unfold iY at e
  simp only[wX,zM,zL]at e
  exact absurd e.1 (by decide)
 | .num n,.of y bs,e=>by unfold iY at e;simp at e
 | .name n,.of y bs,e=>by unfold iY at e;simp at e
 | .of y bs,.num n,e=>by unfold iY at e;simp at e
 | .of y bs,.name n,e=>by unfold iY at e;simp at e
theorem adD(as:List Nat):as.map nV=(as.map fun n:Nat=>(.inl (n:Int):Key)).map kV:=by
 rw[il];rfl
theorem oU.key{H:Hp}:∀ {t:Tm}{v:V},oU H t v->∃ b,v = .ref b∧fD H (iY t) b
 | .num n,v,h=>by
  obtain⟨a,e,h⟩:=h
  refine⟨a,e,_,h,?_⟩
  exact⟨_,O,_,O,O⟩
 | .name x,v,h=>by
  obtain⟨a,e,h⟩:=h
  refine⟨a,e,_,h,?_⟩
  exact⟨_,O,_,O,O⟩
 | .of x as,v,h=>by
  obtain⟨a,b,e,h,h2⟩:=h
  refine⟨a,e,_,h,?_⟩
  rw[adD]at h2
  exact⟨_,O,_,O,b,_,O,h2,O⟩
def zu:Tm->D
 | .num n => .tup [.str "num",.int n]
 | .name x => .tup [.str "name",.str x]
 | .of x as => .tup [.str "of",.str x,.tup (as.map fun n:Nat => .int (n:Int))]
theorem Hh{H:Hp}:∀ as:List Nat,oj H (as.map fun n:Nat=>D.int (n:Int)) (as.map nV)
 | []=>by rw[fE,fE];exact vD
 | a :: as=>by rw[aS,aS];exact j9 (by rw[Den];exact .inl rfl) (Hh as)
theorem oU.den{H:Hp}:∀ {t:Tm}{v:V},oU H t v->Den H (zu t) v
 | .num n,v,h=>by
  obtain⟨a,e,h⟩:=h
  rw[zu,Den]
  exact⟨a,_,e,h,j9 (by rw[Den]) (j9 (by rw[Den];exact .inl rfl) vD)⟩
 | .name x,v,h=>by
  obtain⟨a,e,h⟩:=h
  rw[zu,Den]
  exact⟨a,_,e,h,j9 (by rw[Den]) (j9 (by rw[Den]) vD)⟩
 | .of x as,v,h=>by
  obtain⟨a,b,e,h,h2⟩:=h
  rw[zu,Den]
  exact⟨a,_,e,h,j9 (by rw[Den]) (j9 (by rw[Den]) (j9 (by rw[Den];exact⟨b,_,O,h2,Hh as⟩) vD))⟩
theorem W2{H:Hp}{us:List V}{ts:List Tm}(h:lH H us ts):oj H (ts.map zu) us:=by
 induction h with
 | nil=>exact vD
 | cons h _ ih=>rw[aS];exact j9 h.den ih
theorem GU:∀ as:List Nat,D.dX (as.map fun n:Nat=>D.int (n:Int))=0
 | []=>by rw[fE,D.dX]
 | a :: as=>by rw[aS,D.dX,GU as,D.deep];rfl
theorem W3:∀ t:Tm,(zu t).deep<=2
 | .num n=>by rw[zu,D.deep,D.dX,D.dX,D.dX,D.deep,D.deep];decide
 | .name n=>by rw[zu,D.deep,D.dX,D.dX,D.dX,D.deep,D.deep];decide
 | .of x as=>by rw[zu,D.deep,D.dX,D.dX,D.dX,D.dX,D.deep,D.deep,D.deep,GU];decide
theorem Iu:∀ ts:List Tm,D.dX (ts.map zu)<=2
 | []=>by rw[fE,D.dX];omega
 | t :: ts=>by rw[aS,D.dX];have:=Iu ts;have:=W3 t;omega
def dD(L:Addr)(H H':Hp):Prop := ∀ c o,c≠L->H c=some o->H' c=some o
theorem dD.refl(L:Addr)(H:Hp):dD L H H:=fun _ _ _ h=>h
theorem dD.trans{L:Addr}{H H1 H2:Hp}(a:dD L H H1)(b:dD L H1 H2):dD L H H2:=fun c o n h=>b c o n (a c o n h)
theorem dD.same{L:Addr}{H H1 H2:Hp}(a:dD L H H1)(b:bJ H1 H2):dD L H H2:=fun c o n h=>b c o (a c o n h)
theorem dD.put{L:Addr}{H H1:Hp}{o:HO}(a:dD L H H1):dD L H (upd H1 L o):=fun c u n h=>by rw[aE n];exact a c u n h
theorem dD.new{L p:Addr}{H H1:Hp}{o:HO}(a:dD L H H1)(hp:H p=none):dD L H (upd H1 p o):=fun c u n h=>by rw[aE (bQ h hp)];exact a c u n h
theorem dD.tup{L:Addr}{H H1:Hp}{ls:List V}(a:dD L H H1)(hL:H L=some (.lst ls)):∀ b ys,H b=some (.tup ys)->H1 b=some (.tup ys):=fun b ys h=>a b _ (aZ h hL nofun) h
def SG(H:Hp)(v:V)(e:Nat × Nat):Prop := ∃ a rest,v = .ref a∧H a=some (.tup (nV e.1 :: nV e.2 :: rest))
abbrev Pl(H:Hp):List V->List (Nat × Nat)->Prop:=Paired (SG H)
theorem KZ{H:Hp}:∀ {us:List V}{ts:List (Nat × Nat)}{i:Nat}{v:V},Pl H us ts->us[i]? = some v->∃ t,ts[i]? = some t∧SG H v t
 | _,_,_,_,.nil,e=>by simp at e
 | _,_,0,_,.cons h _,e=>by simp at e;subst e;exact⟨_,O,h⟩
 | _,_,i+1,v,.cons _ r,e=>by
  obtain⟨t,e',h⟩:=KZ (i:=i) (v:=v) r (by simpa using e)
  exact⟨t,by simpa using e',h⟩
theorem mZ{t rest:TS}{D:Ends}{Y:St}{H:Hp}(R:St->Hp->Prop)(key:∀ bw H',R bw H'->rest D bw H')(h:∀ {N:St->Hp->Prop},(∀ bw H',R bw H'->N bw H')->t { D with nx:=N } Y H):SW t rest D Y H:=h key
theorem oG{ls:List Nat}{k v:Nat}(h:ls[k]? = some v):uh (ls.map nV) (k:Int)=some (nV v):=aY (by rw[aK,h];rfl)
theorem Z6{ls:List Nat}{k v:Nat}:(ls.map nV).set k (nV v)=(ls.set k v).map nV:=by rw[List.map_set]
def abc:Str := "abcdefghijklmnopqrstuvwxyz"
def C3(i:Int):Str:=⟨#[abc.cps.toList.getD (i % 26).toNat 97]⟩
theorem Yj(i:Int):uh abc.cps.toList (i % 26)=some (abc.cps.toList.getD (i % 26).toNat 97):=by
 have h0:0<=i % 26:=km _ (by decide)
 have h1:i % 26 < 26:=sT _ (by decide)
 have hl:abc.cps.toList.length=26:=by decide +kernel
 have hi:(i % 26).toNat < abc.cps.toList.length:=by omega
 have z:uh abc.cps.toList (((i % 26).toNat:Nat):Int)=some abc.cps.toList[(i % 26).toNat]:=aY (aj hi)
 have e:(((i % 26).toNat:Nat):Int)=i % 26:=by omega
 rw[e]at z
 rw[z,bc,aj hi]
 rfl
theorem fQ{α β : Type}{R : α -> β -> Prop}:∀ {xs L9:List α} {ys ys':List β},Paired R xs ys->Paired R L9 ys'->Paired R (xs ++ L9) (ys ++ ys')
 | _,_,_,_,.nil,h=>h
 | _,_,_,_,.cons h r,q => .cons h (fQ r q)
end Sw
namespace L2
open PySem PySem.Spec PyProof.Rows
section
variable {prog:Program}{w:World}{K:Type} [DecidableEq K] {knd:HeapKind prog w K}{A:Around}{E:Value->Shared->Prop}{s:Shared}{d:Addr}{xs:List (K × Addr × Value)}
theorem D4(hd:(d == sysModules)=false) :
  MeetsIn prog w (Builtin.«dict.__len__» ⟨[.ref d], []⟩) (fun _ R s=>∃ xs,s.heap.DictOfH knd d xs∧R (.ok (.ret (.int xs.length s.toks))) { s with toks:=s.toks+1 }) :=
 .of_wp fun A R s ⟨xs,hm,h⟩=>by
  obtain⟨o,es,ep,ho,hc,ahs,he,hk,hn⟩:=hm
  show wpAny _ _ (dictSize d >>= _) _ _ s
  unfold dictSize
  refine wpAny_bind (wpAny_bind (wpAny_dictEntries ho ahs (wpAny_pure ?_)))
  show wpAny _ _ (Builtin.Dict.pendingCount d >>= _) _ _ s
  refine wpAny_bind (wpAny_pendingCount_other hd ?_)
  refine wpAny_ret_mkInt ?_
  rw[qm,size_of_entries he];exact h
theorem QJ{Q:Value->Shared->Prop}(hd:(d == sysModules)=false)(hm:s.heap.DictOfH knd d xs)(OV:(xs.length:Int) < 2 ^ 63)(h:Q (.int xs.length (s.toks+1)) { s with toks:=s.toks+1+1 }):wpAny (model prog w) A (Builtin.«len» ⟨[.ref d], []⟩) (fun fin s'=>∃ r,fin = .done (.ret r)∧Q r s') E s:=by
 unfold Builtin.«len»
 refine wpAny_bind (m:=oneArg "len" _) (wpAny_pure ?_)
 refine wpAny_bind (m:=callSpecial? (.ref d) (eX "__len__")) (wpAny_callSpecial?_slot (name:=eX "__len__") hm.typeIs F.slot_dict_len
  (call_meetsIn F.slot_dict_len hm.typeIs F.entry_dict_len (F.args_dict_len_1 _) (D4 (knd:=knd) hd) ⟨xs,hm,?_⟩))
 show wpAny _ _ _ _ _ { s with toks:=s.toks+1 }
 refine wpAny_bind (wpAny_holding (wpAny_pure ?_))
 refine wpAny_bind (wpAny_letGo ?_)
 show wpAny _ _ (if ((xs.length:Nat):Int) < 0 then _ else _) _ _ _
 rw[if_neg (by omega)]
 show wpAny _ _ (if ((xs.length:Nat):Int) ≥ 2 ^ 63 then _ else _) _ _ _
 rw[if_neg (by omega)]
 exact wpAny_bind (wpAny_mkInt (wpAny_pure ⟨_,O,h⟩))
theorem RR{Q:Value->Shared->Prop}(hd:(d == sysModules)=false)(hm:s.heap.DictOfH knd d xs)(OV:(xs.length:Int) < 2 ^ 63)(h:Q (.int xs.length (s.toks+1)) { s with toks:=s.toks+1+1 }):wpAny (model prog w) A (call (.builtin "len") [.ref d]) Q E s :=
 Calls.call_function_entry kind_len plain_len entry_len (args_len1 _) (QJ hd hm OV h)
end
section
variable {X:Cx}{ah:List (Addr × Obj)}{Y:St}{H:Hp}{s:Shared}{a b:Addr}{kvs OF:List (NK × V)}{k:NK}{y v:V}{u r:Value}{A:Around}{E:Value->Shared->Prop}
theorem KN.IX{xs:List (NK × Addr × Value)}(r:KN H kvs xs)(k:NK){y:V}{u:Value}(ry:RelV y u) :
  KN H (kvs.map fun kv=>if kv.1=k then (kv.1,y) else kv) (xs.map (putAt k u)):=by
 induction r with
 | nil=>exact .nil
 | @cons p q ps qs h t ih =>
  rw[aS,aS]
  refine .cons ?_ ih
  obtain⟨h1,h2,h3⟩:=h
  unfold putAt
  by_cases e:p.1=k
  ·rw[if_pos e,if_pos (h1.symm.trans e)];exact⟨h1,h2,ry⟩
  ·rw[if_neg e,if_neg (fun z=>e (h1.trans z))];exact⟨h1,h2,h3⟩
theorem KN.put{xs:List (NK × Addr × Value)}(r:KN H kvs xs)(k:NK){b:Addr}{y:V}{u:Value}(hb:fD H k b)(ry:RelV y u) :
  KN H (eW kvs k y) (storedH xs k b u):=by
 have e:(kvs.any fun kv=>decide (kv.1=k))=(atKey xs k).isSome:=by
  rw[lM,(r.val k).pe,kI]
 unfold eW storedH
 rw[e]
 by_cases q:(atKey xs k).isSome=true
 ·rw[if_pos q,if_pos q];exact r.IX k ry
 ·rw[if_neg q,if_neg q];exact rQ r ⟨O,hb,ry⟩
theorem EB{Q:Value->Shared->Prop}(hu:A.units+10 < cLine)(I:Inv X ah Y H s)(d:DN X.prog X.w H a kvs)(nk:fD H k b)(l:bL kvs k=some v)(h:∀ w' s',Inv X ah Y H s'->RelV v w'->Q w' s') :
  wpAny (model X.prog X.w) A (getItem (.ref a) (.ref b)) Q E s:=by
 obtain⟨z,hd,xs,cV,dd⟩:=uC I.bh d
 obtain⟨w',hw,kR⟩:=jZ.some_of (v:=v) (o:=(atKey xs k).map (·.2)) (by rw[<- l];exact cV.val k)
 obtain⟨p,hp,pw⟩:=cP.mp hw
 refine wpAny_getItem_heap (show A.units+1+5 < cLine by omega) (o8 I.bh nk) dd hp ?_
 rw[pw]
 exact h w' _ (I.tok _) kR
theorem ad2{Q:Value->Shared->Prop}(hu:A.units+10 < cLine)(I:Inv X ah Y H s)(d:DN X.prog X.w H a kvs)(nk:fD H k b)(h:∀ s',Inv X ah Y H s'->Q (.bool (bL kvs k).isSome) s') :
  wpAny (model X.prog X.w) A (compareOp .In (.ref b) (.ref a)) Q E s:=by
 obtain⟨z,hd,xs,cV,dd⟩:=uC I.bh d
 refine wpAny_in_heap (show A.units+1+5 < cLine by omega) (o8 I.bh nk) hd dd ?_
 have q:=(cV.val k).pe
 rw[kI]at q
 rw[<- q]
 exact h _ (I.tok _)
theorem UI{Q:Value->Shared->Prop}(hu:A.units+10 < cLine)(I:Inv X ah Y H s)(d:DN X.prog X.w H a kvs)(nk:fD H k b)(h:∀ s',Inv X ah Y H s'->Q (.bool (!(bL kvs k).isSome)) s') :
  wpAny (model X.prog X.w) A (compareOp .NotIn (.ref b) (.ref a)) Q E s:=by
 obtain⟨z,hd,xs,cV,dd⟩:=uC I.bh d
 refine wpAny_notIn_heap (show A.units+1+5 < cLine by omega) (o8 I.bh nk) hd dd ?_
 have q:=(cV.val k).pe
 rw[kI]at q
 rw[<- q]
 exact h _ (I.tok _)
theorem EA{Q:Unit->Shared->Prop}(hu:A.units+10 < cLine)(I:Inv X ah Y H s)(d:DN X.prog X.w H a kvs)(nk:fD H k b)(rv:RelV v r)(hl:kvs.length < sizeLine)(h:∀ φ s',Inv X ah Y (upd H a (.ext φ)) s'->DN X.prog X.w (upd H a (.ext φ)) a (eW kvs k v)->Q () s') :
  wpAny (model X.prog X.w) A (setItem (.ref a) (.ref b) r) Q E s:=by
 obtain⟨z,hd,xs,cV,dd⟩:=uC I.bh d
 have hz:xs.length<=sizeLine:=by rw[<- aV cV];exact z
 have MY:(eW kvs k v).length<=sizeLine:=by have:=xk kvs k v;omega
 refine wpAny_setItem_heap (hsz:=hz) (show A.units+1+5 < cLine by omega) (o8 I.bh nk) dd fun h' ya hs =>?_
 obtain⟨φ,I',d'⟩:=K2 (t':=s.toks+(kY X.prog X.w).draws k) I d hs ya (cV.put k nk rv) MY
 exact h φ _ I' d'
theorem X5{Q:Value->Shared->Prop}(hu:A.units+10 < cLine)(I:Inv X ah Y H s)(d:DN X.prog X.w H a kvs)(nk:fD H k b)(h:∀ w' s',Inv X ah Y H s'->RelV ((bL kvs k).getD .cG) w'->Q w' s') :
  wpAny (model X.prog X.w) A (call (.builtin "dict.get") [.ref a,.ref b]) Q E s:=by
 obtain⟨z,hd,xs,cV,dd⟩:=uC I.bh d
 exact call_meetsIn lA dd.typeIs xu (PySem.F.args_dict_get_2 _ _) (meetsH_dict_get (kY X.prog X.w) a b hd) ⟨(show A.units+1+5 < cLine by omega),k,xs,o8 I.bh nk,dd,h _ _ (I.tok _) ((cV.val k).getD rfl)⟩
theorem acp{Q:Value->Shared->Prop}(I:Inv X ah Y H s)(d:DN X.prog X.w H a kvs)(h:∀ t s',Inv X ah Y H s'->Q (.int kvs.length t) s'):wpAny (model X.prog X.w) A (call (.builtin "len") [.ref a]) Q E s:=by
 obtain⟨z,hd,xs,cV,dd⟩:=uC I.bh d
 have e:=aV cV
 refine RR hd dd (by rw[<- e];rw[sizeLine_eq]at z;omega) ?_
 rw[<- e]
 exact h _ _ (I.tok _)
end
inductive NI(P:Program)(w:World)(Q:VK)(x:V)(y:V)(H2:Hp):Prop
 | mk:∀ a b kvs k v,(x = .ref a)->(y = .ref b)->(DN P w H2 a kvs)->(fD H2 k b)->(bL kvs k=some v)->(Q v H2)->NI P w Q x y H2
def adj(P:Program)(w:World)(td ty:TE):TE:=fun Y H Q=>td Y H fun x H1=>ty Y H1 fun y H2=>NI P w Q x y H2
inductive Sf(P:Program)(w:World)(Q:VK)(y:V)(x:V)(H2:Hp):Prop
 | mk:∀ a b kvs k,(x = .ref a)->(y = .ref b)->(DN P w H2 a kvs)->(fD H2 k b)->(Q (.bl (bL kvs k).isSome) H2)->Sf P w Q y x H2
def agk(P:Program)(w:World)(ty td:TE):TE:=fun Y H Q=>ty Y H fun y H1=>td Y H1 fun x H2=>Sf P w Q y x H2
inductive HB(P:Program)(w:World)(Q:VK)(y:V)(x:V)(H2:Hp):Prop
 | mk:∀ a b kvs k,(x = .ref a)->(y = .ref b)->(DN P w H2 a kvs)->(fD H2 k b)->(Q (.bl (!(bL kvs k).isSome)) H2)->HB P w Q y x H2
def W5(P:Program)(w:World)(ty td:TE):TE:=fun Y H Q=>ty Y H fun y H1=>td Y H1 fun x H2=>HB P w Q y x H2
inductive NM(P:Program)(w:World)(D:Ends)(Y:St)(v:V)(x:V)(y:V)(H3:Hp):Prop
 | mk:∀ a b kvs k,(x = .ref a)->(y = .ref b)->(DN P w H3 a kvs)->(fD H3 k b)->(kvs.length < sizeLine)->(∀ φ,DN P w (upd H3 a (.ext φ)) a (eW kvs k v)->D.nx Y (upd H3 a (.ext φ)))->NM P w D Y v x y H3
def adu(P:Program)(w:World)(td ty tv:TE):TS:=fun D Y H=>tv Y H fun v H1=>td Y H1 fun x H2=>ty Y H2 fun y H3=>NM P w D Y v x y H3
inductive Lv(P:Program)(w:World)(ty:TE)(Y:St)(Q:VK)(x:V)(H1:Hp):Prop
 | mk:∀ a,(x = .ref a)->((∃ kvs,DN P w H1 a kvs))->(ty Y H1 fun y H2=>∃ b kvs k,y = .ref b∧DN P w H2 a kvs∧fD H2 k b∧Q ((bL kvs k).getD .cG) H2)->Lv P w ty Y Q x H1
def YL(P:Program)(w:World)(td ty:TE):TE:=fun Y H Q=>td Y H fun x H1=>Lv P w ty Y Q x H1
section
variable {X:Cx}{o i e f value:Expr}{pos n6 c9 cZ:Pos}{td ty tv:TE}
theorem Hf{ah:List (Addr × Obj)}{Y:St}{H:Hp}{s:Shared}{a:Addr}{kvs:List (NK × V)}(I:Inv X ah Y H s)(d:DN X.prog X.w H a kvs):s.TypeIs (.ref a) "dict" := (AL I ⟨kvs,d⟩).1
theorem Mu(hu:X.A.units+10 < cLine)(ho:PE X o td)(hi:PE X i ty)(hs:Pf i):PE X (.Subscript o i pos) (adj X.prog X.w td ty):=by
 intro ah s Y H Q I h
 refine uK mI.lookup hs (bB (ho ah s Y H _ I h) fun u s1 ⟨x,H1,I1,rx,q1⟩=>bB (hi ah s1 Y H1 _ I1 q1) fun iv s2 ⟨y,H2,I2,ry,a,b,kvs,k,v,ex,ey,d,nk,l,q2⟩ =>?_)
 subst ex ey
 obtain rfl:u=aH a:=rx
 obtain rfl:iv=aH b:=ry
 exact⟨Hf I2 d,EB hu I2 d nk l fun w' s3 I3 kR=>⟨v,H2,I3,kR,q2⟩⟩
theorem ZM(hu:X.A.units+10 < cLine)(hi:PE X i ty)(ho:PE X o td):PC X .In i o (agk X.prog X.w ty td):=by
 intro ah s Y H Q I h
 refine bB (hi ah s Y H _ I h) fun iv s1 ⟨y,H1,I1,ry,q1⟩=>bB (ho ah s1 Y H1 _ I1 q1) fun u s2 ⟨x,H2,I2,rx,a,b,kvs,k,ex,ey,d,nk,q2⟩ =>?_
 subst ex ey
 obtain rfl:u=aH a:=rx
 obtain rfl:iv=aH b:=ry
 exact ad2 hu I2 d nk fun s3 I3=>⟨.bl (bL kvs k).isSome,H2,I3,O,q2⟩
theorem Qs(hu:X.A.units+10 < cLine)(hi:PE X i ty)(ho:PE X o td):PC X .NotIn i o (W5 X.prog X.w ty td):=by
 intro ah s Y H Q I h
 refine bB (hi ah s Y H _ I h) fun iv s1 ⟨y,H1,I1,ry,q1⟩=>bB (ho ah s1 Y H1 _ I1 q1) fun u s2 ⟨x,H2,I2,rx,a,b,kvs,k,ex,ey,d,nk,q2⟩ =>?_
 subst ex ey
 obtain rfl:u=aH a:=rx
 obtain rfl:iv=aH b:=ry
 exact UI hu I2 d nk fun s3 I3=>⟨.bl (!(bL kvs k).isSome),H2,I3,O,q2⟩
theorem xI(hu:X.A.units+10 < cLine)(ho:PE X o td)(hi:PE X i ty)(hv:PE X value tv)(hs:swapsWith value (some (.Subscript o i n6)) pos.line X.env=pure false) :
  PS X (.Assign [.Subscript o i n6] value pos) (adu X.prog X.w td ty tv):=by
 intro ah s Y H D I h
 refine wpAny_Assign_Subscript (bB (hv ah s Y H _ I h) fun r s1 ⟨v,H1,I1,rv,q1⟩=>bB (ho ah s1 Y H1 _ I1 q1) fun u s2 ⟨x,H2,I2,rx,q2⟩=>bB (hi ah s2 Y H2 _ I2 q2) fun iv s3 ⟨y,H3,I3,ry,a,b,kvs,k,ex,ey,d,nk,hl,q3⟩ =>?_) hs
 subst ex ey
 obtain rfl:u=aH a:=rx
 obtain rfl:iv=aH b:=ry
 exact EA hu I3 d nk rv hl fun φ s4 I4 d4=>⟨Y,_,I4,q3 φ d4⟩
theorem Tp(hu:X.A.units+10 < cLine)(ho:PE X o td)(he:PE X e ty)(m:M1 X o "get" c9 e cZ):PE X (.Call (.Attribute o "get" c9) [e] [] cZ) (YL X.prog X.w td ty):=by
 intro ah s Y H Q I h
 refine wpAny_Call_method m.base m.dG m.line gx lA yd (bB (ho ah s Y H _ I h) fun u s1 ⟨x,H1,I1,rx,a,ex,d,q1⟩ =>?_)
 subst ex
 obtain rfl:u=aH a:=rx
 obtain⟨t1,t2,_⟩:=AL I1 d
 refine⟨t1,t2,?_⟩
 rw[m.trees]
 refine eK rfl (ir (gi (bB (he ah s1 Y H1 _ I1 q1) fun iv s2 ⟨y,H2,I2,ry,b,kvs,k,ey,d2,nk,q2⟩=>jr ?_)))
 subst ey
 obtain rfl:iv=aH b:=ry
 exact X5 hu I2 d2 nk fun w' s3 I3 kR=>⟨_,H2,I3,kR,q2⟩
inductive Cw(kP:Program)(kw:World)(xs:List V)(H:Hp)(Q:VK):Prop
 | mk:∀ p kvs,(xs = [.ref p])->(DN kP kw H p kvs)->(Q (.int kvs.length) H)->Cw kP kw xs H Q
theorem RQ:kr X (.builtin "len") (fun xs H Q=>Cw X.prog X.w xs H Q):=by
 intro ah s Y H xs us Q I r h
 obtain⟨p,kvs,rfl,d,q⟩:=h
 obtain⟨u,rfl,ru⟩:=vals1 r
 cases ru
 exact acp I d fun t s' I'=>⟨.int kvs.length,H,I',⟨t,O⟩,q⟩
end
section
variable {X:Cx}
variable {o:Expr}{c9 cZ:Pos}{td:TE}
end
def SH(P:Program)(w:World)(a:Addr)(o:Obj)(kvs:List (Key × V)):Prop:=kvs.length<=sizeLine∧(a == sysModules)=false∧∃ (vs:List (Key × Value)) (ep:Nat),KV kvs vs∧∀ h:Heap,h.get? a=some o->h.DictAt (di P w) a vs ep
def Ext(a:Addr)(o:Obj):HO := .ext fun h=>h.get? a=some o
theorem Inv.freeze{X:Cx}{ah:List (Addr × Obj)}{Y:St}{H:Hp}{s:Shared}{a:Addr}{kvs:List (Key × V)}(I:Inv X ah Y H s)(e:H a=some (.dK kvs)):∃ o,SH X.prog X.w a o kvs∧Inv X ah Y (upd H a (Ext a o)) s:=by
 obtain⟨z,hd,vs,cV,dd⟩:=Ij I.bh e
 obtain⟨o,es,ep,ho,r⟩:=dd
 refine⟨o,⟨z,hd,vs,ep,cV,fun h hh=>⟨o,es,hh,r⟩⟩,?_⟩
 exact uS (h':=s.heap) (t':=s.toks) I (by rw[e];exact ft) (BW _ _) ⟨o,ho⟩ (KQ ho)
theorem mD{P:Program}{w:World}{H:Hp}{h:Heap}{a:Addr}{o:Obj}(ok:gE P w H h)(e:H a=some (Ext a o)):h.get? a=some o:=(show cY P w H h a (.ext fun h=>h.get? a=some o) from ok a _ e).1
def SD(a:Addr)(o:Obj)(kvs:List (Key × V)):It :=
 ⟨fun i H=>i < kvs.length∧H a=some (Ext a o),fun i H x H'=>H'=H∧∃ kv,kvs[i]? = some kv∧x=kV kv.1,fun i H=>kvs.length<=i∧H a=some (Ext a o)⟩
theorem adK{P:Program}{w:World}{k:Key}{u:Value}(h:(di P w).is k u=true):RelV (kV k) u:=by
 rcases fG (show yN k u=true from h) with⟨i,t,rfl,rfl⟩ | ⟨x,t,rfl,rfl⟩
 ·exact⟨t,O⟩
 ·exact⟨t,O⟩
theorem KV.at{kvs:List (Key × V)}{vs:List (Key × Value)}(r:KV kvs vs){i:Nat}{k:Key}{u:Value}(e:vs[i]? = some (k,u)):∃ v,kvs[i]? = some (k,v):=by
 have h1:=r.keys
 have h2:(kvs.map (·.1))[i]? = some k:=by rw[h1,aK,e];rfl
 rw[aK]at h2
 cases e3:kvs[i]? with
 | none=>rw[e3]at h2;cases h2
 | some p=>rw[e3]at h2;obtain⟨k',v⟩:=p;have:=aD h2;subst this;exact⟨v,O⟩
theorem PQ{P:Program}{w:World}{K:ao}{tg:Expr}(a it:Addr){o:Obj}{kvs:List (Key × V)}{vs:List (Key × Value)}{ep:Nat}(cV:KV kvs vs)(hx:∀ h:Heap,h.get? a=some o->h.DictAt (di P w) a vs ep) :
  Turn P w K tg (SD a o kvs) [it] it (fun i h=>h.IsKeyIter it a i vs.length ep) where
 mem:=by simp
 obj:=fun i h st b hb=>by
  have e:b=it:=by simpa using hb
  subst e
  obtain⟨o,e,c,d⟩:=st
  exact⟨o,e,fun v z=>by rw[d]at z;cases z⟩
 keep:=fun i h h' st k=>st.at fun o e=>k it (by simp) o e
 item:=by
  intro X hP hw hK hc i ah s Y H E I hf st hg
  subst hP hw hK
  obtain⟨hi,ha⟩:=hg
  have hl:=cV.length
  obtain⟨⟨k,u⟩,hv⟩:∃ p,vs[i]? = some p:=⟨vs[i]'(by omega),aj (by omega)⟩
  obtain⟨v,cR⟩:=cV.at hv
  obtain⟨f0,f1,f2,f3,f4,f5⟩:=hf it (by simp)
  refine wpAny_pyNext_dict_item st (hx _ (mD I.bh ha)) hv fun key h' vv mW sb =>?_
  have I1:Inv X ah Y H { s with heap:=h' }:=I.turned (t':=s.toks) (fun b o hb e=>(sb.2 b hb).trans e) f0 f1 f3 f4 f5
  obtain⟨o,e,c,d⟩:=id mW
  exact⟨key,O,BH (s := { s with heap:=h' }) e c d (by decide) ⟨kV k,H,I1,adK vv,⟨O,(k,v),cR,O⟩,mW,fun b hb=>(hf b hb).1⟩⟩
 done:=by
   intro X hP hw hK hc i ah s Y H E I hf st hg
   subst hP hw hK
   obtain⟨hi,ha⟩:=hg
   have hl:=cV.length
   obtain⟨f0,f1,f2,f3,f4,f5⟩:=hf it (by simp)
   exact wpAny_pyNext_dict_end (I.ok.hd hc) st (hx _ (mD I.bh ha)) (eY (by omega)) fun h' eb=>⟨O,I.turned (t':=s.toks) (fun b o hb e=>eb b o hb e) f0 f1 f3 f4 f5⟩
 self:=fun _ _ _ _ _ st h=>wpAny_pyIter_keyiter st h
def adS(P:Program)(w:World)(tl:TE):TI:=fun Y H R=>tl Y H fun x H1=>∃ a kvs,x = .ref a∧H1 a=some (.dK kvs)∧∀ o,SH P w a o kvs->R (SD a o kvs) (upd H1 a (Ext a o))
section
variable {X:Cx}{tg l:Expr}{tl:TE}
theorem Xq(hl:PE X l tl):PI X tg l (adS X.prog X.w tl):=by
 intro ah s Y H R I h
 refine bB (hl ah s Y H _ I h) fun v s1 ⟨x,H0,I0,r1,q1⟩ =>?_
 obtain⟨a,kvs,e,ea0,q⟩:=q1
 subst e
 cases r1
 obtain⟨o,dx,I1⟩:=I0.freeze ea0
 have q:=q o dx
 have ea:(upd H0 a (Ext a o)) a=some (Ext a o):=aF
 generalize upd H0 a (Ext a o)=H1 at I1 q ea
 obtain⟨z,hd,vs,ep,cV,hx⟩:=dx
 refine wpAny_pyIter_dict hd (hx _ (mD I1.bh ea)) ?_
 refine⟨s1.heap.objs.size, [s1.heap.objs.size],_,_,H1,O,I1.kept (t':=s1.toks) fun b o e=>ay _ e,PQ a _ cV hx,⟨_,aT _ rfl,O,O⟩,fun b hb =>?_,q⟩
 have e:b=s1.heap.objs.size:=by simpa using hb
 subst e
 exact I1.yT (ar _) (I1.bh.fresh (ar _))
end
theorem UA{a:Addr}{o:Obj}{kvs:List (Key × V)}{g:TG}{tb:TS}{D:Ends}{Y:St}{H:Hp}(Pv:Nat->St->Hp->Prop)(h0:Pv 0 Y H)(hl:∀ i Y H,i<=kvs.length->Pv i Y H->H a=some (Ext a o))(hs:∀ i (kv:Key × V) Y H,kvs[i]? = some kv->Pv i Y H->g (kV kv.1) Y H fun j6 H2=>tb { D with nx:=Pv (i+1),ct:=Pv (i+1),bk:=D.nx } j6 H2)(hd:∀ Y H,Pv kvs.length Y H->D.nx Y H) :
  ∃ W:Nat->Nat->St->Hp->Prop,(∃ m,W 0 m Y H)∧∀ i m Y H,W i m Y H ->
   ((SD a o kvs).stop i H∧D.nx Y H)∨((SD a o kvs).go i H∧∃ N:St->Hp->Prop,(∀ bw H',N bw H'->∃ m',m' < m∧W (i+1) m' bw H')∧∀ x H',(SD a o kvs).zY i H x H'->g x Y H' fun j6 H2=>tb { D with nx:=N,ct:=N,bk:=D.nx } j6 H2):=by
 refine⟨fun i m Y H=>m=kvs.length - i∧i<=kvs.length∧Pv i Y H,⟨kvs.length,by simp,bx _,h0⟩,?_⟩
 rintro i m Y H ⟨rfl,hi,hp⟩
 by_cases cW:i < kvs.length
 ·refine .inr ⟨⟨cW,hl i Y H hi hp⟩,Pv (i+1),fun bw H' h'=>⟨kvs.length - (i+1),by omega,O,cW,h'⟩,?_⟩
  rintro x H' ⟨rfl,kv,cR,rfl⟩
  exact hs i kv Y _ cR hp
 ·have e:i=kvs.length:=by omega
  subst e
  exact .inl ⟨⟨ar _,hl _ Y H hi hp⟩,hd Y H hp⟩
def ade(P:Program)(w:World)(td ty:TE):TE:=fun Y H Q=>td Y H fun x H1=>ty Y H1 fun y H2=>∃ a o kvs k v,x = .ref a∧y=kV k∧H2 a=some (Ext a o)∧SH P w a o kvs∧bL kvs k=some v∧Q v H2
theorem Xs{X:Cx}{o i:Expr}{pos:Pos}{td ty:TE}(ho:PE X o td)(hi:PE X i ty)(hs:Pf i):PE X (.Subscript o i pos) (ade X.prog X.w td ty):=by
 intro ah s Y H Q I h
 refine uK mI.lookup hs (bB (ho ah s Y H _ I h) fun u s1 ⟨x,H1,I1,rx,q1⟩=>bB (hi ah s1 Y H1 _ I1 q1) fun iv s2 ⟨y,H2,I2,ry,a,ob,kvs,k,v,ex,ey,ea,⟨z,hd,vs,ep,cV,hx⟩,l,q2⟩ =>?_)
 subst ex ey
 obtain rfl:u=aH a:=rx
 have dd:=(hx _ (mD I2.bh ea)).dictOf
 obtain⟨w',hw,kR⟩:=jZ.some_of (v:=v) (o:=valueAt vs k) (by rw[<- l];exact cV.val k)
 exact⟨dd.typeIs,wpAny_getItem_of (yO ry) dd.mapOf hw ⟨v,H2,I2.tok _,kR,q2⟩⟩
section
variable {X:Cx}{ah:List (Addr × Obj)}{Y:St}{H:Hp}{s:Shared}{a:Addr}{kvs:List (Key × V)}{k:Key}{v:V}{u r:Value}{A:Around}{E:Value->Shared->Prop}
end
section
variable {X:Cx}{o e f:Expr}{c9 cZ:Pos}{td ty tx:TE}
end
end L2
namespace Sw
open PySem L2
end Sw
namespace PySem
section
variable {prog:Program}{w:World}{A:Around}{E:Value->Shared->Prop}{s:Shared}
end
section
variable {prog:Program}{w:World}{A:Around}{s:Shared}{R:Result->Shared->Prop}{I l:Addr}{items:Array Value}
end
section
variable {prog:Program}{w:World}{A:Around}{E:Value->Shared->Prop}{s:Shared}{I l:Addr}{items:Array Value}
end
end PySem
namespace L2
open PySem PySem.Spec PyProof.Rows
theorem AB{X:Cx}:Passes (qA X.prog X.w) X E0:=fun ah Y H s e s' I h=>by
 obtain⟨_,_,_,_,_,_,_,_,_,_,_,_,_,_,q⟩:=h
 exact dy q
section
variable {X:Cx}
end
section
variable {P:Program}{w:World}{A:Around}{s:Shared}
open SeqAt MeetsSeq MeetsSeq2 MeetsSeq3 SeqRoads2
open AutoSeq1 (wpAny_loadPart')
theorem CG{kvs:List (Key × V)}(hn:(kvs.map (·.1)).Nodup):∀ kv∈kvs,bL kvs kv.1=some kv.2:=by
 induction kvs with
 | nil=>intro kv h;cases h
 | cons p r ih =>
  intro kv h
  rw[aS,bI]at hn
  rcases aW.mp h with rfl | h
  ·exact eV rfl
  ·rw[eI (fun e=>hn.1 (by rw[e];exact bj.mpr ⟨kv,h,O⟩))]
   exact ih hn.2 kv h
end
end L2
namespace L2
open PySem PySem.W PySem.Calls PyProof.Rows
theorem PB{ns:List Int}{c:Int}:c∈ns->A8 (.int c)<=ES (ns.map wM):=by
 induction ns with
 | nil=>intro h;cases h
 | cons n ns ih =>
  intro h
  rw[aS,ES]
  rcases aW.mp h with rfl | h
  ·omega
  ·have:=ih h;omega
theorem UR{ns:List Int}(h:WData.layableAll [ET (ns.map wM)]=true):∀ c∈ns,zU c<=1048576:=fun c hc=>by
 have h1:WData.layable (ET (ns.map wM))=true:=oS.mp h _ bb
 have h2:=of_decide_eq_true (gu.mp h1).2
 rw[A8]at h2
 have h3:=PB hc
 rw[A8]at h3
 show (if c == 0 then 0 else c.natAbs.log2+1)<=1048576
 have:(2:Nat) ^ 20=1048576:=by decide
 omega
end L2
namespace L2
open PySem PySem.Spec PyProof.Rows
section
variable {X:Cx}{k:Nat}{y:Str}{p pos:Pos}{e:Expr}{es:List Expr}{tv:TE}{t:TA}
end
section
variable {prog:Program}{w:World}{A:Around}{R:Result->Shared->Prop}{I:Addr}{fp wr:List Addr}{n:Nat}{P:Nat->Value->Prop}{St:Nat->Heap->Prop}{kw:List (Str × Value)}{Yq1:Heap->Prop}
end
section
variable {X:Cx}{e:Expr}{te:TE}{p pos kp cp:Pos}{j:Nat}
end
section
variable {P:Program}{w:World}{K:ao}{mg:Str->Option Value}{base:Heap}{x m qual:Str}{st:Stmt}{N ps:List Str}{k:Nat}{sp:Sp}
end
section
variable {X:Cx} {k k':Nat}{x m:Str}{ps:List Str}{sp:Sp}{p pos c9:Pos}{e:Expr}{es:List Expr}{t:TA}{E:XK}
end
section
variable {prog:Program}{w:World}{A:Around}{R:Result->Shared->Prop}{I:Addr}{fp wr:List Addr}{n:Nat}{P:Nat->Value->Prop}{St:Nat->Heap->Prop}{kw:List (Str × Value)}{Yq1:Heap->Prop}
end
section
variable {X:Cx}{e:Expr}{te:TE}{p pos kp cp:Pos}{j:Nat}{d:Int}
end
end L2
namespace HT
open PySem PySem.Spec PyProof.Rows
section
variable {prog:Program}{w:World}{A:Around}{E:Value->Shared->Prop}{s:Shared}
end
end HT
namespace L2
open PySem PySem.Spec PyProof.Rows
section
variable {X:Cx}
theorem ZG{K:ao}{x y:Str}{p1 p2 pos:Pos}{k:Nat}(hK:X.K=K)(hc:X.calm=true)(hN:X.N.Nodup)(h0:X.N[0]? = some x)(h1:X.N[1]? = some y)(hx:X.env.scope.names.lookup x=some .local)(hy:X.env.scope.names.lookup y=some .local) :
  PG X (.Tuple [.Name x p1,.Name y p2] k pos) (aca K 2 (O3 (bq 0) (O3 (bq 1) acb))):=by
 subst hK
 exact m5 hc (et (bX hN h0 (.inl hx) (.inr hx)) (et (bX hN h1 (.inl hy) (.inr hy)) kX))
end
end L2
namespace Sw
open PySem L2
theorem Qd(x:Str)(lo hi:Option Int):(gg x lo hi).cps.toList=(x.cps.toList.drop (HT.c7 x.length 0 lo)).take (HT.c7 x.length x.length hi - HT.c7 x.length 0 lo):=by
 have hx:x.cps.toList.length=x.length:=by simp[Str.length]
 obtain⟨h1,h2,h3⟩:=Ak lo hi x.length
 have ha:HT.c7 x.length 0 lo<=x.length:=HT.IT _ _ (bx _) _
 have hb:HT.c7 x.length x.length hi<=x.length:=HT.IT _ _ (ar _) _
 have e:sV lo hi 1 x.length=sliceRange ((HT.c7 x.length 0 lo:Nat):Int) ((HT.c7 x.length x.length hi:Nat):Int) 1:=by
  rw[<- h1, <- h2]
  unfold sV sliceBounds
  rfl
 have e2:((sliceRange ((HT.c7 x.length 0 lo:Nat):Int) ((HT.c7 x.length x.length hi:Nat):Int) 1).filterMap (x.cps[·]?))=(x.cps.toList.drop (HT.c7 x.length 0 lo)).take (HT.c7 x.length x.length hi - HT.c7 x.length 0 lo):=by
  rw[sliceRange_one,pick_run]
 unfold gg
 rw[e]
 split
 ·rename_i hc
  have hl:(sliceRange ((HT.c7 x.length 0 lo:Nat):Int) ((HT.c7 x.length x.length hi:Nat):Int) 1).length=x.length:=by simpa using hc
  rw[sliceRange_one,az,cN]at hl
  have ea:HT.c7 x.length 0 lo=0∨x.length=0:=by omega
  rcases ea with ea | ea
  ·rw[ea,Nat.sub_zero]at hl ⊢
   rw[Gf,hl, <- hx,bK]
  ·have:x.cps.toList = []:=iI.mp (hx.trans ea)
   rw[this];simp
 ·show (_:List Nat).toArray.toList=_
  rw[e2]
end Sw
namespace L2
open PySem PySem.Spec PyProof.Rows
section
variable {X:Cx}
end
section
variable {prog:Program}{w:World}{A:Around}{E:Value->Shared->Prop}{s:Shared}
end
section
variable {M:Model}{A:Around}{E:Value->Shared->Prop}{qn nm:Str}{N C:Addr}{bm bs:List Value}{hdct ab:Bool}{sn:List Str}{sub:List Value}{col:Option Bool}{dd:Option Addr}{k0 k1 k2 k3 k5:Option Value}{wq:String}
end
section
variable {prog:Program}{w:World}{A:Around}{E:Value->Shared->Prop}{s:Shared}{env:Env}{qn nm:Str}{N C:Addr}{bm bs:List Value}{hdct ab:Bool}{sn:List Str}{sub:List Value}{col:Option Bool}{dd:Option Addr}{k0 k1 k2 k3 k5:Option Value}{wq:String}
end
section
variable {prog:Program}{w:World}{A:Around}{E:Value->Shared->Prop}{s:Shared}{env:Env}{qn nm:Str}{N C:Addr}{bm bs bmB:List Value}{hdct ab:Bool}{sn:List Str}{sub:List Value}{col:Option Bool}{dd:Option Addr}{k0 k1 k2 k3 k5:Option Value}{B wq ajc:String}
end
section
variable {M:Model}{A:Around}{E:Value->Shared->Prop}{s:Shared}
end
section
variable {P:Program}{w:World}{K:ao}{mg:Str->Option Value}{base:Heap}{N:List Str}{qual:Str}{scope:Scope}{f:Addr}{cJ:Value}{A:Around}{outer:List Env}{s0:Shared}{H0:Hp}{E:XK}{ea C:Addr}
end
section
variable {X:Cx}{ah:List (Addr × Obj)}{Y:St} {H0 H':Hp} {s0 s':Shared}{ea C:Addr}{a0:Value}{B h5:Heap}{m:Option Addr}
end
section
variable {X:Cx} {k k':Nat}{m:Str}{C:Addr}{ps:List Str}{jz:List V}{sp:Sp}{pos c9:Pos}{e o:Expr}{es:List Expr}{ta:TE}{t:TA}{pl:Sem Bool}
end
section
variable {prog:Program}{w:World}{K:Type} [DecidableEq K] {knd:HeapKind prog w K}{A:Around}{E:Value->Shared->Prop}{s:Shared}{d a:Addr}{k:K}{xs:List (K × Addr × Value)}
end
section
variable {prog:Program}{w:World}{K:Type} [DecidableEq K] (knd:HeapKind prog w K) (d a:Addr)
end
section
variable {X:Cx}{ah:List (Addr × Obj)}{Y:St}{H:Hp}{s:Shared}{a b:Addr}{kvs:List (NK × V)}{k:NK}{v:V}{A:Around}{E:Value->Shared->Prop}
end
section
variable {X:Cx}{o e:Expr}{c9 cZ:Pos}{td ty:TE}
end
theorem KV.xC{kvs:List (Key × V)}{vs:List (Key × Value)}(r:KV kvs vs):∀ {i:Nat}{k:Key}{u:Value},vs[i]? = some (k,u)->∃ kv,kvs[i]? = some kv∧RelV kv.2 u:=by
 unfold KV at r
 induction r with
 | nil=>intro i k u h;simp at h
 | @cons p q ps qs h t ih =>
  intro i k u e
  cases i with
  | zero=>simp at e;subst e;exact⟨p,O,h.2⟩
  | succ i=>simpa using ih (by simpa using e)
section
variable {prog:Program}{w:World}{A:Around}{E:Value->Shared->Prop}{s:Shared}
theorem Fl{α : Type}{Q : α -> Shared->Prop}(hh:A.handled=none)(hE:∀ h' e,(∀ c o,s.heap.get? c=some o->h'.get? c=some o)->(∃ o,h'.get? e=some o∧o.cls = .type "StopIteration")->E (.ref e) { s with heap:=h' }) :
  wpAny (model prog w) A (Dy:Sem α) Q E s:=by
 show wpAny _ _ (newExc (.type "StopIteration") [] >>= _) _ _ _
 simp only[newExc,newTuple]
 refine wpAny_bind ?_
 wp_walk
 simp only[raiseNew]
 refine wpAny_bind (wpAny_handled ?_)
 rw[hh]
 refine wpAny_bind (wpAny_pure (wpAny_throw ?_))
 exact hE _ _ (fun c o e=>ay _ (ay _ e)) ⟨_,aT _ rfl,O⟩
theorem DY{it t:Addr}{i:Nat}{items:Array Value}{x:Value}{Q:Value->Shared->Prop}(fV:s.heap.IsTupleIter it t i)(ht:s.heap.IsTuple t items)(hx:items[i]? = some x)(hQ:∀ h',h'.IsTupleIter it t (i+1)->cf it s.heap h'->Q x { s with heap:=h' }):wpAny (model prog w) A (eM (.ref it)) Q E s:=by
 obtain⟨o,ho,hc,hd⟩:=id fV
 obtain⟨ol,hol,_,nl,hdl⟩:=ht
 unfold eM
 refine wpAny_bind (wpAny_callSpecial?_slot (name:=eX "__next__") fV.typeIs jj (wpAny_call_entry jj fV.typeIs sU ?_ (rG _)))
 wp_walk using wpAny_field ho hd (x := .ref t) rfl,wpAny_field ho hd (x := .int i 0) rfl,wpAny_seqItems hol hdl
 rw[cn,hx]
 refine wpAny_bind (wpAny_setField ho hd (by simp) (wpAny_pure ⟨x,O,wpAny_pure (hQ _ ?_ (cO ..))⟩))
 exact⟨_,d8 _ ho (ja (dO hd _)),(oa ..).trans hc,by rw[dO hd];simp[rawInt]⟩
theorem QB{it t:Addr}{i:Nat}{items:Array Value}{Q:Value->Shared->Prop}(hh:A.handled=none)(fV:s.heap.IsTupleIter it t i)(ht:s.heap.IsTuple t items)(hx:items[i]? = none)(hE:∀ h' e,rY it s.heap h'->(∃ o,h'.get? e=some o∧o.cls = .type "StopIteration")->E (.ref e) { s with heap:=h' }):wpAny (model prog w) A (eM (.ref it)) Q E s:=by
 obtain⟨o,ho,hc,hd⟩:=id fV
 obtain⟨ol,hol,_,nl,hdl⟩:=ht
 unfold eM
 refine wpAny_bind (wpAny_callSpecial?_slot (name:=eX "__next__") fV.typeIs jj (wpAny_call_entry jj fV.typeIs sU ?_ (rG _)))
 wp_walk using wpAny_field ho hd (x := .ref t) rfl,wpAny_field ho hd (x := .int i 0) rfl,wpAny_seqItems hol hdl
 rw[cn,hx]
 refine wpAny_bind (wpAny_rule (wpAny_bind (wpAny_setField ho hd (by simp) ?_)))
 exact Fl hh fun h' e hk he=>hE h' e (fun c o n q=>hk c o ((cO ..).extBut c o n q)) he
structure ZT(z TI TO i1 i2 t1 t2:Addr)(f0:Value)(k:Nat)(h:Heap):Prop where
 hz:IsZip h z TI TO f0
 xW:IsPair h TI (.ref i1) (.ref i2)
 AY:∃ a b,IsPair h TO a b
 h1:h.IsTupleIter i1 t1 k
 h2:h.IsTupleIter i2 t2 k
structure Ik(z TO i1 i2:Addr)(h h':Heap):Prop where
 but:∀ c o,c≠z->c≠TO->c≠i1->c≠i2->h.get? c=some o->h'.get? c=some o
theorem mT{it t c:Addr}{k:Nat}{h h':Heap}(x:h.IsTupleIter it t k)(e:rY c h h')(n:it≠c):h'.IsTupleIter it t k:=let ⟨o,a,b,d⟩:=x; ⟨o,e it o n a,b,d⟩
theorem Ad{t c:Addr}{xs:Array Value}{h h':Heap}(x:h.IsTuple t xs)(e:rY c h h')(n:t≠c):h'.IsTuple t xs:=let ⟨o,a,b,m,d⟩:=x; ⟨o,e t o n a,b,m,d⟩
theorem Pu{z TI TO i1 i2 t1 t2:Addr}{k:Nat}{xs ys:Array Value}{x y:Value}{Q:Value->Shared->Prop}(D:ZipApart z TI TO i1 i2 t1 t2)(Z:ZT z TI TO i1 i2 t1 t2 .none k s.heap)(l1:s.heap.IsTuple t1 xs)(l2:s.heap.IsTuple t2 ys)(hx:xs[k]? = some x)(hy:ys[k]? = some y)(hQ:∀ h',ZT z TI TO i1 i2 t1 t2 (rawInt s.heap.objs.size) (k+1) h'->IsPair h' s.heap.objs.size x y->Ik z TO i1 i2 s.heap h'->Q (.ref s.heap.objs.size) { s with heap:=h' }) :
  wpAny (model prog w) A (Builtin.«zip.__next__» ⟨[.ref z], []⟩) (fun fin s'=>∃ v,fin = .done (.ret v)∧Q v s') E s:=by
 obtain⟨hz,xW,⟨a,b,AY⟩,h1,h2⟩:=Z
 refine(show wpAny _ _ (field (.ref z) 2 >>= _) _ _ _ from wpAny_bind (wpAny_field hz rfl (x := .bool false) rfl (show wpAny _ _ (field (.ref z) 3 >>= _) _ _ _ from wpAny_bind (wpAny_field hz rfl (x := .ref TI) rfl (wpAny_bind (wpAny_seqItems xW rfl ?_))))))
 refine(show wpAny _ _ (gp (.ref z) >>= _) _ _ _ from wpAny_bind ?_)
 unfold gp
 refine wpAny_bind (wpAny_field hz rfl (x := .none) rfl (wpAny_pure ?_));simp only[if_true]
 refine wpAny_bind (wpAny_rule (wpAny_bind (wpAny_field hz rfl (x := .ref TO) rfl (wpAny_bind (wpAny_setField_rec hz (by simp) fun g1 z1 s1 =>?_)))))
 have z1:IsZip g1 z TI TO .ellipsis:=z1
 refine wpAny_bind ?_
 simp only[E4,Dq,Ge,wW];refine wpAny_bind (wpAny_bind (wpAny_onRaise ?_))
 refine(show wpAny _ _ (eM (.ref i1) >>= _) _ _ _ from wpAny_bind (DY (mT h1 s1.extBut D.i1z) (Ad l1 s1.extBut D.l1z) hx fun g2 n1 s2=>wpAny_pure ?_))
 have o2:IsPair g2 TO a b:=s2.extBut _ _ D.TOi1 (s1.extBut _ _ D.TOz AY)
 refine wpAny_bind (wpAny_seqItems o2 rfl (wpAny_bind (wpAny_updateSeq_pair o2 fun g3 o3 s3=>wpAny_bind (wpAny_letGo (wpAny_pure (wpAny_bind (wpAny_bind (wpAny_onRaise ?_))))))))
 have o3:IsPair g3 TO x b:=o3
 refine(show wpAny _ _ (eM (.ref i2) >>= _) _ _ _ from wpAny_bind (DY (mT (mT (mT h2 s1.extBut D.i2z) s2.extBut D.i12.symm) s3.extBut D.TOi2.symm)
  (Ad (Ad (Ad l2 s1.extBut D.l2z) s2.extBut D.l2i1) s3.extBut D.l2TO) hy fun g4 n2 s4=>wpAny_pure ?_))
 have o4:IsPair g4 TO x b:=s4.extBut _ _ D.TOi2 o3
 refine wpAny_bind (wpAny_seqItems o4 rfl (wpAny_bind (wpAny_updateSeq_pair o4 fun g5 o5 s5=>wpAny_bind (wpAny_letGo (wpAny_pure (wpAny_pure (wpAny_bind (wpAny_seqItems (show IsPair g5 TO x y from o5) rfl (wpAny_bind (wpAny_newTuple ?_)))))))))) 
 have o5:IsPair g5 TO x y:=o5
 have sz:g5.objs.size=s.heap.objs.size:=by rw[s5.1,s4.1,s3.1,s2.1,s1.1]
 have z5:IsZip g5 z TI TO .ellipsis:=s5.extBut _ _ D.TOz.symm (s4.extBut _ _ D.i2z.symm (s3.extBut _ _ D.TOz.symm (s2.extBut _ _ D.i1z.symm z1)))
 have k5:∀ c o,c≠z->c≠TO->c≠i1->c≠i2->s.heap.get? c=some o->g5.get? c=some o:=fun c o c1 c2 c3 c4 e=>s5.extBut _ _ c2 (s4.extBut _ _ c4 (s3.extBut _ _ c2 (s2.extBut _ _ c3 (s1.extBut _ _ c1 e))))
 have n15:g5.IsTupleIter i1 t1 (k+1):=mT (mT (mT n1 s3.extBut D.TOi1.symm) s4.extBut D.i12) s5.extBut D.TOi1.symm
 have n25:g5.IsTupleIter i2 t2 (k+1):=mT n2 s5.extBut D.TOi2.symm
 have zlt:z < g5.objs.size:=aP z5
 refine(show wpAny _ _ (nG (.ref z) (.ref g5.objs.size) >>= _) _ _ _ from wpAny_bind ?_)
 unfold nG
 refine wpAny_bind (wpAny_setField_rec (show IsZip (g5.push { cls := .type "tuple",data := .seq #[x,y] }) z TI TO .ellipsis from ay _ z5) (by simp) fun g7 z7 s7 =>?_)
 refine wpAny_setField_rec (show IsZip g7 z TI TO (rawInt g5.objs.size) from z7) (by simp) fun g8 z8 s8 =>?_
 have z8:IsZip g8 z TI TO (rawInt g5.objs.size):=z8
 have up:∀ c o,c≠z->g5.get? c=some o->g8.get? c=some o:=fun c o c1 e=>s8.extBut _ _ c1 (s7.extBut _ _ c1 (ay _ e))
 have t8:IsPair g8 g5.objs.size x y:=s8.extBut _ _ (jK zlt) (s7.extBut _ _ (jK zlt) (aT _ rfl))
 have i8:IsPair g8 TI (.ref i1) (.ref i2):=up _ _ D.TIz (k5 _ _ D.TIz D.TITO D.TIi1 D.TIi2 xW)
 refine wpAny_pure ⟨_,O,?_⟩
 rw[sz]at z8 t8
 show Q (.ref g5.objs.size) _
 rw[sz]
 refine hQ g8 ⟨z8,i8,⟨_,_,up _ _ D.TOz o5⟩,?_,?_⟩ t8 ⟨fun c o c1 c2 c3 c4 e=>up c o c1 (k5 c o c1 c2 c3 c4 e)⟩
 ·exact let ⟨o,q,r⟩:=n15; ⟨o,up _ o D.i1z q,r⟩
 ·exact let ⟨o,q,r⟩:=n25; ⟨o,up _ o D.i2z q,r⟩
theorem SJ{z TI TO i1 i2 t1 t2:Addr}{k:Nat}{xs:Array Value}{Q:Fin->Shared->Prop}(hh:A.handled=none)(D:ZipApart z TI TO i1 i2 t1 t2)(Z:ZT z TI TO i1 i2 t1 t2 .none k s.heap)(l1:s.heap.IsTuple t1 xs)(hx:xs[k]? = none)(hE:∀ h' e,Ik z TO i1 i2 s.heap h'->(∃ o,h'.get? e=some o∧o.cls = .type "StopIteration")->E (.ref e) { s with heap:=h' }) :
  wpAny (model prog w) A (Builtin.«zip.__next__» ⟨[.ref z], []⟩) Q E s:=by
 obtain⟨hz,xW,⟨a,b,AY⟩,h1,h2⟩:=Z
 refine(show wpAny _ _ (field (.ref z) 2 >>= _) _ _ _ from wpAny_bind (wpAny_field hz rfl (x := .bool false) rfl (show wpAny _ _ (field (.ref z) 3 >>= _) _ _ _ from wpAny_bind (wpAny_field hz rfl (x := .ref TI) rfl (wpAny_bind (wpAny_seqItems xW rfl ?_))))))
 refine(show wpAny _ _ (gp (.ref z) >>= _) _ _ _ from wpAny_bind ?_)
 unfold gp
 refine wpAny_bind (wpAny_field hz rfl (x := .none) rfl (wpAny_pure ?_));simp only[if_true]
 refine wpAny_bind (wpAny_rule (wpAny_bind (wpAny_field hz rfl (x := .ref TO) rfl (wpAny_bind (wpAny_setField_rec hz (by simp) fun g1 z1 s1 =>?_)))))
 have z1:IsZip g1 z TI TO .ellipsis:=z1
 refine wpAny_bind ?_
 simp only[E4,Dq,Ge,wW];refine wpAny_bind (wpAny_bind (wpAny_onRaise ?_))
 refine(show wpAny _ _ (eM (.ref i1) >>= _) _ _ _ from wpAny_bind (QB hh (mT h1 s1.extBut D.i1z) (Ad l1 s1.extBut D.l1z) hx fun g2 e s2 he =>?_))
 obtain⟨oe,hoe,Wc⟩:=he
 have z2:IsZip g2 z TI TO .ellipsis:=s2 _ _ D.i1z.symm z1
 have ne:e≠z:=fun q=>by subst q;rw[z2]at hoe;cases hoe;exact absurd (g9 Wc) (by decide)
 exact wpAny_setField_rec z2 (by simp) fun g3 _ s3=>hE g3 e ⟨fun c o c1 _ c3 _ q=>s3.extBut _ _ c1 (s2 _ _ c3 (s1.extBut _ _ c1 q))⟩ ⟨oe,s3.extBut _ _ ne hoe,Wc⟩
theorem Pq{z TI TO i1 i2 t1 t2:Addr}{k:Nat}{xs ys:Array Value}{x y:Value}{Q:Option Value->Shared->Prop}(D:ZipApart z TI TO i1 i2 t1 t2)(Z:ZT z TI TO i1 i2 t1 t2 .none k s.heap)(l1:s.heap.IsTuple t1 xs)(l2:s.heap.IsTuple t2 ys)(hx:xs[k]? = some x)(hy:ys[k]? = some y)(hQ:∀ h',ZT z TI TO i1 i2 t1 t2 (rawInt s.heap.objs.size) (k+1) h'->IsPair h' s.heap.objs.size x y->Ik z TO i1 i2 s.heap h'->Q (some (.ref s.heap.objs.size)) { s with heap:=h' }) :
  wpAny (model prog w) A (pyNext (.ref z)) Q E s:=by
 have ty:s.TypeIs (.ref z) "zip" := ⟨_,Z.hz,O⟩
 unfold pyNext
 exact wpAny_bind (wpAny_attempt (wpAny_callSpecial?_slot (name:=eX "__next__") ty qw (wpAny_call_entry qw ty F.entry_zip_next (Pu D Z l1 l2 hx hy fun h' a b c=>wpAny_pure (hQ h' a b c)) (BX _))))
theorem Pw{z TI TO i1 i2 t1 t2:Addr}{k:Nat}{xs:Array Value}{Q:Option Value->Shared->Prop}(hh:A.handled=none)(D:ZipApart z TI TO i1 i2 t1 t2)(Z:ZT z TI TO i1 i2 t1 t2 .none k s.heap)(l1:s.heap.IsTuple t1 xs)(hx:xs[k]? = none)(hQ:∀ h',Ik z TO i1 i2 s.heap h'->Q none { s with heap:=h' }):wpAny (model prog w) A (pyNext (.ref z)) Q E s:=by
 have ty:s.TypeIs (.ref z) "zip" := ⟨_,Z.hz,O⟩
 unfold pyNext
 refine wpAny_bind (wpAny_attempt (wpAny_callSpecial?_slot (name:=eX "__next__") ty qw (wpAny_call_entry qw ty F.entry_zip_next (SJ hh D Z l1 hx fun h' e hk he =>?_) (BX _))))
 exact let ⟨o,ho,hc⟩:=he;wpAny_bind (wpAny_isInstance (T := "StopIteration") (b:=true) ⟨o,ho,hc⟩ isSubtype_stop (wpAny_pure (hQ _ hk)))
end
abbrev L8(h:Heap)(a:Addr):Heap:=h.push { cls := .type "tuple_iterator",data := .fields #[.ref a,.int 0 0] }
abbrev U4(h:Heap)(a b:Addr):Heap:=L8 (L8 h a) b
abbrev U3(h:Heap)(a b:Addr):Heap:=(U4 h a b).push { cls := .type "tuple",data := .seq #[.ref h.objs.size,.ref (L8 h a).objs.size] }
abbrev U0(h:Heap)(a b:Addr):Heap:=(U3 h a b).push { cls := .type "tuple",data := .seq #[.none,.none] }
abbrev L7(h:Heap)(a b:Addr):Heap:=(U0 h a b).push { cls := .type "zip",data := .fields #[.none,.bool false,.bool false,.ref (U4 h a b).objs.size,.ref (U3 h a b).objs.size] }
theorem N0(a b:Addr)(xs ys:Array Value):Meets (Builtin.«zip.__new__» ⟨[.type "zip",.ref a,.ref b], []⟩) (fun _ R s=>s.heap.IsTuple a xs∧s.heap.IsTuple b ys ∧
   R (.ok (.ret (.ref (U0 s.heap a b).objs.size))) { s with heap:=L7 s.heap a b }) :=
 .of_wp fun prog w A R s h=>by
  obtain⟨hp,g,d,tk,os⟩:=s;obtain⟨ha,hb,h⟩:=h
  have sub:=sub_zip
  have A1:Heap.IsTuple (Shared.heap ⟨hp,g,d,tk,os⟩) a xs:=ha
  have B1:Heap.IsTuple (Shared.heap ⟨L8 hp a,g,d,tk,os⟩) b ys:=let ⟨o,e,r⟩:=hb; ⟨o,ay _ e,r⟩
  wp_walk using wpAny_pyIter_tuple A1,wpAny_pyIter_tuple B1
  exact⟨_,O,h⟩
section
variable {prog:Program}{w:World}{A:Around}{E:Value->Shared->Prop}{s:Shared}
theorem Px{a b:Addr}{xs ys:Array Value}{Q:Value->Shared->Prop}(ha:s.heap.IsTuple a xs)(hb:s.heap.IsTuple b ys)(h:∀ h',ZT (s.heap.objs.size+4) (s.heap.objs.size+2) (s.heap.objs.size+3) s.heap.objs.size (s.heap.objs.size+1) a b .none 0 h'->(∀ c o,s.heap.get? c=some o->h'.get? c=some o)->Q (.ref (s.heap.objs.size+4)) { s with heap:=h' }) :
  wpAny (model prog w) A (call (.type "zip") [.ref a,.ref b]) Q E s:=by
 refine callType_new F.called_zip (by decide) (F.typeCall_zip_2 _ _) (F.newCall_zip_2 _ _) (fun obj=>F.args_object_init_3 obj _ _) F.entry_zip_new (N0 a b xs ys) ⟨ha,hb,?_⟩
 have e1:(L8 s.heap a).objs.size=s.heap.objs.size+1:=fI ..
 have e2:(U4 s.heap a b).objs.size=s.heap.objs.size+2:=by rw[fI,e1]
 have e3:(U3 s.heap a b).objs.size=s.heap.objs.size+3:=by rw[fI,e2]
 have e4:(U0 s.heap a b).objs.size=s.heap.objs.size+4:=by rw[fI,e3]
 have up {h:Heap}{c:Addr}{o p:Obj} (x:h.get? c=some o):(h.push p).get? c=some o:=ay _ x
 have q5:(L7 s.heap a b).get? (U0 s.heap a b).objs.size=some _:=aT _ rfl
 have q4:(L7 s.heap a b).get? (U3 s.heap a b).objs.size=some _:=up (aT _ rfl)
 have q3:(L7 s.heap a b).get? (U4 s.heap a b).objs.size=some _:=up (up (aT _ rfl))
 have q2:(L7 s.heap a b).get? (L8 s.heap a).objs.size=some _:=up (up (up (aT _ rfl)))
 have q1:(L7 s.heap a b).get? s.heap.objs.size=some _:=up (up (up (up (aT _ rfl))))
 show _∧_
 rw[e2,e3,e4]at q5
 rw[e1,e2]at q3
 rw[e3]at q4
 rw[e1]at q2
 rw[e4]
 exact⟨⟨_,q5,O⟩,h _ ⟨q5,q3,⟨_,_,q4⟩,⟨_,q1,O,O⟩,⟨_,q2,O,O⟩⟩ fun c o x=>up (up (up (up (up x))))⟩
end
section
variable {X:Cx}{ah:List (Addr × Obj)}{Y:St}{H:Hp}{s:Shared} {h':Heap}
theorem Inv.W0{ch:List Addr}{t':Nat}(I:Inv X ah Y H s)(k:∀ b o,b ∉ ch->s.heap.get? b=some o->h'.get? b=some o)(hf:∀ b∈ch,oh X ah H b):Inv X ah Y H { s with heap:=h',toks:=t' }:=by
 have QA:∀ b u,H b=some u->b ∉ ch:=fun b u e z=>by rw[(hf b z).1]at e;cases e
 refine I.step (g':=s.gens) (d':=s.drawn) (ch:=ch) (fun b hb =>?_) (fun b o _ _ hc e _=>k b o hc e) (fun b o _ _ hc e _=>⟨o.slots,k b o hc e⟩) (fun _ _ _ _ n=>n)
  (fun b o hc e=>⟨o,k b o hc e⟩) (fun _ _ e=>e) (fun _ _ _ e=>e) (fun b ps e=>⟨#[],by rw[e];simp⟩) (fun m hm =>?_) (fun b u e =>?_) I.bare
 ·obtain⟨_,f1,_,f3,f4,f5⟩:=hf b hb
  exact⟨f3,f1,f4,f5⟩
 ·obtain⟨o,es,ep,ho,r⟩:=hm
  exact⟨o,es,ep,k _ o (fun z=>(hf _ z).2.1 rfl) ho,r⟩
 ·refine(I.bh b u e).sY (fun c v hc q=>k c v ?_ q) (fun _ q=>q) fun _ _ q=>q
  rcases hc with z | z
  ·rw[z];exact QA b u e
  ·exact QA c _ z
end
def Itz(K:ao)(a b:Addr):It :=
 ⟨fun i H=>∃ xs ys x y,bM K H a xs∧bM K H b ys∧xs[i]? = some x∧ys[i]? = some y,
  fun i H r H'=>∃ p u v,H p=none∧r = .ref p∧(∀ xs,bM K H a xs->xs[i]? = some u)∧(∀ ys,bM K H b ys->ys[i]? = some v)∧H'=upd H p (.tup [u,v]),
  fun i H=>∃ xs,bM K H a xs∧xs.length=i⟩
theorem PL{P:Program}{w:World}{K:ao}{De:List Expr}{k:Nat}{tp:Pos}(a b z TI TO i1 i2:Addr)(D:ZipApart z TI TO i1 i2 a b) :
  Turn P w K (.Tuple De k tp) (Itz K a b) [z,TI,TO,i1,i2] z (ZT z TI TO i1 i2 a b .none) where
 mem:=by simp
 obj:=fun i h st c hc=>by
  obtain⟨hz,xW,⟨x,y,AY⟩,⟨o1,q1,_,d1⟩,⟨o2,q2,_,d2⟩⟩:=st
  simp only[aW,cM,or_false]at hc
  rcases hc with rfl | rfl | rfl | rfl | rfl
  ·exact⟨_,hz,fun v e=>nomatch (show Cy _=w4 v from e)⟩
  ·exact⟨_,xW,fun v e=>nomatch (show Data.seq _ _=w4 v from e)⟩
  ·exact⟨_,AY,fun v e=>nomatch (show Data.seq _ _=w4 v from e)⟩
  ·exact⟨o1,q1,fun v e=>by rw[d1]at e;cases e⟩
  ·exact⟨o2,q2,fun v e=>by rw[d2]at e;cases e⟩
 keep:=fun i h h' st k=>by
  obtain⟨hz,xW,⟨x,y,AY⟩,⟨o1,q1,r1⟩,⟨o2,q2,r2⟩⟩:=st
  exact⟨k z (by simp) _ hz,k TI (by simp) _ xW,⟨x,y,k TO (by simp) _ AY⟩,⟨o1,k i1 (by simp) _ q1,r1⟩,⟨o2,k i2 (by simp) _ q2,r2⟩⟩
 item:=by
  intro X hP hw hK hc i ah s Y H E I hf st hg
  subst hP hw hK
  obtain⟨xs,ys,x,y,hq,hr,hx,hy⟩:=hg
  obtain⟨its,rv,p,_⟩:=I.tuple hq
  obtain⟨jts,rv',p',_⟩:=I.tuple hr
  obtain⟨u,hu,ru⟩:=rv.get hx
  obtain⟨v,hv,kR⟩:=rv'.get hy
  refine Pq D st (show s.heap.IsTuple a its.toArray from p) (show s.heap.IsTuple b jts.toArray from p') (x:=u) (y:=v) (by simpa using hu) (by simpa using hv) fun h1 Z1 T1 L1 =>?_
  have cW:∀ c o,s.heap.get? c=some o->c≠s.heap.objs.size:=fun c o e=>br (aP e)
  have zl:=cW z _ st.hz
  refine⟨_,O,wpAny_letOwnedTupleGo_zip Z1.hz fun h2 Ec jW =>?_⟩
  have ext:=jW.extBut
  have kk:∀ c o,c ∉ [z,TI,TO,i1,i2]->s.heap.get? c=some o->h2.get? c=some o:=fun c o hc q=>by
   have c1:c≠z:=fun e=>hc (by simp[e])
   exact ext _ _ c1 (L1.but c o c1 (fun e=>hc (by simp[e])) (fun e=>hc (by simp[e])) (fun e=>hc (by simp[e])) q)
  have Ah:ZT z TI TO i1 i2 a b .none (i+1) h2:=by
   obtain⟨_,xW,⟨x',y',AY⟩,n1,n2⟩:=Z1
   exact⟨Ec,ext _ _ D.TIz xW,⟨x',y',ext _ _ D.TOz AY⟩,mT n1 ext D.i1z,mT n2 ext D.i2z⟩
  refine⟨.ref s.heap.objs.size,upd H s.heap.objs.size (.tup [x,y]),?_,O,⟨_,x,y,I.bh.fresh (ar _),O,fun zs hz=>by rw[I.Ab hz hq];exact hx,fun zs hz=>by rw[I.Ab hz hr];exact hy,O⟩,Ah,fun c hc =>?_⟩
  ·refine I.DC (ch := [z,TI,TO,i1,i2]) (t':=s.toks) kk hf (ar _) ⟨by show 2<=sizeLine;decide, [u,v],.cons ru (.cons kR .nil),?_⟩
   exact⟨_,ext _ _ zl.symm T1,O,_,O,O⟩
  ·have:c≠s.heap.objs.size:=by
    obtain⟨_,xW,⟨_,_,AY⟩,⟨_,q1,_⟩,⟨_,q2,_⟩⟩:=st
    simp only[aW,cM,or_false]at hc
    rcases hc with rfl | rfl | rfl | rfl | rfl
    ·exact zl
    ·exact cW _ _ xW
    ·exact cW _ _ AY
    ·exact cW _ _ q1
    ·exact cW _ _ q2
   rw[aE this]
   exact(hf c hc).1
 done:=by
   intro X hP hw hK hc i ah s Y H E I hf st hg
   subst hP hw hK
   obtain⟨xs,hq,hx⟩:=hg
   obtain⟨its,rv,p,_⟩:=I.tuple hq
   have hl:=rv.length
   refine Pw (I.ok.hd hc) D st (show s.heap.IsTuple a its.toArray from p) (by simp;omega) fun h1 L1=>⟨O,?_⟩
   refine I.W0 (ch := [z,TI,TO,i1,i2]) (t':=s.toks) (fun c o hc q=>L1.but c o (fun e=>hc (by simp[e])) (fun e=>hc (by simp[e])) (fun e=>hc (by simp[e])) (fun e=>hc (by simp[e])) q) hf
 self:=fun _ _ _ _ _ st h=>wpAny_pyIter_zip st.hz h
inductive NR(K:ao)(R:It->Hp->Prop)(vs:List V)(H1:Hp):Prop
 | mk:∀ a b xs ys,(vs = [.ref a,.ref b])->(bM K H1 a xs)->(bM K H1 b ys)->(R (Itz K a b) H1)->NR K R vs H1
def adN(K:ao)(ta:TA):TI:=fun Y H R=>ta Y H fun vs H1=>NR K R vs H1
theorem boot_zip:bootBuiltins "zip" = some (.type "zip"):=by decide +kernel
section
variable {X:Cx}
theorem Xp{l m:Expr}{ta:TA}{De:List Expr}{k:Nat}{tp p pos:Pos}(hg:Gl X "zip")(hm:X.mg "zip" = none)(ha:PA X [l,m] ta)(he:starEach (l :: [m]) X.env=(false,eval l X.env) :: starEach [m] X.env:=by rfl)(mC:(backTo pos (starEach [m] X.env)).any (·.1)=false:=by rfl) :
  PI X (.Tuple De k tp) (.Call (.Name "zip" p) [l,m] [] pos) (adN X.K ta):=by
 intro ah s Y H R I h
 refine Call_ (pS I hg hm boot_zip (gB (bB (ha pos ah s Y H _ I h) fun us s1 ⟨vs,H1,I1,r1,q1⟩ =>?_) he mC))
 obtain⟨a,b,xs,ys,e,hq,hr,q⟩:=q1
 subst e
 obtain⟨u,v,rfl,ru,rv⟩:=vals2 r1
 cases ru;cases rv
 obtain⟨its,_,pa,_⟩:=I1.tuple hq
 obtain⟨jts,_,pb,_⟩:=I1.tuple hr
 have la:a < s1.heap.objs.size:=let ⟨_,e,_⟩:=pa; aP e
 have lb:b < s1.heap.objs.size:=let ⟨_,e,_⟩:=pb; aP e
 refine Px (show s1.heap.IsTuple a its.toArray from pa) (show s1.heap.IsTuple b jts.toArray from pb) fun h1 Z1 hk =>?_
 have I2:Inv X ah Y H1 { s1 with heap:=h1 }:=I1.kept (t':=s1.toks) hk
 have fp:∀ c,s1.heap.objs.size<=c->oh X ah H1 c:=fun c hc=>I1.yT hc (I1.bh.fresh hc)
 refine wpAny_pyIter_zip (s := { s1 with heap:=h1 }) Z1.hz ⟨_, [s1.heap.objs.size+4,s1.heap.objs.size+2,s1.heap.objs.size+3,s1.heap.objs.size,s1.heap.objs.size+1],_,_,H1,O,I2,PL a b _ _ _ _ _ (zipApart_new la lb),Z1,fun c hc =>?_,q⟩
 simp only[aW,cM,or_false]at hc
 rcases hc with rfl | rfl | rfl | rfl | rfl
 ·exact fp _ (jN ..)
 ·exact fp _ (jN ..)
 ·exact fp _ (jN ..)
 ·exact fp _ (ar _)
 ·exact fp _ (jN ..)
end
theorem Inv.age{X:Cx}{ah:List (Addr × Obj)}{Y:St}{H:Hp}{s:Shared}{a:Addr}{o:Obj}{kvs:List (Key × V)}(I:Inv X ah Y H s)(e:H a=some (Ext a o))(d:SH X.prog X.w a o kvs):Inv X ah Y (upd H a (.dK kvs)) s:=by
 obtain⟨z,hd,vs,ep,cV,hx⟩:=d
 have ho:=mD I.bh e
 obtain⟨o',es,h1,h2⟩:=hx _ ho
 exact uS (h':=s.heap) (t':=s.toks) I (by rw[e];exact ft) (BW _ _) ⟨o,ho⟩ (K5 z hd cV ⟨o',es,ep,h1,h2⟩)
inductive acH(P:Program)(w:World)(N:St->Hp->Prop)(Y:St)(H:Hp):Prop
 | mk (a:Addr) (o:Obj) (kvs:List (Key × V)) (e:H a=some (Ext a o)) (d:SH P w a o kvs) (q:N Y (upd H a (.dK kvs))):acH P w N Y H
def adf(P:Program)(w:World)(t:TS):TS:=fun D Y H=>t { D with nx:=acH P w D.nx } Y H
theorem Xl{X:Cx}{st:Stmt}{t:TS}(h:PS X st t):PS X st (adf X.prog X.w t):=by
 intro ah s Y H D I ht
 refine bB (h ah s Y H _ I ht) fun f s' hf =>?_
 cases f with
 | next =>
  obtain⟨bw,H',I',a,o,kvs,e,d,q⟩:=hf
  exact⟨bw,_,I'.age e d,q⟩
 | _=>exact hf
section
variable {prog:Program}{w:World}{A:Around}{E:Value->Shared->Prop}{s:Shared}
theorem GG{it d:Addr}{i ep:Nat}{es:Array DictEntry}{od:Obj}{Q:Option Value->Shared->Prop}(fV:s.heap.IsKeyIter it d i es.size ep)(pU:s.heap.get? d=some od)(gP:od.data = .dict es ep)(cW:i < es.size)(hQ:∀ h',h'.IsKeyIter it d (i+1) es.size ep->cf it s.heap h'->Q (some es[i].key) { s with heap:=h' }):wpAny (model prog w) A (pyNext (.ref it)) Q E s:=by
 obtain⟨o,ho,hc,hd⟩:=id fV
 have yQ:gq "dict_keyiterator" = false:=by decide
 have F1:(s.heap.update it (gN (·.setIfInBounds 1 (rawInt ((i:Int)+1))))).IsKeyIter it d (i+1) es.size ep :=
  ⟨_,d8 _ ho (ja (dO hd _)),(oa ..).trans hc,by rw[dO hd];simp[rawInt]⟩
 unfold pyNext
 refine wpAny_bind (wpAny_attempt (wpAny_callSpecial?_slot (name:=eX "__next__") fV.typeIs gm (wpAny_call_entry gm fV.typeIs qC ?_ (qx _))))
 refine wpAny_bind (wpAny_pure (wpAny_bind (wpAny_bind (wpAny_bind (wpAny_typeNameOfWhole_keyiter fV.typeIs (wpAny_pure (wpAny_bind (wpAny_fieldsOf ho hd ?_))))))))
 rw[yQ]
 show wpAny _ _ (if (aH d == da)=true then _ else _) _ _ s
 rw[if_neg (show ¬ ((aH d == da)=true) from a5)]
 refine wpAny_bind (wpAny_pure (wpAny_bind (wpAny_dictEntries pU gP ?_)))
 rw[if_neg (by simp)]
 refine wpAny_bind (wpAny_pure (wpAny_bind (wpAny_dictEpoch pU gP ?_)))
 rw[if_neg (by simp)]
 refine wpAny_pure ?_
 simp only[show ¬ ((i:Int) < 0) from by omega,if_false,cn,hV cW]
 refine wpAny_bind (wpAny_bind (wpAny_typeNameOfWhole_keyiter fV.typeIs (wpAny_pure (wpAny_bind (wpAny_isOneOf_keyiter fV.typeIs ?_)))))
 show wpAny _ _ (setField (.ref it) 1 (rawInt ((i:Int)+1)) >>= _) _ _ s
 refine wpAny_bind (wpAny_setField ho hd (by simp) (wpAny_bind (wpAny_holding ?_)))
 refine wpAny_bind (wpAny_isOneOf_keyiter (s := { s with heap:=s.heap.update it (gN (·.setIfInBounds 1 (rawInt ((i:Int)+1)))) }) F1.typeIs ?_)
 show wpAny _ _ (pure es[i].key) _ _ _
 exact wpAny_pure (wpAny_pure ⟨_,O,wpAny_pure (hQ _ F1 (cO ..))⟩)
theorem Ja{it d:Addr}{i ep:Nat}{es:Array DictEntry}{od:Obj}{Q:Option Value->Shared->Prop}(hh:A.handled=none)(fV:s.heap.IsKeyIter it d i es.size ep)(pU:s.heap.get? d=some od)(gP:od.data = .dict es ep)(Kn:es.size<=i)(hQ:∀ h',rY it s.heap h'->Q none { s with heap:=h' }):wpAny (model prog w) A (pyNext (.ref it)) Q E s:=by
 obtain⟨o,ho,hc,hd⟩:=id fV
 have yQ:gq "dict_keyiterator" = false:=by decide
 unfold pyNext
 refine wpAny_bind (wpAny_attempt (wpAny_callSpecial?_slot (name:=eX "__next__") fV.typeIs gm (wpAny_call_entry gm fV.typeIs qC ?_ (qx _))))
 refine wpAny_bind (wpAny_pure (wpAny_bind (wpAny_bind (wpAny_bind (wpAny_typeNameOfWhole_keyiter fV.typeIs (wpAny_pure (wpAny_bind (wpAny_fieldsOf ho hd ?_))))))))
 rw[yQ]
 show wpAny _ _ (if (aH d == da)=true then _ else _) _ _ s
 rw[if_neg (show ¬ ((aH d == da)=true) from a5)]
 refine wpAny_bind (wpAny_pure (wpAny_bind (wpAny_dictEntries pU gP ?_)))
 rw[if_neg (by simp)]
 refine wpAny_bind (wpAny_pure (wpAny_bind (wpAny_dictEpoch pU gP ?_)))
 rw[if_neg (by simp)]
 refine wpAny_pure ?_
 simp only[show ¬ ((i:Int) < 0) from by omega,if_false,cn,kE Kn]
 refine wpAny_bind (wpAny_bind (wpAny_typeNameOfWhole_keyiter fV.typeIs (wpAny_pure ?_)))
 show wpAny _ _ (setField (.ref it) 0 .none >>= _) _ _ s
 refine wpAny_bind (wpAny_setField ho hd (by simp) ?_)
 refine Fl (s := { s with heap:=_ }) (show A.in1.handled=none from hh) fun h' e hk he =>?_
 refine wpAny_bind (wpAny_isInstance (T := "StopIteration") (b:=true) (let ⟨o,a,b⟩:=he; ⟨o,a,b⟩) isSubtype_stop (wpAny_pure (hQ _ fun c o' n q=>hk c o' ((cO ..).extBut c o' n q))))
theorem Qk{it d:Addr}{i ep:Nat}{es:Array DictEntry}{od:Obj}{Q:Option Value->Shared->Prop}(fV:s.heap.IsValIter it d i es.size ep)(pU:s.heap.get? d=some od)(gP:od.data = .dict es ep)(cW:i < es.size)(hQ:∀ h',h'.IsValIter it d (i+1) es.size ep->cf it s.heap h'->Q (some es[i].val) { s with heap:=h' }):wpAny (model prog w) A (pyNext (.ref it)) Q E s:=by
 obtain⟨o,ho,hc,hd⟩:=id fV
 have yQ:gq "dict_valueiterator" = false:=by decide
 have F1:(s.heap.update it (gN (·.setIfInBounds 1 (rawInt ((i:Int)+1))))).IsValIter it d (i+1) es.size ep :=
  ⟨_,d8 _ ho (ja (dO hd _)),(oa ..).trans hc,by rw[dO hd];simp[rawInt]⟩
 unfold pyNext
 refine wpAny_bind (wpAny_attempt (wpAny_callSpecial?_slot (name:=eX "__next__") fV.typeIs fR (wpAny_call_entry fR fV.typeIs pE ?_ (oX _))))
 refine wpAny_bind (wpAny_pure (wpAny_bind (wpAny_bind (wpAny_bind (wpAny_typeNameOfWhole_valiter fV.typeIs (wpAny_pure (wpAny_bind (wpAny_fieldsOf ho hd ?_))))))))
 rw[yQ]
 show wpAny _ _ (if (aH d == da)=true then _ else _) _ _ s
 rw[if_neg (show ¬ ((aH d == da)=true) from a5)]
 refine wpAny_bind (wpAny_pure (wpAny_bind (wpAny_dictEntries pU gP ?_)))
 rw[if_neg (by simp)]
 refine wpAny_bind (wpAny_pure (wpAny_bind (wpAny_dictEpoch pU gP ?_)))
 rw[if_neg (by simp)]
 refine wpAny_pure ?_
 simp only[show ¬ ((i:Int) < 0) from by omega,if_false,cn,hV cW]
 refine wpAny_bind (wpAny_bind (wpAny_typeNameOfWhole_valiter fV.typeIs (wpAny_pure (wpAny_bind (wpAny_isOneOf_valiter fV.typeIs ?_)))))
 show wpAny _ _ (setField (.ref it) 1 (rawInt ((i:Int)+1)) >>= _) _ _ s
 refine wpAny_bind (wpAny_setField ho hd (by simp) (wpAny_bind (wpAny_holding ?_)))
 refine wpAny_bind (wpAny_isOneOf_valiter (s := { s with heap:=s.heap.update it (gN (·.setIfInBounds 1 (rawInt ((i:Int)+1)))) }) F1.typeIs ?_)
 show wpAny _ _ (HX (.ref it) _ >>= _) _ _ _
 refine wpAny_bind (wpAny_isOneOf_valiter (s := { s with heap:=s.heap.update it (gN (·.setIfInBounds 1 (rawInt ((i:Int)+1)))) }) F1.typeIs ?_)
 show wpAny _ _ (pure es[i].val) _ _ _
 exact wpAny_pure (wpAny_pure ⟨_,O,wpAny_pure (hQ _ F1 (cO ..))⟩)
theorem Tb{it d:Addr}{i ep:Nat}{es:Array DictEntry}{od:Obj}{Q:Option Value->Shared->Prop}(hh:A.handled=none)(fV:s.heap.IsValIter it d i es.size ep)(pU:s.heap.get? d=some od)(gP:od.data = .dict es ep)(Kn:es.size<=i)(hQ:∀ h',rY it s.heap h'->Q none { s with heap:=h' }):wpAny (model prog w) A (pyNext (.ref it)) Q E s:=by
 obtain⟨o,ho,hc,hd⟩:=id fV
 have yQ:gq "dict_valueiterator" = false:=by decide
 unfold pyNext
 refine wpAny_bind (wpAny_attempt (wpAny_callSpecial?_slot (name:=eX "__next__") fV.typeIs fR (wpAny_call_entry fR fV.typeIs pE ?_ (oX _))))
 refine wpAny_bind (wpAny_pure (wpAny_bind (wpAny_bind (wpAny_bind (wpAny_typeNameOfWhole_valiter fV.typeIs (wpAny_pure (wpAny_bind (wpAny_fieldsOf ho hd ?_))))))))
 rw[yQ]
 show wpAny _ _ (if (aH d == da)=true then _ else _) _ _ s
 rw[if_neg (show ¬ ((aH d == da)=true) from a5)]
 refine wpAny_bind (wpAny_pure (wpAny_bind (wpAny_dictEntries pU gP ?_)))
 rw[if_neg (by simp)]
 refine wpAny_bind (wpAny_pure (wpAny_bind (wpAny_dictEpoch pU gP ?_)))
 rw[if_neg (by simp)]
 refine wpAny_pure ?_
 simp only[show ¬ ((i:Int) < 0) from by omega,if_false,cn,kE Kn]
 refine wpAny_bind (wpAny_bind (wpAny_typeNameOfWhole_valiter fV.typeIs (wpAny_pure ?_)))
 show wpAny _ _ (setField (.ref it) 0 .none >>= _) _ _ s
 refine wpAny_bind (wpAny_setField ho hd (by simp) ?_)
 refine Fl (s := { s with heap:=_ }) (show A.in1.handled=none from hh) fun h' e hk he =>?_
 refine wpAny_bind (wpAny_isInstance (T := "StopIteration") (b:=true) (let ⟨o,a,b⟩:=he; ⟨o,a,b⟩) isSubtype_stop (wpAny_pure (hQ _ fun c o' n q=>hk c o' ((cO ..).extBut c o' n q))))
theorem GF{d:Addr}{ep:Nat}{es:Array DictEntry}{od:Obj}{Q:Value->Shared->Prop}(hd:(d == sysModules)=false)(hT:s.TypeIs (.ref d) "dict")(pU:s.heap.get? d=some od)(gP:od.data = .dict es ep)(hQ:Q (.ref s.heap.objs.size) { s with heap:=s.heap.push { cls := .type "dict_keyiterator",data := .fields #[.ref d,.int 0 0,.int es.size 0,.int ep 0] } }):wpAny (model prog w) A (pyIter (.ref d)) Q E s:=by
 refine wpAny_pyIter_slot hT F.slot_dict_iter (wpAny_call_entry F.slot_dict_iter hT F.entry_dict_iter ?_ (F.args_dict_iter_1 _))
 unfold Builtin.«dict.__iter__» Builtin.Dict.dictSlotNone
 refine wpAny_bind (wpAny_bind (wpAny_notOrdered_dict hT (show wpAny _ _ (pure (aH d)) _ _ s from wpAny_pure ?_)))
 show wpAny _ _ (lD d >>= _) _ _ s
 unfold lD
 rw[if_neg (by rw[hd];exact a5)]
 refine wpAny_bind (wpAny_pure (wpAny_bind (wpAny_dictEntries pU gP (wpAny_bind (wpAny_dictEpoch pU gP ?_)))))
 refine wpAny_bind (wpAny_newObj_type (wpAny_pure ⟨_,O, "dict_keyiterator",_,⟨_,aT _ rfl,O⟩,gm.lookup,?_⟩))
 simpa [rawInt] using hQ
theorem Qj{v d:Addr}{ep:Nat}{es:Array DictEntry}{od:Obj}{Q:Value->Shared->Prop}(hv:s.heap.IsValuesView v d)(pU:s.heap.get? d=some od)(gP:od.data = .dict es ep)(hQ:Q (.ref s.heap.objs.size) { s with heap:=s.heap.push { cls := .type "dict_valueiterator",data := .fields #[.ref d,.int 0 0,.int es.size 0,.int ep 0] } }):wpAny (model prog w) A (pyIter (.ref v)) Q E s:=by
 obtain⟨ov,hov,Wb,hdv⟩:=id hv
 refine wpAny_pyIter_slot hv.typeIs we (wpAny_call_entry we hv.typeIs F.entry_dict_values_iter ?_ (F.args_dict_values_iter_1 _))
 unfold Builtin.«dict_values.__iter__» Im Fd
 refine wpAny_bind (wpAny_pure (wpAny_bind (wpAny_bind (wpAny_field hov hdv (x := .ref d) rfl (wpAny_pure ?_)))))
 have yQ:gq "dict_valueiterator" = false:=by decide
 refine wpAny_bind (wpAny_bind (wpAny_dictEntries pU gP (wpAny_bind (wpAny_dictEpoch pU gP ?_))))
 simp only[yQ,dP,if_false]
 refine wpAny_newObj_type (wpAny_pure ⟨_,O, "dict_valueiterator",_,⟨_,aT _ rfl,O⟩,fR.lookup,?_⟩)
 simpa [rawInt] using hQ
theorem Qi{d:Addr}(hd:(d == sysModules)=false):MeetsIn prog w (Builtin.«dict.values» ⟨[.ref d], []⟩) (fun _ R s=>s.TypeIs (.ref d) "dict" ∧
   R (.ok (.ret (.ref s.heap.objs.size))) { s with heap:=s.heap.push { cls := .type "dict_values",data := .fields #[.ref d] } }) :=
 .of_wp fun A R s ⟨hT,h⟩=>by
  unfold Builtin.«dict.values»
  refine wpAny_bind ?_
  unfold Builtin.Dict.noArgs
  refine wpAny_bind (wpAny_notOrdered_dict hT (show wpAny _ _ (pure d) _ _ s from wpAny_pure ?_))
  show wpAny _ _ (lD d >>= _) _ _ s
  unfold lD
  rw[if_neg (by rw[hd];exact a5)]
  exact wpAny_bind (wpAny_pure (wpAny_bind (wpAny_newObj_type (wpAny_pure ⟨_,O,h⟩))))
end
def qL(P:Program)(w:World)(H:Hp)(a:Addr)(o:Obj)(kvs:List (NK × V)):Prop := ∃ (xs:List (NK × Addr × Value)) (es:Array DictEntry) (ep:Nat),H a=some (Ext a o)∧KN H kvs xs∧o.data = .dict es ep∧es.toList=xs.map (entryOfKey (kY P w))
theorem DN.o{P:Program}{w:World}{H:Hp}{a:Addr}{kvs:List (NK × V)}(d:DN P w H a kvs):∃ o,qL P w H a o kvs:=by
 obtain⟨_,_,xs,o,es,ep,h1,h2,_,h4,h5,_⟩:=d
 exact⟨o,xs,es,ep,h1,h2,h4,h5⟩
theorem qL.keep{P:Program}{w:World}{H H':Hp}{a:Addr}{o:Obj}{kvs:List (NK × V)}(d:qL P w H a o kvs)(ha:H a=some (Ext a o)->H' a=some (Ext a o))(ht:∀ b ys,H b=some (.tup ys)->H' b=some (.tup ys)):qL P w H' a o kvs:=by
 obtain⟨xs,es,ep,h1,h2,h3⟩:=d
 exact⟨xs,es,ep,ha h1,h2.keeps ht,h3⟩
theorem qL.same{P:Program}{w:World}{H H':Hp}{a:Addr}{o:Obj}{kvs:List (NK × V)}(d:qL P w H a o kvs)(s:bJ H H'):qL P w H' a o kvs:=d.keep (s _ _) (fun b ys=>s _ _)
theorem entry_at{P:Program}{w:World}{H:Hp}{kvs:List (NK × V)}{xs:List (NK × Addr × Value)}{es:Array DictEntry}(r:KN H kvs xs)(he:es.toList=xs.map (entryOfKey (kY P w))):es.size=kvs.length∧∀ i (h:i < es.size),∃ kv b,kvs[i]? = some kv∧es[i].key = .ref b∧fD H kv.1 b∧RelV kv.2 es[i].val:=by
 have l1:es.size=xs.length:=by rw[<- dA,he,az]
 have l2:=aV r
 refine⟨by omega,fun i h =>?_⟩
 have hx:xs[i]? = some (xs[i]'(by omega)):=aj (by omega)
 have hk:kvs[i]? = some (kvs[i]'(by omega)):=aj (by omega)
 obtain⟨q,hq,e1,e2,e3⟩:=Paired.at r hk
 rw[hx]at hq
 cases hq
 have M3:es[i]=entryOfKey (kY P w) (xs[i]'(by omega)):=by
  have:es.toList[i]? = (xs.map (entryOfKey (kY P w)))[i]? := by rw[he]
  rw[aK,hx,fX,hV h]at this
  exact aD this
 exact⟨_,_,hk,by rw[M3];rfl,e2,by rw[M3];exact e3⟩
def Lz(P:Program)(w:World)(a:Addr)(o:Obj)(kvs:List (NK × V)):It :=
 ⟨fun i H=>i < kvs.length∧qL P w H a o kvs,fun i H x H'=>H'=H∧∃ kv b,kvs[i]? = some kv∧x = .ref b∧fD H kv.1 b,fun i H=>kvs.length<=i∧qL P w H a o kvs⟩
def Ly(P:Program)(w:World)(a:Addr)(o:Obj)(kvs:List (NK × V)):It :=
 ⟨fun i H=>i < kvs.length∧qL P w H a o kvs,fun i H x H'=>H'=H∧∃ kv,kvs[i]? = some kv∧x=kv.2,fun i H=>kvs.length<=i∧qL P w H a o kvs⟩
theorem N8{P:Program}{w:World}{K:ao}{tg:Expr}(a it:Addr){o:Obj}{kvs:List (NK × V)}{es:Array DictEntry}{ep:Nat}(gP:o.data = .dict es ep) :
  Turn P w K tg (Lz P w a o kvs) [it] it (fun i h=>h.IsKeyIter it a i es.size ep) where
 mem:=by simp
 obj:=fun i h st b hb=>by
  have e:b=it:=by simpa using hb
  subst e
  obtain⟨o,e,c,d⟩:=st
  exact⟨o,e,fun v z=>by rw[d]at z;cases z⟩
 keep:=fun i h h' st k=>st.at fun o e=>k it (by simp) o e
 item:=by
  intro X hP hw hK hc i ah s Y H E I hf st hg
  subst hP hw hK
  obtain⟨hi,xs,A0,KW,hH,cV,vx,jo⟩:=hg
  rw[gP]at vx
  cases vx
  obtain⟨hsz,sM⟩:=entry_at cV jo
  obtain⟨kv,b,cR,ek,nk,_⟩:=sM i (by omega)
  obtain⟨f0,f1,f2,f3,f4,f5⟩:=hf it (by simp)
  refine GG st (mD I.bh hH) gP (by omega) fun h' mW sb =>?_
  have I1:Inv X ah Y H { s with heap:=h' }:=I.turned (t':=s.toks) (fun b o hb e=>(sb.2 b hb).trans e) f0 f1 f3 f4 f5
  obtain⟨o,e,c,d⟩:=id mW
  exact⟨_,O,BH (s := { s with heap:=h' }) e c d (by decide) ⟨.ref b,H,I1,by rw[ek];rfl,⟨O,kv,b,cR,O,nk⟩,mW,fun b hb=>(hf b hb).1⟩⟩
 done:=by
   intro X hP hw hK hc i ah s Y H E I hf st hg
   subst hP hw hK
   obtain⟨hi,xs,A0,KW,hH,cV,vx,jo⟩:=hg
   rw[gP]at vx
   cases vx
   obtain⟨hsz,_⟩:=entry_at cV jo
   obtain⟨f0,f1,f2,f3,f4,f5⟩:=hf it (by simp)
   exact Ja (I.ok.hd hc) st (mD I.bh hH) gP (by omega) fun h' eb=>⟨O,I.turned (t':=s.toks) (fun b o hb e=>eb b o hb e) f0 f1 f3 f4 f5⟩
 self:=fun _ _ _ _ _ st h=>wpAny_pyIter_keyiter st h
theorem N5{P:Program}{w:World}{K:ao}{tg:Expr}(a it:Addr){o:Obj}{kvs:List (NK × V)}{es:Array DictEntry}{ep:Nat}(gP:o.data = .dict es ep) :
  Turn P w K tg (Ly P w a o kvs) [it] it (fun i h=>h.IsValIter it a i es.size ep) where
 mem:=by simp
 obj:=fun i h st b hb=>by
  have e:b=it:=by simpa using hb
  subst e
  obtain⟨o,e,c,d⟩:=st
  exact⟨o,e,fun v z=>by rw[d]at z;cases z⟩
 keep:=fun i h h' st k=>st.at fun o e=>k it (by simp) o e
 item:=by
  intro X hP hw hK hc i ah s Y H E I hf st hg
  subst hP hw hK
  obtain⟨hi,xs,A0,KW,hH,cV,vx,jo⟩:=hg
  rw[gP]at vx
  cases vx
  obtain⟨hsz,sM⟩:=entry_at cV jo
  obtain⟨kv,b,cR,ek,nk,rv⟩:=sM i (by omega)
  obtain⟨f0,f1,f2,f3,f4,f5⟩:=hf it (by simp)
  refine Qk st (mD I.bh hH) gP (by omega) fun h' mW sb =>?_
  have I1:Inv X ah Y H { s with heap:=h' }:=I.turned (t':=s.toks) (fun b o hb e=>(sb.2 b hb).trans e) f0 f1 f3 f4 f5
  obtain⟨o,e,c,d⟩:=id mW
  exact⟨_,O,BH (s := { s with heap:=h' }) e c d (by decide) ⟨kv.2,H,I1,rv,⟨O,kv,cR,O⟩,mW,fun b hb=>(hf b hb).1⟩⟩
 done:=by
   intro X hP hw hK hc i ah s Y H E I hf st hg
   subst hP hw hK
   obtain⟨hi,xs,A0,KW,hH,cV,vx,jo⟩:=hg
   rw[gP]at vx
   cases vx
   obtain⟨hsz,_⟩:=entry_at cV jo
   obtain⟨f0,f1,f2,f3,f4,f5⟩:=hf it (by simp)
   exact Tb (I.ok.hd hc) st (mD I.bh hH) gP (by omega) fun h' eb=>⟨O,I.turned (t':=s.toks) (fun b o hb e=>eb b o hb e) f0 f1 f3 f4 f5⟩
 self:=fun _ _ _ _ _ st h=>wpAny_pyIter_valiter st h
inductive Lx(P:Program)(w:World)(R:It->Hp->Prop)(x:V)(H1:Hp):Prop
 | mk (a:Addr) (kvs:List (NK × V)) (e:x = .ref a) (ea:DN P w H1 a kvs) (q:∀ o,qL P w H1 a o kvs->R (Lz P w a o kvs) H1):Lx P w R x H1
def aaE(P:Program)(w:World)(tl:TE):TI:=fun Y H R=>tl Y H fun x H1=>Lx P w R x H1
inductive Lw(P:Program)(w:World)(R:It->Hp->Prop)(x:V)(H1:Hp):Prop
 | mk (a:Addr) (kvs:List (NK × V)) (e:x = .ref a) (ea:DN P w H1 a kvs) (q:∀ o,qL P w H1 a o kvs->R (Ly P w a o kvs) H1):Lw P w R x H1
def aaC(P:Program)(w:World)(tl:TE):TI:=fun Y H R=>tl Y H fun x H1=>Lw P w R x H1
theorem Ti{X:Cx}{tg l:Expr}{tl:TE}(hl:PE X l tl):PI X tg l (aaE X.prog X.w tl):=by
 intro ah s Y H R I h
 refine bB (hl ah s Y H _ I h) fun v s1 ⟨x,H1,I1,r1,q1⟩ =>?_
 obtain⟨a,kvs,e,d,q⟩:=q1
 subst e
 obtain rfl:v=aH a:=r1
 obtain⟨o,Ez⟩:=d.o
 have hT:=Hf I1 d
 have MR:(a == sysModules)=false:=d.2.1
 have q:=q o Ez
 obtain⟨xs,es,ep,hH,cV,gP,jo⟩:=Ez
 refine GF MR hT (mD I1.bh hH) gP ?_
 refine⟨_, [_],_,_,H1,O,I1.kept (t':=s1.toks) fun b o e=>ay _ e,N8 a _ gP,⟨_,aT _ rfl,O,O⟩,fun b hb =>?_,q⟩
 have e:b=s1.heap.objs.size:=by simpa using hb
 subst e
 exact I1.yT (ar _) (I1.bh.fresh (ar _))
theorem Th{X:Cx}{tg o:Expr}{tl:TE}{c9 cZ:Pos}(ho:PE X o tl)(pW:attributeBase o "values" X.env (eval o X.env)=eval o X.env:=by rfl)(pV:(c9.endLine == cZ.line)=true:=by rfl) :
  PI X tg (.Call (.Attribute o "values" c9) [] [] cZ) (aaC X.prog X.w tl):=by
 intro ah s Y H R I h
 refine wpAny_Call_method0_late pW pV (bB (ho ah s Y H _ I h) fun v s1 ⟨x,H1,I1,r1,q1⟩ =>?_)
 obtain⟨a,kvs,e,d,q⟩:=q1
 subst e
 obtain rfl:v=aH a:=r1
 obtain⟨o,Ez⟩:=d.o
 obtain⟨t1,t2,_⟩:=AL I1 ⟨kvs,d⟩
 have MR:(a == sysModules)=false:=d.2.1
 have q:=q o Ez
 obtain⟨xs,es,ep,hH,cV,gP,jo⟩:=Ez
 refine⟨"dict", "dict.values",gx,jI,vL,t1,t2,eK rfl (qH ?_)⟩
 refine call_meetsIn jI t1 uG (tK _) (Qi MR) ⟨t1,?_⟩
 have kp:∀ b o',s1.heap.get? b=some o'->(s1.heap.push { cls := .type "dict_values",data := .fields #[.ref a] }).get? b=some o':=fun b o' e=>ay _ e
 have I2:Inv X ah Y H1 { s1 with heap:=s1.heap.push { cls := .type "dict_values",data := .fields #[.ref a] } }:=I1.kept (t':=s1.toks) kp
 refine Qj (d:=a) ⟨_,aT _ rfl,O,O⟩ (mD I2.bh hH) gP ?_
 refine⟨_, [_],_,_,H1,O,I2.kept (t':=s1.toks) fun b o e=>ay _ e,N5 a _ gP,⟨_,aT _ rfl,O,O⟩,fun b hb =>?_,q⟩
 have e:b=(s1.heap.push { cls := .type "dict_values",data := .fields #[.ref a] }).objs.size:=by simpa using hb
 subst e
 exact I2.yT (ar _) (I2.bh.fresh (ar _))
section
variable {P:Program}{w:World}{a:Addr}{o:Obj}{kvs:List (NK × V)}{g:TG}{tb:TS}{D:Ends}{Y:St}{H:Hp}
theorem Rt(Pv:Nat->St->Hp->Prop)(h0:Pv 0 Y H)(hl:∀ i Y H,i<=kvs.length->Pv i Y H->qL P w H a o kvs)(hs:∀ i (kv:NK × V) b Y H,kvs[i]? = some kv->fD H kv.1 b->Pv i Y H->g (.ref b) Y H fun j6 H2=>tb { D with nx:=Pv (i+1),ct:=Pv (i+1),bk:=D.nx } j6 H2)(hd:∀ Y H,Pv kvs.length Y H->D.nx Y H) :
  ∃ W:Nat->Nat->St->Hp->Prop,(∃ m,W 0 m Y H)∧∀ i m Y H,W i m Y H ->
   ((Lz P w a o kvs).stop i H∧D.nx Y H)∨((Lz P w a o kvs).go i H∧∃ N:St->Hp->Prop,(∀ bw H',N bw H'->∃ m',m' < m∧W (i+1) m' bw H')∧∀ x H',(Lz P w a o kvs).zY i H x H'->g x Y H' fun j6 H2=>tb { D with nx:=N,ct:=N,bk:=D.nx } j6 H2):=by
 refine⟨fun i m Y H=>m=kvs.length - i∧i<=kvs.length∧Pv i Y H,⟨kvs.length,by simp,bx _,h0⟩,?_⟩
 rintro i m Y H ⟨rfl,hi,hp⟩
 by_cases cW:i < kvs.length
 ·refine .inr ⟨⟨cW,hl i Y H hi hp⟩,Pv (i+1),fun bw H' h'=>⟨kvs.length - (i+1),by omega,O,cW,h'⟩,?_⟩
  rintro x H' ⟨rfl,kv,b,cR,rfl,nk⟩
  exact hs i kv b Y _ cR nk hp
 ·have e:i=kvs.length:=by omega
  subst e
  exact .inl ⟨⟨ar _,hl _ Y H hi hp⟩,hd Y H hp⟩
theorem Rr(Pv:Nat->St->Hp->Prop)(h0:Pv 0 Y H)(hl:∀ i Y H,i<=kvs.length->Pv i Y H->qL P w H a o kvs)(hs:∀ i (kv:NK × V) Y H,kvs[i]? = some kv->Pv i Y H->g kv.2 Y H fun j6 H2=>tb { D with nx:=Pv (i+1),ct:=Pv (i+1),bk:=D.nx } j6 H2)(hd:∀ Y H,Pv kvs.length Y H->D.nx Y H) :
  ∃ W:Nat->Nat->St->Hp->Prop,(∃ m,W 0 m Y H)∧∀ i m Y H,W i m Y H ->
   ((Ly P w a o kvs).stop i H∧D.nx Y H)∨((Ly P w a o kvs).go i H∧∃ N:St->Hp->Prop,(∀ bw H',N bw H'->∃ m',m' < m∧W (i+1) m' bw H')∧∀ x H',(Ly P w a o kvs).zY i H x H'->g x Y H' fun j6 H2=>tb { D with nx:=N,ct:=N,bk:=D.nx } j6 H2):=by
 refine⟨fun i m Y H=>m=kvs.length - i∧i<=kvs.length∧Pv i Y H,⟨kvs.length,by simp,bx _,h0⟩,?_⟩
 rintro i m Y H ⟨rfl,hi,hp⟩
 by_cases cW:i < kvs.length
 ·refine .inr ⟨⟨cW,hl i Y H hi hp⟩,Pv (i+1),fun bw H' h'=>⟨kvs.length - (i+1),by omega,O,cW,h'⟩,?_⟩
  rintro x H' ⟨rfl,kv,cR,rfl⟩
  exact hs i kv Y _ cR hp
 ·have e:i=kvs.length:=by omega
  subst e
  exact .inl ⟨⟨ar _,hl _ Y H hi hp⟩,hd Y H hp⟩
end
section
variable {X:Cx}{ah:List (Addr × Obj)}{Y:St}{H:Hp}{s:Shared}{a b:Addr}{kvs:List (NK × V)}{k:NK}{v:V}{A:Around}{E:Value->Shared->Prop}
theorem X4{Q:Value->Shared->Prop}{z:V}{r:Value}(hu:A.units+10 < cLine)(I:Inv X ah Y H s)(d:DN X.prog X.w H a kvs)(nk:fD H k b)(rz:RelV z r)(h:∀ w' s',Inv X ah Y H s'->RelV ((bL kvs k).getD z) w'->Q w' s') :
  wpAny (model X.prog X.w) A (call (.builtin "dict.get") [.ref a,.ref b,r]) Q E s:=by
 obtain⟨_,hd,xs,cV,dd⟩:=uC I.bh d
 exact call_meetsIn lA dd.typeIs xu (PySem.F.args_dict_get_3 _ _ _) (meetsH_dict_get_default (kY X.prog X.w) a b hd r) ⟨(show A.units+1+5 < cLine by omega),k,xs,o8 I.bh nk,dd,h _ _ (I.tok _) ((cV.val k).getD rz)⟩
end
inductive Lu(P:Program)(w:World)(ty tx:TE)(Y:St)(Q:VK)(x:V)(H1:Hp):Prop
 | mk (a:Addr) (z0:x = .ref a) (z1:∃ kvs,DN P w H1 a kvs) (z2:ty Y H1 fun y H2=>tx Y H2 fun z H3=>∃ b kvs k,y = .ref b∧DN P w H3 a kvs∧fD H3 k b∧Q ((bL kvs k).getD z) H3):Lu P w ty tx Y Q x H1
def YK(P:Program)(w:World)(td ty tx:TE):TE:=fun Y H Q=>td Y H fun x H1=>Lu P w ty tx Y Q x H1
theorem To{X:Cx}{o e f:Expr}{c9 cZ:Pos}{td ty tx:TE}(hu:X.A.units+10 < cLine)(ho:PE X o td)(he:PE X e ty)(hf:PE X f tx)(m:M2 X o "get" c9 e f cZ):PE X (.Call (.Attribute o "get" c9) [e,f] [] cZ) (YK X.prog X.w td ty tx):=by
 intro ah s Y H Q I h
 refine wpAny_Call_method m.base m.dG m.line gx lA yd (bB (ho ah s Y H _ I h) fun u s1 ⟨x,H1,I1,rx,a,ex,d,q1⟩ =>?_)
 subst ex
 obtain rfl:u=aH a:=rx
 obtain⟨t1,t2,_⟩:=AL I1 d
 refine⟨t1,t2,?_⟩
 rw[m.trees]
 refine eK rfl (ir (gi (bB (he ah s1 Y H1 _ I1 q1) fun iv s2 ⟨y,H2,I2,ry,q2⟩ =>
  gi (bB (hf ah s2 Y H2 _ I2 q2) fun fv s3 ⟨z,H3,I3,rz,b,kvs,k,ey,d3,nk,q3⟩=>jr ?_))))
 subst ey
 obtain rfl:iv=aH b:=ry
 exact X4 hu I3 d3 nk rz fun w' s4 I4 kR=>⟨_,H3,I4,kR,q3⟩
def ady(P:Program)(w:World):V->V->Hp->VK->Prop:=fun o i H Q=>∃ a b kvs k v,o = .ref a∧i = .ref b∧DN P w H a kvs∧fD H k b∧bL kvs k=some v∧Q v H
def adw(P:Program)(w:World):V->V->V->Hp->(Hp->Prop)->Prop:=fun o i v H Q=>∃ a b kvs k,o = .ref a∧i = .ref b∧DN P w H a kvs∧fD H k b∧kvs.length < sizeLine∧∀ φ,DN P w (upd H a (.ext φ)) a (eW kvs k v)->Q (upd H a (.ext φ))
theorem ab8{X:Cx}(hu:X.A.units+10 < cLine):acW X (ady X.prog X.w):=by
 intro ah s Y H o i ov iv Q I ro ri h
 obtain⟨a,b,kvs,k,v,rfl,rfl,d,nk,hv,q⟩:=h
 cases ro;cases ri
 exact EB hu I d nk hv fun w' s3 I3 kR=>⟨v,H,I3,kR,q⟩
theorem Zb{X:Cx}(hu:X.A.units+10 < cLine):Pe X (adw X.prog X.w):=by
 intro ah s Y H o i v ov iv u Q I ro ri rv h
 obtain⟨a,b,kvs,k,rfl,rfl,d,nk,hl,q⟩:=h
 cases ro;cases ri
 exact EA hu I d nk rv hl fun φ s' I' d'=>⟨_,I',q φ d'⟩
section
variable {prog:Program}{w:World}{A:Around}{E:Value->Shared->Prop}{s:Shared}{R:Result->Shared->Prop}{I:Addr}{fp wr:List Addr}{n:Nat}{P:Nat->Value->Prop}{St:Nat->Heap->Prop}{C:Heap->Prop}{bt:Nat->Nat->Bool}
def Po(prog:Program)(w:World)(A:Around)(C:Heap->Prop)(P:Nat->Value->Prop)(bt:Nat->Nat->Bool):Prop :=
 ∀ i j vi vj (s:Shared) (Q:Value->Shared->Prop) (E:Value->Shared->Prop),C s.heap->P i vi->P j vj->Q (.bool (bt i j)) s->wpAny (model prog w) A (richCompare .Lt vi vj) Q E s
def uT(wr:List Addr)(S:Addr)(h h':Heap):Prop := ∀ b o,b ∉ wr->b≠S->h.get? b=some o->h'.get? b=some o
theorem QE(W:Walks prog w A.in1 I fp wr n P St)(C9:Po prog w A.in1 C P bt)(S:Addr)(G7:S ∉ fp)(hC:∀ h h',C h->uT wr S h h'->C h') :
  ∀ (k j:Nat) (s:Shared) (vb:Value) (c:Nat),n - (j+1)=k->j+1<=n->St (j+1) s.heap->P (argBest bt j) vb->C s.heap ->
  s.heap.get? S=some { cls := .type "list",dict:=none,data := .seq #[vb,vb] c,slots := #[] } ->
  (∀ v h' tk,P (argBest bt (n - 1)) v->uT wr S s.heap h'->R (.ok (.ret v)) { s with heap:=h',toks:=tk })->codeAny (model prog w) A (.builtin "min.loop" ⟨[.ref I,.none,.ref S], []⟩) R s:=by
 have Wi:S ∉ wr:=fun h=>G7 (W.sub _ h)
 have BE:(toString "min" ++ toString ".loop" : String) = "min.loop" := by decide
 intro k
 induction k with
 | zero =>
  intro j s vb c hk hj jV Wj Wu hS hR
  have sH:j+1=n:=by omega
  refine codeAny_builtin vX ?_
  rw[qB iR _]
  refine(show wpAny _ A.in1 (seqItems? (.ref S) >>= _) _ _ s from wpAny_bind (wpAny_seqItems hS rfl (show wpAny _ A.in1 (tryCatch (pyNext (.ref I)) _ >>= _) _ _ s from wpAny_bind (wpAny_tryCatch (W.done s _ _ (sH ▸ jV) fun h' tk sG =>?_)))))
  have Cj:=sG S _ Wi hS
  refine(show wpAny _ A.in1 (updateSeq S (fun _ => #[]) >>= _) _ _ _ from wpAny_bind (wpAny_updateSeq Cj rfl (wpAny_bind (wpAny_letGo (wpAny_pure ?_)))))
  exact hR vb _ tk (by rw[<- sH];exact Wj) fun b o hbw sL e=>(df _ _ (cm sL)).trans (sG b o hbw e)
 | succ k ih =>
  intro j s vb c hk hj jV Wj Wu hS hR
  have cW:j+1 < n:=by omega
  refine codeAny_builtin vX ?_
  rw[qB iR _]
  refine(show wpAny _ A.in1 (seqItems? (.ref S) >>= _) _ _ s from wpAny_bind (wpAny_seqItems hS rfl (show wpAny _ A.in1 (tryCatch (pyNext (.ref I)) _ >>= _) _ _ s from wpAny_bind (wpAny_tryCatch (W.item (j+1) s _ _ cW jV fun v h' tk hP OQ sG =>?_)))))
  have Cj:=sG S _ Wi hS
  have kb:uT wr S s.heap h':=fun b o hw _ e=>sG b o hw e
  have hC1:=hC _ _ Wu kb
  show wpAny _ A.in1 (tryCatch (holding [v,v] (richCompare .Lt v vb >>= _)) _ >>= _) _ _ _
  refine wpAny_bind (wpAny_tryCatch (wpAny_holding (wpAny_bind (C9 (j+1) (argBest bt j) v vb { s with heap:=h',toks:=tk } _ _ hC1 hP Wj ?_))))
  refine wpAny_bind (wpAny_holding (wpAny_truthy_bool ?_))
  refine wpAny_bind (wpAny_letGo (wpAny_pure ?_))
  cases hb:bt (j+1) (argBest bt j) with
  | true =>
   simp only[if_true]
   refine wpAny_bind (wpAny_updateSeq Cj rfl (wpAny_bind (wpAny_letGo ?_)))
   rw[BE]
   have ku:∀ b o,b≠S->h'.get? b=some o->(h'.update S (ij fun _ => #[v,v])).get? b=some o:=fun b o sL e=>(df _ _ (cm sL)).trans e
   refine wpAny_pure ⟨plainId_quiet iR _,ih (j+1) _ v _ (by omega) cW (W.frame _ _ _ OQ fun b Ra o e=>ku b o (fun z=>G7 (by rw[<- z];exact Ra)) e) (by simp only[argBest,hb,if_true];exact hP) (hC _ _ hC1 fun b o _ sL e=>ku b o sL e) (d8 _ Cj rfl) fun v' KL sj Rh Kj =>?_⟩
   exact hR v' KL sj Rh fun b o hw sL e=>Kj b o hw sL (ku b o sL (sG b o hw e))
  | false =>
   simp only[dP,if_false]
   refine wpAny_bind (wpAny_letGo ?_)
   rw[BE]
   refine wpAny_pure ⟨plainId_quiet iR _,ih (j+1) _ vb c (by omega) cW OQ (by simp only[argBest,hb,dP,if_false];exact Wj) hC1 Cj fun v' KL sj Rh Kj =>?_⟩
   exact hR v' KL sj Rh fun b o hw sL e=>Kj b o hw sL (sG b o hw e)
theorem Ow(W:Walks prog w A.in1 I fp wr n P St)(C9:Po prog w A.in1 C P bt)(S:Addr)(G7:S ∉ fp)(hC:∀ h h',C h->uT wr S h h'->C h')(hn:0 < n){c:Nat}(jV:St 0 s.heap)(Wu:C s.heap)(hS:s.heap.get? S=some { cls := .type "list",dict:=none,data := .seq #[] c,slots := #[] })(hR:∀ v h' tk,P (argBest bt (n - 1)) v->uT wr S s.heap h'->R (.ok (.ret v)) { s with heap:=h',toks:=tk }):codeAny (model prog w) A (.builtin "min.loop" ⟨[.ref I,.none,.ref S], []⟩) R s:=by
 have Wi:S ∉ wr:=fun h=>G7 (W.sub _ h)
 have BE:(toString "min" ++ toString ".loop" : String) = "min.loop" := by decide
 refine codeAny_builtin vX ?_
 rw[qB iR _]
 refine(show wpAny _ A.in1 (seqItems? (.ref S) >>= _) _ _ s from wpAny_bind (wpAny_seqItems hS rfl (show wpAny _ A.in1 (tryCatch (pyNext (.ref I)) _ >>= _) _ _ s from wpAny_bind (wpAny_tryCatch (W.item 0 s _ _ hn jV fun v h' tk hP OQ sG =>?_)))))
 have Cj:=sG S _ Wi hS
 refine(show wpAny _ A.in1 (updateSeq S (fun _ => #[v,v]) >>= _) _ _ _ from wpAny_bind (wpAny_updateSeq Cj rfl ?_))
 rw[BE]
 have ku:∀ b o,b≠S->h'.get? b=some o->(h'.update S (ij fun _ => #[v,v])).get? b=some o:=fun b o sL e=>(df _ _ (cm sL)).trans e
 refine wpAny_pure ⟨plainId_quiet iR _,QE W C9 S G7 hC _ 0 _ v _ rfl hn (W.frame _ _ _ OQ fun b Ra o e=>ku b o (fun z=>G7 (by rw[<- z];exact Ra)) e) hP (hC _ _ Wu fun b o hw sL e=>ku b o sL (sG b o hw e)) (d8 _ Cj rfl) fun v' KL sj Rh Kj =>?_⟩
 exact hR v' KL sj Rh fun b o hw sL e=>Kj b o hw sL (ku b o sL (sG b o hw e))
theorem RP{x:Value}{Q:Value->Shared->Prop}(h:wpAny (model prog w) A.in1 (pyIter x) (fun it ic => ∃ I fp wr n P St bt C,it = .ref I∧Walks prog w A.in1 I fp wr n P St∧St 0 ic.heap∧(∀ b∈fp,b < ic.heap.objs.size)∧0 < n∧Po prog w A.in1 C P bt∧C ic.heap∧(∀ h h',C h->uT wr ic.heap.objs.size h h'->C h')∧(∀ h o,C h->C (h.push o)) ∧
   ∀ v h' tk,P (argBest bt (n - 1)) v->(∀ b o,b ∉ wr->ic.heap.get? b=some o->h'.get? b=some o)->Q v { ic with heap:=h',toks:=tk }) E s) :
  wpAny (model prog w) A (call (.builtin "min") [x]) Q E s:=by
 have BE:(toString "min" ++ toString ".loop" : String) = "min.loop" := by decide
 refine call_function_tree F.kind_min F.plain_min F.entry_min (F.args_min1 _) ?_
 refine(show wpAny _ A.in1 (sW "min" ["key", "default"] 0 ⟨[], []⟩ >>= _) _ _ s from wpAny_bind (wpAny_of_eq (show sW "min" ["key", "default"] 0 ⟨[], []⟩=pure [none,none] from rfl) ?_))
 refine wpAny_bind (wpAny_pure (wpAny_bind (wpAny_mono h (fun it ic tu =>?_) fun _ _ e=>e)))
 obtain⟨I,fp,wr,n,P,St,bt,C,rfl,W,jV,hfp,hn,C9,hC0,hC,hCp,hQ⟩:=tu
 refine wpAny_bind (wpAny_newObj_type ?_)
 have G7:ic.heap.objs.size ∉ fp:=fun hm=>eU _ (hfp _ hm)
 rw[BE]
 refine wpAny_pure ⟨plainId_quiet iR _,Ow W C9 ic.heap.objs.size G7 hC hn (W.frame _ _ _ jV fun b _ o e=>ay _ e) (hCp _ _ hC0) (aT _ rfl) fun v h' tk hP hk =>?_⟩
 refine hQ v h' tk hP fun b o hw e=>hk b o hw (fun z =>?_) (ay _ e)
 have:=aP e
 rw[z]at this
 exact absurd this (eU _)
end
theorem F8{bt:Nat->Nat->Bool}(irr:∀ i,bt i i=false)(tr:∀ i j k,bt i j=true->bt j k=true->bt i k=true):∀ m,argBest bt m<=m∧∀ j,j<=m->bt j (argBest bt m)=false
 | 0=>⟨ar _,fun j hj=>by rw[show j=0 by omega];exact irr 0⟩
 | m+1=>by
  obtain⟨h1,h2⟩:=F8 irr tr m
  cases e:bt (m+1) (argBest bt m) with
  | true =>
   have eb:argBest bt (m+1)=m+1:=by rw[argBest,e];rfl
   rw[eb]
   refine⟨ar _,fun j hj =>?_⟩
   rcases hJ hj with q | q
   ·cases e2:bt j (m+1) with
    | false=>rfl
    | true=>have:=tr j (m+1) _ e2 e;rw[h2 j (by omega)]at this;cases this
   ·rw[q];exact irr _
  | false =>
   have eb:argBest bt (m+1)=argBest bt m:=by rw[argBest,e];rfl
   rw[eb]
   refine⟨by omega,fun j hj =>?_⟩
   rcases hJ hj with q | q
   ·exact h2 j (by omega)
   ·rw[q];exact e
theorem JG:∀ a:List Int,HT.lexLt a a=false
 | []=>rfl
 | x :: a=>by rw[HT.uz,if_pos rfl];exact JG a
theorem ML:∀ {a b c:List Int},HT.lexLt a b=true->HT.lexLt b c=true->HT.lexLt a c=true
 | [], [],_,h,_=>by cases h
 | [],_ :: _, [],_,h=>by cases h
 | [],_ :: _,_ :: _,_,_=>rfl
 | _ :: _, [],_,h,_=>by cases h
 | _ :: _,_ :: _, [],_,h=>by cases h
 | x :: a,y :: b,z :: c,h,h'=>by
  rw[HT.uz]at h h' ⊢
  by_cases e1:x=y
  ·rw[if_pos e1]at h
   by_cases e2:y=z
   ·rw[if_pos e2]at h'
    rw[if_pos (e1.trans e2)];exact ML h h'
   ·rw[if_neg e2]at h'
    rw[if_neg (fun q=>e2 (e1 ▸ q))]
    rw[e1];exact h'
  ·rw[if_neg e1]at h
   have h:=of_decide_eq_true h
   by_cases e2:y=z
   ·rw[if_neg (fun q=>e1 (q.trans e2.symm))]
    exact decide_eq_true (by omega)
   ·rw[if_neg e2]at h'
    have h':=of_decide_eq_true h'
    rw[if_neg (by omega)]
    exact decide_eq_true (by omega)
inductive NP(Q:VK)(x:V)(H1:Hp):Prop
 | mk (a:Addr) (kvs:List (Key × V)) (F:Nat->List Int) (e:x = .ref a) (ea:H1 a=some (.dK kvs)) (hn:0 < kvs.length) (hF:∀ i kv,kvs[i]? = some kv->∃ p,kv.2 = .ref p∧H1 p=some (.tup ((F i).map V.int)))
  (q:∀ i kv,kvs[i]? = some kv->(∀ j,j < kvs.length->HT.lexLt (F j) (F i)=false)->Q kv.2 H1):NP Q x H1
def YM(td:TE):TE:=fun Y H Q=>td Y H fun x H1=>NP Q x H1
inductive NQ(Q:VK)(x:V)(H1:Hp):Prop
 | mk (a:Addr) (kvs:List (Key × V)) (F:Nat->Int) (e:x = .ref a) (ea:H1 a=some (.dK kvs)) (hn:0 < kvs.length) (hF:∀ (i:Nat) (kv:Key × V),kvs[i]? = some kv->kv.2 = .int (F i))
  (q:∀ i,i < kvs.length->(∀ j,j < kvs.length->F i<=F j)->Q (.int (F i)) H1):NQ Q x H1
def YN(td:TE):TE:=fun Y H Q=>td Y H fun x H1=>NQ Q x H1
section
variable {X:Cx}{o:Expr}{td:TE}{np c9 cZ pos:Pos}
theorem MH{ah:List (Addr × Obj)}{Y:St}{H:Hp}{s:Shared}{Q:VK}(hc:X.calm=true)(hg:Gl X "min")(hm:X.mg "min" = none)(I:Inv X ah Y H s){R:V->Hp->Prop}(ho:wpAny (model X.prog X.w) X.A (eval o X.env) (EP X ah Y R) X.xe s)(pW:attributeBase o "values" X.env (eval o X.env)=eval o X.env)(pV:(c9.endLine == cZ.line)=true)(hR:∀ x H1 s1,R x H1->Inv X ah Y H1 s1->∃ a kvs,x = .ref a∧H1 a=some (.dK kvs)∧0 < kvs.length∧∀ vs,KV kvs vs->∃ bt C,Po X.prog X.w X.A.in1 C (fun i v=>∃ k,vs[i]? = some (k,v)) bt∧C s1.heap∧(∀ h h',C h->(∀ b o,b < s1.heap.objs.size->h.get? b=some o->h'.get? b=some o)->C h') ∧
   ∀ v k,vs[argBest bt (vs.length - 1)]? = some (k,v)->∃ y,RelV y v∧Q y H1) :
  wpAny (model X.prog X.w) X.A (eval (.Call (.Name "min" np) [.Call (.Attribute o "values" c9) [] [] cZ] [] pos) X.env) (EP X ah Y Q) X.xe s:=by
 refine wpAny_Call_Name_kw (pS I hg hm sQ ?_ (by decide) (by decide))
 refine qi ?_ rfl rfl
 rw[show starEach [.Call (.Attribute o "values" c9) [] [] cZ] X.env = [(false,eval (.Call (.Attribute o "values" c9) [] [] cZ) X.env)] from rfl]
 refine gi ?_
 refine wpAny_Call_method0_late pW pV (bB ho fun v s1 ⟨x,H1,I1,r1,q1⟩ =>?_)
 obtain⟨a,kvs,e,ea,hn,q⟩:=hR x H1 s1 q1 I1
 subst e
 obtain rfl:v=aH a:=r1
 obtain⟨z,hd,vs,cV,dd⟩:=Ij I1.bh ea
 obtain⟨ep,sM⟩:=dd.dictAt
 obtain⟨bt,C,C9,hC0,hC,q⟩:=q vs cV
 have hob:∀ b,aH a = .ref b->∃ o',s1.heap.get? b=some o'∧o'.dict=none:=fun b e=>by
  cases e
  obtain⟨o',es,h1,h2,_⟩:=sM
  exact⟨o',h1,h2.2.1⟩
 refine⟨"dict", "dict.values",gx,jI,vL,dd.typeIs,hob,eK rfl (qH ?_)⟩
 refine call_meetsIn jI dd.typeIs uG (tK _) (meets_dict_values (di X.prog X.w) a hd) ⟨⟨vs,dd⟩,?_⟩
 refine jr ?_
 have cW:a < s1.heap.objs.size:=by obtain⟨o',es,h1,_⟩:=sM;exact aP h1
 have kp:∀ b o',s1.heap.get? b=some o'->(s1.heap.push { cls := .type "dict_values",data := .fields #[.ref a] }).get? b=some o':=fun b o' e=>ay _ e
 refine RP ?_
 refine wpAny_pyIter_values (knd:=di X.prog X.w) (d:=a) (kvs:=vs) (ep:=ep) ⟨_,aT _ rfl,O,O⟩ (sM.at' fun o e=>kp _ _ e) ?_
 have jW:(s1.heap.push { cls := .type "dict_values",data := .fields #[.ref a] }).objs.size=s1.heap.objs.size+1:=fI ..
 have D5:∀ b o',s1.heap.get? b=some o'->((s1.heap.push { cls := .type "dict_values",data := .fields #[.ref a] }).push { cls := .type "dict_valueiterator",data := .fields #[.ref a,.int 0 0,.int vs.length 0,.int ep 0] }).get? b=some o':=fun b o' e=>ay _ (kp b o' e)
 refine⟨_,_, [(s1.heap.push { cls := .type "dict_values",data := .fields #[.ref a] }).objs.size],vs.length,_,_,bt,C,O,Walks.dictValues (knd:=di X.prog X.w) (A:=X.A.in1) (I.ok.hd hc) _ a (by rw[jW];exact br (kJ cW)) vs ep,⟨⟨_,aT _ rfl,O,O⟩,sM.at' fun o e=>D5 _ _ e⟩,fun b hb =>?_,by rw[<- cV.length];exact hn,C9,hC _ _ hC0 fun b o _ e=>D5 b o e,fun h h' hh hk=>hC h h' hh fun b o hb e =>?_,fun h o hh=>hC h _ hh fun b o' _ e=>ay _ e,fun v h' tk hP hk =>?_⟩
 ·have e3:=fI (s1.heap.push { cls := .type "dict_values",data := .fields #[.ref a] }) { cls := .type "dict_valueiterator",data := .fields #[.ref a,.int 0 0,.int vs.length 0,.int ep 0] }
  show b < (Heap.push _ _).objs.size
  rw[e3,jW]
  rcases aW.mp hb with rfl | hb
  ·rw[jW];exact vQ _
  ·rw[ax.mp hb];exact kJ (kJ cW)
 ·refine hk b o (fun z =>?_) ?_ e
  ·rw[ax.mp z,jW]at hb;omega
  ·intro z
   have e3:=fI (s1.heap.push { cls := .type "dict_values",data := .fields #[.ref a] }) { cls := .type "dict_valueiterator",data := .fields #[.ref a,.int 0 0,.int vs.length 0,.int ep 0] }
   have z:b=(Heap.push (s1.heap.push { cls := .type "dict_values",data := .fields #[.ref a] }) { cls := .type "dict_valueiterator",data := .fields #[.ref a,.int 0 0,.int vs.length 0,.int ep 0] }).objs.size:=z
   rw[e3,jW]at z
   omega
 ·obtain⟨k,hP⟩:=hP
  obtain⟨y,ry,qy⟩:=q v k hP
  refine⟨y,H1,?_,ry,qy⟩
  exact I1.kept fun b o' e=>hk b o' (fun z=>by
   have:=aP e
   rw[ax.mp z,jW]at this;exact absurd this (Nat.not_lt_of_le (rV _))) (D5 b o' e)
theorem Tq(hu:X.A.units+1 < cLine)(hc:X.calm=true)(hg:Gl X "min")(hm:X.mg "min" = none)(ho:PE X o td)(pW:attributeBase o "values" X.env (eval o X.env)=eval o X.env:=by rfl)(pV:(c9.endLine == cZ.line)=true:=by rfl) :
  PE X (.Call (.Name "min" np) [.Call (.Attribute o "values" c9) [] [] cZ] [] pos) (YM td):=by
 intro ah s Y H Q I h
 refine MH hc hg hm I (ho ah s Y H _ I h) pW pV fun x H1 s1 q1 I1 =>?_
 obtain⟨a,kvs,F,rfl,ea,hn,hF,q⟩:=q1
 refine⟨a,kvs,O,ea,hn,fun vs cV =>?_⟩
 have hl:=cV.length
 have at_:∀ (i:Nat) (k:Key) (v:Value),vs[i]? = some (k,v)->∃ p,v=aH p∧H1 p=some (.tup ((F i).map V.int))∧∃ kv,kvs[i]? = some kv∧kv.2 = .ref p:=fun i k v e=>by
  obtain⟨kv,cR,rv⟩:=cV.xC e
  obtain⟨p,ep,hp⟩:=hF i kv cR
  rw[ep]at rv
  exact⟨p,rv,hp,kv,cR,ep⟩
 refine⟨fun i j=>HT.lexLt (F i) (F j),fun h=>∀ i k v,vs[i]? = some (k,v)->∃ p its,v=aH p∧p < s1.heap.objs.size∧IsTup h p its.toArray∧IntsAre its (F i),?_,?_,?_,?_⟩
 ·rintro i j vi vj s' Q' E' hC ⟨ki,hi⟩ ⟨kj,hj⟩ hq
  obtain⟨p,its,rfl,_,p1,i1⟩:=hC i ki vi hi
  obtain⟨p',its',rfl,_,p2,i2⟩:=hC j kj vj hj
  exact HT.OB (A:=X.A.in1) p1 p2 i1 i2 hu hq
 ·intro i k v e
  obtain⟨p,ev,hp,_⟩:=at_ i k v e
  obtain⟨its,rv,pt,_⟩:=I1.tuple (bM.of hp)
  refine⟨p,its,ev,?_,pt,intsAre_of rv⟩
  obtain⟨o,e,_⟩:=pt
  exact aP e
 ·intro h h' hC hk i k v e
  obtain⟨p,its,ev,lt,⟨o,e1,e2⟩,ii⟩:=hC i k v e
  exact⟨p,its,ev,lt,⟨o,hk p o lt e1,e2⟩,ii⟩
 ·intro v k e
  obtain⟨p,ev,hp,kv,cR,ekv⟩:=at_ _ k v e
  obtain⟨h1,h2⟩:=F8 (bt:=fun i j=>HT.lexLt (F i) (F j)) (fun i=>JG (F i)) (fun i j k=>ML) (vs.length - 1)
  refine⟨kv.2,by rw[ekv,ev];rfl,q _ kv cR fun j hj=>h2 j (by omega)⟩
theorem Ts(hc:X.calm=true)(hg:Gl X "min")(hm:X.mg "min" = none)(ho:PE X o td)(pW:attributeBase o "values" X.env (eval o X.env)=eval o X.env:=by rfl)(pV:(c9.endLine == cZ.line)=true:=by rfl) :
  PE X (.Call (.Name "min" np) [.Call (.Attribute o "values" c9) [] [] cZ] [] pos) (YN td):=by
 intro ah s Y H Q I h
 refine MH hc hg hm I (ho ah s Y H _ I h) pW pV fun x H1 s1 q1 I1 =>?_
 obtain⟨a,kvs,F,rfl,ea,hn,hF,q⟩:=q1
 refine⟨a,kvs,O,ea,hn,fun vs cV =>?_⟩
 have hl:=cV.length
 have at_:∀ (i:Nat) (k:Key) (v:Value),vs[i]? = some (k,v)->∃ t,v=ni (F i) t:=fun i k v e=>by
  obtain⟨kv,cR,rv⟩:=cV.xC e
  rw[hF i kv cR]at rv
  exact rv
 refine⟨fun i j=>decide (F i < F j),fun _=>True,?_,trivial,fun _ _ _ _=>trivial,?_⟩
 ·rintro i j vi vj s' Q' E' _ ⟨ki,hi⟩ ⟨kj,hj⟩ hq
  obtain⟨t,rfl⟩:=at_ i ki vi hi
  obtain⟨t',rfl⟩:=at_ j kj vj hj
  exact HT.I8 _ _ _ _ _ _ _ _ _ _ hq
 ·intro v k e
  obtain⟨t,rfl⟩:=at_ _ k v e
  obtain⟨h1,h2⟩:=F8 (bt:=fun i j=>decide (F i < F j)) (fun i=>decide_eq_false (Int.lt_irrefl _)) (fun i j k a b=>decide_eq_true (Int.lt_trans (of_decide_eq_true a) (of_decide_eq_true b))) (vs.length - 1)
  refine⟨.int _,⟨t,O⟩,q _ (by omega) fun j hj =>?_⟩
  have:=of_decide_eq_false (h2 j (by omega))
  omega
end
theorem zc{K:ao}{a:Addr}{xs:List V}{te:TE}{Y:St}{caps:List (Str × Nat)}{H:Hp}{Q:VK}(ob:HO)(hS:a9 K H a xs)(hz:xs.length<=1000)(Ce:∀ x,x∈xs->∀ H',bJ H H'->∀ Q':VK,(∀ b gQ,H' b=none->bJ H' gQ->gQ b=some ob->Q' (.ref b) gQ)->te (some x :: jY Y caps) H' Q')(hq:∀ D H' (zK:List Addr),H D=none->bJ H H'->H' D=some (.lst (zK.map V.ref))->zK.length=xs.length->zK.Nodup->(∀ b∈zK,H b=none∧H' b=some ob∧b≠D)->Q (.ref D) H') :
  zr (LB K a) (bq 0) te (bR 1 none ++ jY Y caps) H Q:=by
 intro D hD
 refine⟨fun i m G zs H'=>m=xs.length - i∧i<=xs.length∧(∃ o, G = o :: jY Y caps)∧bJ H H'∧H' D=some (.lst zs)∧∃ zK:List Addr,zs=zK.map V.ref∧zK.length=i∧zK.Nodup∧∀ b∈zK,H b=none∧H' b=some ob∧b≠D,
  ⟨xs.length,by simp,bx _,⟨none,O⟩,bo hD _,aF, [],O,O,c6,fun b hb=>nomatch hb⟩,?_⟩
 rintro i m G zs H' ⟨rfl,hi,⟨o,rfl⟩,sm,xX,zK,rfl,eD,sF,iQ⟩
 refine⟨xX,?_⟩
 by_cases cW:i < xs.length
 ·refine .inr ⟨⟨xs,xs[i],sm.seq hS,by simp[cW]⟩,?_,fun x gQ y =>?_⟩
  ·rw[az,eD];exact cU (by omega)
  ·obtain⟨e,y⟩:=y
   subst e
   have hx:=y xs (sm.seq hS)
   show te (some x :: jY Y caps) _ _
   refine Ce x (ak hx) _ sm _ fun b H2 hb s2 Rb =>?_
   have xY:=s2 _ _ xX
   have nbD:b≠D:=fun z=>by rw[z,xX]at hb;cases hb
   have hbH:H b=none:=sm.free hb
   refine⟨xY,xs.length - (i+1),by omega,O,cW,⟨_,O⟩,(sm.trans s2).put hD,aF,zK ++ [b],by rw[dv];rfl,by rw[aG,eD];rfl,?_,fun c hc =>?_⟩
   ·rw[eR]
    refine⟨sF,bI.mpr ⟨cM,c6⟩,fun p hp q hq e =>?_⟩
    rw[e,ax.mp hq]at hp
    have:=(iQ b hp).2.1
    rw[hb]at this;cases this
   ·rcases au.mp hc with hc | hc
    ·obtain⟨h1,h2,h3⟩:=iQ c hc
     exact⟨h1,by rw[aE h3];exact s2 _ _ h2,h3⟩
    ·rw[ax.mp hc]
     exact⟨hbH,by rw[aE nbD];exact Rb,nbD⟩
 ·have e:i=xs.length:=by omega
  subst e
  exact .inl ⟨⟨xs,sm.seq hS,ar _⟩,hq D H' zK hD sm xX eD sF iQ⟩
end L2
namespace Sw
open PySem L2
abbrev bY:=Nat × Nat × Nat
def sumTo(f:Nat->Nat):Nat->Nat
 | 0=>0
 | n+1=>sumTo f n+f n
theorem uY{f g:Nat->Nat}:∀ {n:Nat},(∀ k,k < n->f k<=g k)->sumTo f n<=sumTo g n
 | 0,_=>ar _
 | n+1,h=>by
  have h1:=uY (n:=n) fun k hk=>h k (by omega)
  have h2:=h n (by omega)
  show sumTo f n+f n<=sumTo g n+g n
  omega
theorem LQ{f g:Nat->Nat}{n:Nat}(h:∀ k,k < n->f k=g k):sumTo f n=sumTo g n :=
 E3 (uY fun k hk=>nz (h k hk)) (uY fun k hk=>nz (h k hk).symm)
inductive fS(ts:List Tm)(es:List bY):Nat->Nat->Nat->Prop
 | refl (a:Nat):fS ts es a a 0
 | dH {a b w:Nat}:(a,b,w)∈es->fS ts es a b w
 | symm {a b n:Nat}:fS ts es a b n->fS ts es b a n
 | trans {a b c n m:Nat}:fS ts es a b n->fS ts es b c m->fS ts es a c (n+m)
 | gy {a b:Nat}{x:Str}{as bs:List Nat} (f:Nat->Nat):ts[a]? = some (.of x as)->ts[b]? = some (.of x bs)->as.length=bs.length->(∀ k u v:Nat,as[k]? = some u->bs[k]? = some v->fS ts es u v (f k))->fS ts es a b (1+sumTo f as.length)
abbrev Mx:=Nat->Nat->Option Nat
def Lt(M:Mx)(a b m:Nat):Prop := ∃ k,M a b=some k∧k<=m
theorem Lt.le{M:Mx}{a b m m':Nat}(h:Lt M a b m)(hm:m<=m'):Lt M a b m':=by
 obtain⟨k,e,hk⟩:=h
 exact⟨k,e,bf hk hm⟩
structure Pk(ts:List Tm)(es:List bY)(n:Nat)(M:Mx):Prop where
 diag:∀ a,a < n->M a a=some 0
 symm:∀ a b,M a b=M b a
 dH:∀ a b w,(a,b,w)∈es->Lt M a b w
 tri:∀ a b c k m,M a b=some k->M b c=some m->Lt M a c (k+m)
 gy:∀ a b x as bs (f:Nat->Nat),ts[a]? = some (.of x as)->ts[b]? = some (.of x bs)->as.length=bs.length->(∀ k u v:Nat,as[k]? = some u->bs[k]? = some v->Lt M u v (f k))->Lt M a b (1+sumTo f as.length)
theorem KO{ts:List Tm}{es:List bY}{M:Mx}(g:Pk ts es ts.length M)(he:∀ a b w,(a,b,w)∈es->a < ts.length∧b < ts.length)(nc:rJ ts){a b n:Nat}(h:fS ts es a b n):(a=b∧ts.length<=a)∨Lt M a b n:=by
 induction h with
 | refl a =>
  by_cases ha:a < ts.length
  ·exact .inr ⟨0,g.diag a ha,ar _⟩
  ·exact .inl ⟨O,by omega⟩
 | dH h=>exact .inr (g.dH _ _ _ h)
 | symm _ ih =>
  rcases ih with⟨rfl,hh⟩ | ⟨k,e,hk⟩
  ·exact .inl ⟨O,hh⟩
  ·exact .inr ⟨k,by rw[g.symm];exact e,hk⟩
 | @trans a b c n m h1 h2 JO GV =>
  rcases JO with⟨rfl,h⟩ | ⟨k,e,hk⟩
  ·rcases GV with⟨rfl,_⟩ | ⟨k,e,hk⟩
   ·exact .inl ⟨O,h⟩
   ·exact .inr ⟨k,e,by omega⟩
  ·rcases GV with⟨rfl,h⟩ | ⟨k2,e2,V2⟩
   ·exact .inr ⟨k,e,by omega⟩
   ·obtain⟨k3,e3,hk3⟩:=g.tri _ _ _ _ _ e e2
    exact .inr ⟨k3,e3,by omega⟩
 | @gy a b x as bs f h1 h2 hl hk ih =>
  refine .inr (g.gy a b x as bs f h1 h2 hl fun k u v hu hv =>?_)
  rcases ih k u v hu hv with⟨rfl,h⟩ | h
  ·have:=nc a x as h1 u (ak hu)
   have:=(ai.mp h1).1
   omega
  ·exact h
def aL(ts:List Tm)(es:List bY)(a b:Nat):Option Nat :=
 @dite _ (∃ n,fS ts es a b n∧∀ m,fS ts es a b m->n<=m) (iL _) (fun h=>some (Classical.choose h)) fun _=>none
theorem Ua{p:Nat->Prop}:(∃ n,p n)->∃ n,p n∧∀ m,p m->n<=m:=fun ⟨n,h⟩=>by
 induction n using wR with
 | ind n ih =>
  by_cases hx:∃ m,m < n∧p m
  ·obtain⟨m,hm,hp⟩:=hx
   exact ih m hm hp
  ·exact⟨n,h,fun m hp=>oP fun z=>hx ⟨m,z,hp⟩⟩
theorem wF{ts:List Tm}{es:List bY}{a b n:Nat}(h:fS ts es a b n)(hm:∀ m,fS ts es a b m->n<=m):aL ts es a b=some n:=by
 have ex:∃ n,fS ts es a b n∧∀ m,fS ts es a b m->n<=m:=⟨n,h,hm⟩
 unfold aL
 rw[dif_pos ex]
 have:=yn ex
 congr 1
 exact E3 (this.2 n h) (hm _ this.1)
theorem dM{ts:List Tm}{es:List bY}{a b n:Nat}(h:aL ts es a b=some n):fS ts es a b n∧∀ m,fS ts es a b m->n<=m:=by
 unfold aL at h
 split at h
 ·rename_i ex
  have:=yn ex
  rw[aD h]at this
  exact this
 ·cases h
theorem pA{ts:List Tm}{es:List bY}{a b:Nat}(h:aL ts es a b=none){n:Nat}(d:fS ts es a b n):False:=by
 obtain⟨k,h1,h2⟩:=Ua ⟨n,d⟩
 rw[wF h1 h2]at h
 cases h
theorem Ro{ts:List Tm}{es:List bY}{M:Mx}(g:Pk ts es ts.length M)(he:∀ a b w,(a,b,w)∈es->a < ts.length∧b < ts.length)(nc:rJ ts)(sound:∀ a b n,M a b=some n->fS ts es a b n){a b:Nat}(ha:a < ts.length):M a b=aL ts es a b:=by
 cases e:M a b with
 | some n =>
  symm
  refine wF (sound a b n e) fun m hm =>?_
  rcases KO g he nc hm with⟨rfl,h⟩ | ⟨k,ek,hk⟩
  ·omega
  ·rw[e]at ek;cases ek;exact hk
 | none =>
  symm
  cases e2:aL ts es a b with
  | none=>rfl
  | some n =>
   rcases KO g he nc (dM e2).1 with⟨rfl,h⟩ | ⟨k,ek,hk⟩
   ·omega
   ·rw[e]at ek;cases ek
theorem X7{ts:List Tm}{es:List bY}{a b n:Nat}(d:fS ts es a b n):Eqv ts (es.map fun e=>(e.1,e.2.1)) a b:=by
 induction d with
 | refl a=>exact .refl a
 | dH m=>exact .dH (bj.mpr ⟨_,m,O⟩)
 | symm _ ih=>exact .symm ih
 | trans _ _ i1 i2=>exact .trans i1 i2
 | gy f h1 h2 hl _ ih=>exact .La h1 h2 hl ih
structure DE where
 a:Nat
 b:Nat
 k:Nat
 f:Bool
def DE.Pr(x:DE)(p q:Nat):Prop:=(x.a=p∧x.b=q)∨(x.a=q∧x.b=p)
theorem DE.Pr.symm{x:DE}{p q:Nat}(h:x.Pr p q):x.Pr q p:=h.elim .inr .inl
structure SS where
 L:Mx
 W:Mx
 Hd:Nat->Option (Nat × Nat)
 Sg:Mx
 St:Nat->List (Nat × Nat)
 dn:List DE
def SS.Dn(s:SS)(p q k:Nat):Prop := ∃ x∈s.dn,x.Pr p q∧x.k=k
def SS.A9(s:SS)(a b k:Nat):Prop := ∃ q k1 k2,k=k1+k2∧1<=k1∧1<=k2∧s.Dn a q k1∧s.Dn q b k2
structure SI(ts:List Tm)(es:List bY)(n:Nat)(s:SS):Prop where
 sym:∀ a b,s.L a b=s.L b a
 diag:∀ a,a < n->s.L a a=some 0
 zH:∀ a b k,s.L a b=some k->a < n∧b < n
 pos:∀ a b k,a≠b->s.L a b=some k->1<=k
 wl:∀ a b k,s.W a b=some k->a < b∧s.L a b=some k
 mE:∀ a b k,a < b->s.L a b=some k->s.W a b=some k∨∃ x∈s.dn,x.a=a∧x.b=b∧x.k=k
 dl:∀ x∈s.dn,x.a < x.b∧s.L x.a x.b=some x.k∧s.W x.a x.b=none
 mono:∀ x∈s.dn,∀ c d m,s.W c d=some m->x.k<=m
 ord:s.dn.Pairwise fun x y=>x.k<=y.k
 st:∀ b c k,(c,k)∈s.St b↔∃ x∈s.dn,x.Pr b c∧x.k=k∧x.f=true
 two:∀ a b k,s.W a b=some k->s.Sg a b=some k∨s.A9 a b k
 SU:∀ x∈s.dn,x.f=true∨s.A9 x.a x.b x.k
 sound:∀ a b k,s.L a b=some k->fS ts es a b k
structure oV(s:SS):Prop where
 hn:∀ a,s.Hd a=none->∀ b,s.W a b=none
 hs:∀ a k b,s.Hd a=some (k,b)->s.W a b=some k∧∀ c m,s.W a c=some m->k<=m
def Bf(L L':Mx):Prop := ∀ a b k,L a b=some k->Lt L' a b k
theorem Bf.refl(L:Mx):Bf L L:=fun a b k e=>⟨k,e,ar _⟩
theorem Bf.trans{L1 L2 L3:Mx}(h:Bf L1 L2)(h':Bf L2 L3):Bf L1 L3:=fun a b k e=>by
 obtain⟨m,e1,h1⟩:=h a b k e
 obtain⟨m2,e2,h2⟩:=h' a b m e1
 exact⟨m2,e2,by omega⟩
theorem Lt.mono{L L':Mx}{a b k:Nat}(h:Lt L a b k)(le:Bf L L'):Lt L' a b k:=by
 obtain⟨m,e,hm⟩:=h
 exact(le a b m e).le hm
theorem SI.Co{ts:List Tm}{es:List bY}{n:Nat}{s:SS}(h:SI ts es n s){p q k:Nat}(d:s.Dn p q k):s.L p q=some k∧p≠q:=by
 obtain⟨x,hx,hp,rfl⟩:=d
 obtain⟨h1,h2,_⟩:=h.dl x hx
 rcases hp with⟨rfl,rfl⟩ | ⟨rfl,rfl⟩
 ·exact⟨h2,by omega⟩
 ·exact⟨by rw[h.sym];exact h2,by omega⟩
def dF(M:Mx)(a b k:Nat):Mx:=fun x y=>if x=a∧y=b then some k else M x y
theorem xF{M:Mx}{a b k:Nat}:dF M a b k a b=some k:=if_pos ⟨O,O⟩
theorem i5{M:Mx}{a b k x y:Nat}(h:¬ (x=a∧y=b)):dF M a b k x y=M x y:=if_neg h
def m8:Option (Nat × Nat)->Nat->Bool
 | none,_=>true
 | some p,k=>decide (k < p.1)
theorem vw{o:Option (Nat × Nat)}{k:Nat}:m8 o k=true↔∀ m h,o=some (m,h)->k < m:=by
 cases o with
 | none=>exact⟨fun _ m h e=>(by cases e),fun _=>rfl⟩
 | some p =>
  obtain⟨m,h⟩:=p
  show decide (k < m)=true↔_
  rw[decide_eq_true_iff]
  exact⟨fun z m' h' e=>by cases e;exact z,fun z=>z m h rfl⟩
def l9(s:SS)(a b k:Nat)(sg:Bool):SS :=
 { s with
   L:=dF (dF s.L a b k) b a k
   W:=dF s.W (min a b) (max a b) k
   Hd:=fun x=>if x=min a b∧m8 (s.Hd (min a b)) k=true then some (k,max a b) else s.Hd x
   Sg:=if sg then dF s.Sg (min a b) (max a b) k else s.Sg }
theorem FP(s:SS)(a b k:Nat)(sg:Bool)(x y:Nat):(l9 s a b k sg).L x y=if (x=a∧y=b)∨(x=b∧y=a) then some k else s.L x y:=by
 show dF (dF s.L a b k) b a k x y=_
 unfold dF
 by_cases h1:x=b∧y=a
 ·rw[if_pos h1,if_pos (.inr h1)]
 ·rw[if_neg h1]
  by_cases h2:x=a∧y=b
  ·rw[if_pos h2,if_pos (.inl h2)]
  ·rw[if_neg h2,if_neg (fun z=>z.elim h2 h1)]
structure Yk(ts:List Tm)(es:List bY)(n:Nat)(s:SS)(a b k:Nat)(sg:Bool):Prop where
 ne:a≠b
 la:a < n
 lb:b < n
 less:∀ m,s.L a b=some m->k < m
 top:∀ x∈s.dn,x.k<=k
 pos:1<=k
 EE:fS ts es a b k
 Tf:sg=true∨s.A9 (min a b) (max a b) k
theorem TQ{ts:List Tm}{es:List bY}{n:Nat}{s:SS}{a b k:Nat}{sg:Bool}(h:SI ts es n s)(hh:oV s)(o:Yk ts es n s a b k sg):SI ts es n (l9 s a b k sg)∧oV (l9 s a b k sg)∧Bf s.L (l9 s a b k sg).L:=by
 have hmm:min a b < max a b:=by have:=o.ne;omega
 have hL:∀ x y,(l9 s a b k sg).L x y=if (x=a∧y=b)∨(x=b∧y=a) then some k else s.L x y:=FP s a b k sg
 have tD:∀ {x y:Nat},x < y->(((x=a∧y=b)∨(x=b∧y=a))↔(x=min a b∧y=max a b)):=fun {x y} MO=>by
  constructor
  ·intro z;rcases z with⟨rfl,rfl⟩ | ⟨rfl,rfl⟩ <;> omega
  ·intro ⟨z1,z2⟩
   rcases gI a b with q | q
   ·exact .inl (by omega)
   ·exact .inr (by omega)
 have i6:∀ x∈s.dn, ¬ (x.a=min a b∧x.b=max a b):=fun x hx ⟨e1,e2⟩=>by
  obtain⟨h1,h2,_⟩:=h.dl x hx
  have hk:=o.top x hx
  have h3:s.L a b=some x.k:=by
   rcases gI a b with q | q
   ·rw[e1,e2,show min a b=a by omega,show max a b=b by omega]at h2;exact h2
   ·rw[e1,e2,show min a b=b by omega,show max a b=a by omega,h.sym]at h2;exact h2
  have:=o.less _ h3
  omega
 refine⟨⟨?_,?_,?_,?_,?_,?_,?_,?_,h.ord,h.st,?_,h.SU,?_⟩,⟨?_,?_⟩,?_⟩
 ·intro x y
  rw[hL,hL]
  by_cases e:(x=a∧y=b)∨(x=b∧y=a)
  ·rw[if_pos e,if_pos (e.elim (fun z => .inr ⟨z.2,z.1⟩) fun z => .inl ⟨z.2,z.1⟩)]
  ·rw[if_neg e,if_neg (fun z=>e (z.elim (fun z => .inr ⟨z.2,z.1⟩) fun z => .inl ⟨z.2,z.1⟩)),h.sym]
 ·intro x hx
  rw[hL,if_neg (fun z=>by rcases z with⟨rfl,e⟩ | ⟨rfl,e⟩;exact o.ne e;exact o.ne e.symm)]
  exact h.diag x hx
 ·intro x y m e
  rw[hL]at e
  split at e
  ·rename_i c
   rcases c with⟨rfl,rfl⟩ | ⟨rfl,rfl⟩
   ·exact⟨o.la,o.lb⟩
   ·exact⟨o.lb,o.la⟩
  ·exact h.zH x y m e
 ·intro x y m gw e
  rw[hL]at e
  split at e
  ·cases e;exact o.pos
  ·exact h.pos x y m gw e
 ·intro x y m e
  have e:dF s.W (min a b) (max a b) k x y=some m:=e
  unfold dF at e
  split at e
  ·rename_i c
   cases e
   refine⟨by omega,?_⟩
   rw[hL,if_pos ((tD (by omega)).mpr c)]
  ·rename_i c
   obtain⟨h1,h2⟩:=h.wl x y m e
   refine⟨h1,?_⟩
   rw[hL,if_neg (fun z=>c ((tD h1).mp z))]
   exact h2
 ·intro x y m MO e
  rw[hL]at e
  show dF s.W (min a b) (max a b) k x y=some m∨_
  split at e
  ·rename_i c
   have c:=(tD MO).mp c
   unfold dF
   rw[if_pos c]
   exact .inl e
  ·rename_i c
   rw[i5 (fun z=>c ((tD MO).mpr z))]
   exact h.mE x y m MO e
 ·intro x hx
  obtain⟨h1,h2,h3⟩:=h.dl x hx
  have c:=i6 x hx
  refine⟨h1,?_,?_⟩
  ·rw[hL,if_neg (fun z=>c ((tD h1).mp z))];exact h2
  ·show dF s.W (min a b) (max a b) k x.a x.b=none
   rw[i5 c];exact h3
 ·intro x hx c d m e
  have e:dF s.W (min a b) (max a b) k c d=some m:=e
  unfold dF at e
  split at e
  ·cases e;exact o.top x hx
  ·exact h.mono x hx c d m e
 ·intro x y m e
  have e:dF s.W (min a b) (max a b) k x y=some m:=e
  show (if sg then dF s.Sg (min a b) (max a b) k else s.Sg) x y=some m∨s.A9 x y m
  unfold dF at e
  split at e
  ·rename_i c
   cases e
   obtain⟨rfl,rfl⟩:=c
   rcases o.Tf with e | e
   ·rw[e,if_pos rfl,xF];exact .inl rfl
   ·exact .inr e
  ·rename_i c
   have q:=h.two x y m e
   cases sg with
   | false=>exact q
   | true=>rw[if_pos rfl,i5 c];exact q
 ·intro x y m e
  rw[hL]at e
  split at e
  ·rename_i c
   cases e
   rcases c with⟨rfl,rfl⟩ | ⟨rfl,rfl⟩
   ·exact o.EE
   ·exact .symm o.EE
  ·exact h.sound x y m e
 ·intro x e y
  have e:(if x=min a b∧m8 (s.Hd (min a b)) k=true then some (k,max a b) else s.Hd x)=none:=e
  split at e
  ·cases e
  ·rename_i c
   have hw:=hh.hn x e
   show dF s.W (min a b) (max a b) k x y=none
   by_cases ex:x=min a b∧y=max a b
   ·exact absurd ⟨ex.1,vw.mpr fun m h z=>by rw[<- ex.1,e]at z;cases z⟩ c
   ·rw[i5 ex];exact hw y
 ·intro x m y e
  have e:(if x=min a b∧m8 (s.Hd (min a b)) k=true then some (k,max a b) else s.Hd x)=some (m,y):=e
  split at e
  ·rename_i c
   cases e
   obtain⟨rfl,hc⟩:=c
   refine⟨xF,fun d m e =>?_⟩
   have e:dF s.W (min a b) (max a b) k (min a b) d=some m:=e
   unfold dF at e
   split at e
   ·cases e;exact ar _
   ·cases hd:s.Hd (min a b) with
    | none=>rw[hh.hn _ hd d]at e;cases e
    | some p =>
     obtain⟨m',h'⟩:=p
     have:=vw.mp hc m' h' hd
     have:=(hh.hs _ _ _ hd).2 d m e
     omega
  ·rename_i c
   obtain⟨h1,h2⟩:=hh.hs x m y e
   by_cases ex:x=min a b
   ·have nl:¬ k < m:=fun z=>c ⟨ex,vw.mpr fun m' h' e'=>by rw[<- ex,e]at e';cases e';exact z⟩
    have ny:y≠max a b:=fun ey=>by
     rw[ex,ey]at h1
     have:=(h.wl _ _ _ h1).2
     have:s.L a b=some m:=by
      rcases gI a b with q | q
      ·rw[show min a b=a by omega,show max a b=b by omega]at this;exact this
      ·rw[show min a b=b by omega,show max a b=a by omega,h.sym]at this;exact this
     exact nl (o.less m this)
    refine⟨?_,fun d m' e' =>?_⟩
    ·show dF s.W (min a b) (max a b) k x y=some m
     rw[i5 (fun z=>ny z.2)];exact h1
    ·have e':dF s.W (min a b) (max a b) k x d=some m':=e'
     unfold dF at e'
     split at e'
     ·cases e';omega
     ·exact h2 d m' e'
   ·refine⟨?_,fun d m' e' =>?_⟩
    ·show dF s.W (min a b) (max a b) k x y=some m
     rw[i5 (fun z=>ex z.1)];exact h1
    ·have e':dF s.W (min a b) (max a b) k x d=some m':=e'
     rw[i5 (fun z=>ex z.1)]at e'
     exact h2 d m' e'
 ·intro x y m e
  rw[show Lt (l9 s a b k sg).L x y m=∃ j,(l9 s a b k sg).L x y=some j∧j<=m from rfl,hL]
  split
  ·rename_i c
   refine⟨k,O,?_⟩
   have:s.L a b=some m:=by
    rcases c with⟨rfl,rfl⟩ | ⟨rfl,rfl⟩
    ·exact e
    ·rw[h.sym];exact e
   exact jM (o.less m this)
  ·exact⟨m,e,ar _⟩
structure BL(w:Nat->Option Nat)(hd:Option (Nat × Nat)):Prop where
 hn:hd=none->∀ y,w y=none
 hs:∀ k y,hd=some (k,y)->w y=some k∧∀ c m,w c=some m->k<=m
def hU(M:Mx)(a b:Nat):Mx:=fun x y=>if x=a∧y=b then none else M x y
theorem y0{M:Mx}{a b x y k:Nat}(h:hU M a b x y=some k):¬ (x=a∧y=b)∧M x y=some k:=by
 unfold hU at h
 split at h
 ·cases h
 ·rename_i c;exact⟨c,h⟩
def pP(s:SS)(a b k:Nat)(f:Bool)(hd:Option (Nat × Nat)):SS :=
 { s with
   W:=hU s.W a b
   Hd:=fun x=>if x=a then hd else s.Hd x
   dn:=s.dn ++ [⟨a,b,k,f⟩]
   St:=fun x=>if f=true then (if x=a then s.St a ++ [(b,k)] else if x=b then s.St b ++ [(a,k)] else s.St x) else s.St x }
theorem SS.A9.more{s s':SS}{a b k:Nat}(h:s.A9 a b k)(hd:∀ x∈s.dn,x∈s'.dn):s'.A9 a b k:=by
 obtain⟨q,k1,k2,e,h1,h2,⟨x,hx,px⟩,y,hy,py⟩:=h
 exact⟨q,k1,k2,e,h1,h2,⟨x,hd x hx,px⟩,y,hd y hy,py⟩
theorem Qp{ts:List Tm}{es:List bY}{n:Nat}{s:SS}{a b k:Nat}{f:Bool}{hd:Option (Nat × Nat)}(h:SI ts es n s)(hh:oV s)(hw:s.W a b=some k)(least:∀ c d m,s.W c d=some m->k<=m)(hf:s.Sg a b=some k->f=true)(rh:BL (fun y=>hU s.W a b a y) hd):SI ts es n (pP s a b k f hd)∧oV (pP s a b k f hd):=by
 obtain⟨ia,hL⟩:=h.wl a b k hw
 have sub:∀ x∈s.dn,x∈(pP s a b k f hd).dn:=fun x hx=>au.mpr (.inl hx)
 have i6:∀ x∈s.dn, ¬ (x.a=a∧x.b=b):=fun x hx ⟨e1,e2⟩=>by
  have:=(h.dl x hx).2.2
  rw[e1,e2,hw]at this
  cases this
 refine⟨⟨h.sym,h.diag,h.zH,h.pos,?_,?_,?_,?_,?_,?_,?_,?_,h.sound⟩,⟨?_,?_⟩⟩
 ·intro x y m e
  exact h.wl x y m (y0 e).2
 ·intro x y m MO e
  rcases h.mE x y m MO e with hq | ⟨z,hz,q⟩
  ·by_cases c:x=a∧y=b
   ·obtain⟨rfl,rfl⟩:=c
    rw[hw]at hq
    cases hq
    exact .inr ⟨_,au.mpr (.inr (bg _)),O,O,O⟩
   ·refine .inl ?_
    show hU s.W a b x y=some m
    unfold hU
    rw[if_neg c];exact hq
  ·exact .inr ⟨z,sub z hz,q⟩
 ·intro x hx
  rcases au.mp hx with hx | hx
  ·obtain⟨h1,h2,h3⟩:=h.dl x hx
   refine⟨h1,h2,?_⟩
   show hU s.W a b x.a x.b=none
   unfold hU
   split
   ·rfl
   ·exact h3
  ·rw[ax.mp hx]
   refine⟨ia,hL,?_⟩
   show hU s.W a b a b=none
   unfold hU
   rw[if_pos ⟨O,O⟩]
 ·intro x hx c d m e
  have e:=(y0 e).2
  rcases au.mp hx with hx | hx
  ·exact h.mono x hx c d m e
  ·rw[ax.mp hx];exact least c d m e
 ·show (s.dn ++ [_]).Pairwise _
  rw[zh]
  exact⟨h.ord,nZ _ _,fun x hx y hy=>by rw[ax.mp hy];exact h.mono x hx a b k hw⟩
 ·intro p c m
  show (c,m)∈(if f=true then (if p=a then s.St a ++ [(b,k)] else if p=b then s.St b ++ [(a,k)] else s.St p) else s.St p)↔∃ x∈s.dn ++ [⟨a,b,k,f⟩],x.Pr p c∧x.k=m∧x.f=true
  have old:(c,m)∈s.St p↔∃ x∈s.dn,x.Pr p c∧x.k=m∧x.f=true:=h.st p c m
  have cut:(∃ x∈s.dn ++ [⟨a,b,k,f⟩],x.Pr p c∧x.k=m∧x.f=true)↔(∃ x∈s.dn,x.Pr p c∧x.k=m∧x.f=true)∨(((a=p∧b=c)∨(a=c∧b=p))∧k=m∧f=true):=by
   constructor
   ·rintro⟨x,hx,q⟩
    rcases au.mp hx with hx | hx
    ·exact .inl ⟨x,hx,q⟩
    ·rw[ax.mp hx]at q;exact .inr q
   ·rintro(⟨x,hx,q⟩ | q)
    ·exact⟨x,au.mpr (.inl hx),q⟩
    ·exact⟨_,au.mpr (.inr (bg _)),q⟩
  rw[cut, <- old]
  by_cases ef:f=true
  ·rw[if_pos ef]
   by_cases e1:p=a
   ·subst e1
    rw[if_pos rfl,au,ax]
    constructor
    ·rintro(q | q)
     ·exact .inl q
     ·cases q;exact .inr ⟨.inl ⟨O,O⟩,O,ef⟩
    ·rintro(q | ⟨q,rfl,_⟩)
     ·exact .inl q
     ·rcases q with⟨_,rfl⟩ | ⟨rfl,q⟩
      ·exact .inr rfl
      ·omega
   ·rw[if_neg e1]
    by_cases e2:p=b
    ·subst e2
     rw[if_pos rfl,au,ax]
     constructor
     ·rintro(q | q)
      ·exact .inl q
      ·cases q;exact .inr ⟨.inr ⟨O,O⟩,O,ef⟩
     ·rintro(q | ⟨q,rfl,_⟩)
      ·exact .inl q
      ·rcases q with⟨q,_⟩ | ⟨rfl,_⟩
       ·exact absurd q.symm e1
       ·exact .inr rfl
    ·rw[if_neg e2]
     exact⟨.inl,fun q=>q.elim id fun ⟨q,_⟩=>by rcases q with⟨q,_⟩ | ⟨_,q⟩;exact absurd q.symm e1;exact absurd q.symm e2⟩
  ·rw[if_neg ef]
   exact⟨.inl,fun q=>q.elim id fun ⟨_,_,q⟩=>absurd q ef⟩
 ·intro x y m e
  rcases h.two x y m (y0 e).2 with q | q
  ·exact .inl q
  ·exact .inr (q.more sub)
 ·intro x hx
  rcases au.mp hx with hx | hx
  ·exact(h.SU x hx).elim .inl fun q => .inr (q.more sub)
  ·rw[ax.mp hx]
   rcases h.two a b k hw with q | q
   ·exact .inl (hf q)
   ·exact .inr (q.more sub)
 ·intro x e y
  show hU s.W a b x y=none
  have e:(if x=a then hd else s.Hd x)=none:=e
  split at e
  ·rename_i c;rw[c];exact rh.hn e y
  ·rename_i c
   unfold hU
   rw[if_neg (fun z=>c z.1)]
   exact hh.hn x e y
 ·intro x m y e
  have e:(if x=a then hd else s.Hd x)=some (m,y):=e
  show hU s.W a b x y=some m∧∀ c m',hU s.W a b x c=some m'->m<=m'
  split at e
  ·rename_i c;rw[c];exact rh.hs m y e
  ·rename_i c
   have q:∀ y,hU s.W a b x y=s.W x y:=fun y=>by unfold hU;rw[if_neg (fun z=>c z.1)]
   obtain⟨h1,h2⟩:=hh.hs x m y e
   exact⟨by rw[q];exact h1,fun c m' e'=>h2 c m' (by rw[<- q];exact e')⟩
def less(L:Mx)(a b k:Nat):Bool:=match L a b with
 | none=>true
 | some m=>decide (k < m)
theorem T8{L:Mx}{a b k:Nat}:less L a b k=true↔∀ m,L a b=some m->k < m:=by
 unfold less
 split
 ·rename_i e;exact⟨fun _ m z=>(by rw[e]at z;cases z),fun _=>rfl⟩
 ·rename_i m e
  rw[decide_eq_true_iff]
  exact⟨fun z m' e'=>by rw[e]at e';cases e';exact z,fun z=>z m e⟩
theorem T7{L:Mx}{a b k:Nat}(h:less L a b k=false):Lt L a b k:=by
 unfold less at h
 split at h
 ·cases h
 ·rename_i m e
  exact⟨m,e,oP (of_decide_eq_false h)⟩
structure kC(ts:List Tm)(es:List bY)(n:Nat)(s s':SS):Prop where
 si:SI ts es n s'
 hd:oV s'
 le:Bf s.L s'.L
 dn:s'.dn=s.dn
 st:s'.St=s.St
theorem kC.refl{ts:List Tm}{es:List bY}{n:Nat}{s:SS}(h:SI ts es n s)(hh:oV s):kC ts es n s s:=⟨h,hh,Bf.refl _,O,O⟩
theorem kC.trans{ts:List Tm}{es:List bY}{n:Nat}{s s1 s2:SS}(h:kC ts es n s s1)(h':kC ts es n s1 s2):kC ts es n s s2:=⟨h'.si,h'.hd,h.le.trans h'.le,h'.dn.trans h.dn,h'.st.trans h.st⟩
def je(s:SS)(a b k:Nat)(sg:Bool):SS:=if less s.L a b k=true then l9 s a b k sg else s
theorem DD{ts:List Tm}{es:List bY}{n:Nat}{s:SS}{a b k:Nat}{sg:Bool}(h:SI ts es n s)(hh:oV s)(la:a < n)(lb:b < n)(top:∀ x∈s.dn,x.k<=k)(pos:1<=k)(EE:fS ts es a b k)(Tf:a≠b->sg=true∨s.A9 (min a b) (max a b) k) :
  kC ts es n s (je s a b k sg)∧Lt (je s a b k sg).L a b k:=by
 unfold je
 cases e:less s.L a b k with
 | false=>rw[if_neg (by decide)];exact⟨kC.refl h hh,T7 e⟩
 | true =>
  rw[if_pos rfl]
  have hl:=T8.mp e
  have ne:a≠b:=fun z=>by subst z;have:=hl 0 (h.diag a la);omega
  obtain⟨h1,h2,h3⟩:=TQ h hh ⟨ne,la,lb,hl,top,pos,EE,Tf ne⟩
  exact⟨⟨h1,h2,h3,O,O⟩,k,by rw[FP,if_pos (.inl ⟨O,O⟩)],ar _⟩
theorem SR{s:SS}{a b k:Nat}(h:s.A9 a b k):s.A9 (min a b) (max a b) k:=by
 rcases i4 a b with q | q
 ·rw[ik q,jL q];exact h
 ·rw[gS q,ke q]
  obtain⟨c,k1,k2,e,h1,h2,⟨x,hx,px,ex⟩,y,hy,py,ey⟩:=h
  exact⟨c,k2,k1,by omega,h2,h1,⟨y,hy,py.symm,ey⟩,x,hx,px.symm,ex⟩
def gZ(a k:Nat)(s:SS)(l:List (Nat × Nat)):SS:=l.foldl (fun s e=>je s a e.1 (k+e.2) false) s
theorem AI{ts:List Tm}{es:List bY}{n:Nat}{a b k:Nat}:∀ {l:List (Nat × Nat)}{s:SS},SI ts es n s->oV s->s.Dn a b k->(∀ x∈s.dn,x.k<=k)->(∀ e∈l,e∈s.St b) ->
  kC ts es n s (gZ a k s l)∧∀ e∈l,Lt (gZ a k s l).L a e.1 (k+e.2)
 | [],s,h,hh,_,_,_=>⟨kC.refl h hh,fun e he=>nomatch he⟩
 | (c,m) :: l,s,h,hh,d,top,sub=>by
  obtain⟨x,hx,px,ex,_⟩:=(h.st b c m).mp (sub _ bb)
  have d2:s.Dn b c m:=⟨x,hx,px,ex⟩
  obtain⟨l1,n1⟩:=h.Co d
  obtain⟨l2,n2⟩:=h.Co d2
  have p1:=h.pos _ _ _ n1 l1
  have p2:=h.pos _ _ _ n2 l2
  obtain⟨kp,lt⟩:=DD (sg:=false) h hh (h.zH _ _ _ l1).1 (h.zH _ _ _ l2).2 (fun y hy=>bf (top y hy) (jN k m)) (by omega) (.trans (h.sound _ _ _ l1) (h.sound _ _ _ l2)) (fun _ => .inr (SR ⟨b,k,m,O,p1,p2,d,d2⟩))
  have d':(je s a c (k+m) false).Dn a b k:=by unfold SS.Dn;rw[kp.dn];exact d
  obtain⟨D5,AF⟩:=AI (l:=l) kp.si kp.hd d' (by rw[kp.dn];exact top) (by rw[kp.st];exact fun e he=>sub e (aR _ he))
  refine⟨kp.trans D5,fun e he =>?_⟩
  rcases aW.mp he with rfl | he
  ·exact lt.mono D5.le
  ·exact AF e he
def FA(s:SS)(m:Nat):Prop := ∀ i j x y,s.dn[i]? = some y->s.dn[j]? = some x->i < j->j < m->y.f=true->∀ p q r,x.Pr p q->y.Pr q r->Lt s.L p r (x.k+y.k)
theorem FA.keep{ts:List Tm}{es:List bY}{n:Nat}{s s':SS}{m:Nat}(h:FA s m)(k:kC ts es n s s'):FA s' m:=fun i j x y hi hj lt lm f p q r px py=>by
 rw[k.dn]at hi hj
 exact(h i j x y hi hj lt lm f p q r px py).mono k.le
theorem ZA{x:DE}{p q a b:Nat}(h:x.Pr p q)(ha:x.a=a)(hb:x.b=b):(p=a∧q=b)∨(p=b∧q=a):=by
 rcases h with⟨h1,h2⟩ | ⟨h1,h2⟩
 ·exact .inl ⟨h1.symm.trans ha,h2.symm.trans hb⟩
 ·exact .inr ⟨h2.symm.trans hb,h1.symm.trans ha⟩
theorem GA{ts:List Tm}{es:List bY}{n:Nat}{s:SS}{a b k:Nat}{f:Bool}{hd:Option (Nat × Nat)}(h:SI ts es n s)(hh:oV s)(fa:FA s s.dn.length)(hw:s.W a b=some k)(least:∀ c d m,s.W c d=some m->k<=m)(hf:s.Sg a b=some k->f=true)(rh:BL (fun y=>hU s.W a b a y) hd)(s1 s2 s3:SS)(e1:s1=pP s a b k f hd)(e2:s2=gZ a k s1 (s1.St b))(e3:s3=gZ b k s2 (s2.St a)) :
  kC ts es n s1 s3∧FA s3 s3.dn.length∧s3.dn=s.dn ++ [⟨a,b,k,f⟩]∧Bf s.L s3.L∧(∀ x∈s3.dn,x.k<=k):=by
 obtain⟨i1,o1⟩:=Qp (f:=f) h hh hw least hf rh
 rw[<- e1]at i1 o1
 have xZ:s1.dn=s.dn ++ [⟨a,b,k,f⟩]:=by rw[e1];rfl
 have L1:s1.L=s.L:=by rw[e1];rfl
 have top:∀ x∈s1.dn,x.k<=k:=fun x hx=>by
  rw[xZ]at hx
  rcases au.mp hx with hx | hx
  ·exact h.mono x hx a b k hw
  ·rw[ax.mp hx];exact ar _
 have last:(⟨a,b,k,f⟩:DE)∈s1.dn:=by rw[xZ];exact au.mpr (.inr (bg _))
 obtain⟨k2,t2⟩:=AI (a:=a) (b:=b) (k:=k) (l:=s1.St b) i1 o1 ⟨_,last,.inl ⟨O,O⟩,O⟩ top (fun e he=>he)
 rw[<- e2]at k2 t2
 obtain⟨k3,t3⟩:=AI (a:=b) (b:=a) (k:=k) (l:=s2.St a) k2.si k2.hd ⟨_,by rw[k2.dn];exact last,.inr ⟨O,O⟩,O⟩ (by rw[k2.dn];exact top) (fun e he=>he)
 rw[<- e3]at k3 t3
 have kk:=k2.trans k3
 have qG:s3.dn=s.dn ++ [⟨a,b,k,f⟩]:=kk.dn.trans xZ
 refine⟨kk,?_,qG,by rw[<- L1];exact kk.le,by rw[kk.dn];exact top⟩
 intro i j x y hi hj lt lm fy p q r px py
 rw[qG]at hi hj lm
 rw[aG,cX]at lm
 by_cases ej:j < s.dn.length
 ·rw[eL ej]at hj
  rw[eL (by omega)]at hi
  have:=fa i j x y hi hj lt ej fy p q r px py
  exact this.mono (by rw[<- L1];exact kk.le)
 ·have ej2:j=s.dn.length:=by omega
  subst ej2
  rw[lJ]at hj
  cases hj
  rw[eL lt]at hi
  have hy:y∈s1.dn:=by rw[xZ];exact au.mpr (.inl (ak hi))
  rcases ZA px rfl rfl with⟨ep,eq⟩ | ⟨ep,eq⟩
  ·rw[ep]
   rw[eq]at py
   have:=t2 (r,y.k) ((i1.st b r y.k).mpr ⟨y,hy,py,O,fy⟩)
   exact this.mono k3.le
  ·rw[ep]
   rw[eq]at py
   refine t3 (r,y.k) ?_
   rw[k2.st]
   exact(i1.st a r y.k).mpr ⟨y,hy,py,O,fy⟩
theorem YC{ts:List Tm}{es:List bY}{n:Nat}{s:SS}(h:SI ts es n s)(fa:FA s s.dn.length)(hw:∀ a b,s.W a b=none):∀ a b c k m,s.L a b=some k->s.L b c=some m->Lt s.L a c (k+m):=by
 have at_:∀ a b k,a≠b->s.L a b=some k->∃ (i:Nat) (x:DE),s.dn[i]? = some x∧x.Pr a b∧x.k=k:=fun a b k ne e=>by
  rcases gI a b with q | q
  ·rcases h.mE a b k q e with z | ⟨x,hx,e1,e2,e3⟩
   ·rw[hw]at z;cases z
   ·obtain⟨i,hi⟩:=aU hx
    exact⟨i,x,hi,.inl ⟨e1,e2⟩,e3⟩
  ·rw[h.sym]at e
   rcases h.mE b a k (by omega) e with z | ⟨x,hx,e1,e2,e3⟩
   ·rw[hw]at z;cases z
   ·obtain⟨i,hi⟩:=aU hx
    exact⟨i,x,hi,.inr ⟨e1,e2⟩,e3⟩
 have adH:∀ {i j:Nat}{x y:DE},s.dn[i]? = some x->s.dn[j]? = some y->i<=j->x.k<=y.k:=fun {i j x y} hi hj AR=>by
  rcases hJ AR with q | rfl
  ·have:=mJ.mp h.ord i j (ai.mp hi).1 (ai.mp hj).1 q
   rw[(ai.mp hi).2,(ai.mp hj).2]at this
   exact this
  ·rw[hi]at hj;cases hj;exact ar _
 -- by oY sum,then by oY ai6 of oY two
 have main:∀ N M a b c k m,k+m<=N->min k m<=M->s.L a b=some k->s.L b c=some m->Lt s.L a c (k+m):=by
  intro N
  induction N using wR with
  | ind N ihN =>
   intro M
   induction M using wR with
   | ind M ihM =>
    -- oY ail is ahZ no alg alx oY first
    have abJ:∀ (a b c k m i j:Nat) (x y:DE),k+m<=N->min k m<=M->a≠b->b≠c->s.L a b=some k->s.L b c=some m->s.dn[i]? = some x->x.Pr a b->x.k=k->s.dn[j]? = some y->y.Pr b c->y.k=m->j<=i->Lt s.L a c (k+m):=by
     intro a b c k m i j x y hN hM RB RA e1 e2 hi px ex hj py ey Cd
     have hmk:m<=k:=by rw[<- ex, <- ey];exact adH hj hi Cd
     cases ef:y.f with
     | true =>
      rcases hJ Cd with q | q
      ·have:=fa j i x y hj hi q (ai.mp hi).1 ef a b c px py
       rw[ex,ey]at this
       exact this
      ·rw[q,hi]at hj
       cases hj
       have:a=c:=by
        rcases px with⟨p1,p2⟩ | ⟨p1,p2⟩ <;> rcases py with⟨q1,q2⟩ | ⟨q1,q2⟩ <;> omega
       subst this
       exact⟨0,h.diag a (h.zH _ _ _ e1).1,bx _⟩
     | false =>
      have tw:=(h.SU y (ak hj)).resolve_left (by rw[ef];decide)
      have tw2:s.A9 b c m:=by
       rw[<- ey]
       rcases py with⟨q1,q2⟩ | ⟨q1,q2⟩
       ·rw[q1,q2]at tw;exact tw
       ·rw[q1,q2]at tw
        obtain⟨d,k1,k2,e,h1,h2,⟨u,hu,pu,eu⟩,v,hv,pv,ev⟩:=tw
        exact⟨d,k2,k1,by omega,h2,h1,⟨v,hv,pv.symm,ev⟩,u,hu,pu.symm,eu⟩
      obtain⟨d,k1,k2,em,p1,p2,d1,d2⟩:=tw2
      obtain⟨l1,_⟩:=h.Co d1
      obtain⟨l2,_⟩:=h.Co d2
      obtain⟨j1,ej1,hj1⟩:=ihN (k+k1) (by omega) (min k k1) a b d k k1 (ar _) (ar _) e1 l1
      have OS:min j1 k2 < min k m:=by
       rw[gS hmk]
       exact gh (Dm _ _) (by omega)
      have:=ihM (min j1 k2) (by omega) a d c j1 k2 (by omega) (ar _) ej1 l2
      exact this.le (by omega)
    intro a b c k m hN hM e1 e2
    by_cases RB:a=b
    ·subst RB
     rw[h.diag a (h.zH _ _ _ e1).1]at e1
     cases e1
     exact⟨m,e2,by omega⟩
    by_cases RA:b=c
    ·subst RA
     exact⟨k,e1,by omega⟩
    obtain⟨i,x,hi,px,ex⟩:=at_ a b k RB e1
    obtain⟨j,y,hj,py,ey⟩:=at_ b c m RA e2
    rcases i4 j i with q | q
    ·exact abJ a b c k m i j x y hN hM RB RA e1 e2 hi px ex hj py ey q
    ·have:=abJ c b a m k j i y x (by omega) (by omega) (cm RA) (cm RB) (by rw[h.sym];exact e2) (by rw[h.sym];exact e1) hj py.symm ey hi px.symm ex q
     obtain⟨z,ez,hz⟩:=this
     exact⟨z,by rw[h.sym];exact ez,by omega⟩
 intro a b c k m e1 e2
 exact main (k+m) (min k m) a b c k m (ar _) (ar _) e1 e2
def gj(as bs:List Nat):List (Nat × Nat):=(as.zip bs).filter fun p=>decide (p.1≠p.2)
def RY:Option Tm->List Nat
 | some (.of _ as)=>as
 | _ => []
def cE(ts:List Tm)(a b:Nat):List (Nat × Nat):=gj (RY ts[a]?) (RY ts[b]?)
def mU(g:Nat × Nat->Nat):List (Nat × Nat)->Nat
 | []=>0
 | p :: l=>g p+mU g l
def cx(ts:List Tm)(L:Mx)(a b:Nat):Nat:=1+mU (fun p=>(L p.1 p.2).getD 0) (cE ts a b)
theorem DH(f:Nat->Nat):∀ n,sumTo f (n+1)=f 0+sumTo (fun k=>f (k+1)) n
 | 0=>by show 0+f 0=f 0+0;omega
 | n+1=>by
  show sumTo f (n+1)+f (n+1)=f 0+(sumTo (fun k=>f (k+1)) n+f (n+1))
  rw[DH f n];omega
def rk(g:Nat × Nat->Nat)(as bs:List Nat)(k:Nat):Nat:=match as[k]?,bs[k]? with
 | some x,some y=>if x=y then 0 else g (x,y)
 | _,_=>0
theorem uJ(g:Nat × Nat->Nat):∀ (as bs:List Nat),as.length=bs.length->mU g (gj as bs)=sumTo (rk g as bs) as.length
 | [], [],_=>rfl
 | [],_ :: _,h=>nomatch h
 | _ :: _, [],h=>nomatch h
 | a :: as,b :: bs,h=>by
  have ih:=uJ g as bs (Ls h)
  rw[bO,DH]
  have e0:rk g (a :: as) (b :: bs) 0=if a=b then 0 else g (a,b):=rfl
  have e1:(fun k=>rk g (a :: as) (b :: bs) (k+1))=rk g as bs:=rfl
  rw[e0,e1, <- ih]
  by_cases e:a=b
  ·have:gj (a :: as) (b :: bs)=gj as bs:=by unfold gj;rw[nB,iK (by simp[e])]
   rw[this,if_pos e,ql]
  ·have:gj (a :: as) (b :: bs)=(a,b) :: gj as bs:=by unfold gj;rw[nB,iJ (by simp[e])]
   rw[this,if_neg e];rfl
theorem iu{as bs:List Nat}{p:Nat × Nat}:p∈gj as bs↔p.1≠p.2∧∃ k:Nat,as[k]? = some p.1∧bs[k]? = some p.2:=by
 unfold gj
 rw[gC,decide_eq_true_iff]
 constructor
 ·rintro⟨h1,h2⟩
  obtain⟨k,hk⟩:=aU h1
  rw[mL]at hk
  exact⟨h2,k,hk⟩
 ·rintro⟨h1,k,h2,h3⟩
  exact⟨ak (i:=k) (by rw[mL];exact⟨h2,h3⟩),h1⟩
theorem uZ{g:Nat × Nat->Nat}:∀ {l:List (Nat × Nat)}{p:Nat × Nat},p∈l->g p<=mU g l
 | q :: l,p,h=>by
  show g p<=g q+mU g l
  rcases aW.mp h with rfl | h
  ·omega
  ·have:=uZ (g:=g) h;omega
theorem yu{g g':Nat × Nat->Nat}:∀ {l:List (Nat × Nat)},(∀ p∈l,g p=g' p)->mU g l=mU g' l
 | [],_=>rfl
 | q :: l,h=>by
  show g q+mU g l=g' q+mU g' l
  rw[h q bb,yu fun p hp=>h p (aR _ hp)]
def GJ(p:Nat × Nat):Nat × Nat:=(min p.1 p.2,max p.1 p.2)
structure LP(ts:List Tm)(ls:List Nat)(lp:List (Nat × Nat))(nd:Nat × Nat->List (Nat × Nat)):Prop where
 at_:∀ p∈lp,p.1 < p.2∧∃ x as bs,ts[p.1]? = some (.of x as)∧ts[p.2]? = some (.of x bs)∧as.length=bs.length
 all:∀ (a b:Nat) (x:Str) (as bs:List Nat),a < b->ts[a]? = some (.of x as)->ts[b]? = some (.of x bs)->as.length=bs.length->(∀ k u v:Nat,as[k]? = some u->bs[k]? = some v->ls.getD u 0=ls.getD v 0)->(a,b)∈lp
 nodup:lp.Nodup
 ndd:∀ p∈lp,(nd p).Nodup
 Jv:∀ p∈lp,∀ q,q∈nd p↔∃ r∈cE ts p.1 p.2,GJ r=q
 ne:∀ p∈lp,nd p ≠ []
def sB(s:SS)(q:Nat × Nat):Bool:=s.dn.any fun x=>decide (x.a=q.1∧x.b=q.2)
theorem pN{s:SS}{q:Nat × Nat}:sB s q=true↔∃ x∈s.dn,x.a=q.1∧x.b=q.2:=by
 unfold sB
 rw[List.any_eq_true]
 exact⟨fun ⟨x,hx,e⟩=>⟨x,hx,of_decide_eq_true e⟩,fun ⟨x,hx,e⟩=>⟨x,hx,decide_eq_true e⟩⟩
def iC(s:SS)(l:List (Nat × Nat)):Nat:=(l.filter fun q => !sB s q).length
theorem yB{s:SS}{l:List (Nat × Nat)}:iC s l=0↔∀ q∈l,sB s q=true:=by
 unfold iC
 rw[iI,List.filter_eq_nil_iff]
 exact⟨fun h q hq=>by have:=h q hq;cases e:sB s q with | true=>rfl | false=>rw[e]at this;exact absurd rfl this,fun h q hq=>by rw[h q hq];decide⟩
def Dt(ts:List Tm)(lp:List (Nat × Nat))(nd:Nat × Nat->List (Nat × Nat))(s:SS):Prop := ∀ p∈lp,(∀ q∈nd p,sB s q=true)->Lt s.L p.1 p.2 (cx ts s.L p.1 p.2)
section
variable {ts:List Tm}{es:List bY}{ls:List Nat}{lp:List (Nat × Nat)}{nd:Nat × Nat->List (Nat × Nat)} {s s':SS}
theorem Og(h:SI ts es ts.length s){u v:Nat}(hn:u≠v)(hb:sB s (GJ (u,v))=true):∃ k,s.Dn u v k∧s.L u v=some k:=by
 obtain⟨x,hx,e1,e2⟩:=pN.mp hb
 have d:s.Dn u v x.k:=⟨x,hx,by
  have e1:x.a=min u v:=e1
  have e2:x.b=max u v:=e2
  unfold DE.Pr
  omega,O⟩
 exact⟨x.k,d,(h.Co d).1⟩
theorem QI(h:SI ts es ts.length s)(k:kC ts es ts.length s s')(hp:LP ts ls lp nd){p:Nat × Nat}(hm:p∈lp)(iQ:∀ q∈nd p,sB s q=true):cx ts s'.L p.1 p.2=cx ts s.L p.1 p.2:=by
 unfold cx
 congr 1
 refine yu fun r hr =>?_
 have gw:=(iu.mp hr).1
 obtain⟨j,d,e⟩:=Og h gw (iQ _ ((hp.Jv p hm _).mpr ⟨r,hr,O⟩))
 have d':s'.Dn r.1 r.2 j:=by unfold SS.Dn;rw[k.dn];exact d
 rw[e,(k.si.Co d').1]
theorem JF(h:SI ts es ts.length s)(hp:LP ts ls lp nd){p:Nat × Nat}(hm:p∈lp)(iQ:∀ q∈nd p,sB s q=true):fS ts es p.1 p.2 (cx ts s.L p.1 p.2):=by
 obtain⟨_,x,as,bs,ha,hb,hl⟩:=hp.at_ p hm
 have ea:cE ts p.1 p.2=gj as bs:=by unfold cE;rw[ha,hb];rfl
 unfold cx
 rw[ea,uJ _ as bs hl]
 refine .gy _ ha hb hl fun k u v hu hv =>?_
 unfold rk
 rw[hu,hv]
 dsimp only
 by_cases e:u=v
 ·subst e;rw[if_pos rfl];exact .refl u
 ·rw[if_neg e]
  have hr:(u,v)∈cE ts p.1 p.2:=by rw[ea];exact iu.mpr ⟨e,k,hu,hv⟩
  obtain⟨j,d,ej⟩:=Og h e (iQ _ ((hp.Jv p hm _).mpr ⟨_,hr,O⟩))
  rw[ej];exact h.sound u v j ej
abbrev kB:=Nat × Nat->Nat
def fF(lk:kB)(p:Nat × Nat):kB:=fun q=>if q=p then lk p - 1 else lk q
def dI(ts:List Tm)(st:SS × kB)(p:Nat × Nat):SS × kB :=
 if fF st.2 p p=0 then (je st.1 p.1 p.2 (cx ts st.1.L p.1 p.2) true,fF st.2 p) else (st.1,fF st.2 p)
theorem AH(hp:LP ts ls lp nd){u v k:Nat}(JS:u < v):∀ {l:List (Nat × Nat)}{s:SS}{lk:kB},SI ts es ts.length s->oV s->(∀ x∈s.dn,x.k<=k)->s.L u v=some k->l.Nodup->(∀ p∈l,p∈lp∧(u,v)∈nd p) ->
  (∀ p∈lp,lk p=iC s (nd p)+(if p∈l then 1 else 0))->(∀ p∈lp,p ∉ l->(∀ q∈nd p,sB s q=true)->Lt s.L p.1 p.2 (cx ts s.L p.1 p.2)) ->
  kC ts es ts.length s (l.foldl (dI ts) (s,lk)).1∧(∀ p∈lp,(l.foldl (dI ts) (s,lk)).2 p=iC s (nd p))∧Dt ts lp nd (l.foldl (dI ts) (s,lk)).1
 | [],s,lk,h,hh,_,_,_,_,hl,hd=>⟨kC.refl h hh,fun p hm=>by rw[List.foldl_nil];have:=hl p hm;rw[if_neg cM]at this;exact this,fun p hm iQ=>hd p hm cM iQ⟩
 | p :: l,s,lk,h,hh,top,JT,sF,sH,hl,hd=>by
  rw[bI]at sF
  obtain⟨hm,hq⟩:=sH p bb
  have e1:lk p=iC s (nd p)+1:=by have:=hl p hm;rw[if_pos bb]at this;exact this
  have e2:fF lk p p=iC s (nd p):=by unfold fF;rw[if_pos rfl,e1];rfl
  rw[qt]
  have hlk:∀ q∈lp,fF lk p q=iC s (nd q)+(if q∈l then 1 else 0):=fun q Cc=>by
   by_cases eq:q=p
   ·subst eq;rw[e2,if_neg sF.1];rfl
   ·unfold fF
    rw[if_neg eq,hl q Cc]
    congr 1
    by_cases GW:q∈l
    ·rw[if_pos GW,if_pos (aR _ GW)]
    ·rw[if_neg GW,if_neg (fun z=>(aW.mp z).elim eq GW)]
  by_cases ez:fF lk p p=0
  ·have es:dI ts (s,lk) p=(je s p.1 p.2 (cx ts s.L p.1 p.2) true,fF lk p):=if_pos ez
   rw[es]
   have iQ:=yB.mp (e2.symm.trans ez)
   obtain⟨cW,x,as,bs,ha,hb,eD⟩:=hp.at_ p hm
   have Uv:k<=cx ts s.L p.1 p.2:=by
    obtain⟨r,hr,er⟩:=(hp.Jv p hm _).mp hq
    have alC:=(iu.mp hr).1
    have:s.L r.1 r.2=some k:=by
     have q1:min r.1 r.2=u:=congrArg dB er
     have q2:max r.1 r.2=v:=congrArg zf er
     rcases gI r.1 r.2 with q | q
     ·rw[show r.1=u by omega,show r.2=v by omega];exact JT
     ·rw[show r.1=v by omega,show r.2=u by omega,h.sym];exact JT
    have:=uZ (g:=fun p=>(s.L p.1 p.2).getD 0) hr
    unfold cx
    simp only[*,Option.getD_some]at this
    omega
   obtain⟨kp,lt⟩:=DD (sg:=true) h hh (ai.mp ha).1 (ai.mp hb).1 (fun y hy=>bf (top y hy) Uv) (by unfold cx;omega) (JF h hp hm iQ) (fun _ => .inl rfl)
   have Zl:∀ q,iC (je s p.1 p.2 (cx ts s.L p.1 p.2) true) q=iC s q:=fun q=>by unfold iC sB;rw[kp.dn]
   have aha:(je s p.1 p.2 (cx ts s.L p.1 p.2) true).L u v=some k:=by
    rcases h.mE u v k JS JT with hw | ⟨y,hy,y1,y2,y3⟩
    ·obtain⟨AM,MP⟩:False:=by
      obtain⟨x2,MP,g1,g2⟩:=pN.mp (iQ _ hq)
      have:=(h.dl x2 MP).2.2
      rw[g1,g2]at this
      rw[this]at hw
      cases hw
    ·have:=(kp.si.dl y (by rw[kp.dn];exact hy)).2.1
     rw[y1,y2,y3]at this
     exact this
   obtain⟨r1,r2,r3⟩:=AH hp JS (l:=l) (lk:=fF lk p) kp.si kp.hd (by rw[kp.dn];exact top) aha sF.2 (fun q hq=>sH q (aR _ hq)) (fun q Cc=>by rw[Zl];exact hlk q Cc) (fun q Cc GW Ih=>by
    have Rf:∀ z∈nd q,sB s z=true:=fun z hz=>by have:=Ih z hz;unfold sB at this ⊢;rw[kp.dn]at this;exact this
    rw[QI h kp hp Cc Rf]
    by_cases eq:q=p
    ·subst eq;exact lt
    ·exact(hd q Cc (fun z=>(aW.mp z).elim eq GW) Rf).mono kp.le)
   exact⟨kp.trans r1,fun q Cc=>by rw[r2 q Cc,Zl],r3⟩
  ·have es:dI ts (s,lk) p=(s,fF lk p):=if_neg ez
   rw[es]
   exact AH hp JS (l:=l) (lk:=fF lk p) h hh top JT sF.2 (fun q hq=>sH q (aR _ hq)) hlk (fun q Cc GW Ih=>by
    by_cases eq:q=p
    ·subst eq;exact absurd (e2.trans (yB.mpr Ih)) ez
    ·exact hd q Cc (fun z=>(aW.mp z).elim eq GW) Ih)
theorem LR(h:SI ts es ts.length s)(fa:FA s s.dn.length)(hw:∀ a b,s.W a b=none)(hp:LP ts ls lp nd)(done:Dt ts lp nd s)(dH:∀ a b w,(a,b,w)∈es->Lt s.L a b w)(MX:∀ a b k,s.L a b=some k->ls.getD a 0=ls.getD b 0):Pk ts es ts.length s.L:=by
 refine⟨h.diag,h.sym,dH,YC h fa hw,?_⟩
 -- for a alq b
 have low:∀ (a b:Nat) (x:Str) (as bs:List Nat) (f:Nat->Nat),a < b->ts[a]? = some (.of x as)->ts[b]? = some (.of x bs)->as.length=bs.length->(∀ k u v:Nat,as[k]? = some u->bs[k]? = some v->Lt s.L u v (f k))->Lt s.L a b (1+sumTo f as.length):=fun a b x as bs f ia ha hb hl hf=>by
  have hm:(a,b)∈lp:=hp.all a b x as bs ia ha hb hl fun k u v hu hv=>by obtain⟨j,e,_⟩:=hf k u v hu hv;exact MX u v j e
  have ea:cE ts a b=gj as bs:=by unfold cE;rw[ha,hb];rfl
  have iQ:∀ q∈nd (a,b),sB s q=true:=fun q hq=>by
   obtain⟨r,hr,rfl⟩:=(hp.Jv _ hm q).mp hq
   have hr:r∈cE ts a b:=hr
   rw[ea]at hr
   obtain⟨gw,k,hu,hv⟩:=iu.mp hr
   obtain⟨j,e,_⟩:=hf k r.1 r.2 hu hv
   refine pN.mpr ?_
   rcases gI r.1 r.2 with q | q
   ·rcases h.mE _ _ j q e with z | ⟨y,hy,y1,y2,_⟩
    ·rw[hw]at z;cases z
    ·exact⟨y,hy,by show y.a=min r.1 r.2;omega,by show y.b=max r.1 r.2;omega⟩
   ·rw[h.sym]at e
    rcases h.mE _ _ j (by omega) e with z | ⟨y,hy,y1,y2,_⟩
    ·rw[hw]at z;cases z
    ·exact⟨y,hy,by show y.a=min r.1 r.2;omega,by show y.b=max r.1 r.2;omega⟩
  refine(done _ hm iQ).le ?_
  show cx ts s.L a b<=_
  unfold cx
  rw[ea,uJ _ as bs hl]
  refine zR (uY fun k hk =>?_) 1
  have hu:as[k]? = some as[k]:=aj hk
  have hv:bs[k]? = some (bs[k]'(by omega)):=aj (by omega)
  unfold rk
  rw[hu,hv]
  dsimp only
  split
  ·exact bx _
  ·obtain⟨j,e,hj⟩:=hf k _ _ hu hv
   rw[e];exact hj
 intro a b x as bs f ha hb hl hf
 rcases BQ a b with q | q | q
 ·exact low a b x as bs f q ha hb hl hf
 ·subst q
  exact⟨0,h.diag a (ai.mp ha).1,bx _⟩
 ·obtain⟨j,e,hj⟩:=low b a x bs as f q hb ha hl.symm (fun k u v hu hv=>by obtain⟨j,e,hj⟩:=hf k v u hv hu;exact⟨j,by rw[h.sym];exact e,hj⟩)
  exact⟨j,by rw[h.sym];exact e,by rw[hl];exact hj⟩
end
theorem lE{α : Type}:∀ {S U:List α},S.Nodup->(∀ x∈S,x∈U)->S.length<=U.length
 | [],U,_,_=>bx _
 | x :: S,U,hn,h=>by
  obtain⟨A,B,rfl⟩:=List.append_of_mem (h x bb)
  have hx:=(bI.mp hn).1
  have:=lE (S:=S) (U:=A ++ B) (bI.mp hn).2 fun y hy=>by
   have:=h y (aR _ hy)
   rcases au.mp this with z | z
   ·exact qp _ z
   ·rcases aW.mp z with z | z
    ·exact absurd (z ▸ hy) hx
    ·exact ck _ z
  rw[aG]at this
  rw[bO,aG,bO]
  omega
def mV(n:Nat):SS where
 L:=fun a b=>if a=b∧a < n then some 0 else none
 W:=fun _ _=>none
 Hd:=fun _=>none
 Sg:=fun _ _=>none
 St:=fun _ => []
 dn := []
theorem Bt{n a b k:Nat}(h:(mV n).L a b=some k):a=b∧a < n∧k=0:=by
 have h:(if a=b∧a < n then some 0 else none)=some k:=h
 split at h
 ·rename_i c;cases h;exact⟨c.1,c.2,O⟩
 ·cases h
theorem S2(ts:List Tm)(es:List bY)(n:Nat):SI ts es n (mV n)∧oV (mV n):=by
 refine⟨⟨?_,?_,?_,?_,?_,?_,?_,?_,BV,?_,?_,?_,?_⟩,⟨fun _ _ _=>rfl,fun a k b e=>nomatch e⟩⟩
 ·intro a b
  show (if a=b∧a < n then some 0 else none)=(if b=a∧b < n then some 0 else none)
  by_cases e:a=b
  ·subst e;rfl
  ·rw[if_neg (fun z=>e z.1),if_neg (fun z=>e z.1.symm)]
 ·intro a ha;exact if_pos ⟨O,ha⟩
 ·intro a b k e;obtain⟨rfl,h,_⟩:=Bt e;exact⟨h,h⟩
 ·intro a b k ne e;exact absurd (Bt e).1 ne
 ·intro a b k e;cases e
 ·intro a b k ia e;have:=(Bt e).1;omega
 ·intro x hx;cases hx
 ·intro x hx;cases hx
 ·intro b c k;exact⟨(fun h=>nomatch h),fun ⟨x,hx,_⟩=>(nomatch hx)⟩
 ·intro a b k e;cases e
 ·intro x hx;cases hx
 ·intro a b k e
  obtain⟨rfl,_,rfl⟩:=Bt e
  exact .refl a
section
variable {ts:List Tm}{es:List bY}{ls:List Nat}{lp:List (Nat × Nat)}{nd:Nat × Nat->List (Nat × Nat)} {s s':SS}
def nK(s:SS)(l:List bY):SS:=l.foldl (fun s e=>je s e.1 e.2.1 e.2.2 true) s
theorem Ng:∀ {l:List bY}{s:SS},SI ts es ts.length s->oV s->s.dn = []->(∀ e∈l,e∈es∧e.1 < ts.length∧e.2.1 < ts.length∧1<=e.2.2) ->
  kC ts es ts.length s (nK s l)∧∀ e∈l,Lt (nK s l).L e.1 e.2.1 e.2.2
 | [],s,h,hh,_,_=>⟨kC.refl h hh,fun e he=>nomatch he⟩
 | e :: l,s,h,hh,hd,sub=>by
  obtain⟨he,la,lb,hw⟩:=sub e bb
  obtain⟨kp,lt⟩:=DD (sg:=true) h hh la lb (by rw[hd];exact fun x hx=>nomatch hx) hw (.dH (a:=e.1) (b:=e.2.1) (w:=e.2.2) he) (fun _ => .inl rfl)
  obtain⟨D5,AF⟩:=Ng (l:=l) kp.si kp.hd (by rw[kp.dn];exact hd) fun e he=>sub e (aR _ he)
  refine⟨kp.trans D5,fun e' he' =>?_⟩
  rcases aW.mp he' with rfl | he'
  ·exact lt.mono D5.le
  ·exact AF e' he'
structure zt(ts:List Tm)(es:List bY)(lp:List (Nat × Nat))(nd:Nat × Nat->List (Nat × Nat))(s:SS)(lk:kB):Prop where
 si:SI ts es ts.length s
 hd:oV s
 fa:FA s s.dn.length
 aak:∀ p∈lp,lk p=iC s (nd p)
 done:Dt ts lp nd s
 dH:∀ e∈es,Lt s.L e.1 e.2.1 e.2.2
 i6:(s.dn.map fun x=>(x.a,x.b)).Nodup
theorem RZ(hp:LP ts ls lp nd)(jo:∀ e∈es,e.1 < ts.length∧e.2.1 < ts.length∧1<=e.2.2):zt ts es lp nd (nK (mV ts.length) es) fun p=>(nd p).length:=by
 obtain⟨h,hh⟩:=S2 ts es ts.length
 obtain⟨kp,lt⟩:=Ng (l:=es) h hh rfl fun e he=>⟨he,jo e he⟩
 have dn:(nK (mV ts.length) es).dn = []:=kp.dn
 have no:∀ q,sB (nK (mV ts.length) es) q=false:=fun q=>by unfold sB;rw[dn];rfl
 refine⟨kp.si,kp.hd,?_,?_,?_,lt,by rw[dn];exact c6⟩
 ·intro i j x y hi hj
  rw[dn]at hi;cases hi
 ·intro p hm
  unfold iC
  rw[List.filter_eq_self.mpr (fun q _=>by rw[no];rfl)]
 ·intro p hm iQ
  obtain⟨q,hq⟩:=List.exists_mem_of_ne_nil _ (hp.ne p hm)
  have:=iQ q hq
  rw[no]at this;cases this
theorem zt.least(A:zt ts es lp nd s lk){a b k:Nat}(hh:s.Hd a=some (k,b))(hm:∀ c k' d,s.Hd c=some (k',d)->k<=k'):s.W a b=some k∧∀ c d m,s.W c d=some m->k<=m:=by
 refine⟨(A.hd.hs a k b hh).1,fun c d m e =>?_⟩
 cases q:s.Hd c with
 | none=>rw[A.hd.hn c q d]at e;cases e
 | some p =>
  obtain⟨k',d'⟩:=p
  have:=(A.hd.hs c k' d' q).2 d m e
  have:=hm c k' d' q
  omega
theorem FY{p q:Prop}[Decidable p][Decidable q](h:p↔q):(if p then 1 else 0:Nat)=if q then 1 else 0:=by
 by_cases hp:p
 ·rw[if_pos hp,if_pos (h.mp hp)]
 ·rw[if_neg hp,if_neg (fun z=>hp (h.mpr z))]
theorem CP{s s3:SS}{u v:Nat}(hb:sB s (u,v)=false)(h3:∀ q,sB s3 q=true↔sB s q=true∨q=(u,v)):∀ {l:List (Nat × Nat)},l.Nodup->iC s l=iC s3 l+(if (u,v)∈l then 1 else 0)
 | [],_=>rfl
 | q :: l,hn=>by
  rw[bI]at hn
  have ih:=CP hb h3 (l:=l) hn.2
  unfold iC at ih ⊢
  rw[oR,oR]
  by_cases eq:q=(u,v)
  ·have e1:sB s q=false:=by rw[eq];exact hb
   have e3:sB s3 q=true:=(h3 q).mpr (.inr eq)
   rw[e1,e3,if_pos (show (u,v)∈q :: l by rw[eq];exact bb)]
   show (q :: l.filter fun q => !sB s q).length=(l.filter fun q => !sB s3 q).length+1
   rw[bO,ih,if_neg (by rw[<- eq];exact hn.1)]
  ·have tD:((u,v)∈q :: l)↔(u,v)∈l:=by
    rw[aW];exact⟨fun z=>z.elim (fun z=>absurd z.symm eq) id,.inr⟩
   have e:sB s3 q=sB s q:=by
    rw[gF,h3]
    exact⟨fun z=>z.elim id fun z=>absurd z eq,.inl⟩
   rw[e]
   cases sB s q with
   | true =>
    show (l.filter fun q => !sB s q).length=(l.filter fun q => !sB s3 q).length+_
    rw[ih,FY tD]
   | false =>
    show (q :: l.filter fun q => !sB s q).length=(q :: l.filter fun q => !sB s3 q).length+_
    rw[bO,bO,ih,FY tD];omega
theorem UU{lk:kB}(A:zt ts es lp nd s lk)(hp:LP ts ls lp nd){a b k:Nat}{f:Bool}{hd:Option (Nat × Nat)}(hw:s.W a b=some k)(least:∀ c d m,s.W c d=some m->k<=m)(hf:s.Sg a b=some k->f=true)(rh:BL (fun y=>hU s.W a b a y) hd){aw:List (Nat × Nat)}(WG:aw.Nodup)(Nt:∀ p,p∈aw↔p∈lp∧(a,b)∈nd p)(s1 s2 s3:SS)(e1:s1=pP s a b k f hd)(e2:s2=gZ a k s1 (s1.St b))(e3:s3=gZ b k s2 (s2.St a)) :
  zt ts es lp nd (aw.foldl (dI ts) (s3,lk)).1 (aw.foldl (dI ts) (s3,lk)).2∧(aw.foldl (dI ts) (s3,lk)).1.dn=s.dn ++ [⟨a,b,k,f⟩]:=by
 obtain⟨kk,fa3,qG,le3,Oa⟩:=GA (f:=f) A.si A.hd A.fa hw least hf rh s1 s2 s3 e1 e2 e3
 have ia:=(A.si.wl a b k hw).1
 have hb:sB s (a,b)=false:=by
  cases e:sB s (a,b) with
  | false=>rfl
  | true =>
   obtain⟨x,hx,g1,g2⟩:=pN.mp e
   have:=(A.si.dl x hx).2.2
   rw[g1,g2,hw]at this;cases this
 have h3:∀ q,sB s3 q=true↔sB s q=true∨q=(a,b):=fun q=>by
  rw[pN,pN,qG]
  constructor
  ·rintro⟨x,hx,g⟩
   rcases au.mp hx with hx | hx
   ·exact .inl ⟨x,hx,g⟩
   ·rw[ax.mp hx]at g
    exact .inr (rE g.1.symm g.2.symm)
  ·rintro(⟨x,hx,g⟩ | rfl)
   ·exact⟨x,au.mpr (.inl hx),g⟩
   ·exact⟨_,au.mpr (.inr (bg _)),O,O⟩
 have Er:s3.L a b=some k:=by
  have:=(kk.si.dl ⟨a,b,k,f⟩ (by rw[qG];exact au.mpr (.inr (bg _)))).2.1
  exact this
 have L1:s1.L=s.L:=by rw[e1];rfl
 obtain⟨r1,r2,r3⟩:=AH hp ia (l:=aw) (lk:=lk) kk.si kk.hd Oa Er WG (fun p Ei=>(Nt p).mp Ei) (fun p hm=>by
   rw[A.aak p hm,CP hb h3 (hp.ndd p hm)]
   rw[FY (show (a,b)∈nd p↔p∈aw by rw[Nt];exact⟨fun z=>⟨hm,z⟩,fun z=>z.2⟩)]) (fun p hm hna iQ=>by
   have VA:(a,b) ∉ nd p:=fun z=>hna ((Nt p).mpr ⟨hm,z⟩)
   have We:∀ q∈nd p,sB s q=true:=fun q hq=>((h3 q).mp (iQ q hq)).resolve_right fun z=>VA (by rw[<- z];exact hq)
   have e:cx ts s3.L p.1 p.2=cx ts s.L p.1 p.2:=by
    unfold cx
    congr 1
    refine yu fun r hr =>?_
    have gw:=(iu.mp hr).1
    obtain⟨j,⟨x,hx,px,ex⟩,ej⟩:=Og A.si gw (We _ ((hp.Jv p hm _).mpr ⟨r,hr,O⟩))
    have d':s3.Dn r.1 r.2 j:=⟨x,by rw[qG];exact au.mpr (.inl hx),px,ex⟩
    rw[ej,(kk.si.Co d').1]
   rw[e]
   exact(A.done p hm We).mono le3)
 have WA:=r1.dn.trans qG
 refine⟨⟨r1.si,r1.hd,?_,fun p hm =>?_,r3,fun e he=>((A.dH e he).mono le3).mono r1.le,?_⟩,WA⟩
 ·have:=fa3.keep r1
  rw[r1.dn];exact this
 ·rw[r2 p hm]
  unfold iC sB
  rw[r1.dn]
 ·rw[WA,dv,eR]
  refine⟨A.i6,bI.mpr ⟨cM,c6⟩,fun x hx y hy e =>?_⟩
  have hy:y=(a,b):=ax.mp hy
  obtain⟨z,hz,ez⟩:=bj.mp hx
  have:=(A.si.dl z hz).2.2
  have q1:z.a=a:=congrArg dB (ez.trans (e.trans hy))
  have q2:z.b=b:=congrArg zf (ez.trans (e.trans hy))
  rw[q1,q2,hw]at this
  cases this
theorem RD{lk:kB}(A:zt ts es lp nd s lk):s.dn.length<=ts.length * ts.length:=by
 have h1:∀ p∈s.dn.map fun x=>(x.a,x.b),p.1 < ts.length∧p.2 < ts.length:=fun p hp=>by
  obtain⟨x,hx,rfl⟩:=bj.mp hp
  exact A.si.zH _ _ _ (A.si.dl x hx).2.1
 have h2:((s.dn.map fun x=>(x.a,x.b)).map fun p=>p.1 * ts.length+p.2).Nodup:=by
  rw[zj,jq]
  refine A.i6.imp_of_mem fun {p q} hp hq gw e=>gw ?_
  obtain⟨p1,p2⟩:=h1 p hp
  obtain⟨q1,q2⟩:=h1 q hq
  have e1:p.1=q.1:=by
   have a1:(p.1 * ts.length+p.2) / ts.length=p.1:=by rw[Bb,E2 (by omega),Dp p2,qm]
   have a2:(q.1 * ts.length+q.2) / ts.length=q.1:=by rw[Bb,E2 (by omega),Dp q2,qm]
   rw[<- a1, <- a2,e]
  refine rE e1 ?_
  rw[e1]at e
  omega
 have h3:=lE (U:=bA (ts.length * ts.length)) h2 fun x hx=>by
  obtain⟨p,hp,rfl⟩:=bj.mp hx
  obtain⟨p1,p2⟩:=h1 p hp
  rw[cI]
  have:(p.1+1) * ts.length<=ts.length * ts.length:=Nat.mul_le_mul_right _ p1
  rw[vP]at this
  omega
 rw[az,az,cN]at h3
 exact h3
theorem Yi{lk:kB}(A:zt ts es lp nd s lk)(hp:LP ts ls lp nd)(jo:∀ e∈es,e.1 < ts.length∧e.2.1 < ts.length∧1<=e.2.2)(nc:rJ ts)(MX:∀ a b k,fS ts es a b k->a < ts.length->b < ts.length->ls.getD a 0=ls.getD b 0)(qF:∀ a,s.Hd a=none){a b:Nat}(ha:a < ts.length):s.L a b=aL ts es a b:=by
 have hw:∀ a b,s.W a b=none:=fun a b=>A.hd.hn a (qF a) b
 refine Ro (LR A.si A.fa hw hp A.done (fun a b w h=>A.dH (a,b,w) h) (fun a b k e =>?_)) (fun a b w h=>⟨(jo (a,b,w) h).1,(jo (a,b,w) h).2.1⟩) nc A.si.sound ha
 exact MX a b k (A.si.sound a b k e) (A.si.zH a b k e).1 (A.si.zH a b k e).2
end
theorem X3{ts:List Tm}{es:List bY}(hn:ts.Nodup){a b:Nat}(h:Eqv ts (es.map fun e=>(e.1,e.2.1)) a b):∃ n,fS ts es a b n:=by
 induction h with
 | refl a=>exact⟨0,.refl a⟩
 | symm _ ih=>obtain⟨n,d⟩:=ih;exact⟨n,.symm d⟩
 | trans _ _ JO GV=>obtain⟨n,d⟩:=JO;obtain⟨m,e⟩:=GV;exact⟨n+m,.trans d e⟩
 | dH he=>obtain⟨e,h1,h2⟩:=bj.mp he;cases h2;exact⟨e.2.2,.dH h1⟩
 | same h1 h2 =>
  have:=(kL (ai.mp h1).1 hn).mp (h1.trans h2.symm)
  subst this
  exact⟨0,.refl _⟩
 | @La i j x as bs h1 h2 hl _ ih =>
  have ex:∀ k:Nat,∃ n:Nat,∀ u v:Nat,as[k]? = some u->bs[k]? = some v->fS ts es u v n:=fun k=>by
   cases e1:as[k]? with
   | none=>exact⟨0,fun u v z=>nomatch z⟩
   | some u =>
    cases e2:bs[k]? with
    | none=>exact⟨0,fun u v _ z=>nomatch z⟩
    | some v =>
     obtain⟨n,d⟩:=ih k u v e1 e2
     exact⟨n,fun u' v' z1 z2=>by cases z1;cases z2;exact d⟩
  exact⟨_,.gy (fun k=>(ex k).choose) h1 h2 hl fun k u v hu hv=>(ex k).choose_spec u v hu hv⟩
theorem Ni{ts:List Tm}{es:List bY}(he:∀ e∈es,1<=e.2.2){a b n:Nat}(h:fS ts es a b n):n=0->a=b:=by
 induction h with
 | refl a=>exact fun _=>rfl
 | dH h=>intro z;have:=he _ h;have z:_=0:=z;dsimp only at this;omega
 | symm _ ih=>exact fun z=>(ih z).symm
 | trans _ _ JO GV=>exact fun z=>(JO (by omega)).trans (GV (by omega))
 | gy f _ _ _ _ _=>intro z;omega
theorem lG{ts:List Tm}{es:List bY}(a b:Nat):aL ts es a b=aL ts es b a:=by
 cases e:aL ts es a b with
 | none =>
  cases e':aL ts es b a with
  | none=>rfl
  | some m=>exact(pA e (.symm (dM e').1)).elim
 | some n=>exact(wF (.symm (dM e).1) fun m d=>(dM e).2 m (.symm d)).symm
theorem wG{ts:List Tm}{es:List bY}(a:Nat):aL ts es a a=some 0:=wF (.refl a) fun _ _=>bx _
theorem K7{ts:List Tm}{es:List bY}{a b c n m:Nat}(h1:aL ts es a c=some n)(h2:aL ts es c b=some m):∃ k,aL ts es a b=some k∧k<=n+m:=by
 have d:=fS.trans (dM h1).1 (dM h2).1
 cases e:aL ts es a b with
 | none=>exact(pA e d).elim
 | some k=>exact⟨k,O,(dM e).2 _ d⟩
theorem RG{ts:List Tm}{es:List bY}{a b w:Nat}(h:(a,b,w)∈es):∃ k,aL ts es a b=some k∧k<=w:=by
 have d:fS ts es a b w := .dH h
 cases e:aL ts es a b with
 | none=>exact(pA e d).elim
 | some k=>exact⟨k,O,(dM e).2 _ d⟩
theorem RF{ts:List Tm}{es:List bY}{a b:Nat}{x:Str}{as bs:List Nat}(f:Nat->Nat)(ha:ts[a]? = some (.of x as))(hb:ts[b]? = some (.of x bs))(hl:as.length=bs.length)(hf:∀ k u v:Nat,as[k]? = some u->bs[k]? = some v->aL ts es u v=some (f k)):∃ k,aL ts es a b=some k∧k<=1+sumTo f as.length:=by
 have d:fS ts es a b (1+sumTo f as.length) := .gy f ha hb hl fun k u v hu hv=>(dM (hf k u v hu hv)).1
 cases e:aL ts es a b with
 | none=>exact(pA e d).elim
 | some k=>exact⟨k,O,(dM e).2 _ d⟩
section
variable {ts:List Tm}{es:List bY}
inductive One(ts:List Tm)(es:List bY):Nat->Nat->Nat->Prop
 | dH {a b w:Nat}:(a,b,w)∈es->One ts es a b w
 | back {a b w:Nat}:(a,b,w)∈es->One ts es b a w
 | gy {a b:Nat}{x:Str}{as bs:List Nat} (f:Nat->Nat):ts[a]? = some (.of x as)->ts[b]? = some (.of x bs)->as.length=bs.length->(∀ k u v:Nat,as[k]? = some u->bs[k]? = some v->fS ts es u v (f k))->One ts es a b (1+sumTo f as.length)
inductive Way(ts:List Tm)(es:List bY):Nat->Nat->Nat->Prop
 | nil (a:Nat):Way ts es a a 0
 | cons {a b c n m:Nat}:One ts es a b n->Way ts es b c m->Way ts es a c (n+m)
theorem One.symm{a b n:Nat}(h:One ts es a b n):One ts es b a n:=by
 cases h with
 | dH h=>exact .back h
 | back h=>exact .dH h
 | gy f h1 h2 hl hf=>rw[hl];exact .gy f h2 h1 hl.symm fun k u v hu hv => .symm (hf k v u hv hu)
theorem One.EE{a b n:Nat}(h:One ts es a b n):fS ts es a b n:=by
 cases h with
 | dH h=>exact .dH h
 | back h=>exact .symm (.dH h)
 | gy f h1 h2 hl hf=>exact .gy f h1 h2 hl hf
theorem Way.EE{a b n:Nat}(h:Way ts es a b n):fS ts es a b n:=by
 induction h with
 | nil a=>exact .refl a
 | cons h _ ih=>exact .trans h.EE ih
theorem Way.app{a b c n m:Nat}(h:Way ts es a b n):Way ts es b c m->Way ts es a c (n+m):=by
 induction h with
 | nil a=>intro k;rw[ql];exact k
 | cons h _ ih=>intro k;rw[j5];exact .cons h (ih k)
theorem Way.rev{a b n:Nat}(h:Way ts es a b n):Way ts es b a n:=by
 induction h with
 | nil a=>exact .nil a
 | @cons a b c n m h _ ih =>
  have:=ih.app (.cons h.symm (.nil _))
  rw[qm,Nat.add_comm m n]at this
  exact this
theorem X6{a b n:Nat}(h:fS ts es a b n):Way ts es a b n:=by
 induction h with
 | refl a=>exact .nil a
 | @dH a b w h=>exact .cons (m:=0) (.dH h) (.nil b)
 | symm _ ih=>exact ih.rev
 | trans _ _ i1 i2=>exact i1.app i2
 | @gy a b x as bs f h1 h2 hl hf _=>exact .cons (m:=0) (.gy f h1 h2 hl hf) (.nil b)
theorem uR{a b n:Nat}(d:fS ts es a b n):∃ k,aL ts es a b=some k∧k<=n:=by
 cases e:aL ts es a b with
 | none=>exact(pA e d).elim
 | some k=>exact⟨k,O,(dM e).2 _ d⟩
theorem UK(he:∀ e∈es,1<=e.2.2){a b k:Nat}(h:aL ts es a b=some k)(ne:a≠b):1<=k:=by
 rcases Nat.eq_zero_or_pos k with z | z
 ·exact absurd (Ni he (dM h).1 z) ne
 ·exact z
theorem One.pos(he:∀ e∈es,1<=e.2.2){a b n:Nat}(o:One ts es a b n):1<=n:=by
 cases o with
 | dH h=>exact he _ h
 | back h=>exact he _ h
 | gy f _ _ _ _=>omega
theorem O6(he:∀ e∈es,1<=e.2.2){a b k:Nat}(h:aL ts es a b=some k)(ne:a≠b):∃ c m r,One ts es a c m∧aL ts es a c=some m∧aL ts es c b=some r∧m+r=k∧a≠c:=by
 obtain⟨d,least⟩:=dM h
 have w:=X6 d
 cases w with
 | nil=>exact absurd rfl ne
 | @cons _ c _ n m o w =>
  obtain⟨p,hp,lp⟩:=uR o.EE
  obtain⟨q,hq,lq⟩:=uR w.EE
  obtain⟨t,ht,lt⟩:=K7 hp hq
  rw[h]at ht
  cases ht
  have e1:p=n:=by omega
  have e2:q=m:=by omega
  subst e1 e2
  refine⟨c,_,_,o,hp,hq,O,fun z =>?_⟩
  subst z
  rw[wG]at hp
  have p0:=o.pos he
  have:=aD hp
  omega
theorem OE{a c:Nat}{x:Str}{as bs:List Nat}{f:Nat->Nat}(ha:ts[a]? = some (.of x as))(hc:ts[c]? = some (.of x bs))(hl:as.length=bs.length)(hf:∀ k u v:Nat,as[k]? = some u->bs[k]? = some v->fS ts es u v (f k))(hd:aL ts es a c=some (1+sumTo f as.length)):cx ts (aL ts es) a c=1+sumTo f as.length:=by
 have ea:cE ts a c=gj as bs:=by unfold cE;rw[ha,hc];rfl
 unfold cx
 rw[ea,uJ _ as bs hl]
 have up:sumTo (rk (fun p=>(aL ts es p.1 p.2).getD 0) as bs) as.length<=sumTo f as.length:=uY fun k hk=>by
  unfold rk
  have hu:as[k]? = some as[k]:=aj hk
  have hv:bs[k]? = some (bs[k]'(by omega)):=aj (by omega)
  rw[hu,hv]
  dsimp only
  split
  ·exact bx _
  ·obtain⟨m,e,hm⟩:=uR (hf k _ _ hu hv)
   rw[e];exact hm
 have dn:=(dM hd).2 _ (fS.gy (rk (fun p=>(aL ts es p.1 p.2).getD 0) as bs) ha hc hl fun k u v hu hv=>by
  unfold rk
  rw[hu,hv]
  dsimp only
  by_cases e:u=v
  ·rw[if_pos e,e];exact .refl v
  ·rw[if_neg e]
   obtain⟨m,e,hm⟩:=uR (hf k u v hu hv)
   rw[e];exact(dM e).1)
 omega
theorem GP{M:Mx}(sy:∀ a b,M a b=M b a){a c:Nat}{x y:Str}{as bs:List Nat}(ha:ts[a]? = some (.of x as))(hc:ts[c]? = some (.of y bs))(hl:as.length=bs.length):cx ts M a c=cx ts M c a:=by
 have ea:cE ts a c=gj as bs:=by unfold cE;rw[ha,hc];rfl
 have ec:cE ts c a=gj bs as:=by unfold cE;rw[ha,hc];rfl
 unfold cx
 rw[ea,ec,uJ _ as bs hl,uJ _ bs as hl.symm,hl]
 congr 1
 refine LQ fun k hk =>?_
 unfold rk
 have hv:bs[k]? = some bs[k]:=aj hk
 have hu:as[k]? = some (as[k]'(by omega)):=aj (by omega)
 rw[hu,hv]
 dsimp only
 by_cases e:as[k]'(by omega)=bs[k]
 ·rw[if_pos e,if_pos e.symm]
 ·rw[if_neg e,if_neg (fun z=>e z.symm),sy]
abbrev eg:=Nat × Nat × Option Nat
inductive iM(ts:List Tm)(es:List bY):eg->Prop
 | dH (a b p:Nat) (e:bY):es[p]? = some e->((e.1=a∧e.2.1=b)∨(e.1=b∧e.2.1=a))->aL ts es a b=some e.2.2->iM ts es (a,b,some p)
 | gy (a b:Nat) (x:Str) (as bs:List Nat):a≠b->ts[a]? = some (.of x as)->ts[b]? = some (.of x bs)->as.length=bs.length->(∀ p∈cE ts a b,∃ k,aL ts es p.1 p.2=some k)->aL ts es a b=some (cx ts (aL ts es) a b)->iM ts es (a,b,none)
def both(l:List eg)(c:Nat):List eg:=l.flatMap fun t=>(if t.1=c then [t] else []) ++ (if t.2.1=c then [(t.2.1,t.1,t.2.2)] else [])
def BI(M:Mx)(es:List bY)(p:Nat):List eg:=match es[p]? with
 | some e=>if M e.1 e.2.1=some e.2.2 then [(e.1,e.2.1,some p)] else []
 | none => []
def sP(M:Mx)(es:List bY)(i:Nat):List eg:=(bA i).flatMap (BI M es)
def zB(ts:List Tm)(M:Mx)(l:List (Nat × Nat)):List eg:=l.flatMap fun p=>if M p.1 p.2=some (cx ts M p.1 p.2) then [(p.1,p.2,none)] else []
def xD(ts:List Tm)(es:List bY)(lp:List (Nat × Nat)):List eg:=sP (aL ts es) es es.length ++ zB ts (aL ts es) lp
theorem vF{l:List eg}{c:Nat}{s:eg}:s∈both l c↔∃ t∈l,(t.1=c∧s=t)∨(t.2.1=c∧s=(t.2.1,t.1,t.2.2)):=by
 unfold both
 rw[gU]
 refine exists_congr fun t=>and_congr_right fun _ =>?_
 rw[au]
 refine or_congr ?_ ?_
 ·by_cases e:t.1=c
  ·rw[if_pos e,ax];exact⟨fun h=>⟨e,h⟩,fun h=>h.2⟩
  ·rw[if_neg e];exact⟨(fun h=>nomatch h),fun h=>absurd h.1 e⟩
 ·by_cases e:t.2.1=c
  ·rw[if_pos e,ax];exact⟨fun h=>⟨e,h⟩,fun h=>h.2⟩
  ·rw[if_neg e];exact⟨(fun h=>nomatch h),fun h=>absurd h.1 e⟩
theorem F5{M:Mx}{i:Nat}{s:eg}:s∈sP M es i↔∃ p e,p < i∧es[p]? = some e∧M e.1 e.2.1=some e.2.2∧s=(e.1,e.2.1,some p):=by
 unfold sP
 rw[gU]
 constructor
 ·rintro⟨p,hp,h⟩
  have hp:=cI.mp hp
  unfold BI at h
  cases e:es[p]? with
  | none=>rw[e]at h;exact nomatch h
  | some d =>
   rw[e]at h
   dsimp only at h
   by_cases q:M d.1 d.2.1=some d.2.2
   ·rw[if_pos q]at h;exact⟨p,d,hp,e,q,ax.mp h⟩
   ·rw[if_neg q]at h;exact nomatch h
 ·rintro⟨p,d,hp,e,q,rfl⟩
  refine⟨p,cI.mpr hp,?_⟩
  unfold BI
  rw[e]
  dsimp only
  rw[if_pos q];exact bg _
theorem FV{M:Mx}{l:List (Nat × Nat)}{s:eg}:s∈zB ts M l↔∃ p∈l,M p.1 p.2=some (cx ts M p.1 p.2)∧s=(p.1,p.2,none):=by
 unfold zB
 rw[gU]
 refine exists_congr fun p=>and_congr_right fun _ =>?_
 by_cases q:M p.1 p.2=some (cx ts M p.1 p.2)
 ·rw[if_pos q,ax];exact⟨fun h=>⟨q,h⟩,fun h=>h.2⟩
 ·rw[if_neg q];exact⟨(fun h=>nomatch h),fun h=>absurd h.1 q⟩
theorem iM.flip{s:eg}(h:iM ts es s):iM ts es (s.2.1,s.1,s.2.2):=by
 cases h with
 | dH a b p e h1 h2 h3=>exact .dH b a p e h1 (h2.elim .inr .inl) (by rw[lG];exact h3)
 | gy a b x as bs h0 h1 h2 h3 h4 h5 =>
  refine .gy b a x bs as (fun z=>h0 z.symm) h2 h1 h3.symm (fun p hp =>?_) ?_
  ·have ea:cE ts a b=gj as bs:=by unfold cE;rw[h1,h2];rfl
   have eb:cE ts b a=gj bs as:=by unfold cE;rw[h1,h2];rfl
   rw[eb]at hp
   obtain⟨n,k,u,v⟩:=iu.mp hp
   obtain⟨m,e⟩:=h4 (p.2,p.1) (by rw[ea];exact iu.mpr ⟨fun z=>n z.symm,k,v,u⟩)
   exact⟨m,by rw[lG];exact e⟩
  ·rw[lG, <- GP lG h1 h2 h3];exact h5
theorem iM.dist{s:eg}(h:iM ts es s):∃ k,aL ts es s.1 s.2.1=some k:=by
 cases h with
 | dH a b p e h1 h2 h3=>exact⟨_,h3⟩
 | gy a b x as bs h0 h1 h2 h3 h4 h5=>exact⟨_,h5⟩
def LN(ts:List Tm)(es:List bY)(lp:List (Nat × Nat)):Prop := ∀ p∈lp,∀ q∈cE ts p.1 p.2,∃ k,aL ts es q.1 q.2=some k
theorem S0{ls:List Nat}{lp:List (Nat × Nat)}{nd:Nat × Nat->List (Nat × Nat)}(hp:LP ts ls lp nd)(arm:LN ts es lp){c:Nat}{s:eg}(h:s∈both (xD ts es lp) c):iM ts es s∧s.1=c:=by
 obtain⟨t,ht,h⟩:=vF.mp h
 have ok:iM ts es t:=by
  unfold xD at ht
  rcases au.mp ht with ht | ht
  ·obtain⟨p,e,_,h1,h2,rfl⟩:=F5.mp ht
   exact .dH _ _ p e h1 (.inl ⟨O,O⟩) h2
  ·obtain⟨p,Ei,h1,rfl⟩:=FV.mp ht
   obtain⟨lt,x,as,bs,ha,hb,hl⟩:=hp.at_ p Ei
   exact .gy _ _ x as bs (by omega) ha hb hl (arm p Ei) h1
 rcases h with⟨h1,rfl⟩ | ⟨h1,rfl⟩
 ·exact⟨ok,h1⟩
 ·exact⟨ok.flip,h1⟩
theorem S1{ls:List Nat}{lp:List (Nat × Nat)}{nd:Nat × Nat->List (Nat × Nat)}(hp:LP ts ls lp nd)(he:∀ e∈es,1<=e.2.2)(nc:rJ ts)(lead:∀ a b k,fS ts es a b k->a < ts.length->b < ts.length->ls.getD a 0=ls.getD b 0){a b k:Nat}(h:aL ts es a b=some k)(ne:a≠b):∃ s∈both (xD ts es lp) a,∃ m r,aL ts es a s.2.1=some m∧aL ts es s.2.1 b=some r∧m+r=k:=by
 obtain⟨c,m,r,o,hm,hr,e,nac⟩:=O6 he h ne
 have mG:∀ {i:Nat}{x:Str}{as:List Nat}{k u:Nat},ts[i]? = some (.of x as)->as[k]? = some u->u < ts.length:=fun {i x as k u} h1 h2=>Bc (nc i x as h1 u (ak h2)) (ai.mp h1).1
 cases o with
 | dH h =>
  obtain⟨p,QZ⟩:=aU h
  refine⟨(a,c,some p),vF.mpr ⟨(a,c,some p),au.mpr (.inl (F5.mpr ⟨p,(a,c,m),(ai.mp QZ).1,QZ,hm,O⟩)),.inl ⟨O,O⟩⟩,m,r,hm,hr,e⟩
 | back h =>
  obtain⟨p,QZ⟩:=aU h
  refine⟨(a,c,some p),vF.mpr ⟨(c,a,some p),au.mpr (.inl (F5.mpr ⟨p,(c,a,m),(ai.mp QZ).1,QZ,by rw[lG];exact hm,O⟩)),.inr ⟨O,O⟩⟩,m,r,hm,hr,e⟩
 | @gy _ _ x as bs f h1 h2 hl hf =>
  have ll:=OE h1 h2 hl hf hm
  rcases Nat.lt_or_gt_of_ne nac with q | q
  ·have tD:=hp.all a c x as bs q h1 h2 hl fun k u v hu hv=>lead u v _ (hf k u v hu hv) (mG h1 hu) (mG h2 hv)
   exact⟨(a,c,none),vF.mpr ⟨(a,c,none),au.mpr (.inr (FV.mpr ⟨(a,c),tD,by dsimp only;rw[ll];exact hm,O⟩)),.inl ⟨O,O⟩⟩,_,r,hm,hr,e⟩
  ·have tD:=hp.all c a x bs as q h2 h1 hl.symm fun k u v hu hv=>(lead v u _ (hf k v u hv hu) (mG h1 hv) (mG h2 hu)).symm
   exact⟨(a,c,none),vF.mpr ⟨(c,a,none),au.mpr (.inr (FV.mpr ⟨(c,a),tD,by dsimp only;rw[<- GP lG h1 h2 hl,ll,lG];exact hm,O⟩)),.inr ⟨O,O⟩⟩,_,r,hm,hr,e⟩
def Chain(ts:List Tm)(es:List bY):Nat->List eg->Nat->Prop
 | a, [],b=>a=b
 | a,s :: l,b=>s.1=a∧iM ts es s∧Chain ts es s.2.1 l b
def iU(M:Mx):List eg->Nat
 | []=>0
 | s :: l=>(M s.1 s.2.1).getD 0+iU M l
theorem DF{M:Mx}{s:eg}:∀ {l:List eg},iU M (l ++ [s])=iU M l+(M s.1 s.2.1).getD 0
 | []=>by show _+0=0+_;omega
 | t :: l=>by show _+iU M (l ++ [s])=_+iU M l+_;rw[DF];omega
theorem Gq{M:Mx}{s:eg}:∀ {l:List eg},s∈l->(M s.1 s.2.1).getD 0<=iU M l
 | t :: l,h=>by
  show _<=_+iU M l
  rcases aW.mp h with rfl | h
  ·omega
  ·have:=Gq (M:=M) h;omega
theorem EI{s:eg}(ok:iM ts es s):∀ {l:List eg}{a c:Nat},Chain ts es a l c->s.1=c->Chain ts es a (l ++ [s]) s.2.1
 | [],a,c,h,e=>⟨by rw[e];exact h.symm,ok,O⟩
 | t :: l,a,c,h,e=>⟨h.1,h.2.1,EI ok h.2.2 e⟩
theorem Hq:∀ {l:List eg}{a b:Nat}{i:Nat}{s:eg},Chain ts es a l b->l[i]? = some s->Chain ts es a (l.take i) s.1∧iM ts es s
 | t :: l,a,b,0,s,h,e=>by cases e;exact⟨h.1.symm,h.2.1⟩
 | t :: l,a,b,i+1,s,h,e=>by
  obtain⟨h1,h2⟩:=Hq (l:=l) h.2.2 (i:=i) (s:=s) e
  exact⟨⟨h.1,h.2.1,h1⟩,h2⟩
structure uF(ts:List Tm)(es:List bY)(a b:Nat)(l:List eg):Prop where
 lt:a < ts.length∧b < ts.length
 ch:Chain ts es a l b
 sum:aL ts es a b=some (iU (aL ts es) l)
 len:l.length<=ts.length
def fh(ts:List Tm)(l:List eg):List (Nat × Nat):=l.flatMap fun s=>if s.2.2=none then cE ts s.1 s.2.1 else []
theorem N1{l:List eg}{p:Nat × Nat}:p∈fh ts l↔∃ s∈l,s.2.2=none∧p∈cE ts s.1 s.2.1:=by
 unfold fh
 rw[gU]
 refine exists_congr fun s=>and_congr_right fun _ =>?_
 by_cases q:s.2.2=none
 ·rw[if_pos q];exact⟨fun h=>⟨q,h⟩,fun h=>h.2⟩
 ·rw[if_neg q];exact⟨(fun h=>nomatch h),fun h=>absurd h.1 q⟩
theorem Ho{l:List eg}{a b:Nat}(h:Chain ts es a l b){s:eg}(hs:s∈l):iM ts es s:=by
 obtain⟨i,hi⟩:=aU hs
 exact(Hq h hi).2
theorem B0(nc:rJ ts){a b:Nat}{l:List eg}(r:uF ts es a b l){p:Nat × Nat}(hp:p∈fh ts l):∃ k,aL ts es p.1 p.2=some k∧k < iU (aL ts es) l∧p.1+1 < ts.length∧p.2+1 < ts.length∧p.1≠p.2:=by
 obtain⟨s,hs,hn,hu⟩:=N1.mp hp
 have ok:=Ho r.ch hs
 cases ok with
 | dH=>cases hn
 | gy a b x as bs h0 h1 h2 h3 h4 h5 =>
  obtain⟨k,hk⟩:=h4 p hu
  have t:=Gq (M:=aL ts es) hs
  have t:(aL ts es a b).getD 0<=iU (aL ts es) l:=t
  have hu:p∈cE ts a b:=hu
  rw[h5]at t
  have m:(aL ts es p.1 p.2).getD 0<=_:=uZ (g:=fun p=>(aL ts es p.1 p.2).getD 0) hu
  rw[hk]at m
  have t:cx ts (aL ts es) a b<=_:=t
  unfold cx at t
  have m:k<=_:=m
  have ea:cE ts a b=gj as bs:=by unfold cE;rw[h1,h2];rfl
  rw[ea]at hu
  obtain⟨gw,j,e1,e2⟩:=iu.mp hu
  have b1:=nc _ _ _ h1 _ (ak e1)
  have b2:=(ai.mp h1).1
  have b3:=nc _ _ _ h2 _ (ak e2)
  have b4:=(ai.mp h2).1
  exact⟨k,hk,by omega,by omega,by omega,gw⟩
theorem alloc{H:Hp}{t:Addr}(h:H t=none)(o:HO):∃ H',upd H t o=H'∧bJ H H'∧H' t=some o:=⟨_,O,bo h o,aF⟩
abbrev ky:=(Nat × Nat) × List eg
structure vN(ts:List Tm)(es:List bY)(a b d:Nat)(rs:List ky)(iE:List (Nat × Nat)):Prop where
 key:(rs.map dB).Nodup
 row:∀ r∈rs,uF ts es r.1.1 r.1.2 r.2
 top:∀ q,q∈iE∨q∈rs.map dB->q.1 < ts.length∧q.2 < ts.length∧∃ k,aL ts es q.1 q.2=some k∧(q=(a,b)∨(k < d∧q.1+1 < ts.length∧q.2+1 < ts.length∧q.1≠q.2))
 cl:∀ r∈rs,∀ p∈fh ts r.2,p∈iE∨p∈rs.map dB
 has:(a,b)∈iE∨(a,b)∈rs.map dB
theorem vN.start{a b d:Nat}(ha:a < ts.length)(hb:b < ts.length)(hd:aL ts es a b=some d):vN ts es a b d [] [(a,b)] where
 key := .nil
 row:=fun r h=>nomatch h
 top:=fun q h=>h.elim (fun h=>by rw[ax.mp h];exact⟨ha,hb,d,hd,.inl rfl⟩) fun h=>nomatch h
 cl:=fun r h=>nomatch h
 has := .inl (bg _)
theorem vN.skip{a b d:Nat}{rs:List ky}{iE:List (Nat × Nat)}{q:Nat × Nat}(h:vN ts es a b d rs (iE ++ [q]))(hq:q∈rs.map dB):vN ts es a b d rs iE:=by
 have less:∀ p,p∈iE ++ [q]∨p∈rs.map dB->p∈iE∨p∈rs.map dB:=fun p z=>z.elim (fun z=>(au.mp z).elim .inl fun z => .inr (by rw[ax.mp z];exact hq)) .inr
 exact⟨h.key,h.row,fun p z=>h.top p (z.imp (fun z=>au.mpr (.inl z)) id),fun r hr p hp=>less p (h.cl r hr p hp),less _ h.has⟩
theorem vN.add(nc:rJ ts){a b d:Nat}(hd:aL ts es a b=some d){rs:List ky}{iE:List (Nat × Nat)}{q:Nat × Nat}{l:List eg}(h:vN ts es a b d rs (iE ++ [q]))(hq:q ∉ rs.map dB)(ok:uF ts es q.1 q.2 l):vN ts es a b d (rs ++ [(q,l)]) (iE ++ fh ts l):=by
 have em:(rs ++ [(q,l)]).map dB=rs.map dB ++ [q]:=by rw[dv];rfl
 have more:∀ p,p∈iE ++ [q]∨p∈rs.map dB->p∈iE ++ fh ts l∨p∈(rs ++ [(q,l)]).map dB:=fun p z=>by
  rw[em]
  rcases z with z | z
  ·rcases au.mp z with z | z
   ·exact .inl (au.mpr (.inl z))
   ·exact .inr (au.mpr (.inr z))
  ·exact .inr (au.mpr (.inl z))
 refine⟨?_,fun r hr =>?_,fun p z =>?_,fun r hr p hp =>?_,more _ h.has⟩
 ·rw[em]
  exact eR.mpr ⟨h.key,bI.mpr ⟨nofun,.nil⟩,fun x hx y hy e=>hq (by rw[ax.mp hy]at e;rw[<- e];exact hx)⟩
 ·rcases au.mp hr with z | z
  ·exact h.row r z
  ·rw[ax.mp z];exact ok
 ·rw[em]at z
  rcases z with z | z
  ·rcases au.mp z with z | z
   ·exact h.top p (.inl (au.mpr (.inl z)))
   ·obtain⟨k,hk,lt,l1,l2,gw⟩:=B0 nc ok z
    obtain⟨_,_,k2,V2,c⟩:=h.top q (.inl (au.mpr (.inr (bg _))))
    refine⟨by omega,by omega,k,hk,.inr ⟨?_,l1,l2,gw⟩⟩
    have e:=ok.sum
    rw[V2]at e
    have e:=aD e
    rcases c with rfl | ⟨c,_⟩
    ·rw[hd]at V2;cases V2;omega
    ·omega
  ·rcases au.mp z with z | z
   ·exact h.top p (.inr z)
   ·rw[ax.mp z];exact h.top q (.inl (au.mpr (.inr (bg _))))
 ·rcases au.mp hr with z | z
  ·exact more p (h.cl r z p hp)
  ·rw[ax.mp z]at hp;exact .inl (au.mpr (.inr hp))
structure LK(ts:List Tm)(es:List bY)(a b:Nat)(rs:List ky):Prop where
 i6:(rs.map dB).Nodup
 row:∀ r∈rs,uF ts es r.1.1 r.1.2 r.2
 up:∀ (i:Nat) r,rs[i]? = some r->∀ p∈fh ts r.2,∃ j r',j < i∧rs[j]? = some r'∧r'.1=p
 last:∃ r,rs[rs.length - 1]? = some r∧r.1=(a,b)
 pos:0 < rs.length
theorem Yc(nc:rJ ts){a b d:Nat}(hd:aL ts es a b=some d){rs:List ky}(h:vN ts es a b d rs []){kU:List ky}(pm:kU.Perm rs)(ID:(kU.map dB).Pairwise fun p q=>(aL ts es p.1 p.2).getD 0<=(aL ts es q.1 q.2).getD 0):LK ts es a b kU:=by
 have mem:∀ r,r∈kU↔r∈rs:=fun r=>pm.mem_iff
 have pk:(kU.map dB).Perm (rs.map dB):=pm.map _
 have key:∀ p,p∈rs.map dB->∃ (j:Nat) (r:ky),kU[j]? = some r∧r.1=p:=fun p hp=>by
  obtain⟨r,hr,e⟩:=bj.mp (pk.mem_iff.mpr hp)
  obtain⟨j,hj⟩:=aU hr
  exact⟨j,r,hj,e⟩
 have ord:∀ (i j:Nat) (r s:ky),kU[i]? = some r->kU[j]? = some s->i < j->(aL ts es r.1.1 r.1.2).getD 0<=(aL ts es s.1.1 s.1.2).getD 0:=fun i j r s hi hj lt=>by
  rw[jq]at ID
  obtain⟨i1,e1⟩:=ai.mp hi
  obtain⟨j1,e2⟩:=ai.mp hj
  have:=mJ.mp ID i j i1 j1 lt
  rw[e1,e2]at this
  exact this
 have up:∀ (i:Nat) r,kU[i]? = some r->∀ p∈fh ts r.2,∃ j r',j < i∧kU[j]? = some r'∧r'.1=p:=fun i r hi p hp=>by
  have hr:=(mem r).mp (ak hi)
  have ok:=h.row r hr
  obtain⟨k,hk,lt,_⟩:=B0 nc ok hp
  obtain⟨j,r',hj,e⟩:=key p ((h.cl r hr p hp).elim nofun id)
  refine⟨j,r',?_,hj,e⟩
  rcases gI j i with z | z
  ·exact z
  exfalso
  have le:(aL ts es r.1.1 r.1.2).getD 0<=(aL ts es r'.1.1 r'.1.2).getD 0:=by
   rcases gI i j with z2 | z2
   ·exact ord i j r r' hi hj z2
   ·have:i=j:=by omega
    subst this
    rw[hi]at hj;cases hj;exact ar _
  rw[ok.sum,e,hk]at le
  have le:iU (aL ts es) r.2<=k:=le
  omega
 obtain⟨j,r,hj,e⟩:=key (a,b) (h.has.elim nofun id)
 have jl:=(ai.mp hj).1
 refine⟨pk.nodup_iff.mpr h.key,fun r hr=>h.row r ((mem r).mp hr),up,?_,by omega⟩
 obtain⟨s,hs⟩:∃ s,kU[kU.length - 1]? = some s:=⟨_,aj (by omega)⟩
 refine⟨s,hs,?_⟩
 obtain⟨_,_,k,hk,c⟩:=h.top s.1 (.inr (bj.mpr ⟨s,(mem s).mp (ak hs),O⟩))
 rcases c with c | c
 ·exact c
 ·exfalso
  have c:=c.1
  have le:(aL ts es r.1.1 r.1.2).getD 0<=(aL ts es s.1.1 s.1.2).getD 0:=by
   rcases gI j (kU.length - 1) with z | z
   ·exact ord _ _ r s hj hs z
   ·have:j=kU.length - 1:=by omega
    subst this
    rw[hs]at hj;cases hj;exact ar _
  rw[e,hk]at le
  dsimp only at le
  rw[hd]at le
  have le:d<=k:=le
  omega
end
section
variable {ts:List Tm}{es:List bY}{a b d:Nat}{Z:Nat × Nat->Prop}{rs:List ky}{iE:List (Nat × Nat)}
structure PZ(ts:List Tm)(es:List bY)(a b d:Nat)(Z:Nat × Nat->Prop)(rs:List ky)(iE:List (Nat × Nat)):Prop extends vN ts es a b d rs iE where
 Eb:∀ q,q∈iE∨q∈rs.map dB->Z q
structure R0(ts:List Tm)(es:List bY)(a b:Nat)(Z:Nat × Nat->Prop):Prop where
 top:Z (a,b)
 cl:∀ q l,Z q->uF ts es q.1 q.2 l->∀ p∈fh ts l,Z p
 dG:∀ l:List (Nat × Nat),l.Nodup->(∀ q∈l,Z q)->l.length < 64
theorem PZ.start(z:R0 ts es a b Z)(ha:a < ts.length)(hb:b < ts.length)(hd:aL ts es a b=some d):PZ ts es a b d Z [] [(a,b)] :=
 { vN.start ha hb hd with Eb:=fun q h=>h.elim (fun h=>by rw[ax.mp h];exact z.top) fun h=>nomatch h }
theorem PZ.skip{q:Nat × Nat}(h:PZ ts es a b d Z rs (iE ++ [q]))(hq:q∈rs.map dB):PZ ts es a b d Z rs iE :=
 { h.tovN.skip hq with Eb:=fun p z=>h.Eb p (z.imp (fun z=>au.mpr (.inl z)) id) }
theorem PZ.add(z:R0 ts es a b Z)(nc:rJ ts)(hd:aL ts es a b=some d){q:Nat × Nat}{l:List eg}(h:PZ ts es a b d Z rs (iE ++ [q]))(hq:q ∉ rs.map dB)(ok:uF ts es q.1 q.2 l):PZ ts es a b d Z (rs ++ [(q,l)]) (iE ++ fh ts l):=by
 have zq:=h.Eb q (.inl (au.mpr (.inr (bg _))))
 refine { h.tovN.add nc hd hq ok with Eb:=fun p y =>?_ }
 rcases y with y | y
 ·rcases au.mp y with y | y
  ·exact h.Eb p (.inl (au.mpr (.inl y)))
  ·exact z.cl q l zq ok p y
 ·rw[dv]at y
  rcases au.mp y with y | y
  ·exact h.Eb p (.inr y)
  ·rw[ax.mp y];exact zq
theorem PZ.dG(h:PZ ts es a b d Z rs iE)(z:R0 ts es a b Z):rs.length < 64:=by
 have:=z.dG _ h.key fun q hq=>h.Eb q (.inr hq)
 rw[az]at this
 exact this
end
section
variable {ts:List Tm}{es:List bY}{a b w:Nat}
theorem Gr{f:Nat->Nat}{k:Nat}:∀ {n:Nat},k < n->f k<=sumTo f n
 | n+1,h=>by
  rw[sumTo]
  rcases hJ (BR h) with z | z
  ·have:=Gr (f:=f) z;omega
  ·subst z;omega
theorem y4{u v n:Nat}(h:fS ts (es ++ [(a,b,w)]) u v n):n < w->fS ts es u v n:=by
 induction h with
 | refl a=>intro _;exact .refl a
 | dH h =>
  intro l
  rcases au.mp h with z | z
  ·exact .dH z
  ·cases ax.mp z;omega
 | symm _ ih=>intro l;exact .symm (ih l)
 | trans _ _ i1 i2=>intro l;exact .trans (i1 (by omega)) (i2 (by omega))
 | @gy a b x as bs f h1 h2 hl hf ih =>
  intro l
  refine .gy f h1 h2 hl fun k u v hu hv=>ih k u v hu hv ?_
  have:=Gr (f:=f) (ai.mp hu).1
  omega
def SF(ts:List Tm)(es:List bY)(a b:Nat):Prop := ∀ n, ¬ fS ts es a b n
theorem He(oy:SF ts es a b):aL ts (es ++ [(a,b,w)]) a b=some w:=by
 obtain⟨k,e,hk⟩:=uR (fS.dH (ts:=ts) (es:=es ++ [(a,b,w)]) (au.mpr (.inr (bg _))))
 have:=(dM e).1
 rcases hJ hk with z | z
 ·exact absurd (y4 this z) (oy k)
 ·rw[e,z]
theorem EJ{es:List bY}:∀ {l:List eg}{u v:Nat},Chain ts es u l v->fS ts es u v (iU (aL ts es) l)
 | [],u,v,h=>by cases (show u=v from h);exact .refl u
 | s :: l,u,v,h=>by
  obtain⟨h1,h2,h3⟩:=h
  subst h1
  obtain⟨k,hk⟩:=h2.dist
  show fS ts es s.1 v ((aL ts es s.1 s.2.1).getD 0+iU (aL ts es) l)
  rw[hk]
  exact .trans (dM hk).1 (EJ h3)
theorem iM.pos{es:List bY}(he:∀ e∈es,1<=e.2.2){s:eg}(h:iM ts es s):∃ k,aL ts es s.1 s.2.1=some k∧1<=k:=by
 cases h with
 | dH a b p e h1 h2 h3=>exact⟨_,h3,he _ (ak h1)⟩
 | gy a b x as bs h0 h1 h2 h3 h4 h5=>exact⟨_,h5,by unfold cx;omega⟩
theorem O9{es:List bY}(he:∀ e∈es,1<=e.2.2){l:List eg}{u v:Nat}(h:Chain ts es u l v)(z:iU (aL ts es) l=0):l = []:=by
 cases l with
 | nil=>rfl
 | cons s l =>
  obtain⟨k,hk,k1⟩:=h.2.1.pos he
  have z:(aL ts es s.1 s.2.1).getD 0+iU (aL ts es) l=0:=z
  rw[hk]at z
  have z:k+iU (aL ts es) l=0:=z
  omega
theorem K0(he:∀ e∈es ++ [(a,b,w)],1<=e.2.2)(oy:SF ts es a b){l:List eg}(r:uF ts (es ++ [(a,b,w)]) a b l):l = [(a,b,some es.length)]:=by
 have hs:=r.sum
 rw[He oy]at hs
 have hs:w=iU (aL ts (es ++ [(a,b,w)])) l:=aD hs
 have hc:=r.ch
 cases l with
 | nil =>
  cases (show a=b from hc)
  exact absurd (.refl a) (oy 0)
 | cons s l =>
  obtain⟨h1,h2,h3⟩:=hc
  obtain⟨k,hk,k1⟩:=h2.pos he
  have hs:w=(aL ts (es ++ [(a,b,w)]) s.1 s.2.1).getD 0+iU (aL ts (es ++ [(a,b,w)])) l:=hs
  rw[hk]at hs
  have hs:w=k+iU (aL ts (es ++ [(a,b,w)])) l:=hs
  have rest:=EJ h3
  -- a step alw is not oY new dH adp in its class
  have gY:fS ts es s.1 s.2.1 k->False:=fun z=>by
   rw[h1]at z
   have:=y4 rest (by omega)
   exact oy _ (.trans z this)
  by_cases lk:k < w
  ·exact(gY (y4 (dM hk).1 lk)).elim
  have kw:k=w:=by omega
  subst kw
  have l0:=O9 he h3 (by omega)
  subst l0
  have eb:s.2.1=b:=h3
  cases h2 with
  | dH x y p e g1 g2 g3 =>
   have h1:x=a:=h1
   have eb:y=b:=eb
   subst h1 eb
   by_cases hp:p < es.length
   ·rw[eL hp]at g1
    have hm:=ak g1
    obtain⟨e0,e1,e2⟩:=e
    rcases g2 with⟨z1,z2⟩ | ⟨z1,z2⟩
    ·exact absurd (.dH (by rw[<- z1, <- z2];exact hm)) (oy e2)
    ·exact absurd (.symm (.dH (by rw[<- z1, <- z2];exact hm))) (oy e2)
   ·have:=(ai.mp g1).1
    rw[aG,cX]at this
    rw[show p=es.length by omega]
  | gy x y z as bs g0 g1 g2 g3 g4 g5 =>
   exfalso
   have h1:x=a:=h1
   have eb:y=b:=eb
   subst h1 eb
   have hk:aL ts (es ++ [(x,y,k)]) x y=some k:=hk
   rw[g5]at hk
   have hk:=aD hk
   unfold cx at hk
   have ea:cE ts x y=gj as bs:=by unfold cE;rw[g1,g2];rfl
   refine oy (1+sumTo (fun i=>if as[i]? = bs[i]? then 0 else ((aL ts es (as.getD i 0) (bs.getD i 0)).getD 0)) as.length) (.gy _ g1 g2 g3 fun i u v hu hv =>?_)
   rw[hu,hv,bc,bc,hu,hv]
   by_cases KS:u=v
   ·rw[if_pos (by rw[KS]),KS];exact .refl v
   ·rw[if_neg (fun z=>KS (aD z))]
    have hm:(u,v)∈cE ts x y:=by rw[ea];exact iu.mpr ⟨KS,i,hu,hv⟩
    obtain⟨m,Kf⟩:=g4 (u,v) hm
    have le:(aL ts (es ++ [(x,y,k)]) u v).getD 0<=_:=uZ (g:=fun p=>(aL ts (es ++ [(x,y,k)]) p.1 p.2).getD 0) hm
    have Kf:aL ts (es ++ [(x,y,k)]) u v=some m:=Kf
    rw[Kf]at le
    have le:m<=_:=le
    obtain⟨n,hn,_⟩:=uR (y4 (dM Kf).1 (by omega))
    show fS ts es u v ((aL ts es u v).getD 0)
    rw[hn]
    exact(dM hn).1
theorem UE(he:∀ e∈es ++ [(a,b,w)],1<=e.2.2)(oy:SF ts es a b):R0 ts (es ++ [(a,b,w)]) a b (fun q=>q=(a,b)) where
 top:=rfl
 cl:=fun q l z r p hp=>by
  subst z
  rw[K0 he oy r]at hp
  cases hp
 dG:=fun l nd h=>by
  have:=lE (U := [(a,b)]) nd fun q hq=>by rw[h q hq];exact bg _
  exact gh this (by show 1 < 64;decide)
theorem Rz(he:∀ e∈es ++ [(a,b,w)],1<=e.2.2)(oy:SF ts es a b){rs:List ky}(bk:LK ts (es ++ [(a,b,w)]) a b rs)(hz:∀ r∈rs,r.1=(a,b)):rs = [((a,b), [(a,b,some es.length)])]:=by
 have hp:=bk.pos
 have row:∀ r∈rs,r=((a,b), [(a,b,some es.length)]):=fun r hr=>by
  obtain⟨q,l⟩:=r
  cases hz _ hr
  have e:l=_:=K0 he oy (bk.row _ hr)
  rw[e]
 cases rs with
 | nil=>cases hp
 | cons r rs =>
  have e1:=row r bb
  subst e1
  cases rs with
  | nil=>rfl
  | cons r2 rs =>
   have e2:=row r2 (aR _ bb)
   subst e2
   have:=bk.i6
   simp at this
end
end Sw
namespace L2
open PySem PySem.Spec PyProof.Rows
section
variable {X:Cx}
theorem Jf{e:Expr}{te:XK->TE}{pos:Pos}(he:PEt X e te)(hs:swapsWith e none pos.line X.env=pure false:=by rfl):PSt X [.Expr e pos] (fun E=>Vh (te E)):=by
 intro E ah s Y H D xe W I h
 exact wpAny_execs_cons (wpAny_Expr_any (bB (he E ah s Y H _ xe W I h) fun v s1 ⟨x,H1,I1,r1,q1⟩=>wpAny_execs_nil ⟨Y,H1,I1,q1⟩) I.quiet hs)
end
end L2
namespace L2
open PySem PySem.Spec PySem.W PyProof.Rows PySem.Calls
section
variable {prog:Program}{w:World}{A:Around}{E:Value->Shared->Prop}{s:Shared}
theorem Za{a kS:Addr}{vs:List Value}{keys:Array Value}{kz:List Int}{e e1:Nat}{P:Hz->Shared->Prop}(hk:s.heap.get? kS=some (seqObj "list" keys e))(ha:s.heap.get? a=some (seqObj "list" #[] e1))(gw:kS≠a)(hI:IntsAre keys.toList kz)(hl:kz.length=vs.length)(hz:vs.length < 64)(q:∀ (h':Heap) (tk:Nat) (gY:Array Value) (c:Nat),(∀ b o,b≠kS->b≠a->s.heap.get? b=some o->h'.get? b=some o)->h'.get? a=some (seqObj "list" gY c)->KskOut false kz vs gY.toList->P (.done (.ret .none)) { s with heap:=h',toks:=tk }) :
  wpAny (model prog w) A (ksk_end a false vs.toArray e1 (.ref kS) keys) P E s:=by
 have zl:vs.length<=sizeLine:=by rw[sizeLine_eq];omega
 have sz:keys.size=vs.length:=by
  have h:=hI.length
  rw[dA]at h
  omega
 have pz:(keys.zip vs.toArray).size=vs.length:=by rw[Array.size_zip,sz,aJ,Nat.min_self]
 have fin:∀ st:SortSt,(arrOf st).Perm (keys.zip vs.toArray)->SortedTo (arrOf st) (arrOf st).size->failedOf st=none->wpAny (model prog w) A (ksk_tail a false e1 (.ref kS) st) P E s:=fun st pm so fl=>by
  have MA:=fun (b:Addr) (hb:b≠kS)=>(cO s.heap kS (ij fun _=>(#[]:Array Value))).2 b hb
  have ha1:=(MA a (cm gw)).trans ha
  unfold ksk_tail
  refine wpAny_bind (listUpdate_at hk rfl (wpAny_bind (wpAny_letGo (wpAny_bind (seqEpoch_at ha1 rfl (wpAny_bind (listUpdate_at ha1 rfl ?_ (bx _) ?_)))))) (by rw[sz];exact zl) (bx _))
  ·rw[fl]
   simp only[bne_self_eq_false,dP,if_false]
   refine wpAny_pure (q _ _ _ _ (fun b o n1 n2 z =>?_) (get?_update_seq ha1 _) (ksk_out (b:=false) hI pm so))
   exact((cO _ a _).2 b n2).trans ((MA b n1).trans z)
  ·show (if false=true then _ else (arrOf st).map (·.2)).size<=_
   rw[if_neg a5,Array.size_map,pm.size_eq,pz]
   exact uo zl
 unfold ksk_end
 dsimp only
 rw[if_neg a5]
 by_cases h2:vs.toArray.size < 2
 ·rw[if_pos h2,if_pos h2]
  refine wpAny_bind (wpAny_pure ?_)
  rw[StateT.run_pure]
  refine wpAny_bind (wpAny_pure (fin _ (Fg _) (fun i j AR hj =>?_) rfl))
  have hj:j < (keys.zip vs.toArray).size:=hj
  rw[pz]at hj
  rw[aJ]at h2
  have:i=j:=by omega
  subst this
  exact Int.le_refl _
 ·rw[if_neg h2,if_neg h2]
  rw[aJ]at h2
  rw[ksk_kind hI (by omega)]
  refine wpAny_bind (wpAny_pure (wpAny_bind (wpAny_mono (wpS_sortRuns (a₀ := keys.zip vs.toArray) (st:=SortSt.mk' oneType' (keys.zip vs.toArray) #[] 7 none)
   (Q:=fun _ t=>(arrOf t).Perm (keys.zip vs.toArray)∧failedOf t=none∧SortedTo (arrOf t) (keys.zip vs.toArray).size) (ksk_intKeys hI) ⟨Fg _,O,O,O⟩ (by rw[pz];omega) (by rw[pz];exact hz) fun t p1 p2 p3=>⟨p1,p2,p3⟩) (fun r t z =>?_) fun _ _ z=>z)))
  obtain⟨⟨⟩,st⟩:=r
  obtain⟨rfl,pm,fl,so⟩:=z
  exact fin st pm (by rw[pm.size_eq];exact so) fl
theorem Xc{a kS:Addr}{f:Value}{vs:List Value}{kz:List Int}{e1:Nat}{P:Hz->Shared->Prop}(hk:s.heap.get? kS=some (seqObj "list" #[] 0))(ha:s.heap.get? a=some (seqObj "list" #[] e1))(gw:kS≠a)(hl:kz.length=vs.length)(hz:vs.length < 64)(turn:∀ (i:Nat) (v:Value) (k:Int),vs[i]? = some v->kz[i]? = some k->∀ (h:Heap) (tk:Nat),(∀ b o,b≠kS->s.heap.get? b=some o->h.get? b=some o) ->
   wpAny (model prog w) A (call f [v]) (fun u t=>∃ h' sj tt,t={ s with heap:=h',toks:=sj }∧u = .int k tt∧∀ b o,h.get? b=some o->h'.get? b=some o) (fun _ _=>False) { s with heap:=h,toks:=tk })(q:∀ (h':Heap) (tk:Nat) (gY:Array Value) (c:Nat),(∀ b o,b≠kS->b≠a->s.heap.get? b=some o->h'.get? b=some o)->h'.get? a=some (seqObj "list" gY c)->KskOut false kz vs gY.toList->P (.done (.ret .none)) { s with heap:=h',toks:=tk }) :
  wpAny (model prog w) A (ksk_rest a f false vs.toArray e1 (.ref kS)) P E s:=by
 have zl:vs.length+1<=sizeLine:=by rw[sizeLine_eq];omega
 unfold ksk_rest
 refine wpAny_bind (wpAny_rule ?_)
 rw[List.forIn_toArray]
 refine wpAny_bind (ksk_fold (fun i s'=>∃ h tk kA e,s'={ s with heap:=h,toks:=tk }∧(∀ b o,b≠kS->s.heap.get? b=some o->h.get? b=some o)∧h.get? kS=some (seqObj "list" kA e)∧IntsAre kA.toList (kz.take i)) vs 0 s
  ⟨s.heap,s.toks, #[],0,O,fun _ _ _ z=>z,hk,by simpa using IntsAre.nil⟩ (fun j x s' hx hh =>?_) fun s' hh =>?_)
 ·obtain⟨h,tk,kA,e,rfl,kp,V1,hi⟩:=hh
  rw[ql]at hi ⊢
  have hj:=(ai.mp hx).1
  have V0:kz[j]? = some (kz[j]'(by omega)):=aj (by omega)
  have hs:kA.size<=vs.length:=by
   have h1:=hi.length
   rw[dA,bW]at h1
   omega
  refine wpAny_bind (wpAny_attempt (wpAny_mono (turn j x _ hx V0 h tk kp) (fun u t z =>?_) fun _ _ z=>z.elim))
  obtain⟨h',sj,tt,rfl,rfl,k2⟩:=z
  have abi:=k2 _ _ V1
  dsimp only
  refine wpAny_bind (listUpdate_at (s := { s with heap:=h',toks:=sj }) abi rfl (wpAny_pure ⟨O,_,_,_,_,O,fun b o n z =>?_,get?_update_seq abi _,?_⟩) (by omega) (by rw[Array.size_push];omega))
  ·exact((cO h' kS _).2 b n).trans (k2 b o (kp b o n z))
  ·rw[Array.toList_push,iw,V0]
   exact ksk_snoc hi
 ·obtain⟨h,tk,kA,e,rfl,kp,V1,hi⟩:=hh
  rw[ql, <- hl,bK]at hi
  refine wpAny_bind (listItems_at (s := { s with heap:=h,toks:=tk }) V1 rfl ?_)
  exact Za (s := { s with heap:=h,toks:=tk }) V1 (kp _ _ (cm gw) ha) gw hi hl hz fun h' sj gY c k2 g ko=>q h' sj gY c (fun b o n1 n2 z=>k2 b o n1 n2 (kp b o n1 z)) g ko
theorem Xb{a:Addr}{f:Value}{vs:List Value}{kz:List Int}{n:Nat}{P:Hz->Shared->Prop}(ho:s.heap.get? a=some (seqObj "list" vs.toArray n))(hl:kz.length=vs.length)(hz:vs.length < 64)(turn:∀ (i:Nat) (v:Value) (k:Int),vs[i]? = some v->kz[i]? = some k->∀ (h:Heap) (tk:Nat),(∀ b o,b≠a->s.heap.get? b=some o->h.get? b=some o) ->
   wpAny (model prog w) A (call f [v]) (fun u t=>∃ h' sj tt,t={ s with heap:=h',toks:=sj }∧u = .int k tt∧∀ b o,h.get? b=some o->h'.get? b=some o) (fun _ _=>False) { s with heap:=h,toks:=tk })(q:∀ (h':Heap) (tk:Nat) (gY:Array Value) (c:Nat),(∀ b o,b≠a->s.heap.get? b=some o->h'.get? b=some o)->h'.get? a=some (seqObj "list" gY c)->KskOut false kz vs gY.toList->P (.done (.ret .none)) { s with heap:=h',toks:=tk }) :
  wpAny (model prog w) A (ksk_tree a f false) P E s:=by
 have lt:a < s.heap.objs.size:=aP ho
 have zl:vs.toArray.size<=sizeLine:=by rw[aJ,sizeLine_eq];omega
 obtain⟨m,o1⟩:∃ m,(s.heap.update a (ij fun _=>(#[]:Array Value))).get? a=some (seqObj "list" #[] m):=⟨_,get?_update_seq ho _⟩
 have MA:=fun (b:Addr) (hb:b≠a)=>(cO s.heap a (ij fun _=>(#[]:Array Value))).2 b hb
 have us:(s.heap.update a (ij fun _=>(#[]:Array Value))).objs.size=s.heap.objs.size:=Heap.size_update ..
 unfold ksk_tree
 refine wpAny_bind (listItems_at ho rfl (wpAny_bind (listUpdate_at ho rfl ?_ zl (bx _))))
 refine wpAny_bind (seqEpoch_at (s := { s with heap:=_ }) o1 rfl (wpAny_bind (wpAny_newTuple (wpAny_bind (wpAny_newList (wpAny_holding ?_))))))
 generalize s.heap.update a (ij fun _=>(#[]:Array Value))=g0 at o1 MA us ⊢
 have pk:((g0.push (seqObj "tuple" vs.toArray 0)).push (seqObj "list" #[] 0)).get? (g0.push (seqObj "tuple" vs.toArray 0)).objs.size=some (seqObj "list" #[] 0):=aT _ rfl
 have ps:(g0.push (seqObj "tuple" vs.toArray 0)).objs.size=g0.objs.size+1:=size_push' ..
 have up:∀ b o,g0.get? b=some o->((g0.push (seqObj "tuple" vs.toArray 0)).push (seqObj "list" #[] 0)).get? b=some o:=fun b o z=>ay _ (ay _ z)
 have nk:∀ b o,s.heap.get? b=some o->b≠(g0.push (seqObj "tuple" vs.toArray 0)).objs.size:=fun b o z e=>by
  have h1:b < s.heap.objs.size:=aP z
  rw[ps]at e
  rw[e, <- us]at h1
  exact absurd h1 (Nat.not_lt.mpr (rV _))
 refine Xc (s := { s with heap:=_ }) pk (up _ _ o1) (cm (nk a _ ho)) hl hz (fun i v k hv hk h tk kp=>turn i v k hv hk h tk fun b o nb z =>?_) fun h' tk gY c kp g ko=>q h' tk gY c (fun b o nb z =>?_) g ko
 ·exact kp b o (nk b o z) (up b o ((MA b nb).trans z))
 ·exact kp b o (nk b o z) nb (up b o ((MA b nb).trans z))
theorem Qe{l:Value}{f:Addr}{vs:List Value}{kz:List Int}{Q:Value->Shared->Prop}(hl:kz.length=vs.length)(hz:vs.length < 64)(hc:∀ (E':Value->Shared->Prop) (R:List Value->Shared->Prop),(∀ h' tk,(∀ b o,s.heap.get? b=some o->h'.get? b=some o)->R vs { s with heap:=h',toks:=tk })->wpAny (model prog w) A.in1 (collect l) R E' s)(turn:∀ (i:Nat) (v:Value) (k:Int),vs[i]? = some v->kz[i]? = some k->∀ (h:Heap) (tk:Nat),(∀ b o,s.heap.get? b=some o->h.get? b=some o) ->
   wpAny (model prog w) A.in1.in1 (call (.ref f) [v]) (fun u t=>∃ h' sj tt,t={ s with heap:=h',toks:=sj }∧u = .int k tt∧∀ b o,h.get? b=some o->h'.get? b=some o) (fun _ _=>False) { s with heap:=h,toks:=tk })(q:∀ (N:Addr) (h':Heap) (tk:Nat) (gY:Array Value) (c:Nat),s.heap.get? N=none->(∀ b o,s.heap.get? b=some o->h'.get? b=some o)->h'.get? N=some (seqObj "list" gY c)->KskOut false kz vs gY.toList->Q (.ref N) { s with heap:=h',toks:=tk }) :
  wpAny (model prog w) A (call (.builtin "sorted") [l] [(eX "key",.ref f)]) Q E s:=by
 refine call_function_entry_kw kind_sorted plain_sorted entry_sorted (ksk_s1 _ _) ?_
 unfold Builtin.«sorted»
 refine wpAny_bind (m:=checkCount "sorted" 1 1 _) (wpAny_pure (wpAny_bind (hc _ _ fun h1 YE k1=>wpAny_bind (wpAny_newList ?_ (by rw[sizeLine_eq];omega)))))
 have ho:(h1.push (seqObj "list" vs.toArray 0)).get? h1.objs.size=some (seqObj "list" vs.toArray 0):=aT _ rfl
 have up:∀ b o,s.heap.get? b=some o->b≠h1.objs.size∧(h1.push (seqObj "list" vs.toArray 0)).get? b=some o:=fun b o z=>⟨br (aP (k1 b o z)),ay _ (k1 b o z)⟩
 refine wpAny_bind (wpAny_holding (wpAny_call_entry_kw slot_list_sort ⟨_,ho,O⟩ entry_list_sort ?_ (ksk_l1 _ _)))
 show wpAny (model prog w) A.in1.in1 (Builtin.«list.sort» ⟨[.ref h1.objs.size], [(eX "key",.ref f)]⟩) _ _ _
 rw[ksk_t1]
 refine Xb (s := { s with heap:=_,toks:=YE }) ho hl hz (fun i v k hv hk h tk kp=>turn i v k hv hk h tk fun b o z=>kp b o (up b o z).1 (up b o z).2) fun h' tk gY c kp g ko=>⟨_,O,wpAny_pure ⟨_,O,q _ h' tk gY c ?_ (fun b o z=>kp b o (up b o z).1 (up b o z).2) g ko⟩⟩
 cases z:s.heap.get? h1.objs.size with
 | none=>rfl
 | some o=>exact absurd rfl (up _ o z).1
end
def ju(H:Hp)(P:Addr)(pos:Pos)(qual:Str):Prop :=
 H P=some (.nU #[])∨∃ c' oc vs t,H P=some (.nU #[rawInt pos.line,rawInt pos.col,.ref c'])∧H c'=some (Ext c' oc)∧oc.data = .fields vs∧vs[1]? = some (.str qual t)
def jv(P:Addr)(H H':Hp):Prop := ∀ b o,b≠P->H b=some o->H' b=some o
structure TabAt(base:Heap)(mg:Str->Option Value)(c P:Addr):Prop where
 code:CodeHd base c P
 blt:base.BuiltinsAt mg P
theorem KR{P:Program}{w:World}{H:Hp}{h:Heap}{a:Addr}{o:Obj}(e:h.get? a=some o):cY P w H h a (Ext a o) :=
 ⟨e,⟨o,e⟩,fun h1 h2 p k=>k o p⟩
section
variable {X:Cx}{c P:Addr}{params:Arguments}{body:Expr}{scope:Scope}{pos:Pos}{xr:List (Str × Addr)}
inductive acS(P:Addr)(pos:Pos)(qual:Str)(params:Arguments)(body:Expr)(scope:Scope)(xr:List (Str × Addr))(H:Hp)(Q:VK):Prop
 | mk (ht:ju H P pos qual) (q:∀ f c' oc vs t pm nh H',jv P H H'->ju H' P pos qual->H f=none->H' f=some (Ext f (kla_obj "<lambda>" qual params body scope xr pm c' nh))->H' c'=some (Ext c' oc)->oc.data = .fields vs ->
   vs[1]? = some (.str qual t)->Q (.ref f) H'):acS P pos qual params body scope xr H Q
def YO(P:Addr)(pos:Pos)(qual:Str)(params:Arguments)(body:Expr)(scope:Scope)(xr:List (Str × Addr)):TE:=fun _ H Q=>acS P pos qual params body scope xr H Q
theorem ZK(T:TabAt X.base X.mg c P)(Ig:X.env.code = .ref c)(OZ:closureFor scope X.env=pure xr)(Us:defaultsOf params X.env=([], [])) :
  PE X (.Lambda params body scope pos) (YO P pos (X.env.qual ++ "<lambda>") params body scope xr):=by
 intro ah s Y H Q I h
 obtain⟨ht,h⟩:=h
 refine kla_eval Us ?_
 have hgs:s.heap.Ns mainGlobals X.mg:=I.mod.glob.keeps I.bk
 have hC:=T.code.keeps I.bk
 have hB:s.heap.BuiltinsAt X.mg P:=let ⟨bm,o,e1,e2,e3,e4,e5,r⟩:=T.blt; ⟨bm,o,e1,e2,e3,e4,I.bk _ _ e5,r⟩
 rcases ht with ht | ⟨c',oc,vs,t,ht,uf,hd,hv⟩
 ·have hP:s.heap.get? P=some (tabObj #[]):=I.bh P _ ht
  have hgP:mainGlobals≠P:=fun q=>by
   obtain⟨o,es,ep,e,hd,_⟩:=hgs
   rw[q,hP]at e;cases e;cases hd
  refine kla_makeFunction (mg:=X.mg) (ps := #[]) OZ I.ok.glob hgs Ig hC hP trivial rfl hgP hB fun c' nh h' tk hx Kn cW ahc VR =>?_
  obtain⟨c2,oc,vs,t,e2,G0,hd,hv⟩:=ahc
  cases e2
  have VB:∀ {b:Addr},H b=none->b≠P:=fun n z=>by rw[z,ht]at n;cases n
  have hsz:s.heap.objs.size<=h'.objs.size:=jM (gh Kn cW)
  have Em:∀ (fo:Obj) (b:Addr) (o:Obj),b≠P->s.heap.get? b=some o->(h'.push fo).get? b=some o:=fun fo b o hb e=>ay _ (hx b o hb e)
  have yP:∀ (u1 u2 u3:HO) (b:Addr),b < s.heap.objs.size->b≠P->upd (upd (upd H P u1) c' u2) h'.objs.size u3 b=H b:=fun u1 u2 u3 b hb hP=>by
   rw[aE (br (bu hb hsz)),aE (br (bu hb Kn)),aE hP]
  have hfc:h'.objs.size≠c':=jK cW
  have hPs:P < s.heap.objs.size:=aP hP
  have hPc:P≠c':=br (bu hPs Kn)
  have hPf:P≠h'.objs.size:=br (bu hPs hsz)
  have hLP:X.env.locals≠P:=VB I.free
  generalize V7:kla_obj "<lambda>" (X.env.qual ++ "<lambda>") params body scope xr ((X.mg "__name__").getD .none) c' nh=fo
  have Q5:fo.isFreed=false:=by rw[<- V7];rfl
  have I2:Inv X ah Y (upd (upd (upd H P (.nU (#[] ++ #[rawInt pos.line,rawInt pos.col,.ref c']))) c' (Ext c' oc)) h'.objs.size (Ext h'.objs.size fo)) { s with heap:=h'.push fo,toks:=tk }:=by
   refine I.step (g':=s.gens) (d':=s.drawn) (ch := []) (fun _ z=>nomatch z) (fun b o _ _ _ e n=>Em fo b o (VB n) e) (fun b o _ _ _ e n=>⟨o.slots,Em fo b o (VB n) e⟩)
    (fun b o _ e n=>by rw[yP _ _ _ b (aP e) (VB n)];exact n) (fun b o _ e =>?_) (fun b xs e =>?_) (fun b o u e =>?_) (fun b ps e =>?_) (fun m hm =>?_) (fun b u e =>?_) I.bare
   ·by_cases hb:b=P
    ·exact⟨_,by rw[hb];exact ay _ VR⟩
    ·exact⟨o,Em fo b o hb e⟩
   ·rw[yP _ _ _ b (I.bh.lt e) (fun z=>by rw[z,ht]at e;cases e)];exact e
   ·rw[yP _ _ _ b (I.bh.lt e) (fun z=>by rw[z,ht]at e;cases e)];exact e
   ·by_cases hb:b=P
    ·subst hb
     rw[ht]at e
     cases e
     exact⟨_,by rw[aE hPf,aE hPc,aF]⟩
    ·exact⟨#[],by rw[yP _ _ _ b (I.bh.lt e) hb,e];simp⟩
   ·obtain⟨o,es,ep,ho,r⟩:=hm
    exact⟨o,es,ep,Em fo _ o hLP ho,r⟩
   ·by_cases h1:b=h'.objs.size
    ·subst h1
     rw[aF]at e
     cases e
     exact KR (aT _ Q5)
    ·rw[aE h1]at e
     by_cases h2:b=c'
     ·subst h2
      rw[aF]at e
      cases e
      exact KR (ay _ G0)
     ·rw[aE h2]at e
      by_cases h3:b=P
      ·subst h3
       rw[aF]at e
       cases e
       exact ay _ VR
      ·rw[aE h3]at e
       refine(I.bh b u e).sY (fun y v hy q=>Em fo y v ?_ q) (fun y q =>?_) fun y xs q =>?_
       ·rcases hy with z | z
        ·rw[z];exact h3
        ·exact fun z2=>by rw[z2,ht]at z;cases z
       ·rw[yP _ _ _ y (I.bh.lt q) (fun z=>by rw[z,ht]at q;cases q)];exact q
       ·rw[yP _ _ _ y (I.bh.lt q) (fun z=>by rw[z,ht]at q;cases q)];exact q
  subst V7
  refine⟨.ref h'.objs.size,_,I2,O,h h'.objs.size c' oc vs t _ nh _ (fun b o hb e =>?_) (.inr ⟨c',oc,vs,t,?_,?_,hd,hv⟩) (I.bh.fresh hsz) aF ?_ hd hv⟩
  ·rw[yP _ _ _ b (I.bh.lt e) hb];exact e
  ·rw[aE hPf,aE hPc,aF];simp
  ·rw[aE hfc.symm,aF]
  ·rw[aE hfc.symm,aF]
 ·have hP:s.heap.get? P=some (tabObj #[rawInt pos.line,rawInt pos.col,.ref c']):=I.bh P _ ht
  refine kla_makeFunctionHit (mg:=X.mg) (cv := .ref c') OZ I.ok.glob hgs Ig hC hP (TriplesOk_snoc _ _ _ [] trivial) (codeAmong_snoc [] trivial rfl) hB fun nh h' tk hk hsz =>?_
  have I2:=I.laid (a:=h'.objs.size) (o:=Ext h'.objs.size (kla_obj "<lambda>" (X.env.qual ++ "<lambda>") params body scope xr ((X.mg "__name__").getD .none) c' nh)) (t':=tk) (h':=h'.push (kla_obj "<lambda>" (X.env.qual ++ "<lambda>") params body scope xr ((X.mg "__name__").getD .none) c' nh))
   (fun b u e=>ay _ (hk b u e)) hsz (KR (aT _ rfl))
  have hn:=I.bh.fresh hsz
  refine⟨.ref h'.objs.size,_,I2,O,h h'.objs.size c' oc vs t _ nh _ (fun b o hb e =>?_) (.inr ⟨c',oc,vs,t,?_,?_,hd,hv⟩) hn aF ?_ hd hv⟩
  ·rw[aE (bQ e hn)];exact e
  ·rw[aE (bQ ht hn)];exact ht
  ·rw[aE (bQ uf hn)];exact uf
  ·rw[aE (bQ uf hn)];exact uf
end
section
variable {prog:Program}{w:World}
theorem XW{d:Addr}{es:Array DictEntry}{ep:Nat}{od:Obj}(lo:(d == sysModules)=false)(hx:od.ExactDict)(gP:od.data = .dict es ep):KdlSrc prog w "dict" d d es.size (fun i v=>∃ h:i < es.size,v=es[i].key) (fun h=>h.get? d=some od) where
 type:=fun s ho=>⟨od,ho,hx.1⟩
 there:=fun h ho=>⟨aP ho,aP ho⟩
 keep:=fun h h' ho hk=>hk d (.inl rfl) _ ho
 notList:=by decide
 notTuple:=by decide
 hint:=fun A E s Q ho hq=>kdl_hint_dict ⟨od,ho,hx.1⟩ hq
 iter:=fun A s hh ho=>by
  refine⟨{ cls := .type "dict_keyiterator",data := .fields #[.ref d,.int 0 0,.int es.size 0,.int ep 0] },fun i h=>h.IsKeyIter s.heap.objs.size d i es.size ep∧h.get? d=some od,fun E Q hq=>GF lo ⟨od,ho,hx.1⟩ ho gP hq,?_,⟨_,aT _ rfl,O,O⟩,ay _ ho⟩
  have ne:d≠s.heap.objs.size:=br (aP ho)
  exact {
   sub:=fun b hb=>by rw[ax.mp hb];exact bb
   frame:=fun _ _ _ st hk=>⟨st.1.at fun o e=>hk _ bb o e,hk d (aR _ (bg _)) _ st.2⟩
   item:=fun i s1 Q E hi st hQ=>GG st.1 st.2 gP hi fun h' fV sb=>hQ _ h' s1.toks ⟨hi,O⟩ ⟨fV,(sb.2 d ne).trans st.2⟩ fun b o hb e=>(sb.2 b (fun z=>hb (by rw[z];exact bg _))).trans e
   done:=fun s1 Q E st hQ=>Ja hh st.1 st.2 gP (ar _) fun h' eb=>hQ h' s1.toks fun b o hb e=>eb b o (fun z=>hb (by rw[z];exact bg _)) e
   self:=fun _ _ _ _ st hQ=>wpAny_pyIter_keyiter st.1 hQ }
end
abbrev vp(d x:Str)(pd p1 p2 p3 p4 p5 p6 c0 c1:Pos)(k0 k1:Nat):Expr := .Subscript (.Subscript (.Name d pd) (.Subscript (.Name x p1) (.Constant (.int 0) k0 c0) p2) p3) (.Subscript (.Name x p4) (.Constant (.int 1) k1 c1) p5) p6
theorem QM{prog:Program}{w:World}{A:Around}{E:Value->Shared->Prop}{s:Shared}{Q:Value->Shared->Prop}{f c' cl D T R:Addr}{qual x d:Str}{params:Arguments}{pd p1 p2 p3 p4 p5 p6 c0 c1:Pos}{k0 k1:Nat}{scope:Scope}{pm nh w':Value}{rows vals pr:Array Value}{a b:Nat}{ta tb:Tok}(adT:A.depth < recursionLimit)(Up:s.heap.NoLimit)(hf:s.heap.get? f=some (kla_obj "<lambda>" qual params (vp d x pd p1 p2 p3 p4 p5 p6 c0 c1 k0 k1) scope [(d,cl)] pm c' nh))(m9:s.heap.CodeRec (.ref c') qual)(hb:bindArgs (kla_fn "<lambda>" qual params (vp d x pd p1 p2 p3 p4 p5 p6 c0 c1 k0 k1) scope [(d,cl)] pm (.ref c') nh) ⟨[.ref T], []⟩=pure [(x,.ref T)])(Ki:scope.kind = .function)(Q8:scope.isCoroutine=false)(Km:scope.isGenerator=false)(iH:∀ y∈scope.names,y.2 ≠ .cell)(MW:scope.names.lookup x=some .local)(sF:scope.names.lookup d=some .free)(AM:(x == ("__debug__" : Str))=false)(Kp:(d == ("__debug__" : Str))=false)(Cf:(d == ("__classdict__" : Str))=false)(hc:s.heap.IsCell cl (some (.ref D)))(hD:s.heap.IsList D rows)(hT:IsTup s.heap T pr)(h2:pr.size=2)(e0:pr[0]? = some (.int (a:Int) ta))(e1:pr[1]? = some (.int (b:Int) tb))(er:rows[a]? = some (.ref R))(hR:s.heap.IsList R vals)(ev:vals[b]? = some w')(la:a < 2 ^ 60)(lb:b < 2 ^ 60)(h:∀ h' tk,(∀ b o,s.heap.get? b=some o->h'.get? b=some o)->Q w' { s with heap:=h',toks:=tk }) :
  wpAny (model prog w) A (call (.ref f) [.ref T]) Q E s:=by
 refine wpAny_call (kla_callFunE adT hf rfl Q8 Km rfl m9 ?_)
 show wpAny _ _ (bindArgs (kla_fn "<lambda>" qual params (vp d x pd p1 p2 p3 p4 p5 p6 c0 c1 k0 k1) scope [(d,cl)] pm (.ref c') nh) ⟨[.ref T], []⟩) _ _ _
 rw[hb]
 refine wpAny_pure (wpAny_newFunctionEnv iH (fun y hy=>by rw[ax.mp hy];exact MW) (fun iG VX MS=>⟨Up.fresh _ MS,?_⟩) Ki)
 have kp:∀ b o,s.heap.get? b=some o->iG.get? b=some o:=fun b o e=>MS.extBut b o (br (aP e)) (ay _ e)
 show codeAny _ _ (.expr (vp d x pd p1 p2 p3 p4 p5 p6 c0 c1 k0 k1) (envX qual scope s.heap.objs.size f (.ref c') [(d,cl)])) _ _
 refine kla_codeExpr (wpAny_mono ?_ (fun v s' q=>q) fun _ _ y=>y) (R:=_)
 have kF:iG.IsList D rows:=let ⟨o,e,r⟩:=hD; ⟨o,kp _ _ e,r⟩
 have hR1:iG.IsList R vals:=let ⟨o,e,r⟩:=hR; ⟨o,kp _ _ e,r⟩
 have Ep:IsTup iG T pr:=let ⟨o,e,r⟩:=hT; ⟨o,kp _ _ e,r⟩
 have item:∀ (tk:Nat) (n:Nat) (v:Value) (t:Tok) (px pc pp:Pos) (kk:Nat) (Q':Value->Shared->Prop) (E':Value->Shared->Prop),n < 2->pr[n]? = some v->(∀ sj,Q' v { s with heap:=iG,toks:=sj }) ->
   wpAny (model prog w) (A.deeper (envX qual scope s.heap.objs.size f (.ref c') [(d,cl)])) (eval (.Subscript (.Name x px) (.Constant (.int (n:Int)) kk pc) pp) (envX qual scope s.heap.objs.size f (.ref c') [(d,cl)])) Q' E' { s with heap:=iG,toks:=tk }:=by
  intro tk n v t px pc pp kk Q' E' hn hv hq
  refine uK (T := "tuple") slot_tuple_getitem.lookup (fun _ _=>O) (wpAny_Name (wpAny_loadName_local (v := .ref T) Ki MW VX (by simp) (wpAny_Constant_int ⟨Ep.typeIs,?_⟩)) AM)
  refine getItem_tuple (s := { s with heap:=iG,toks:=tk+1 }) (j:=n) Ep (by omega) (by omega) ?_ hv (hq _)
  rw[h2]
  have:n=0∨n=1:=by omega
  rcases this with rfl | rfl <;> rfl
 refine uK (T := "list") slot_list_getitem.lookup (fun _ _=>O) (uK (T := "list") slot_list_getitem.lookup (fun _ _=>O) (wpAny_Name (wpAny_loadName_free (v := .ref D) (c:=cl) Ki sF (by simp) (hc.keeps kp) (item _ 0 _ 0 _ _ _ _ _ _ (by decide) e0 fun YE=>⟨kF.typeIs,?_⟩) Cf) Kp))
 refine wpAny_getItem_list (s := { s with heap:=iG,toks:=YE }) kF (by omega) (by omega) (by rw[cn];exact er) ?_
 exact item _ 1 _ 0 _ _ _ _ _ _ (by decide) e1 fun YD=>⟨hR1.typeIs,wpAny_getItem_list (s := { s with heap:=iG,toks:=YD }) hR1 (by omega) (by omega) (by rw[cn];exact ev) (h iG _ kp)⟩
section
variable {X:Cx}
theorem Inv.adI{ah:List (Addr × Obj)}{Y:St}{H:Hp}{s:Shared}{N:Addr}{o:HO}{h':Heap}{t':Nat}(I:Inv X ah Y H s)(k:∀ b u,s.heap.get? b=some u->h'.get? b=some u)(hN:s.heap.get? N=none)(new:cY X.prog X.w (upd H N o) h' N o) :
  H N=none∧Inv X ah Y (upd H N o) { s with heap:=h',toks:=t' }:=by
 have M8:H N=none:=by
  cases e:H N with
  | none=>rfl
  | some u =>
   obtain⟨ob,z⟩:=(I.bh N u e).there
   rw[hN]at z;cases z
 refine⟨M8,?_⟩
 refine I.step (g':=s.gens) (d':=s.drawn) (ch := []) (fun _ z=>nomatch z) (fun b u _ _ _ e _=>k b u e) (fun b u _ _ _ e _=>⟨u.slots,k b u e⟩)
  (fun b u _ e n=>by rw[aE (fun z=>by rw[z,hN]at e;cases e)];exact n) (fun b u _ e=>⟨u,k b u e⟩) (fun b xs e=>by rw[aE (bQ e M8)];exact e) (fun b u v e=>by rw[aE (bQ e M8)];exact e)
  (fun b ps e=>⟨#[],by rw[aE (bQ e M8),e];simp⟩) (fun m hm =>?_) (fun b u e =>?_) I.bare
 ·exact hm.keeps k
 ·by_cases hb:b=N
  ·subst hb
   rw[aF]at e
   cases e
   exact new
  ·rw[aE hb]at e
   refine(I.bh b u e).sY (fun y v _ qy=>k y v qy) (fun y qy =>?_) fun y xs qy =>?_
   ·rw[aE (bQ qy M8)];exact qy
   ·rw[aE (bQ qy M8)];exact qy
inductive EX(prog:Program)(w:World)(P:Addr)(pos:Pos)(qual:Str)(i:Nat)(Y:St)(v:V)(H:Hp)(Q:VK):Prop
 | mk (m D:Addr) (kvs:List (NK × V)) (rows:List Addr) (g:NK->Int) (hv:v = .ref m) (hm:DN prog w H m kvs) (hs : Y[i]? = some (some (.ref D))) (hD:H D=some (.lst (rows.map V.ref))) (hz:kvs.length < 64) (Ec:rows.length<=100000)
   (hr:∀ kv∈kvs,∃ (a b:Nat) (c:Addr) (xs:List V),kv.1 = [.inl (.inl (a:Int)),.inl (.inl (b:Int))]∧rows[a]? = some c∧H c=some (.lst xs)∧xs.length<=100000∧xs[b]? = some (.int (g kv.1))) (ht:ju H P pos qual)
   (q:∀ (N:Addr) (H':Hp) (us:List V) (gY:List NK),jv P H H'->ju H' P pos qual->H N=none->H' N=some (.lst us)->Paired (fun u k=>∃ c,u=V.ref c∧fD H' k c) us gY->gY.Perm (kvs.map (·.1))->gY.Pairwise (fun a b=>g a<=g b)->Q (.ref N) H'):EX prog w P pos qual i Y v H Q
def YI(prog:Program)(w:World)(P:Addr)(pos:Pos)(qual:Str)(i:Nat)(te:TE):TE:=fun Y H Q=>te Y H fun v H1=>EX prog w P pos qual i Y v H1 Q
def wo(H:Hp):Value->NK
 | .ref b=>(match H b with | some (.tup [.int a,.int c]) => [.inl (.inl a),.inl (.inl c)] | _ => [])
 | _ => []
theorem Qz{H:Hp}{b:Addr}{a c:Int}(h:H b=some (.tup [.int a,.int c])):wo H (.ref b) = [.inl (.inl a),.inl (.inl c)]:=by
 show (match H b with | some (.tup [.int a,.int c])=>([.inl (.inl a),.inl (.inl c)]:NK) | _ => [])=_
 rw[h]
def Oi:Value->V
 | .ref b => .ref b
 | _ => .cG
def agL(R:V->Prop):List V->Prop
 | [v]=>R v
 | _=>False
theorem XE{H:Hp}{a b:Nat}{vs:List V}(h:nY H [.inl (.inl (a:Int)),.inl (.inl (b:Int))] vs):vs = [.int (a:Int),.int (b:Int)]:=by
 rw[nY]at h
 obtain⟨r,rfl,h⟩:=h
 rw[nY]at h
 obtain⟨r2,rfl,h⟩:=h
 rw[nY]at h
 rw[h]
 rfl
theorem Qa{cl:Addr}{i:Nat}{x d:Str}{params:Arguments}{scope:Scope}{pd p1 p2 p3 p4 p5 p6 c0 c1:Pos}{k0 k1:Nat}{qual:Str}{ah:List (Addr × Obj)}{Y:St}{H:Hp}{s:Shared}{Q:VK}{m D f c':Addr}{kvs:List (NK × V)}{rows:List Addr}{g:NK->Int}{oc:Obj}{fs:Array Value}{t:Tok}{pm nh:Value}(hr:X.A.depth < recursionLimit)(M4:X.calm=true)(hN:X.N[i]? = some d)(hcl:X.env.cells.lookup d=some cl)(hkc:X.env.kindOf d=some .cell)(Ue:Nw X.env.scope d)(hb:∀ u pm c' nh,bindArgs (kla_fn "<lambda>" qual params (vp d x pd p1 p2 p3 p4 p5 p6 c0 c1 k0 k1) scope [(d,cl)] pm (.ref c') nh) ⟨[u], []⟩=pure [(x,u)])(Ki:scope.kind = .function)(Q8:scope.isCoroutine=false)(Km:scope.isGenerator=false)(iH:∀ y∈scope.names,y.2 ≠ .cell)(MW:scope.names.lookup x=some .local)(sF:scope.names.lookup d=some .free)(AM:(x == ("__debug__" : Str))=false)(Kp:(d == ("__debug__" : Str))=false)(Cf:(d == ("__classdict__" : Str))=false)(I:Inv X ah Y H s)(hm:DN X.prog X.w H m kvs)(hs : Y[i]? = some (some (.ref D)))(hD:H D=some (.lst (rows.map V.ref)))(hz:kvs.length < 64)(Ec:rows.length<=100000)(vq:∀ kv∈kvs,∃ (a b:Nat) (c:Addr) (xs:List V),kv.1 = [.inl (.inl (a:Int)),.inl (.inl (b:Int))]∧rows[a]? = some c∧H c=some (.lst xs)∧xs.length<=100000∧xs[b]? = some (.int (g kv.1)))(hf:H f=some (Ext f (kla_obj "<lambda>" qual params (vp d x pd p1 p2 p3 p4 p5 p6 c0 c1 k0 k1) scope [(d,cl)] pm c' nh)))(uf:H c'=some (Ext c' oc))(G0:oc.data = .fields fs)(hq:fs[1]? = some (.str qual t))(q:∀ (N:Addr) (us:List V) (gY:List NK),H N=none->Paired (fun u k=>∃ c,u=V.ref c∧fD H k c) us gY->gY.Perm (kvs.map (·.1))->gY.Pairwise (fun a b=>g a<=g b)->Q (.ref N) (upd H N (.lst us))) :
  wpAny (model X.prog X.w) X.A (call (.builtin "sorted") [.ref m] [(eX "key",.ref f)]) (EP X ah Y Q) X.xe s:=by
 obtain⟨mm,hn,ahj⟩:=id I.loc
 have V7:=mD I.bh hf
 have ahu:=mD I.bh uf
 obtain⟨u,ru,lk⟩:=ahj i d _ hN hs Ue
 obtain rfl:u=aH D:=ru
 have Wc:s.heap.IsCell cl (some (.ref D)):=by
  rcases lk with⟨z,_⟩ | ⟨_,c2,e2,z⟩
  ·rw[hkc]at z;cases z
  ·rw[hcl]at e2;cases e2;exact z
 obtain⟨_,lo,xs,od,es,ep,hmo,kn,hx,gP,jo,_⟩:=id hm
 have pU:=mD I.bh hmo
 obtain⟨esz,eat⟩:=entry_at kn jo
 have el:es.toList.length=kvs.length:=dA.trans esz
 obtain⟨ahN,dr,dl,_⟩:=I.list (a9.of hD)
 -- oY keys
 have key:∀ (j:Nat) (hj:j < es.size),∃ (kv:NK × V) (b:Addr) (a1 b1:Nat) (c:Addr) (xs:List V),kvs[j]? = some kv∧es[j].key = .ref b∧kv.1 = [.inl (.inl (a1:Int)),.inl (.inl (b1:Int))]∧H b=some (.tup [.int (a1:Int),.int (b1:Int)])∧fD H kv.1 b∧rows[a1]? = some c∧H c=some (.lst xs)∧xs.length<=100000∧xs[b1]? = some (.int (g kv.1)):=fun j hj=>by
  obtain⟨kv,b,h1,h2,nk,_⟩:=eat j hj
  obtain⟨a1,b1,c,xs,e,r1,r2,r3,r4⟩:=vq kv (ak h1)
  obtain⟨vs,hv,nks⟩:=id nk
  have Z5:=nks
  rw[e]at Z5
  rw[XE Z5]at hv
  exact⟨kv,b,a1,b1,c,xs,h1,h2,e,hv,nk,r1,r2,r3,r4⟩
 have vat:∀ j v,(es.toList.map (·.key))[j]? = some v->∃ hj:j < es.size,v=es[j].key:=fun j v h=>by
  rw[aK,fX]at h
  obtain⟨en,h1,h2⟩:=cP.mp h
  obtain⟨hj,h3⟩:=gO.mp h1
  exact⟨hj,by rw[h3];exact h2.symm⟩
 refine Qe (vs:=es.toList.map (·.key)) (kz:=kvs.map fun kv=>g kv.1) (by rw[az,az,el]) (by rw[az,el];exact hz) (fun E' R hR =>?_) (fun j v k hv hk h tk kp =>?_) (fun N h' tk gY c Ck kp g0 ko =>?_)
 ·refine kdu_collect (XW lo hx gP) (show X.A.in1.handled=none from I.ok.hd M4) pU (by rw[sizeLine_eq];omega) fun h' tk acc kp it =>?_
  have e:acc.toList=es.toList.map (·.key):=by
   refine d9 fun j =>?_
   rw[aK,fX,fX]
   cases hj:acc[j]? with
   | none =>
    have:es.size<=j:=by rw[<- it.1];exact Array.getElem?_eq_none_iff.mp hj
    rw[kE this];rfl
   | some v =>
    obtain⟨hj2,e2⟩:=it.2 j v hj
    rw[hV hj2,e2];rfl
  rw[e]
  exact hR h' tk kp
 ·obtain⟨hj,rfl⟩:=vat j v hv
  obtain⟨kv,b,a1,b1,c,ys,h1,h2,h3,h4,nk,r1,r2,r3,r4⟩:=key j hj
  rw[aK,h1]at hk
  cases hk
  rw[h2]
  obtain⟨agd,tr,tl,_⟩:=I.tuple (bM.of h4)
  obtain⟨ahR,cr,cpl,_⟩:=I.list (a9.of r2)
  obtain⟨u0,e0,t0,rfl⟩:=tr.get (i:=0) (x := .int (a1:Int)) rfl
  obtain⟨u1,e1,t1,rfl⟩:=tr.get (i:=1) (x := .int (b1:Int)) rfl
  obtain⟨ur,er,rr⟩:=dr.get (i:=a1) (x := .ref c) (by rw[aK,r1];rfl)
  obtain rfl:ur=aH c:=rr
  obtain⟨uv,ev,tv,rfl⟩:=cr.get r4
  have agc:=tr.length
  have al:a1 < rows.length:=(ai.mp r1).1
  have bl:b1 < ys.length:=(ai.mp r4).1
  obtain⟨ocl,ahf,ahr⟩:=Wc
  obtain⟨oD,gD,rD⟩:=dl.isList
  obtain⟨oc2,gc,rc⟩:=cpl.isList
  obtain⟨oT,gT,rT⟩:=tl
  refine QM (s := { s with heap:=h,toks:=tk }) (D:=D) (T:=b) (R:=c) (rows:=ahN.toArray) (vals:=ahR.toArray) (pr:=agd.toArray) (a:=a1) (b:=b1) hr ?_ (kp _ _ V7) ⟨c',oc,fs,t,O,kp _ _ ahu,G0,hq⟩ (hb _ _ _ _) Ki Q8 Km iH MW sF AM Kp Cf
   ⟨ocl,kp _ _ ahf,ahr⟩ ⟨oD,kp _ _ gD,rD⟩ ⟨oT,kp _ _ gT,rT⟩ (by rw[aJ, <- agc];rfl) (by simpa using e0) (by simpa using e1) (by simpa using er) ⟨oc2,kp _ _ gc,rc⟩ (by simpa using ev) (by omega) (by omega) fun h2 YD k2 =>?_
  ·exact I.mod.nolimit.keeps fun b o e=>kp b o (I.bk b o e)
  ·exact⟨h2,YD,tv,O,O,k2⟩
 ·obtain⟨ps,pp,po,pso⟩:=ko
  have at_:∀ p∈ps,∃ (b:Addr) (k:NK),p=(g k,aH b)∧fD H k b∧wo H (.ref b)=k:=fun p hp=>by
   obtain⟨p1,p2⟩:=p
   obtain⟨j,hj⟩:=aU (pp.mem_iff.mp hp)
   rw[mL]at hj
   obtain⟨z1,z2⟩:=hj
   dsimp only at z1 z2
   obtain⟨hj2,e2⟩:=vat j p2 z2
   obtain⟨kv,b,a1,b1,c,ys,h1,h2,h3,h4,nk,_⟩:=key j hj2
   rw[aK,h1]at z1
   cases z1
   exact⟨b,kv.1,by rw[e2,h2],nk,by rw[Qz h4,h3]⟩
  have e1:gY.toList.map (wo H)=ps.map fun p=>wo H p.2:=by rw[po,il];rfl
  have perm:(gY.toList.map (wo H)).Perm (kvs.map (·.1)):=by
   rw[e1]
   refine(pp.map fun p=>wo H p.2).trans (List.Perm.of_eq ?_)
   have e2:((kvs.map fun kv=>g kv.1).zip (es.toList.map (·.key))).map (fun p:Int × Value=>wo H p.2)=(es.toList.map (·.key)).map (wo H):=by
    have e3:((kvs.map fun kv=>g kv.1).zip (es.toList.map (·.key))).map zf=es.toList.map (·.key):=List.map_snd_zip (by rw[az,az,el];exact ar _)
    conv=>rhs;rw[<- e3]
    rw[il]
    rfl
   rw[e2]
   refine d9 fun j =>?_
   rw[aK,aK,aK,fX]
   by_cases hj:j < es.size
   ·obtain⟨kv,b,a1,b1,c,ys,h1,h2,h3,h4,nk,_⟩:=key j hj
    rw[hV hj,h1]
    show some (wo H es[j].key)=some kv.1
    rw[h2,Qz h4,h3]
   ·rw[kE (by omega),eY (by omega)]
    rfl
  have ID:(gY.toList.map (wo H)).Pairwise (fun a b=>g a<=g b):=by
   rw[e1,jq]
   refine vU ?_ pso
   intro q1 q2 m1 m2 z
   obtain⟨b1,k1,rfl,_,n1⟩:=at_ q1 m1
   obtain⟨b2,k2,rfl,_,n2⟩:=at_ q2 m2
   rw[n1,n2]
   simpa using z
  have all:∀ v∈gY.toList,∃ (b:Addr),v=aH b∧fD H (wo H v) b:=fun v hv=>by
   rw[po]at hv
   obtain⟨p,hp,rfl⟩:=bj.mp hv
   obtain⟨b,k,rfl,nk,n1⟩:=at_ p hp
   exact⟨b,O,by show fD H (wo H (.ref b)) b;rw[n1];exact nk⟩
  have both:∀ l:List Value,(∀ v∈l,∃ (b:Addr),v=aH b∧fD H (wo H v) b)->Vals (l.map Oi) l∧Paired (fun u k=>∃ c,u=V.ref c∧fD H k c) (l.map Oi) (l.map (wo H)):=fun l=>by
   induction l with
   | nil=>intro _;exact⟨.nil,.nil⟩
   | cons v l ih =>
    intro h
    obtain⟨b,rfl,nk⟩:=h v bb
    obtain⟨i1,i2⟩:=ih fun y hy=>h y (aR _ hy)
    exact⟨.cons rfl i1,.cons ⟨b,O,nk⟩ i2⟩
  obtain⟨b1,b2⟩:=both _ all
  have ol:gY.toList.length=kvs.length:=by have:=perm.length_eq;rw[az,az]at this;exact this
  obtain⟨n0,J⟩:=I.adI (t':=tk) kp Ck (o := .lst (gY.toList.map Oi)) (show cY X.prog X.w _ h' N (.lst (gY.toList.map Oi)) from ⟨by rw[az,ol,sizeLine_eq];omega,gY.toList,c,b1,by rw[Array.toArray_toList];exact g0⟩)
  exact⟨.ref N,_,J,O,q N _ _ n0 b2 perm ID⟩
theorem Tn{P c cl:Addr}{i:Nat}{x d:Str}{params:Arguments}{scope:Scope}{pd p1 p2 p3 p4 p5 p6 c0 c1 pos np OH cZ:Pos}{k0 k1:Nat}{e:Expr}{te:TE}(T:TabAt X.base X.mg c P)(hr:X.A.depth < recursionLimit)(M4:X.calm=true)(hgl:Gl X "sorted")(hm:X.mg "sorted" = none)(Ig:X.env.code = .ref c)(hN:X.N[i]? = some d)(Ue:Nw X.env.scope d)(OZ:closureFor scope X.env=pure [(d,cl)])(hcl:X.env.cells.lookup d=some cl)(hkc:X.env.kindOf d=some .cell)(ha:PE X e te)(Us:defaultsOf params X.env=([], []))(hb:∀ qual u pm c' nh,bindArgs (kla_fn "<lambda>" qual params (vp d x pd p1 p2 p3 p4 p5 p6 c0 c1 k0 k1) scope [(d,cl)] pm (.ref c') nh) ⟨[u], []⟩=pure [(x,u)])(Ki:scope.kind = .function)(Q8:scope.isCoroutine=false)(Km:scope.isGenerator=false)(iH:∀ y∈scope.names,y.2 ≠ .cell)(MW:scope.names.lookup x=some .local)(sF:scope.names.lookup d=some .free)(AM:(x == ("__debug__" : Str))=false:=by decide)(Kp:(d == ("__debug__" : Str))=false:=by decide)(Cf:(d == ("__classdict__" : Str))=false:=by decide)(he:starEach [e] X.env=(false,eval e X.env) :: starEach [] X.env:=by rfl) :
  PE X (.Call (.Name "sorted" np) [e] [⟨some "key",.Lambda params (vp d x pd p1 p2 p3 p4 p5 p6 c0 c1 k0 k1) scope pos,OH⟩] cZ) (YI X.prog X.w P pos (X.env.qual ++ "<lambda>") i te):=by
 intro ah s Y H Q I h
 refine wpAny_Call_Name_kw (pS I hgl hm boot_sorted ?_ (by decide) (by decide))
 have hPA:PA X [e] (uw te yt):=ae (hs:=he) ha aq
 have hPK:PK X [⟨some "key",.Lambda params (vp d x pd p1 p2 p3 p4 p5 p6 c0 c1 k0 k1) scope pos,OH⟩] (uw (YO P pos (X.env.qual ++ "<lambda>") params (vp d x pd p1 p2 p3 p4 p5 p6 c0 c1 k0 k1) scope [(d,cl)]) yt):=Xo (ZK T Ig OZ Us) ZD
 have h':(uw te yt) Y H (fun vs H1=>agL (fun v=>EX X.prog X.w P pos (X.env.qual ++ "<lambda>") i Y v H1 Q) vs):=h
 refine callWith_kw (bB (hPA cZ ah s Y H _ I h') fun us s1 ⟨vs,H1,I1,r1,q1⟩ =>?_) (by rw[he];rfl) (by rw[he];rfl) rfl rfl
 cases r1 with
 | nil=>exact dy q1
 | @cons v u vs us rv r1 =>
  cases r1 with
  | cons _ _=>exact dy q1
  | nil =>
  obtain⟨m,D,kvs,rows,g,hv,hmm,hs,hD,hz,Ec,vq,ht,q⟩:=(show EX X.prog X.w P pos (X.env.qual ++ "<lambda>") i Y v H1 Q from q1)
  subst hv
  obtain rfl:u=aH m:=rv
  refine bB (hPK cZ ah s1 Y H1 (fun zs H2=>∃ f c' oc fs t pm nh,zs = [.ref f]∧jv P H1 H2∧ju H2 P pos (X.env.qual ++ "<lambda>")∧H2 f=some (Ext f (kla_obj "<lambda>" (X.env.qual ++ "<lambda>") params (vp d x pd p1 p2 p3 p4 p5 p6 c0 c1 k0 k1) scope [(d,cl)] pm c' nh)) ∧
   H2 c'=some (Ext c' oc)∧oc.data = .fields fs∧fs[1]? = some (.str (X.env.qual ++ "<lambda>") t)) I1 ⟨ht,fun f c' oc fs t pm nh H2 kb tb _ a1 a2 a3 a4=>⟨f,c',oc,fs,t,pm,nh,O,kb,tb,a1,a2,a3,a4⟩⟩) fun ws s2 ⟨zs,H2,I2,r2,f,c',oc,fs,t,pm,nh,ez,kb,tb,a1,a2,a3,a4⟩ =>?_
  subst ez
  cases r2 with
  | @cons v2 w Yv ws2 rw r3 =>
   cases r3
   obtain rfl:w=aH f:=rw
   have tP:∀ {b:Addr}{o:HO},H1 b=some o->(∀ ps,o ≠ .nU ps)->b≠P:=fun {b o} e ne z=>by
    subst z
    rcases ht with z | ⟨_,_,_,_,z,_⟩
    ·rw[z]at e;cases e;exact ne _ rfl
    ·rw[z]at e;cases e;exact ne _ rfl
   have kt:∀ b ys,H1 b=some (.tup ys)->H2 b=some (.tup ys):=fun b ys z=>kb _ _ (tP z (fun _ z=>nomatch z)) z
   have xY:=kb _ _ (tP hD (fun _ z=>nomatch z)) hD
   have Kf:=hmm.keep (fun φ z=>kb _ _ (tP z (fun _ z=>nomatch z)) z) kt
   refine Qa (g:=g) hr M4 hN hcl hkc Ue (hb _) Ki Q8 Km iH MW sF AM Kp Cf I2 Kf hs xY hz Ec (fun kv cR =>?_) a1 a2 a3 a4 (fun N us gY Ck hp Ei hsd =>?_)
   ·obtain⟨a,b,c,xs,e1,e2,e3,e4,e5⟩:=vq kv cR
    exact⟨a,b,c,xs,e1,e2,kb _ _ (tP e3 (fun _ z=>nomatch z)) e3,e4,e5⟩
   have hN1:H1 N=none:=by
    cases z:H1 N with
    | none=>rfl
    | some o =>
     by_cases zp:N=P
     ·subst zp
      rcases tb with z2 | ⟨_,_,_,_,z2,_⟩ <;> rw[z2]at Ck <;> cases Ck
     ·rw[kb _ _ zp z]at Ck;cases Ck
   have sN:∀ b o,H2 b=some o->(upd H2 N (.lst us)) b=some o:=fun b o z=>by rw[aE (bQ z Ck)];exact z
   refine q N _ us gY (fun b o ug z=>sN _ _ (kb b o ug z)) ?_ hN1 aF (Paired.xj hp fun u k ⟨c,e,nk⟩=>⟨c,e,nk.keep fun b ys=>sN _ _⟩) Ei hsd
   rcases tb with z | ⟨c3,oc3,f3,t3,z,z1,z2,z3⟩
   ·exact .inl (sN _ _ z)
   ·exact .inr ⟨c3,oc3,f3,t3,sN _ _ z,sN _ _ z1,z2,z3⟩
end
structure Pm(K:ao)(mg:Str->Option Value)(x:Str)(st:Stmt)(ps:List Str)(c:Addr):Prop where
 ex:∃ (f:Addr) (oc:Value) (od:Option Addr) (kV doc pm:Value) (an:Option Addr) (ct:Value) (zA:Array (Option Value)),
  K.lookup f=some ⟨oc,od,.func (dW x x (i9 st) (fW st) (aX st) .none kV doc pm an (.ref c) ct),zA⟩∧hG K (.ref c) x=true∧du K (.ref f)=true∧mg x=some (.ref f) ∧
  Binds K (dW x x (i9 st) (fW st) (aX st) .none kV doc pm an (.ref c) ct) ps []
theorem QL{Pr:Program}{w:World}{K:ao}{mg mb:Str->Option Value}{CX:w5}{k:Nat}{fa a c P:Addr}{fd:FuncData}{x:Str}{sp:Sp}{eJ : Shared}{vs:List Value}{ns:List Int}(KX:K.In eJ.heap)(qF:noTabs K=true)(hC:CodeHd eJ.heap c P)(hP:eJ.heap.get? P=some (tabObj #[]))(hB:eJ.heap.BuiltinsAt mg P)(VX:eJ.heap.Ns mainGlobals mg)(hb:eJ.heap.Ns builtinsNs mb)(hbb:∀ x:Str,x ≠ "__name__" -> mb x=bootBuiltins x)(Up:eJ.heap.NoLimit)(hg:eJ.gens = #[])(ha:eJ.heap.get? a=some { cls := .type "list",data := .seq vs.toArray })(hi:IntsAre vs ns)(hl:ns.length<=sizeLine)(hr:fg k callerA)(F:∀ base:Heap,K.In base->base.Ns mainGlobals mg->TabAt base mg c P->lC Pr w K mg base CX k fa fd [x] sp)(adY:∀ (s:Shared) (u:Value),BindsTo s fd ⟨[u], []⟩ [(x,u)])(zD:∀ H:Hp,a9 K H a (ns.map V.int)->H P=some (.nU #[])->sp [.ref a] H (fun v _=>v = .bl true) fun _ _ _=>False)(hCX:∀ H e s',CX [] H eJ (fun _ _ _=>False) e s'->False) :
  codeAny (model Pr w) callerA (.call (.ref fa) ⟨[.ref a], []⟩) (fun r s'=>r = .ok (.ret (.bool true))∧OldK eJ.heap s'.heap∧s'.os=eJ.os∧AllBare s'.gens) eJ := by
 have rv:=Gp hi
 have agY:=hi.length
 have hPa:P≠a:=fun z=>by rw[z,ha]at hP;cases hP
 obtain⟨Ha,hHa,hsq,hka⟩:∃ Ha:Option HO,(Ha=none∨Ha=some (.vB { cls := .type "list",data := .seq vs.toArray } (.lst (ns.map V.int))))∧(∀ H:Hp,H a=Ha->a9 K H a (ns.map V.int))∧(Ha≠none->K.lookup a=none):=by
  cases hk:K.lookup a with
  | some o =>
   have e:=KX a o hk
   rw[ha]at e
   cases e
   exact⟨none,.inl rfl,fun H _ => .inr ⟨_,vs.toArray,_,hk,O,O,O,by rw[aJ,agY];exact hl,by simpa using rv⟩,fun z=>absurd rfl z⟩
  | none=>exact⟨some (.vB { cls := .type "list",data := .seq vs.toArray } (.lst (ns.map V.int))),.inr rfl,fun H e => .inl (.inr ⟨_,e⟩),fun _=>rfl⟩
 obtain⟨H,Rj,Rk,Wo⟩:∃ H:Hp,H P=some (.nU #[])∧H a=Ha∧∀ b,b≠P->b≠a->H b=none :=
  ⟨fun b=>if b=P then some (.nU #[]) else if b=a then Ha else none,if_pos rfl,by show (if a=P then _ else _)=_;rw[if_neg (cm hPa),if_pos rfl],fun b h1 h2=>by show (if b=P then _ else _)=_;rw[if_neg h1,if_neg h2]⟩
 have bh:gE Pr w H eJ.heap:=fun b u e=>by
  by_cases h1:b=P
  ·subst h1
   rw[Rj]at e;cases e
   exact hP
  ·by_cases h2:b=a
   ·subst h2
    rw[Rk]at e
    rcases hHa with z | z
    ·rw[z]at e;cases e
    ·rw[z]at e;cases e
     exact⟨ha,by rw[az];exact hl,vs,_,rv,ha⟩
   ·rw[Wo b h1 h2]at e;cases e
 have free:∀ {b:Addr}{o:Obj},eJ.heap.get? b=some o->o≠tabObj #[]->o≠{ cls := .type "list",data := .seq vs.toArray }->H b=none:=fun {b o} e n1 n2 =>
  Wo b (fun z=>by rw[z,hP]at e;cases e;exact n1 rfl) (fun z=>by rw[z,ha]at e;cases e;exact n2 rfl)
 have Vy:∀ {b:Addr}{m:Str->Option Value},eJ.heap.Ns b m->(yS eJ.heap H).Ns b m:=fun {b m} ⟨o,es,ep,e,d,r⟩=>⟨o,es,ep,yR e (free e (fun z=>by rw[z]at d;cases d) (fun z=>by rw[z]at d;cases d)),d,r⟩
 have hKb:K.In (yS eJ.heap H):=fun b o e=>yR (KX b o e) (by
  by_cases h1:b=P
  ·subst h1
   have e2:=KX b o e
   rw[hP]at e2;cases e2
   have h2:=oS.mp qF (b,_) (mem_of_lookupK e)
   exact absurd (show false=true from h2) a5
  ·by_cases h2:b=a
   ·subst h2
    rw[Rk]
    rcases hHa with z | z
    ·exact z
    ·rw[hka (by rw[z];simp)]at e;cases e
   ·exact Wo b h1 h2)
 have hM:Mod K mg (yS eJ.heap H):=⟨hKb,Vy VX,⟨mb,Vy hb,hbb⟩,let ⟨mc,h1,h2⟩:=Up; ⟨mc,Vy h1,h2⟩⟩
 have hT:TabAt (yS eJ.heap H) mg c P:=by
  refine⟨?_,?_⟩
  ·obtain⟨o,us,file,tf,Ww,tg,inF,text,tt,e1,r1,r⟩:=hC
   exact⟨o,us,file,tf,Ww,tg,inF,text,tt,yR e1 (free e1 (fun z=>by rw[z]at r1;cases r1) (fun z=>by rw[z]at r1;exact absurd (g9 r1) (by decide))),r1,r⟩
  ·obtain⟨bm,o,a1,a2,a3,a4,e1,r1,r⟩:=hB
   exact⟨bm,o,a1,a2,a3,a4,yR e1 (free e1 (fun z=>by rw[z]at r1;cases r1) (fun z=>by rw[z]at r1;exact absurd (g9 r1) (by decide))),r1,r⟩
 have e0:Du Pr w K mg (yS eJ.heap H) callerA [] eJ H:=⟨O,hM,fun b o e=>XC e,nz (Q4 _ _),trivial,fun b hb=>absurd (show b∈([]:List Addr) from hb) (by simp),bh,.of_eq hg⟩
 refine codeAny_mono ((F _ hKb (Vy VX) hT).run callerA [] eJ H ⟨[.ref a], []⟩ [.ref a] [.ref a] _ _ hr e0 (adY eJ (.ref a)) (.cons rfl .nil) (zD H (hsq H Rk) Rj)) fun r s' h =>?_
 cases r with
 | error e=>exact(hCX H e s' h).elim
 | ok fl =>
  cases fl with
  | next=>exact dy h
  | brk=>exact dy h
  | cont=>exact dy h
  | ret u =>
   obtain⟨v,H',os,bare,un,aa4,r',q⟩:=h
   have q':v = .bl true:=q
   subst q'
   obtain rfl:u=jt true:=r'
   have old:∀ b o,eJ.heap.get? b=some o->asItWas eJ.heap s'.heap b o:=fun b o e=>by
    by_cases h1:b=P
    ·subst h1
     rw[hP]at e;cases e
     obtain⟨more,hm⟩:=un.pG b _ Rj
     have z:s'.heap.get? b=some (tabObj (#[] ++ more)):=aa4 b _ hm
     obtain⟨o,us,file,tf,Ww,tg,inF,text,tt,e1,r1,r2,r3,_⟩:=hC
     exact .inr (.inl ⟨⟨c,o,us,e1,r1,r2,r3⟩,O, #[],more,O,z⟩)
    ·by_cases h2:b=a
     ·subst h2
      rcases hHa with z | z
      ·exact .inl (un.keep b o e (by rw[Rk,z]) (by intro z;exact absurd (show b∈([]:List Addr) from z) (by simp)) (by simp))
      ·have z2:=un.pY b _ _ (Rk.trans z)
       obtain⟨e2,_⟩:=aa4 b _ z2
       rw[ha]at e;cases e
       exact .inl e2
     ·exact .inl (un.keep b o e (Wo b h1 h2) (by intro z;exact absurd (show b∈([]:List Addr) from z) (by simp)) (by simp))
   refine⟨O,⟨old,fun b o e =>?_⟩,os,bare⟩
   exact un.there b o e (by simp)
theorem SO{l:OpenLaw}{n k:Nat}{q:Program}{loose:List Str}{XP:(Str->Option Value)->Heap->Prop}{YP:World->Heap->Prop}{d dC:DefRec}{K:Params->Frag}{CX:World->w5}{sp:World->Sp}{x xT:Str}{c P:Addr}(hn:l.most=some n)(VY:n<=sizeLine)(hdf:d.params.defaults = [])(hr:fg k callerA)(hY:∀ (w:World) (h:Heap),YP w h->(K w.params).In h)(KA:(recsOf q).find? (fun e=>e.name == xT)=some dC)(Kw:∀ w:World,tabIn (K w.params) xT=some (c,P))(qF:∀ w:World,noTabs (K w.params)=true)(F:∀ (w:World) (mg:Str->Option Value) (fa:Addr) (h:Heap),(K w.params).In h->h.Ns mainGlobals mg->mg d.name=some (.ref fa) ->
   ∃ fd:FuncData,(∀ (s:Shared) (u:Value),BindsTo s fd ⟨[u], []⟩ [(x,u)])∧∀ base:Heap,(K w.params).In base->base.Ns mainGlobals mg->TabAt base mg c P->lC l.prog w (K w.params) mg base (CX w) k fa fd [x] (sp w))(zD:∀ (w:World) (H:Hp) (a:Addr) (ns:List Int),ns.length<=n->(∀ c∈ns,zU c<=1048576)->a9 (K w.params) H a (ns.map V.int)->H P=some (.nU #[])->sp w [.ref a] H (fun v _=>v = .bl true) fun _ _ _=>False)(hCX:∀ (w:World) (H:Hp) (s:Shared) (e:Value) (s':Shared),CX w [] H s (fun _ _ _=>False) e s'->False) :
  WalkO q loose XP YP l.row.toRowW d [] (fun f vs=>PySem.call f vs):=by
 intro w s0 s1 mg mb Yq1 Yq0 fa o pm cd doc dV kV ho hd m9 hD hmg hg args vals as OR ahk hrd hwl AQ
 have e1:=Dflts.none hD hdf
 have e2:=Dflts.noKw hD
 subst e1 e2
 obtain⟨a,vs,ns,ev,ea,ahh,adW,eD⟩:=Att.Qg hn OR hwl
 subst ev ea
 have KX:=hY w _ Yq0
 obtain⟨fd,hb,hF⟩:=F w mg fa _ KX Yq1.T.g hmg
 obtain⟨hC,hP⟩:=tab_of Yq1.T KX KA (Kw w)
 have hgP:mainGlobals≠P:=fun q=>by
  obtain⟨o,es,ep,e,hd,_⟩:=Yq1.T.g
  rw[q,hP]at e;cases e;cases hd
 have hB:s1.heap.BuiltinsAt mg P:=by
  obtain⟨bm,ob,b1,b2,b3,b4,b5,b6⟩:=Yq1.T.bmain
  refine⟨bm,ob,b1,b2,fun z =>?_,fun z =>?_,b3,b4,b5,b6⟩
  ·obtain⟨o,es,ep,e,hd,_⟩:=Yq1.T.g
   rw[z,e]at b3;cases b3;rw[hd]at b6;cases b6
  ·rw[z,hP]at b3;cases b3;cases b4
 refine enter_call (codeAny_mono (QL KX (qF w) hC hP hB Yq1.T.g Yq1.T.b Yq1.T.builtins Yq1.T.nolimit hg ahh adW (bf eD VY) hr hF hb (fun H hS Rj=>zD w H a ns eD (UR ahk) hS Rj) fun H e s'=>hCX w H s1 e s') fun r s' hq =>?_)
 obtain⟨er,h2,h3,h4⟩:=hq
 subst er
 exact⟨.inl ⟨.bool true,.bool true, [],O,fun _=>rfl,.bool true,Att.Qo l _,fun _=>⟨BV,fun _ hm=>(nomatch hm)⟩⟩,h2,h3,h4⟩
end L2
namespace L2
open PySem
end L2
namespace L2
open PySem PySem.Spec PySem.W PyProof.Rows PySem.Calls
theorem Pm.ahw{P:Program}{w:World}{K:ao}{mg:Str->Option Value}{base:Heap}{x:Str}{st:Stmt}{N ps:List Str}{k:Nat}{sp:Sp}{c:Addr}(D:Pm K mg x st ps c)(S:cy N ps (aX st))(len:∀ vs H Q E,sp vs H Q E->vs.length=ps.length)(nN:∀ (f:Addr) (A:Around) (outer:List Env) (s:Shared) (H:Hp) (vs:List V) (Q:VK) (E:XK),fg k (A.deeper (envOfC x (aX st) s.heap.objs.size f (.ref c)))->sp vs H Q E ->
   ∃ t,qj (dR (qA P w) P w K mg base N x (aX st) f (.ref c) A outer s H E) (fW st) t∧t { nx:=fun _ H'=>Q .cG H',rt:=Q } (start N vs) H):Gh P w K mg base (k+1) x ps sp:=by
 obtain⟨f,oc,od,kV,doc,pm,an,ct,zA,lk,m9,Kh,hm,hb⟩:=D.ex
 exact⟨f,_,O4 lk m9 S len fun A outer s H vs Q E hr zD=>nN f A outer s H vs Q E hr zD,hm,Kh,hb⟩
theorem ju.same{H H':Hp}{P:Addr}{pos:Pos}{qual:Str}(h:ju H P pos qual)(sm:bJ H H'):ju H' P pos qual:=by
 rcases h with z | ⟨c',oc,vs,t,z1,z2,z3⟩
 ·exact .inl (sm _ _ z)
 ·exact .inr ⟨c',oc,vs,t,sm _ _ z1,sm _ _ z2,z3⟩
theorem ju.ne{H:Hp}{P b:Addr}{pos:Pos}{qual:Str}{o:HO}(h:ju H P pos qual)(e:H b=some o)(n:∀ ps,o ≠ .nU ps):b≠P:=fun z=>by
 subst z
 rcases h with z | ⟨_,_,_,_,z,_⟩ <;> (rw[z]at e;cases e;exact n _ rfl)
theorem jv.get{H H':Hp}{P b:Addr}{pos:Pos}{qual:Str}{o:HO}(k:jv P H H')(h:ju H P pos qual)(e:H b=some o)(n:∀ ps,o ≠ .nU ps):H' b=some o:=k _ _ (h.ne e n) e
theorem jv.then{H H' gQ:Hp}{P:Addr}(k:jv P H H')(sm:bJ H' gQ):jv P H gQ:=fun b o hb e=>sm _ _ (k b o hb e)
theorem An{H H' gQ:Hp}{P:Addr}(sm:bJ H H')(k:jv P H' gQ):jv P H gQ:=fun b o hb e=>k b o hb (sm _ _ e)
theorem jv.trans{H H' gQ:Hp}{P:Addr}(k:jv P H H')(k':jv P H' gQ):jv P H gQ:=fun b o hb e=>k' b o hb (k b o hb e)
section
variable {X:Cx}{a b o i:Expr}{ta tb td ty:TE}{pos:Pos}
theorem aM{r:R2}(hr:Sy X r)(ha:PE X a ta)(hb:PE X b tb)(hs:NF b:=by exact fun _ _=>rfl):PE X (.Subscript a b pos) (uX r ta tb):=adA hr ha hb hs
end
end L2
namespace L2
open PySem PySem.Spec PyProof.Rows
section
variable {X:Cx}
theorem ZS:lI X (compareOp .Is) (fun x y H Q=>∃ b c,x = .bl b∧y = .bl c∧Q (.bl (decide (b=c))) H):=by
 intro ah s Y H x y v u Q I rx ry h
 obtain⟨b,c,rfl,rfl,q⟩:=h
 cases rx
 cases ry
 cases b <;> cases c <;> exact wpAny_is_plain rfl (dJ I q rfl)
end
theorem RS{X:Cx}{x:Str}{C:Addr}(On:Exc X.K X.mg x C)(Z:LD X.K C) :
  kr X (.builtin "isinstance") (fun xs H Q=>∃ ea tp cs Nn b,xs = [.ref ea,.ref tp]∧H ea=some (XO ea C)∧H tp=some (.tup cs)∧(∀ us,Vals cs us->us=Nn)∧nP X.K (.ref C) Nn=some b∧Q (.bl b) H):=by
 intro ah s Y H xs us Q I r h
 obtain⟨ea,tp,cs,Nn,b,rfl,AS,xQ,Wb,e,q⟩:=h
 obtain⟨u,w',rfl,rx,ry⟩:=vals2 r
 cases (show u=aH ea from rx)
 obtain⟨⟨o,h1,h2⟩,_⟩:=(show cY X.prog X.w H s.heap ea (XO ea C) from I.bh ea _ AS)
 cases (show w'=aH tp from ry)
 obtain⟨_,its,rv,ot,g1,g2,n,g3,_⟩:=(show cY X.prog X.w H s.heap tp (.tup cs) from I.bh tp _ xQ)
 have ahl:=Wb its rv
 subst ahl
 obtain⟨cls,dd0,data,sl⟩:=ot
 simp only at g2 g3
 subst g2 g3
 obtain⟨bm,N,nm,qn,bs,hdct,sn,sub,ab,col,dd,k0,k1,k2,k3,k5,mN,hC,hN,G2,TL⟩:=(On.own I.jy).obj
 have hob:bm.contains (.type "object")=true:=TL.hasType (by decide +kernel)
 have hbb:bm.contains (.type "BaseException")=true:=TL.hasType (by decide +kernel)
 have Zx:Lq X.K (.ref ea) (.ref C) (fun h=>(∃ o,h.get? ea=some o∧o.cls = .ref C)) := {
  ty:=fun M h _ p=>by
   obtain⟨o,h1,h2⟩:=p
   exact h2 ▸ (vJ h1).andThen .now
  it:=fun M h XX _=>by
   obtain⟨bm,N,nm,qn,bs,hdct,sn,sub,ab,col,dd,k0,k1,k2,k3,k5,mN,hC,_⟩:=(On.own XX).obj
   intro A' Q' E' s' k q
   unfold isType loadHead
   exact wpAny_bind (wpAny_loadPart (k _ _ hC) (wpAny_pure q))
  ne:=fun h tp ya its n sl XX xQ=>by
   obtain⟨bm,N,nm,qn,bs,hdct,sn,sub,ab,col,dd,k0,k1,k2,k3,k5,mN,hC,_⟩:=(On.own XX).obj
   refine BY.mpr fun q =>?_
   have e:C=tp:=HU (beq_iff_eq.mp q)
   subst e
   rw[hC]at xQ
   have z2:=congrArg Obj.cls (aD xQ)
   exact absurd (g9 z2) (by decide)
  ca:=fun {prog w A E Q s} XX p hq=>by
   obtain⟨bm,N,nm,qn,bs,hdct,sn,sub,ab,col,dd,k0,k1,k2,k3,k5,mN,hC,hN,G2,TL⟩:=(On.own XX).obj
   obtain⟨o,h1,h2⟩:=p
   obtain⟨hp,g,d,t,os⟩:=s
   exact Ma hC (TL.hasType (by decide +kernel)) (TL.hasType (by decide +kernel)) (gk XX Z.cl) (gk XX Z.ga) (gk XX Z.gn) h1 h2 hq }
 exact PySem.W.kia_tup Zx I.jy ⟨o,h1,h2⟩ g1 e nofun fun tk=>⟨.bl b,H,I.tok _,O,q⟩
theorem Pa{X:Cx}{K:ao}(hK:X.K=K){x:Str}{C:Addr}(On:Exc K X.mg x C)(Z:LD K C) :
  kr X (.builtin "isinstance") (fun xs H Q=>∃ ea tp cs Nn b,xs = [.ref ea,.ref tp]∧H ea=some (XO ea C)∧H tp=some (.tup cs)∧(∀ us,Vals cs us->us=Nn)∧nP K (.ref C) Nn=some b∧Q (.bl b) H):=by
 subst hK
 exact RS On Z
end L2
namespace aQ
open PySem L2 Sw
def top(i:Nat):Stmt:=mP.main.body.getD i (.Pass ⟨0,0,0,0⟩)
abbrev DM:Stmt:=top 10
theorem Xe:cy wb0 wb0 (aX DM):=⟨O,O,O,by decide +kernel,O,by decide +kernel,by decide +kernel⟩
abbrev qR:Stmt:=top 12
theorem mB:cy ["leads", "a", "b", "low", "high", "k"] wb2 (aX qR):=⟨O,O,O,by decide +kernel,O,by decide +kernel,by decide +kernel⟩
abbrev xc:Stmt:=top 13
theorem jE:cy ["terms", "leads", "joined", "first", "k", "term", "other"] wa0 (aX xc):=⟨O,O,O,by decide +kernel,O,by decide +kernel,by decide +kernel⟩
abbrev CO:Stmt:=top 11
theorem Am:cy ["terms", "edges", "leads", "edge"] wb3 (aX CO):=⟨O,O,O,by decide +kernel,O,by decide +kernel,by decide +kernel⟩
abbrev Ap:Stmt:=top 15
theorem pJ:cy ["terms", "leads", "edges", "search", "edge", "a", "b"] wb1 (aX Ap):=⟨O,O,O,by decide +kernel,O,by decide +kernel,by decide +kernel⟩
abbrev ve:Stmt:=top 16
theorem gJ:cy ["terms", "leads", "alike", "k", "term", "pairs", "row", "place", "b", "a"] wa0 (aX ve):=⟨O,O,O,by decide +kernel,O,by decide +kernel,by decide +kernel⟩
abbrev oE:Stmt:=top 17
theorem Fu:cy wa4 wa4 (aX oE):=⟨O,O,O,by decide +kernel,O,by decide +kernel,by decide +kernel⟩
abbrev tj:Stmt:=top 18
theorem kQ:cy ["terms", "least", "a", "b", "total", "x", "y"] wa6 (aX tj):=⟨O,O,O,by decide +kernel,O,by decide +kernel,by decide +kernel⟩
abbrev ml:Stmt:=pf (top 19) 0
theorem IP:cy wb6 wb7 (aX ml):=⟨O,O,O,by decide +kernel,O,by decide +kernel,by decide +kernel⟩
abbrev vf:Stmt:=pf (top 19) 1
theorem l3:cy ["self", "a", "b", "needed", "x", "y", "ends"] wb5 (aX vf):=⟨O,O,O,by decide +kernel,O,by decide +kernel,by decide +kernel⟩
abbrev vd:Stmt:=pf (top 19) 2
theorem zy:cy ["self", "a", "b", "length", "best"] ba (aX vd):=⟨O,O,O,by decide +kernel,O,by decide +kernel,by decide +kernel⟩
abbrev Fx:Stmt:=pf (top 19) 3
theorem CK:cy ["self", "a", "b", "length", "low", "high"] ba (aX Fx):=⟨O,O,O,by decide +kernel,O,by decide +kernel,by decide +kernel⟩
abbrev u9:Stmt:=pf (top 19) 4
theorem zx:cy ["self", "head"] ["self"] (aX u9):=⟨O,O,O,by decide +kernel,O,by decide +kernel,by decide +kernel⟩
abbrev CL:Stmt:=pf (top 19) 5
theorem Al:cy ["self", "a", "b", "length", "x", "y"] ba (aX CL):=⟨O,O,O,by decide +kernel,O,by decide +kernel,by decide +kernel⟩
abbrev xf:Stmt:=pf (top 19) 6
theorem pK:cy ["self", "a", "row", "length", "b"] ["self", "a"] (aX xf):=⟨O,O,O,by decide +kernel,O,by decide +kernel,by decide +kernel⟩
abbrev yz:Stmt:=pf (top 19) 7
theorem rK:cy ["self", "a", "b", "length", "row", "c", "more"] ba (aX yz):=⟨O,O,O,by decide +kernel,O,by decide +kernel,by decide +kernel⟩
abbrev IS:Stmt:=top 32
theorem Xf:cy ee ee (aX IS):=⟨O,O,O,by decide +kernel,O,by decide +kernel,by decide +kernel⟩
abbrev IQ:Stmt:=top 33
theorem Ft:cy ["_law_k", "_law_cell", "_law_some", "_law_place"] wa7 (aX IQ):=⟨O,O,O,by decide +kernel,O,by decide +kernel,by decide +kernel⟩
abbrev DL:Stmt:=top 34
theorem xG:cy ["_law_cell", "_law_seed", "_law_many", "_law_kind", "_law_number", "_law_count", "_law_arms"] wa1 (aX DL):=⟨O,O,O,by decide +kernel,O,by decide +kernel,by decide +kernel⟩
abbrev DO:Stmt:=top 35
theorem uL:cy ["_law_cell", "_law_many", "_law_colours", "_law_a", "_law_near", "_law_b", "_law_weight"] vc (aX DO):=⟨O,O,O,by decide +kernel,O,by decide +kernel,by decide +kernel⟩
abbrev Fw:Stmt:=top 36
theorem qO:cy ["_law_script", "_law_most", "_law_seed", "_law_terms", "_law_edges", "_law_cell", "_law_term_here"] wa8 (aX Fw):=⟨O,O,O,by decide +kernel,O,by decide +kernel,by decide +kernel⟩
abbrev qQ:Stmt:=top 21
theorem lN:cy ["terms", "leads", "edges", "a", "b", "least", "steps", "rows", "needed", "ends", "row", "book"] ue (aX qQ):=⟨O,O,O,by decide +kernel,O,by decide +kernel,by decide +kernel⟩
abbrev oF:Stmt:=top 22
theorem gX:cy ["terms", "leads", "edges", "least", "steps", "place", "edge", "a", "b"] wa2 (aX oF):=⟨O,O,O,by decide +kernel,O,by decide +kernel,by decide +kernel⟩
abbrev pL:Stmt:=top 23
theorem iP:cy ["steps", "least", "a", "b", "row", "here", "step", "there"] wa9 (aX pL):=⟨O,O,O,by decide +kernel,O,by decide +kernel,by decide +kernel⟩
abbrev tm:Stmt:=top 24
theorem qP:cy ["terms", "row", "found", "step"] wc0 (aX tm):=⟨O,O,O,by decide +kernel,O,by decide +kernel,by decide +kernel⟩
abbrev Fy:Stmt:=top 25
theorem yy:cy ["terms", "edges", "book", "a", "b", "above", "row", "ends"] wa3 (aX Fy):=⟨O,O,O,by decide +kernel,O,by decide +kernel,by decide +kernel⟩
abbrev w8:Stmt:=top 26
theorem jD:cy ["terms", "edges", "row", "above", "here", "total", "step", "length"] wa5 (aX w8):=⟨O,O,O,by decide +kernel,O,by decide +kernel,by decide +kernel⟩
abbrev yA:Stmt:=top 27
theorem LU:cy wb9 wb9 (aX yA):=⟨O,O,O,by decide +kernel,O,by decide +kernel,by decide +kernel⟩
abbrev sZ:Stmt:=top 28
theorem Fv:cy HA HA (aX sZ):=⟨O,O,O,by decide +kernel,O,by decide +kernel,by decide +kernel⟩
abbrev tq:Stmt:=top 29
theorem nI:cy ["edges", "step", "edge", "one_way", "other_way"] wb8 (aX tq):=⟨O,O,O,by decide +kernel,O,by decide +kernel,by decide +kernel⟩
abbrev zz:Stmt:=top 30
abbrev Ao:Stmt:=top 37
theorem nH:cy ["_law_terms", "_law_leads", "_law_edges", "_law_a", "_law_b", "_law_kind", "_law_caught", "error"] gr (aX Ao):=⟨O,O,O,by decide +kernel,O,by decide +kernel,by decide +kernel⟩
abbrev xb:Stmt:=top 38
theorem pI:cy ["_law_terms", "_law_edges", "_law_edge_here", "_law_more", "_law_leads", "_law_book"] tO (aX xb):=⟨O,O,O,by decide +kernel,O,by decide +kernel,by decide +kernel⟩
abbrev pM:Stmt:=top 39
theorem om:cy fu ["_law_script"] (aX pM):=⟨O,O,O,by decide +kernel,O,by decide +kernel,by decide +kernel⟩
section
variable {P:Program}{w:World}{K:ao}{mg:Str->Option Value}{base:Heap}{CB CF CH CS CN CE CM tB:Addr}
inductive R6(K:ao)(vs:List V)(H:Hp)(Q:VK):Prop
 | mk (v:V) (t:Tm) (L:Addr) (ls:List Nat) (z0:vs = [v,.ref L]) (z1:oU H t v) (z2:a9 K H L (ls.map nV)) (z3:(∀ x as,t = .of x as->as.length<=1000∧∀ a∈as,a < ls.length)) (z4:∀ v' H',bJ H H'->oU H' (mk ls t) v'->Q v' H'):R6 K vs H Q
def IH(K:ao):Sp:=fun vs H Q _=>R6 K vs H Q
theorem Xz(B:lK mg)(D:Def K mg "mark" DM wb0):dQ P w K mg base 1 "mark" wb0 (IH K):=by
 refine D.has Xe (fun vs H Q E h =>?_) (fun f cJ A outer s H vs Q E hr h =>?_)
 ·obtain⟨v,t,L,ls,rfl,_⟩:=h;rfl
 obtain⟨v,t,L,ls,rfl,hT,hL,hb,q⟩:=h
 refine⟨_,(av (dE (cC wm (aM bF (pv 0) aA) fP (cz _)) (aI (cF (pv 0))) cD)
  (aI (cF (cK (ae fP (ae (aM bF (pv 0) aA) (ae (eP zI O B.PR Cr (ae (xJ (te:=(uX (Oj K) _ _)) (own := ["number"]) (caps := [("leads",1)]) (iW (aX DM) wb0 O O O (by decide +kernel)) (Jh (aM bF (pv 0) aA)) O (fun _ _ _=>bX (i:=0) (show (["number", "leads"]:List Str).Nodup by decide +kernel) O (aO O)) (fun _ _ _=>(aM bG (pv 1) (pv 0)))) aq)) aq))))))),?_⟩
 try dsimp only[dR]
 cases t with
 | num n =>
  obtain⟨a,rfl,h⟩:=id hT
  refine⟨_,O,a,_,0,_,O,O,bM.of h,aY (j:=0) rfl,O,_,O,rM (fun _=>⟨_,O,q _ _ (bJ.refl _) hT⟩) (fun z=>absurd (V.str.inj z) (by decide))⟩
 | name n =>
  obtain⟨a,rfl,h⟩:=id hT
  refine⟨_,O,a,_,0,_,O,O,bM.of h,aY (j:=0) rfl,O,_,O,rM (fun _=>⟨_,O,q _ _ (bJ.refl _) hT⟩) (fun z=>absurd (V.str.inj z) (by decide))⟩
 | of x as =>
  obtain⟨a,b,rfl,h,h2⟩:=id hT
  obtain⟨hl,cW⟩:=hb x as rfl
  refine⟨_,O,a,_,0,_,O,O,bM.of h,aY (j:=0) rfl,O,_,O,rM (fun z=>absurd rfl z) (fun _ =>?_)⟩
  refine⟨_,O,a,_,1,_,O,O,bM.of h,aY (j:=1) rfl,?_⟩
  refine⟨_,O,a,_,2,_,O,O,bM.of h,aY (j:=2) rfl,b,O,⟨_,bM.of h2⟩,?_⟩
  refine Hj (ys:=(as.map fun a=>ls.getD a 0).map nV) (bM.of h2) (by rw[az];exact hl) (by simp) (fun i y z hy hz H' sm Q' q' =>?_) (fun D1 H' kF sm hD =>?_)
  ·rw[aK]at hy
   rw[aK,aK]at hz
   cases e:as[i]? with
   | none=>rw[e]at hy;cases hy
   | some k =>
    rw[e]at hy hz
    have e1:nV k=y:=aD hy
    have e2:nV (ls.getD k 0)=z:=aD hz
    subst e1 e2
    have hk:=cW k (ak e)
    have e3:ls[k]? = some (ls.getD k 0):=by rw[bc,aj hk];rfl
    exact⟨_,O,_,O,L,_,_,_,O,O,sm.seq hL,oG e3,q' _ (bJ.refl _)⟩
  ·refine⟨D1,_,O,.inl ⟨a9.of hD,fun l MY =>?_⟩⟩
   refine⟨(show 3<=sizeLine by decide),fun t ht =>?_⟩
   refine q _ _ (sm.trans ((bo MY _).trans (bo ht _))) ⟨t,l,O,aF,?_⟩
   rw[aE (bQ aF ht),aF]
inductive R9(vs:List V)(H:Hp)(Q:VK):Prop
 | mk (L:Addr) (ls:List Nat) (a b la lb:Nat) (z0:vs = [.ref L,nV a,nV b]) (z1:H L=some (.lst (ls.map nV))) (z2:nR ls) (z3:ls.length<=1000000) (z4:ls[a]? = some la) (z5:ls[b]? = some lb) (z6:(la=lb->Q (.bl false) H)) (z7:(la≠lb->Q (.bl true) (upd H L (.lst ((jn ls (max la lb) (min la lb)).map nV))))):R9  vs H Q
def IJ:Sp:=fun vs H Q _=>R9  vs H Q
theorem DW(B:lK mg)(D:Def K mg "join_classes" qR wb2):dQ P w K mg base 1 "join_classes" wb2 IJ:=by
 refine D.has mB (fun vs H Q E h =>?_) (fun f cJ A outer s H vs Q E hr h =>?_)
 ·obtain⟨L,ls,a,b,la,lb,rfl,_⟩:=h;rfl
 obtain⟨L,ls,a,b,la,lb,rfl,hL,hg,hz,ha,hb,q1,q2⟩:=h
 refine⟨_,(av (bz (i:=3) mB.nd O (aO O) (cL (wI O) O B.FU sQ (ae (aM bG (pv 0) (pv 1)) (ae (aM bG (pv 0) (pv 2)) aq))))
  (av (bz (i:=4) mB.nd O (aO O) (cL (wJ O) O B.Ox wL (ae (aM bG (pv 0) (pv 1)) (ae (aM bG (pv 0) (pv 2)) aq))))
  (av (dE (cC gA (pv 3) (pv 4) (cz _)) (aI (cF js)) cD)
  (av (fA cq O (Qq O B.As (ae (pv 4) (ae (cL dU O B.m7 cQ (ae (pv 0) aq)) aq))) (bX (i:=5) mB.nd O (aO O))
  (aI (dE (cC gA (aM bG (pv 0) (pv 5)) (pv 4) (cz _)) (aI (DS (pv 3) (DT (pv 0) (pv 5) yx))) cD)))
  (aI (cF js)))))),?_⟩
 try dsimp only[dR]
 refine⟨_,O,_,O,L,_,_,_,O,O,a9.of hL,oG ha,_,O,_,O,L,_,_,_,O,O,a9.of hL,oG hb,_,_,O,?_⟩
 refine⟨_,O,_,O,L,_,_,_,O,O,a9.of hL,oG ha,_,O,_,O,L,_,_,_,O,O,a9.of hL,oG hb,_,_,O,?_⟩
 have e1:(if (lb:Int) < (la:Int) then (lb:Int) else (la:Int))=((min la lb:Nat):Int):=by split <;> omega
 have e2:(if (lb:Int) > (la:Int) then (lb:Int) else (la:Int))=((max la lb:Nat):Int):=by split <;> omega
 dsimp only[bq]
 rw[e1,e2]
 by_cases ia:la=lb
 ·refine⟨_,O,_,O,O,_,O,iZ (fun _=>q1 ia) (fun z=>absurd ?_ z)⟩
  show V.int _=V.int _
  congr 1;omega
 ·refine⟨_,O,_,O,O,_,O,iZ (fun z =>?_) (fun _ =>?_)⟩
  ·have:=V.int.inj z
   omega
  have Kl:∃ c:Nat,ls[c]? = some (max la lb):=by
   rcases i4 la lb with h | h
   ·exact⟨b,by rw[jL h];exact hb⟩
   ·exact⟨a,by rw[ke h];exact ha⟩
  obtain⟨c,hc⟩:=Kl
  have ahn:=(hg c _ hc).2
  have cW:max la lb < ls.length:=(ai.mp ahn).1
  have q2':=q2 ia
  have alj:min la lb < max la lb:=by omega
  generalize max la lb=hi at *
  generalize min la lb=lo at *
  refine⟨_,O,_,O,L,_,O,.inl (a9.of hL),hi,_,O,?_,?_⟩
  ·rw[az];omega
  have en:(((ls.map nV).length:Nat):Int) - (hi:Int)=((ls.length - hi:Nat):Int):=by rw[az];omega
  rw[en,cn]
  refine G9 (lo:=(hi:Int)) (fun i Y H'=>∃ o, Y = [aa L,aN a,aN b,aN lo,aN hi,o]∧H'=upd H L (.lst ((md ls hi lo (hi+i)).map nV))) ⟨none,O,?_⟩ ?_ ?_
  ·rw[qm,QD hg]
   funext c'
   by_cases h:c'=L
   ·subst h;rw[aF];exact hL
   ·rw[aE h]
  ·rintro i Y H' hi' ⟨o,rfl,rfl⟩
   have hk:hi+i < ls.length:=by omega
   have ev:=aj hk
   generalize ls[hi+i]=v at ev
   have em:(md ls hi lo (hi+i))[hi+i]? = some v:=by
    rw[vk,ev]
    show some _=some _
    dsimp only
    rw[if_neg (by omega)]
   have ek:(hi:Int)+(i:Int)=((hi+i:Nat):Int):=by omega
   show SX _ _ _ _ _ _
   refine⟨_,O,_,O,L,_,_,nV v,O,O,a9.of aF,(by rw[ek];exact oG em),_,O,O,_,O,iZ (fun z =>?_) (fun z =>?_)⟩
   ·have hv:v=hi:=by have:=V.int.inj z;omega
    refine⟨_,O,_,O,_,O,L,_,_,hi+i,O,O,aF,?_,⟨_,O,?_⟩⟩
    ·rw[ek,az,MG]
     unfold Ca
     rw[if_pos (by omega),if_pos (by omega),cn]
    ·rw[Fj]
     have:=XI (hi:=hi) (lo:=lo) ev
     unfold l5 at this
     rw[if_pos hv]at this
     rw[Z6,this]
     rfl
   ·have hv:v≠hi:=fun e=>z (by rw[e])
    refine⟨_,O,?_⟩
    have:=TZ (hi:=hi) (lo:=lo) ev hv
    rw[show hi+(i+1)=hi+i+1 from rfl,this]
  ·rintro Y H' ⟨o,rfl,rfl⟩
   rw[XJ (by omega)]
   exact q2'
inductive EW(P:Program)(w:World)(vs:List V)(H:Hp)(Q:VK):Prop
 | mk (T L:Addr) (us:List V) (ts:List Tm) (ls:List Nat) (es:List (Nat × Nat)) (z0:vs = [.ref T,.ref L]) (z1:H T=some (.lst us)) (z2:lH H us ts) (z3:H L=some (.lst (ls.map nV))) (z4:T≠L) (z5:nR ls) (z6:Sound ts es ls) (z7:rJ ts) (z8:ls.length=ts.length) (z9:ts.length<=1000) (BZ:(∀ (i:Nat) x as,ts[i]? = some (.of x as)->as.length<=1000)) (Dz:∀ gv b H',dD L H H'->H' L=some (.lst (gv.map nV))->nR gv->Sound ts es gv->Keeps ls gv->gv.length=ls.length->(b=true->gv.sum < ls.sum)->(b=false->gv=ls∧∀ (i j:Nat) (t u:Tm),ts[i]? = some t->ts[j]? = some u->mk ls t=mk ls u->ls[i]? = ls[j]?)->Q (.bl b) H'):EW P w vs H Q
def DJ(P:Program)(w:World):Sp:=fun vs H Q _=>EW P w vs H Q
inductive zO(P:Program)(w:World)(H:Hp)(T:Addr)(L:Addr)(p:Addr)(ts:List Tm)(es:List (Nat × Nat))(ls:List Nat)(i:Nat)(Y:St)(H':Hp):Prop
 | mk:∀ (gv:List Nat) (jd:Bool) (kvs:List (NK × V)) (x4 x5 x6:Option V),(Y = [aa T,aa L,some (.bl jd),some (.ref p),x4,x5,x6])->(dD L H H')->(H' L=some (.lst (gv.map nV)))->(DN P w H' p kvs)->(nR gv)->(Sound ts es gv)->(Keeps ls gv)->(gv.length=ls.length)->((jd=true->gv.sum < ls.sum))->((jd=false->gv=ls))->(gv.sum<=ls.sum)->(kvs.length<=i)->((∀ key v,bL kvs key=some v->∃ j t m,v=nV j∧ts[j]? = some t∧key=iY m∧EV ts es t m))->((jd=false->∀ (j:Nat) t,j < i->ts[j]? = some t->∃ j',bL kvs (iY (mk ls t))=some (nV j')∧ls[j']? = ls[j]?))->zO P w H T L p ts es ls i Y H'
theorem Jo(B:lK mg)(xV:dQ P w K mg base 1 "mark" wb0 (IH K))(jB:dQ P w K mg base 1 "join_classes" wb2 IJ)(D:Def K mg "join_like" xc wa0) :
  dQ P w K mg base 2 "join_like" wa0 (DJ P w):=by
 refine D.has jE (fun vs H Q E h =>?_) (fun f cJ A outer s H vs Q E hr h =>?_)
 ·obtain⟨T,L,us,ts,ls,es,rfl,_⟩:=h;rfl
 obtain⟨T,L,us,ts,ls,es,rfl,hT,i7,hL,hTL,hg,hs,Wd,eD,hz,hza,q⟩:=h
 refine⟨_,(av (bz (i:=2) jE.nd O (aO O) js)
  (av (bz (i:=3) jE.nd O (aO O) m6)
  (av (fA cq O (Bx O B.uB (ae (pv 0) aq)) (m5 O (et (bX (i:=4) jE.nd O (aO O)) (et (bX (i:=5) jE.nd O (aO O)) kX)))
  (av (bz (i:=6) jE.nd O (aO O) (FG (n5 hr) (pv 3) (bp xV hr (by omega) O (ae (pv 5) (ae (pv 1) aq))) (pv 4) ⟨O,O,O,O⟩))
  (aI (dE (jm (bp jB hr (by omega) O (ae (pv 1) (ae (pv 6) (ae (pv 4) aq))))) (aI (bz (i:=2) jE.nd O (aO O) js)) cD))))
  (aI (cF (pv 2)))))),?_⟩
 try dsimp only[dR]
 have wz:=aV i7
 intro p φ hp A2
 dsimp only[bq]
 have hpL:p≠L:=fun e=>by rw[e,hL]at hp;cases hp
 have hpT:p≠T:=fun e=>by rw[e,hT]at hp;cases hp
 refine⟨_,O,T,O,⟨us,a9.of (by rw[aE (cm hpT)];exact hT)⟩,?_⟩
 refine yU (xs:=us) (zO P w H T L p ts es ls)
  ⟨ls,false, [],none,none,none,O,(dD.refl L H).new hp,by rw[aE (cm hpL)];exact hL,A2,hg,hs,OI ls,O,nofun,fun _=>rfl,ar _,bx _,(fun key v e=>by rw[yq]at e;cases e),fun _ j t hj=>absurd hj (jb _)⟩ ?_ ?_ ?_
 ·rintro i Y H' _ ⟨gv,jd,kvs,x4,x5,x6,rfl,bt,_⟩
  exact a9.of (bt T _ hTL hT)
 ·rintro i x a0 Y H' hx ⟨gv,jd,kvs,x4,x5,x6,rfl,bt,Cm,dn,sI,lF,sG,rO,V3,MZ,Uh,hkl,iA,iB⟩ Ks
  obtain⟨t,ht,wu⟩:=DG i7 hx
  have hi:i < ts.length:=(ai.mp ht).1
  have Aj:=bo Ks (.tup [.int (i:Int),x])
  have bt1:=bt.same Aj
  have JN:oU (upd H' a0 (.tup [.int (i:Int),x])) t x:=wu.keep (bt1.tup hL)
  have M7:=Aj _ _ Cm
  have xZ:=dn.same Aj
  refine⟨a0,_,O,bM.of aF,O,_,_,O,_,_,O,O,?_⟩
  generalize upd H' a0 (.tup [.int (i:Int),x])=H1 at bt1 JN M7 xZ ⊢
  have hb:∀ x as,t = .of x as->as.length<=1000∧∀ a∈as,a < gv.length:=fun x as e=>by
   subst e
   refine⟨hza i x as ht,fun a ha =>?_⟩
   have:=Wd i x as ht a ha
   omega
  refine⟨_,O,p,O,⟨kvs,xZ⟩,_,O,_,O,x,t,L,gv,O,JN,a9.of M7,hb,fun v' H2 jC hm =>?_⟩
  obtain⟨b,rfl,nk⟩:=hm.key
  have EC:=xZ.same jC
  have Es:=jC _ _ M7
  have Lg:=bt1.same jC
  obtain⟨li,Kg⟩:∃ li,gv[i]? = some li:=⟨_,aj (by omega)⟩
  refine⟨_,O,kvs,iY (mk gv t),b,EC,O,nk,cU (by omega),fun v hv =>?_,fun hn UZ qG =>?_⟩
  ·-- there is one ah3
   obtain⟨j,u,m,rfl,hu,vv,jV⟩:=iA _ _ hv
   have em:m=mk gv t:=Iw vv.symm
   subst em
   have hj:j < ts.length:=(ai.mp hu).1
   obtain⟨lj,Q1⟩:∃ lj,gv[j]? = some lj:=⟨_,aj (by omega)⟩
   have eq:Eqv ts es j i:=Oe hu ht jV (Gu lF (fun x as e=>(hb x as e).2))
   refine⟨_,O,_,O,_,O,L,gv,j,i,lj,li,O,Es,sI,by omega,Q1,Kg,fun e =>?_,fun e =>?_⟩
   ·refine⟨_,O,iF ⟨gv,jd,kvs,_,_,_,O,Lg,Es,EC,sI,lF,sG,rO,V3,MZ,Uh,by omega,iA,fun En j' t' Kk Ef =>?_⟩⟩
    by_cases Cd:j' < i
    ·exact iB En j' t' Cd Ef
    ·have e':j'=i:=by omega
     subst e'
     rw[ht]at Ef;cases Ef
     have el:=MZ En
     rw[el]at hv Q1 Kg
     exact⟨j,hv,by rw[Q1,Kg,e]⟩
   ·have e1:Eqv ts es lj li := .trans (.symm (lF j lj Q1)) (.trans eq (lF i li Kg))
    have g1:=(sI j lj Q1).2
    have g2:=(sI i li Kg).2
    have eqv:Eqv ts es (max lj li) (min lj li):=by
     rcases i4 lj li with h | h
     ·rw[jL h,ik h];exact e1.symm
     ·rw[ke h,gS h];exact e1
    have AQ:gv[min lj li]? = some (min lj li):=by
     rcases i4 lj li with h | h
     ·rw[ik h];exact g1
     ·rw[gS h];exact g2
    have Kl:max lj li∈gv:=by
     rcases i4 lj li with h | h
     ·rw[jL h];exact ak g2
     ·rw[ke h];exact ak g1
    have cW:min lj li < max lj li:=by omega
    have MR:=P0 cW Kl
    refine⟨_,O,oM ?_⟩
    refine⟨jn gv (max lj li) (min lj li),true,kvs,_,_,_,O,Lg.put,aF,EC.keep (fun φ e=>by rw[aE hpL];exact e) (fun c ys e=>by rw[aE (aZ e Es nofun)];exact e),
     Nb sI AQ cW,IK lF eqv,sG.trans (Uc _ _ _),by rw[QS];exact rO,fun _=>by omega,nofun,by omega,by omega,iA,nofun⟩
  ·-- it is oY first one
   have Er:(upd H2 p (.ext UZ)) L=some (.lst (gv.map nV)):=by rw[aE (cm hpL)];exact Es
   refine⟨_,O,_,O,_,O,L,gv,i,i,li,li,O,Er,sI,by omega,Kg,Kg,fun _ =>?_,fun z=>absurd rfl z⟩
   refine⟨_,O,iF ⟨gv,jd,_,_,_,_,O,Lg.new hp,Er,qG,sI,lF,sG,rO,V3,MZ,Uh,by rw[aG];show kvs.length+1<=i+1;omega,fun key v e =>?_,fun En j' t' Kk Ef =>?_⟩⟩
   ·rw[wj _ _ _ _ hn]at e
    by_cases hk:key=iY (mk gv t)
    ·rw[if_pos hk]at e
     cases e
     exact⟨i,t,mk gv t,O,ht,hk,Gu lF (fun x as e=>(hb x as e).2)⟩
    ·rw[if_neg hk]at e
     exact iA key v e
   ·have el:=MZ En
    rw[wj _ _ _ _ hn]
    by_cases Cd:j' < i
    ·obtain⟨j2,e1,e2⟩:=iB En j' t' Cd Ef
     by_cases hk:iY (mk ls t')=iY (mk gv t)
     ·rw[hk,hn]at e1;cases e1
     ·rw[if_neg hk];exact⟨j2,e1,e2⟩
    ·have e':j'=i:=by omega
     subst e'
     rw[ht]at Ef;cases Ef
     rw[el,if_pos rfl]
     exact⟨j',O,O⟩
 ·rintro Y H' ⟨gv,jd,kvs,x4,x5,x6,rfl,bt,Cm,dn,sI,lF,sG,rO,V3,MZ,Uh,hkl,iA,iB⟩
  refine⟨_,O,q gv jd H' bt Cm sI lF sG rO V3 fun En=>⟨MZ En,fun i j t u hi hj hm =>?_⟩⟩
  obtain⟨i',a1,a2⟩:=iB En i t (by rw[wz];exact(ai.mp hi).1) hi
  obtain⟨j',b1,b2⟩:=iB En j u (by rw[wz];exact(ai.mp hj).1) hj
  rw[hm,b1]at a1
  have e:i'=j':=by have:=V.int.inj (aD a1);omega
  rw[<- a2, <- b2,e]
inductive Lp(K:ao)(vs:List V)(H:Hp)(Q:VK):Prop
 | mk (T E:Addr) (us Nc:List V) (ts:List Tm) (es:List (Nat × Nat)) (z0:vs = [.ref T,.ref E]) (z1:H T=some (.lst us)) (z2:lH H us ts) (z3:a9 K H E Nc) (z4:Pl H Nc es) (z5:rJ ts) (z6:ts.length<=1000) (z7:(∀ (i:Nat) x as,ts[i]? = some (.of x as)->as.length<=1000)) (z8:(∀ a b:Nat,(a,b)∈es->a < ts.length∧b < ts.length)) (z9:∀ L ls H',bJ H H'->H L=none->H' L=some (.lst (ls.map nV))->Bo ts es ls->Q (.ref L) H'):Lp K vs H Q
def CI(K:ao):Sp:=fun vs H Q _=>Lp K vs H Q
inductive E9(H:Hp)(T:Addr)(E:Addr)(L:Addr)(ts:List Tm)(es:List (Nat × Nat))(bw:St)(H':Hp):Prop
 | mk:∀ (ls:List Nat) (x3:Option V),(bw = [aa T,aa E,aa L,x3])->(bJ H H')->(H' L=some (.lst (ls.map nV)))->(nR ls)->(Sound ts es ls)->(ls.length=ts.length)->(∀ a b:Nat,(a,b)∈es->ls[a]? = ls[b]?)->E9 H T E L ts es bw H'
inductive E8(H:Hp)(T:Addr)(E:Addr)(L:Addr)(ts:List Tm)(es:List (Nat × Nat))(i:Nat)(bw:St)(H':Hp):Prop
 | mk:∀ (ls:List Nat) (x3:Option V),(bw = [aa T,aa E,aa L,x3])->(bJ H H')->(H' L=some (.lst (ls.map nV)))->(nR ls)->(Sound ts es ls)->(ls.length=ts.length)->(∀ (j a b:Nat),j < i->es[j]? = some (a,b)->ls[a]? = ls[b]?)->E8 H T E L ts es i bw H'
theorem Qw(B:lK mg)(jB:dQ P w K mg base 1 "join_classes" wb2 IJ)(xo:dQ P w K mg base 2 "join_like" wa0 (DJ P w))(D:Def K mg "closed" CO wb3) :
  dQ P w K mg base 3 "closed" wb3 (CI K):=by
 refine D.has Am (fun vs H Q E h =>?_) (fun f cJ A outer s H vs Q E hr h =>?_)
 ·obtain⟨T,E,us,Nc,ts,es,rfl,_⟩:=h;rfl
 obtain⟨T,E,us,Nc,ts,es,rfl,hT,i7,hE,jo,Wd,hz,hza,hee,q⟩:=h
 refine⟨_,(av (bz (i:=2) Am.nd O (aO O) (eP (HS O) O B.kH eQ (ae (eP Le O B.As PyProof.Rows.boot_range (ae (cL dU O B.m7 cQ (ae (pv 0) aq)) aq)) aq)))
  (av (fA cq O (fU (pv 1)) (bX (i:=3) Am.nd O (aO O))
  (aI (dt (bp jB hr (by omega) O (ae (pv 2) (ae (aM bF (pv 3) aA) (ae (aM bF (pv 3) aA) aq)))))))
  (av (yG cq (jm (bp xo hr (by omega) O (ae (pv 0) (ae (pv 2) aq))))
  (aI Xm))
  (aI (cF (pv 2)))))),?_⟩
 try dsimp only[dR]
 have wz:=aV i7
 have hue:=aV jo
 refine⟨_,O,T,us,O,.inl (a9.of hT),_,O,fun r vt=>⟨r,us.length,O,aF,by omega,fun L KD =>?_⟩⟩
 dsimp only[bq]
 have Wn:H L=none:=by
  by_cases e:L=r
  ·rw[e];exact vt
  ·rw[aE e]at KD;exact KD
 have Aj:bJ H (upd (upd H r (.Aq 0 ((us.length:Nat):Int))) L (.lst ((bA us.length).map fun i:Nat=>V.int (i:Int)))):=(bo vt _).trans (bo KD _)
 have M7:(upd (upd H r (.Aq 0 ((us.length:Nat):Int))) L (.lst ((bA us.length).map fun i:Nat=>V.int (i:Int)))) L=some (.lst ((bA ts.length).map nV)):=by rw[aF,wz]
 generalize (upd (upd H r (.Aq 0 ((us.length:Nat):Int))) L (.lst ((bA us.length).map fun i:Nat=>V.int (i:Int))))=H1 at Aj M7 ⊢
 have hTL:T≠L:=fun e=>by rw[e,Wn]at hT;cases hT
 refine mZ (E9 H T E L ts es) ?_ (fun key =>?_)
 ·rintro bw H2 ⟨ls,x3,rfl,jC,Es,V6,jW,adV,ahq⟩
  refine⟨fun m bw H'=>∃ (ls:List Nat),m=ls.sum ∧ bw = [aa T,aa E,aa L,x3]∧bJ H H'∧H' L=some (.lst (ls.map nV))∧nR ls∧Sound ts es ls∧ls.length=ts.length∧∀ a b:Nat,(a,b)∈es->ls[a]? = ls[b]?,
   ⟨_,ls,O,O,jC,Es,V6,jW,adV,ahq⟩,?_⟩
  rintro m bw H3 ⟨ls,rfl,rfl,zw,Er,hg3,xR,VZ,abu⟩
  refine⟨_,O,_,O,T,L,us,ts,ls,es,O,zw _ _ hT,gb zw i7,Er,hTL,hg3,xR,Wd,VZ,hz,hza,fun gv b H4 bt KC hg4 hs4 hk4 alk Kq Ra =>?_⟩
  have Mp:bJ H H4:=fun c o h=>bt c o (fun e=>by rw[e,Wn]at h;cases h) (zw c o h)
  have ahp:∀ a b:Nat,(a,b)∈es->gv[a]? = gv[b]? := fun a b h=>by
   obtain⟨h1,h2⟩:=hee a b h
   obtain⟨v,hv⟩:∃ v,ls[a]? = some v:=⟨_,aj (by omega)⟩
   obtain⟨u,e1,e2⟩:=hk4 a b v hv (by rw[<- abu a b h];exact hv)
   rw[e1,e2]
  refine⟨_,O,?_⟩
  cases b with
  | true =>
   refine oM ⟨fun bw H'=>∃ m',m' < ls.sum∧∃ (ls:List Nat),m'=ls.sum ∧ bw = [aa T,aa E,aa L,x3]∧bJ H H'∧H' L=some (.lst (ls.map nV))∧nR ls∧Sound ts es ls∧ls.length=ts.length∧∀ a b:Nat,(a,b)∈es->ls[a]? = ls[b]?,fun bw H' h=>h,?_⟩
   exact⟨_,Kq rfl,gv,O,O,Mp,KC,hg4,hs4,by omega,ahp⟩
  | false =>
   obtain⟨el,hm⟩:=Ra rfl
   refine iF ⟨_,O,q L gv H4 Mp Wn KC ⟨by omega,hg4,hs4,fun i j hi hj e =>?_⟩⟩
   rw[el]
   exact UM Wd hee VZ abu hm e
 ·refine⟨_,O,E,O,⟨Nc,Aj.seq hE⟩,?_⟩
  refine gR (xs:=Nc) (E8 H T E L ts es)
   ⟨_,none,O,Aj,M7,X0 _,S4 _ _ _,cN,fun j a b hj=>absurd hj (jb _)⟩ ?_ ?_ ?_
  ·rintro i bw H' _ ⟨ls,x3,rfl,sm,_⟩
   exact sm.seq hE
  ·rintro i x bw H' hx ⟨ls,x3,rfl,sm,Cm,sI,lF,rO,OX⟩
   obtain⟨⟨a,b⟩,he,ea,rest,rfl,AS⟩:=KZ jo hx
   have abv:=sm _ _ AS
   obtain⟨ha,hb⟩:=hee a b (ak he)
   obtain⟨la,Q3⟩:∃ la,ls[a]? = some la:=⟨_,aj (by omega)⟩
   obtain⟨lb,Q2⟩:∃ lb,ls[b]? = some lb:=⟨_,aj (by omega)⟩
   refine⟨_,O,_,O,ea,_,0,_,O,O,bM.of abv,aY (j:=0) rfl,_,O,ea,_,1,_,O,O,bM.of abv,aY (j:=1) rfl,L,ls,a,b,la,lb,O,Cm,sI,by omega,Q3,Q2,fun e =>?_,fun e =>?_⟩
   ·refine⟨ls,_,O,sm,Cm,sI,lF,rO,fun j c d hj m9 =>?_⟩
    by_cases Cd:j < i
    ·exact OX j c d Cd m9
    ·have e':j=i:=by omega
     subst e'
     rw[he]at m9;cases m9
     rw[Q3,Q2,e]
   ·have e1:Eqv ts es la lb := .trans (.symm (lF a la Q3)) (.trans (.dH (ak he)) (lF b lb Q2))
    have g1:=(sI a la Q3).2
    have g2:=(sI b lb Q2).2
    have eqv:Eqv ts es (max la lb) (min la lb):=by
     rcases i4 la lb with h | h
     ·rw[jL h,ik h];exact e1.symm
     ·rw[ke h,gS h];exact e1
    have AQ:ls[min la lb]? = some (min la lb):=by
     rcases i4 la lb with h | h
     ·rw[ik h];exact g1
     ·rw[gS h];exact g2
    have cW:min la lb < max la lb:=by omega
    refine⟨jn ls (max la lb) (min la lb),_,O,sm.put Wn,aF,Nb sI AQ cW,IK lF eqv,by rw[QS];exact rO,fun j c d hj m9 =>?_⟩
    by_cases Cd:j < i
    ·have:=OX j c d Cd m9
     rw[pT,pT,this]
    ·have e':j=i:=by omega
     subst e'
     rw[he]at m9;cases m9
     rw[pT,pT,Q3,Q2]
     show some _=some _
     unfold l5
     by_cases h:la<=lb
     ·rw[jL h,ik h,if_neg e,if_pos rfl]
     ·rw[ke (by omega),gS (by omega),if_pos rfl,if_neg (fun z=>e z.symm)]
  ·rintro bw H' ⟨ls,x3,rfl,sm,Cm,sI,lF,rO,OX⟩
   refine key _ _ ⟨ls,x3,O,sm,Cm,sI,lF,rO,fun a b h =>?_⟩
   obtain⟨j,hj⟩:=List.mem_iff_getElem?.mp h
   exact OX j a b (by rw[hue];exact(ai.mp hj).1) hj
theorem xH{c:TT}{t u:TS}{D:Ends}{Y:St}{H:Hp}(R:Bool->Hp->Prop)(hc:∀ Q:Bool->Hp->Prop,(∀ b H',R b H'->Q b H')->c Y H Q)(h1:∀ H',R true H'->t D Y H')(h2:∀ H',R false H'->u D Y H'):SX c t u D Y H:=by
 refine hc _ (fun b H' r =>?_)
 cases b with
 | true=>exact oM (h1 H' r)
 | false=>exact iF (h2 H' r)
def B6:Option Nat->V
 | some l=>nV l
 | none => .cG
def cg(p:Nat × Nat):NK := [.inl (.inl (p.1:Int)),.inl (.inl (p.2:Int))]
theorem yH{p q:Nat × Nat}(h:cg p=cg q):p=q:=by
 unfold cg at h
 injection h with h1 h2
 injection h2 with h2 _
 have e1:=gH (gH h1)
 have e2:=gH (gH h2)
 exact rE (by omega) (by omega)
theorem kW{H:Hp}{b:Addr}{x y:Nat}(h:H b=some (.tup [nV x,nV y])):fD H (cg (x,y)) b:=⟨_,h,_,O,_,O,O⟩
abbrev dZ(H:Hp):List V->List (Nat × Nat)->Prop:=Paired fun v p=>∃ q,v=V.ref q∧H q=some (.tup [nV p.1,nV p.2])
theorem bC{H H':Hp}{vs:List V}{l:List (Nat × Nat)}(h:dZ H vs l)(k:∀ c ys,H c=some (.tup ys)->H' c=some (.tup ys)):dZ H' vs l:=Paired.xj h fun _ _ ⟨q,e,hq⟩=>⟨q,e,k _ _ hq⟩
structure SA where
 T:Addr
 L:Addr
 W:Addr
 S:Addr
 Hd:Addr
 Sg:Addr
 Aw:Addr
 Lk:Addr
 Lr:List Addr
 Wr:List Addr
 Sr:List Addr
def ie(L:Mx)(n a:Nat):List V:=(bA n).map fun b=>B6 (L a b)
structure rn(n:Nat)(kvs:List (Key × V))(f:Nat->Option Nat):Prop where
 val:∀ b:Nat,bL kvs (.inl (b:Int))=(f b).map nV
 key:∀ kv∈kvs,∃ b m:Nat,kv=((.inl (b:Int):Key),nV m)∧b < n
 nd:(kvs.map (·.1)).Nodup
structure oW(H:Hp)(n:Nat)(kvs:List (Key × V))(f:Nat->Option (Nat × Nat)):Prop where
 cG:∀ a:Nat,f a=none->bL kvs (.inl (a:Int))=none
 Gy:∀ (a k b:Nat),f a=some (k,b)->∃ p,bL kvs (.inl (a:Int))=some (.ref p)∧H p=some (.tup [nV k,nV a,nV b])
 key:∀ kv∈kvs,∃ a:Nat,kv.1=(.inl (a:Int):Key)∧a < n
 nd:(kvs.map (·.1)).Nodup
structure PD(P:Program)(w:World)(H:Hp)(a:Addr)(n:Nat)(kvs:List (NK × V))(f:Nat × Nat->Option V):Prop where
 dn:DN P w H a kvs
 val:∀ p,bL kvs (cg p)=f p
 key:∀ kv∈kvs,∃ p:Nat × Nat,kv.1=cg p∧p.1 < n∧p.2 < n
def LM(P:Program)(w:World)(H:Hp)(A:SA)(n:Nat)(aw:Nat × Nat->List (Nat × Nat)):Prop := ∃ kvs,DN P w H A.Aw kvs∧(∀ kv∈kvs,∃ p:Nat × Nat,kv.1=cg p∧p.1 < n∧p.2 < n) ∧
 ∀ q,(aw q = []∧bL kvs (cg q)=none)∨∃ c vs,bL kvs (cg q)=some (.ref c)∧H c=some (.lst vs)∧dZ H vs (aw q)∧c ∉ A.Lr∧c ∉ A.Sr
structure Sep(A:SA):Prop where
 nL:A.Lr.Nodup
 nW:(A.Hd :: A.Wr).Nodup
 nS:A.Sr.Nodup
 dLS:∀ c∈A.Lr,c ∉ A.Sr
 top:∀ c ∈ [A.T,A.L,A.W,A.S],c ∉ A.Lr∧c ∉ A.Sr
 e1:A.Sg≠A.Aw
 e2:A.Sg≠A.Lk
 e3:A.Aw≠A.Lk
structure de(P:Program)(w:World)(CS o dx:Addr)(A:SA)(us:List V)(ts:List Tm)(aw:Nat × Nat->List (Nat × Nat))(H:Hp)(s:SS)(lk:Nat × Nat->Option Nat):Prop where
 ins:H o=some (.ins CS dx [("terms",.ref A.T),("least",.ref A.L),("waiting",.ref A.W),("heads",.ref A.Hd),("single",.ref A.Sg),("steps",.ref A.S),("awaited",.ref A.Aw),("lacking",.ref A.Lk)])
 hT:H A.T=some (.lst us)
 Mf:lH H us ts
 hL:H A.L=some (.lst (A.Lr.map V.ref))
 lL:A.Lr.length=ts.length
 rL:∀ (a:Nat) (c:Addr),A.Lr[a]? = some c->H c=some (.lst (ie s.L ts.length a))
 hW:H A.W=some (.lst (A.Wr.map V.ref))
 lW:A.Wr.length=ts.length
 rW:∀ (a:Nat) (c:Addr),A.Wr[a]? = some c->∃ kvs,H c=some (.dK kvs)∧rn ts.length kvs (s.W a)
 hH:∃ kvs,H A.Hd=some (.dK kvs)∧oW H ts.length kvs s.Hd
 sg:∃ kvs,PD P w H A.Sg ts.length kvs fun p=>(s.Sg p.1 p.2).map nV
 hS:H A.S=some (.lst (A.Sr.map V.ref))
 lS:A.Sr.length=ts.length
 rS:∀ (a:Nat) (c:Addr),A.Sr[a]? = some c->∃ vs,H c=some (.lst vs)∧dZ H vs (s.St a)
 mF:LM P w H A ts.length aw
 me:∃ kvs,PD P w H A.Lk ts.length kvs fun p=>(lk p).map nV
 sep:Sep A
 dG:ts.length<=30
section
variable {H H':Hp}{o dx:Addr}{A:SA}{us:List V}{ts:List Tm}{aw:Nat × Nat->List (Nat × Nat)} {s s':SS}{lk B8:Nat × Nat->Option Nat}{x:Addr}
theorem PD.but{a:Addr}{n:Nat}{kvs:List (NK × V)}{f:Nat × Nat->Option V}(h:PD P w H a n kvs f)(bt:dD x H H')(na:a≠x)(nt:∀ c ys,H c=some (.tup ys)->c≠x):PD P w H' a n kvs f :=
 ⟨h.dn.keep (fun φ e=>bt _ _ na e) (fun c ys e=>bt _ _ (nt c ys e) e),h.val,h.key⟩
theorem oW.but{n:Nat}{kvs:List (Key × V)}{f:Nat->Option (Nat × Nat)}(h:oW H n kvs f)(k:∀ c ys,H c=some (.tup ys)->H' c=some (.tup ys)):oW H' n kvs f :=
 ⟨h.cG,fun a m b e=>by obtain⟨p,h1,h2⟩:=h.Gy a m b e;exact⟨p,h1,k _ _ h2⟩,h.key,h.nd⟩
theorem LM.but{n:Nat}(h:LM P w H A n aw)(bt:dD x H H')(na:A.Aw≠x)(nt:∀ c ys,H c=some (.tup ys)->c≠x)(nl:∀ c vs,H c=some (.lst vs)->c ∉ A.Lr->c ∉ A.Sr->c≠x):LM P w H' A n aw:=by
 obtain⟨kvs,d,hk,hq⟩:=h
 refine⟨kvs,d.keep (fun φ e=>bt _ _ na e) (fun c ys e=>bt _ _ (nt c ys e) e),hk,fun q =>?_⟩
 rcases hq q with h | ⟨c,vs,h1,h2,h3,h4,h5⟩
 ·exact .inl h
 ·exact .inr ⟨c,vs,h1,bt _ _ (nl c vs h2 h4 h5) h2,bC h3 fun c ys e=>bt _ _ (nt c ys e) e,h4,h5⟩
structure Off(H:Hp)(o:Addr)(A:SA)(x:Addr):Prop where
 o:o≠x
 T:A.T≠x
 L:A.L≠x
 W:A.W≠x
 S:A.S≠x
 tup:∀ c ys,H c=some (.tup ys)->c≠x
theorem de.parts(h:de P w CS o dx A us ts aw H s lk)(bt:dD x H H')(of:Off H o A x)(rL:∀ (a:Nat) (c:Addr),A.Lr[a]? = some c->H' c=some (.lst (ie s'.L ts.length a)))(rW:∀ (a:Nat) (c:Addr),A.Wr[a]? = some c->∃ kvs,H' c=some (.dK kvs)∧rn ts.length kvs (s'.W a))(hH:∃ kvs,H' A.Hd=some (.dK kvs)∧oW H' ts.length kvs s'.Hd)(sg:∃ kvs,PD P w H' A.Sg ts.length kvs fun p=>(s'.Sg p.1 p.2).map nV)(rS:∀ (a:Nat) (c:Addr),A.Sr[a]? = some c->∃ vs,H' c=some (.lst vs)∧dZ H' vs (s'.St a))(mF:LM P w H' A ts.length aw)(me:∃ kvs,PD P w H' A.Lk ts.length kvs fun p=>(B8 p).map nV):de P w CS o dx A us ts aw H' s' B8 :=
 ⟨bt _ _ of.o h.ins,bt _ _ of.T h.hT,mR (fun c ys e=>bt _ _ (of.tup c ys e) e) h.Mf,bt _ _ of.L h.hL,h.lL,rL,bt _ _ of.W h.hW,h.lW,rW,hH,sg,bt _ _ of.S h.hS,h.lS,rS,mF,me,h.sep,h.dG⟩
theorem de.same(h:de P w CS o dx A us ts aw H s lk)(sm:bJ H H'):de P w CS o dx A us ts aw H' s lk:=by
 have k:∀ c ys,H c=some (.tup ys)->H' c=some (.tup ys):=fun c ys e=>sm _ _ e
 refine⟨sm _ _ h.ins,sm _ _ h.hT,gb sm h.Mf,sm _ _ h.hL,h.lL,fun a c e=>sm _ _ (h.rL a c e),sm _ _ h.hW,h.lW,fun a c e =>?_,?_,?_,sm _ _ h.hS,h.lS,fun a c e =>?_,?_,?_,h.sep,h.dG⟩
 ·obtain⟨kvs,h1,h2⟩:=h.rW a c e;exact⟨kvs,sm _ _ h1,h2⟩
 ·obtain⟨kvs,h1,h2⟩:=h.hH;exact⟨kvs,sm _ _ h1,h2.but k⟩
 ·obtain⟨kvs,h1⟩:=h.sg;exact⟨kvs,h1.dn.same sm,h1.val,h1.key⟩
 ·obtain⟨vs,h1,h2⟩:=h.rS a c e;exact⟨vs,sm _ _ h1,bC h2 k⟩
 ·obtain⟨kvs,d,hk,hq⟩:=h.mF
  exact⟨kvs,d.same sm,hk,fun q=>(hq q).imp id fun ⟨c,vs,h1,h2,h3,h4⟩=>⟨c,vs,h1,sm _ _ h2,bC h3 k,h4⟩⟩
 ·obtain⟨kvs,h1⟩:=h.me;exact⟨kvs,h1.dn.same sm,h1.val,h1.key⟩
theorem de.ZY(h:de P w CS o dx A us ts aw H s lk){vs:List V}(hx:H x=some (.lst vs))(h1:x ∉ [A.T,A.L,A.W,A.S]):Off H o A x :=
 ⟨aZ h.ins hx nofun,fun z=>h1 (by simp[z]),fun z=>h1 (by simp[z]),fun z=>h1 (by simp[z]),fun z=>h1 (by simp[z]),fun c ys e=>aZ e hx nofun⟩
theorem de.TU(h:de P w CS o dx A us ts aw H s lk){u:HO}(hx:H x=some u)(hl:∀ vs,u ≠ .lst vs)(ht:∀ vs,u ≠ .tup vs)(hi:∀ a b c,u ≠ .ins a b c):Off H o A x :=
 ⟨aZ h.ins hx (fun z=>hi _ _ _ z.symm),aZ h.hT hx (fun z=>hl _ z.symm),aZ h.hL hx (fun z=>hl _ z.symm),aZ h.hW hx (fun z=>hl _ z.symm),aZ h.hS hx (fun z=>hl _ z.symm),fun c ys e=>aZ e hx (fun z=>ht _ z.symm)⟩
theorem EN{l:List Addr}(hn:l.Nodup){i j:Nat}{a b:Addr}(hi:l[i]? = some a)(hj:l[j]? = some b)(AR:i≠j):a≠b:=fun z=>by
 subst z
 exact AR ((kL (ai.mp hi).1 hn).mp (hi.trans hj.symm))
theorem de.Zf(h:de P w CS o dx A us ts aw H s lk){r:Nat}{c:Addr}(hc:A.Lr[r]? = some c)(L':Mx)(Cm:∀ a b,a≠r->L' a b=s.L a b) :
  de P w CS o dx A us ts aw (upd H c (.lst (ie L' ts.length r))) { s with L:=L' } lk:=by
 have hx:=h.rL r c hc
 have hm:=ak hc
 have bt:dD c H (upd H c (.lst (ie L' ts.length r))):=fun b o n e=>by rw[aE n];exact e
 have of:Off H o A c:=h.ZY hx fun z=>by have:=(h.sep.top c z).1;exact this hm
 have nS:∀ b∈A.Sr,b≠c:=fun b hb z=>h.sep.dLS c hm (by rw[<- z];exact hb)
 obtain⟨hk,nX,ox⟩:=h.hH
 obtain⟨kg,g1⟩:=h.sg
 obtain⟨kl,l1⟩:=h.me
 refine h.parts bt of ?_ ?_ ⟨hk,bt _ _ (aZ nX hx nofun) nX,ox.but fun d ys e=>bt _ _ (of.tup d ys e) e⟩ ⟨kg,g1.but bt (fun z=>by obtain⟨φ,e⟩:=g1.dn.ext;rw[z,hx]at e;cases e) of.tup⟩ ?_ (h.mF.but bt (fun z=>by obtain⟨kvs,d,_⟩:=h.mF;obtain⟨φ,e⟩:=d.ext;rw[z,hx]at e;cases e) of.tup fun d vs e n1 n2 z=>n1 (by rw[z];exact hm)) ⟨kl,l1.but bt (fun z=>by obtain⟨φ,e⟩:=l1.dn.ext;rw[z,hx]at e;cases e) of.tup⟩
 ·intro a d hd
  by_cases e:a=r
  ·subst e
   rw[hc]at hd
   cases hd
   exact aF
  ·rw[aE (EN h.sep.nL hd hc e),h.rL a d hd]
   unfold ie
   congr 2
   exact iN fun b _=>by show B6 (s.L a b)=B6 (L' a b);rw[Cm a b e]
 ·intro a d hd
  obtain⟨kvs,e1,e2⟩:=h.rW a d hd
  exact⟨kvs,bt _ _ (aZ e1 hx nofun) e1,e2⟩
 ·intro a d hd
  obtain⟨vs,e1,e2⟩:=h.rS a d hd
  exact⟨vs,bt _ _ (nS d (ak hd)) e1,bC e2 fun b ys e=>bt _ _ (of.tup b ys e) e⟩
theorem de.Zc(h:de P w CS o dx A us ts aw H s lk){r:Nat}{c:Addr}(hc:A.Wr[r]? = some c){kvs:List (Key × V)}(W':Mx)(hW':∀ a b,a≠r->W' a b=s.W a b)(row:rn ts.length kvs (W' r)) :
  de P w CS o dx A us ts aw (upd H c (.dK kvs)) { s with W:=W' } lk:=by
 obtain⟨k0,hx,_⟩:=h.rW r c hc
 have hm:=ak hc
 have bt:dD c H (upd H c (.dK kvs)):=fun b o n e=>by rw[aE n];exact e
 have of:Off H o A c:=h.TU hx (fun _ z=>nomatch z) (fun _ z=>nomatch z) (fun _ _ _ z=>nomatch z)
 have nW:=bI.mp h.sep.nW
 obtain⟨hk,nX,ox⟩:=h.hH
 obtain⟨kg,g1⟩:=h.sg
 obtain⟨kl,l1⟩:=h.me
 refine h.parts bt of ?_ ?_ ⟨hk,bt _ _ (fun z=>nW.1 (by rw[z];exact hm)) nX,ox.but fun d ys e=>bt _ _ (of.tup d ys e) e⟩ ⟨kg,g1.but bt (fun z=>by obtain⟨φ,e⟩:=g1.dn.ext;rw[z,hx]at e;cases e) of.tup⟩ ?_ (h.mF.but bt (fun z=>by obtain⟨kvs,d,_⟩:=h.mF;obtain⟨φ,e⟩:=d.ext;rw[z,hx]at e;cases e) of.tup fun d vs e n1 n2=>aZ e hx nofun) ⟨kl,l1.but bt (fun z=>by obtain⟨φ,e⟩:=l1.dn.ext;rw[z,hx]at e;cases e) of.tup⟩
 ·intro a d hd
  have e1:=h.rL a d hd
  exact bt _ _ (aZ e1 hx nofun) e1
 ·intro a d hd
  by_cases e:a=r
  ·subst e
   rw[hc]at hd
   cases hd
   exact⟨kvs,aF,row⟩
  ·obtain⟨VH,e1,e2⟩:=h.rW a d hd
   refine⟨VH,by rw[aE (EN nW.2 hd hc e)];exact e1,?_⟩
   have:W' a=s.W a:=funext fun b=>hW' a b e
   show rn ts.length VH (W' a)
   rw[this];exact e2
 ·intro a d hd
  obtain⟨vs,e1,e2⟩:=h.rS a d hd
  exact⟨vs,bt _ _ (aZ e1 hx nofun) e1,bC e2 fun b ys e=>bt _ _ (of.tup b ys e) e⟩
theorem de.S5(h:de P w CS o dx A us ts aw H s lk){kvs:List (Key × V)}(Hd':Nat->Option (Nat × Nat))(row:oW H ts.length kvs Hd'):de P w CS o dx A us ts aw (upd H A.Hd (.dK kvs)) { s with Hd:=Hd' } lk:=by
 obtain⟨k0,hx,_⟩:=h.hH
 have bt:dD A.Hd H (upd H A.Hd (.dK kvs)):=fun b o n e=>by rw[aE n];exact e
 have of:Off H o A A.Hd:=h.TU hx (fun _ z=>nomatch z) (fun _ z=>nomatch z) (fun _ _ _ z=>nomatch z)
 have nW:=bI.mp h.sep.nW
 obtain⟨kg,g1⟩:=h.sg
 obtain⟨kl,l1⟩:=h.me
 refine h.parts bt of ?_ ?_ ⟨kvs,aF,row.but fun d ys e=>bt _ _ (of.tup d ys e) e⟩ ⟨kg,g1.but bt (fun z=>by obtain⟨φ,e⟩:=g1.dn.ext;rw[z,hx]at e;cases e) of.tup⟩ ?_ (h.mF.but bt (fun z=>by obtain⟨kvs,d,_⟩:=h.mF;obtain⟨φ,e⟩:=d.ext;rw[z,hx]at e;cases e) of.tup fun d vs e n1 n2=>aZ e hx nofun) ⟨kl,l1.but bt (fun z=>by obtain⟨φ,e⟩:=l1.dn.ext;rw[z,hx]at e;cases e) of.tup⟩
 ·intro a d hd
  have e1:=h.rL a d hd
  exact bt _ _ (aZ e1 hx nofun) e1
 ·intro a d hd
  obtain⟨VH,e1,e2⟩:=h.rW a d hd
  exact⟨VH,by rw[aE (fun z=>nW.1 (by rw[<- z];exact ak hd))];exact e1,e2⟩
 ·intro a d hd
  obtain⟨vs,e1,e2⟩:=h.rS a d hd
  exact⟨vs,bt _ _ (aZ e1 hx nofun) e1,bC e2 fun b ys e=>bt _ _ (of.tup b ys e) e⟩
theorem de.Zd(h:de P w CS o dx A us ts aw H s lk){r:Nat}{c:Addr}(hc:A.Sr[r]? = some c){vs:List V}(S':Nat->List (Nat × Nat))(Cj:∀ a,a≠r->S' a=s.St a)(row:dZ H vs (S' r)) :
  de P w CS o dx A us ts aw (upd H c (.lst vs)) { s with St:=S' } lk:=by
 obtain⟨v0,hx,_⟩:=h.rS r c hc
 have hm:=ak hc
 have bt:dD c H (upd H c (.lst vs)):=fun b o n e=>by rw[aE n];exact e
 have of:Off H o A c:=h.ZY hx fun z=>by have:=(h.sep.top c z).2;exact this hm
 obtain⟨hk,nX,ox⟩:=h.hH
 obtain⟨kg,g1⟩:=h.sg
 obtain⟨kl,l1⟩:=h.me
 refine h.parts bt of ?_ ?_ ⟨hk,bt _ _ (aZ nX hx nofun) nX,ox.but fun d ys e=>bt _ _ (of.tup d ys e) e⟩ ⟨kg,g1.but bt (fun z=>by obtain⟨φ,e⟩:=g1.dn.ext;rw[z,hx]at e;cases e) of.tup⟩ ?_ (h.mF.but bt (fun z=>by obtain⟨kvs,d,_⟩:=h.mF;obtain⟨φ,e⟩:=d.ext;rw[z,hx]at e;cases e) of.tup fun d vs e n1 n2 z=>n2 (by rw[z];exact hm)) ⟨kl,l1.but bt (fun z=>by obtain⟨φ,e⟩:=l1.dn.ext;rw[z,hx]at e;cases e) of.tup⟩
 ·intro a d hd
  exact bt _ _ (fun z=>h.sep.dLS d (ak hd) (by rw[z];exact hm)) (h.rL a d hd)
 ·intro a d hd
  obtain⟨kvs,e1,e2⟩:=h.rW a d hd
  exact⟨kvs,bt _ _ (aZ e1 hx nofun) e1,e2⟩
 ·intro a d hd
  by_cases e:a=r
  ·subst e
   rw[hc]at hd
   cases hd
   exact⟨vs,aF,bC row fun b ys e=>bt _ _ (of.tup b ys e) e⟩
  ·obtain⟨v2,e1,e2⟩:=h.rS a d hd
   refine⟨v2,by rw[aE (EN h.sep.nS hd hc e)];exact e1,?_⟩
   show dZ _ v2 (S' a)
   rw[Cj a e]
   exact bC e2 fun b ys e=>bt _ _ (of.tup b ys e) e
theorem de.Ze(h:de P w CS o dx A us ts aw H s lk){φ : Heap->Prop}(hx:x=A.Sg∨x=A.Lk)(Sg':Mx)(B8:Nat × Nat->Option Nat)(h1:x=A.Sg->(∃ kvs,PD P w (upd H x (.ext φ)) A.Sg ts.length kvs fun p=>(Sg' p.1 p.2).map nV)∧B8=lk)(h2:x=A.Lk->(∃ kvs,PD P w (upd H x (.ext φ)) A.Lk ts.length kvs fun p=>(B8 p).map nV)∧Sg'=s.Sg) :
  de P w CS o dx A us ts aw (upd H x (.ext φ)) { s with Sg:=Sg' } B8:=by
 obtain⟨kg,g1⟩:=h.sg
 obtain⟨kl,l1⟩:=h.me
 obtain⟨ψ,JQ⟩:∃ ψ,H x=some (.ext ψ):=by
  rcases hx with rfl | rfl
  ·exact g1.dn.ext
  ·exact l1.dn.ext
 have bt:dD x H (upd H x (.ext φ)):=fun b o n e=>by rw[aE n];exact e
 have of:Off H o A x:=h.TU JQ (fun _ z=>nomatch z) (fun _ z=>nomatch z) (fun _ _ _ z=>nomatch z)
 obtain⟨hk,nX,ox⟩:=h.hH
 have VF:A.Aw≠x:=by rcases hx with rfl | rfl;exact cm h.sep.e1;exact h.sep.e3
 refine h.parts bt of ?_ ?_ ⟨hk,bt _ _ (aZ nX JQ nofun) nX,ox.but fun d ys e=>bt _ _ (of.tup d ys e) e⟩ ?_ ?_ (h.mF.but bt VF of.tup fun d vs e n1 n2=>aZ e JQ nofun) ?_
 ·intro a d hd
  have e1:=h.rL a d hd
  exact bt _ _ (aZ e1 JQ nofun) e1
 ·intro a d hd
  obtain⟨kvs,e1,e2⟩:=h.rW a d hd
  exact⟨kvs,bt _ _ (aZ e1 JQ nofun) e1,e2⟩
 ·by_cases e:x=A.Sg
  ·exact(h1 e).1
  ·have e':=hx.resolve_left e
   rw[(h2 e').2]
   exact⟨kg,g1.but bt (fun z=>e z.symm) of.tup⟩
 ·intro a d hd
  obtain⟨vs,e1,e2⟩:=h.rS a d hd
  exact⟨vs,bt _ _ (aZ e1 JQ nofun) e1,bC e2 fun b ys e=>bt _ _ (of.tup b ys e) e⟩
 ·by_cases e:x=A.Lk
  ·exact(h2 e).1
  ·have e':=hx.resolve_right e
   rw[(h1 e').2]
   exact⟨kl,l1.but bt (fun z=>e z.symm) of.tup⟩
end
end
section
variable {P:Program}{w:World}{K:ao}{mg:Str->Option Value}{base:Heap}{CB CF CH CS CN CE CM tB:Addr}
structure rP(K:ao)(mg:Str->Option Value)(CS:Addr):Prop where
 cS:ym K CS
 Jw:kd K CS "terms"
 sr:kd K CS "least"
 yL:kd K CS "waiting"
 pR:kd K CS "heads"
 FT:kd K CS "single"
 D0:kd K CS "steps"
 C1:kd K CS "awaited"
 yM:kd K CS "lacking"
def Gd(A:SA)(c:Addr):Prop:=c∈A.Lr∨c∈A.Wr∨c=A.Hd∨c=A.Sg
def jw(A:SA)(H H':Hp):Prop := ∀ c o, ¬ Gd A c->H c=some o->H' c=some o
theorem jw.refl(A:SA)(H:Hp):jw A H H:=fun _ _ _ e=>e
theorem jw.trans{A:SA}{H H1 H2:Hp}(a:jw A H H1)(b:jw A H1 H2):jw A H H2:=fun c o n e=>b c o n (a c o n e)
theorem jw.upd{A:SA}{H H':Hp}(a:jw A H H'){c:Addr}{o:HO}(hc:Gd A c):jw A H (upd H' c o):=fun d u n e=>by rw[aE (fun z=>n (by rw[z];exact hc))];exact a d u n e
theorem jw.same{A:SA}{H H1 H2:Hp}(a:jw A H H1)(b:bJ H1 H2):jw A H H2:=fun c o n e=>b _ _ (a c o n e)
theorem FC{L:Mx}{n a b k:Nat}(hb:b < n):(ie L n a).set b (nV k)=ie (dF L a b k) n a:=by
 unfold ie
 refine d9 fun i =>?_
 rw[BU,az,cN,aK,aK]
 by_cases e:b=i
 ·subst e
  rw[if_pos rfl,if_pos hb,iO hb]
  show _=some (B6 (dF L a b k a b))
  rw[xF];rfl
 ·rw[if_neg e]
  cases q:(bA n)[i]? with
  | none=>rfl
  | some j =>
   have hj:j=i:=by
    have:=(ai.mp q).2
    rw[List.getElem_range]at this;exact this.symm
   show some (B6 (L a j))=some (B6 (dF L a b k a j))
   rw[i5 (fun z=>e (by rw[<- z.2,hj]))]
theorem FD(L:Mx)(n a:Nat):(ie L n a).length=n:=by unfold ie;rw[az,cN]
theorem oo{L:Mx}{n a b:Nat}(hb:b < n):(ie L n a)[b]? = some (B6 (L a b)):=by unfold ie;rw[aK,iO hb];rfl
theorem JM{n b:Nat}(h:b < n):Ca n (b:Int)=some b:=by
 unfold Ca
 rw[if_pos (by omega),if_pos (by omega),cn]
theorem Jx(a b:Nat):V.int (if (b:Int) < (a:Int) then (b:Int) else (a:Int))=nV (min a b):=by
 show _=V.int _
 congr 1
 split <;> omega
theorem Jy(a b:Nat):V.int (if (b:Int) > (a:Int) then (b:Int) else (a:Int))=nV (max a b):=by
 show _=V.int _
 congr 1
 split <;> omega
theorem Jd{kvs:List (Key × V)}{k:Key}{v:V}(h:(kvs.map (·.1)).Nodup):((eW kvs k v).map (·.1)).Nodup:=by
 cases e:bL kvs k with
 | none =>
  rw[qT v e,dv,eR]
  refine⟨h,bI.mpr ⟨cM,c6⟩,fun a ha b hb z =>?_⟩
  have hb:b=k:=ax.mp hb
  obtain⟨kv,cR,ekv⟩:=bj.mp ha
  have:=CG h kv cR
  rw[show kv.1=k from ekv.trans (z.trans hb),e]at this
  cases this
 | some u =>
  have:(eW kvs k v).map (·.1)=kvs.map (·.1):=by
   unfold eW
   rw[if_pos (by cases q:kvs.any fun kv=>decide (kv.1=k) with
    | true=>rfl
    | false=>rw[lM]at q;rw[e]at q;cases q)]
   rw[il]
   exact iN fun p _=>by show (if p.1=k then _ else p).1=p.1;split <;> rename_i c <;> first | exact c.symm | rfl
  rw[this];exact h
theorem FE{κ : Type}[DecidableEq κ]{kvs:List (κ × V)}{k : κ}{v:V}{kv : κ × V}(h:kv∈eW kvs k v):kv∈kvs∨kv=(k,v):=by
 cases e:bL kvs k with
 | none =>
  rw[qT v e]at h
  exact(au.mp h).imp id fun z=>ax.mp z
 | some u =>
  unfold eW at h
  rw[if_pos (by cases q:kvs.any fun kv=>decide (kv.1=k) with
    | true=>rfl
    | false=>rw[lM]at q;rw[e]at q;cases q)]at h
  obtain⟨p,hp,ep⟩:=bj.mp h
  by_cases c:p.1=k
  ·rw[if_pos c,c]at ep;exact .inr ep.symm
  ·rw[if_neg c]at ep;exact .inl (by rw[<- ep];exact hp)
theorem rn.put{n:Nat}{kvs:List (Key × V)}{W:Mx}{l h k:Nat}(r:rn n kvs (W l))(hh:h < n):rn n (eW kvs (.inl (h:Int)) (nV k)) (dF W l h k l):=by
 refine⟨fun b =>?_,fun kv cR =>?_,Jd r.nd⟩
 ·rw[oJ]
  by_cases e:b=h
  ·subst e
   rw[if_pos rfl,xF];rfl
  ·rw[if_neg (fun z=>e (by have:=gH z;omega)),i5 (fun z=>e z.2),r.val]
 ·rcases FE cR with z | rfl
  ·exact r.key kv z
  ·exact⟨h,k,O,hh⟩
theorem oW.put{H:Hp}{n:Nat}{kvs:List (Key × V)}{f:Nat->Option (Nat × Nat)}{l h k:Nat}{p:Addr}(r:oW H n kvs f)(hl:l < n)(hp:H p=some (.tup [nV k,nV l,nV h])):oW H n (eW kvs (.inl (l:Int)) (.ref p)) (fun x=>if x=l then some (k,h) else f x):=by
 refine⟨fun a e =>?_,fun a m b e =>?_,fun kv cR =>?_,Jd r.nd⟩
 ·have e:(if a=l then some (k,h) else f a)=none:=e
  by_cases ea:a=l
  ·rw[if_pos ea]at e;cases e
  ·rw[if_neg ea]at e
   rw[oJ,if_neg (fun z=>ea (by have:=gH z;omega))];exact r.cG a e
 ·have e:(if a=l then some (k,h) else f a)=some (m,b):=e
  by_cases ea:a=l
  ·rw[if_pos ea]at e
   cases e
   subst ea
   exact⟨p,by rw[oJ,if_pos rfl],hp⟩
  ·rw[if_neg ea]at e
   obtain⟨q,h1,h2⟩:=r.Gy a m b e
   exact⟨q,by rw[oJ,if_neg (fun z=>ea (by have:=gH z;omega))];exact h1,h2⟩
 ·rcases FE cR with z | rfl
  ·exact r.key kv z
  ·exact⟨l,O,hl⟩
theorem JK{kvs:List (Key × V)}{n:Nat}(hn:(kvs.map (·.1)).Nodup)(h:∀ kv∈kvs,∃ a:Nat,kv.1=(.inl (a:Int):Key)∧a < n):kvs.length<=n:=by
 have:=lE (U:=(bA n).map fun a:Nat=>(.inl (a:Int):Key)) hn fun x hx=>by
  obtain⟨kv,cR,rfl⟩:=bj.mp hx
  obtain⟨a,e,ha⟩:=h kv cR
  rw[e]
  exact bj.mpr ⟨a,cI.mpr ha,O⟩
 rw[az,az,cN]at this
 exact this
theorem rn.dG{n:Nat}{kvs:List (Key × V)}{f:Nat->Option Nat}(r:rn n kvs f):kvs.length<=n:=JK r.nd fun kv h=>by obtain⟨b,m,rfl,hb⟩:=r.key kv h;exact⟨b,O,hb⟩
theorem oW.dG{H:Hp}{n:Nat}{kvs:List (Key × V)}{f:Nat->Option (Nat × Nat)}(r:oW H n kvs f):kvs.length<=n:=JK r.nd r.key
inductive Gb(P:Program)(w:World)(CS:Addr)(vs:List V)(H:Hp)(Q:VK):Prop
 | mk (o dx:Addr) (A:SA) (us:List V) (ts:List Tm) (aw:Nat × Nat->List (Nat × Nat)) (s:SS) (lk:Nat × Nat->Option Nat) (a b k:Nat) (z0:vs = [.ref o,nV a,nV b,nV k]) (z1:de P w CS o dx A us ts aw H s lk) (z2:a < ts.length) (z3:b < ts.length) (z4:a≠b)
  (z5:∀ H',jw A H H'->de P w CS o dx A us ts aw H' (l9 s a b k false) lk->Q .cG H'):Gb P w CS vs H Q
def Fp(P:Program)(w:World)(CS:Addr):Sp:=fun vs H Q _=>Gb P w CS vs H Q
theorem gf{l:List Addr}{i:Nat}{c:Addr}(h:l[i]? = some c):uh (l.map V.ref) (i:Int)=some (.ref c):=by
 refine aY ?_
 rw[aK,h];rfl
theorem TK(B:lK mg)(Z:rP K mg CS)(D:nF K CS "offer" "Search.offer" Fx ba):lY P w K mg base 1 CS "offer" ba (Fp P w CS):=by
 have cS:=Z.cS
 refine D.has CK (fun vs H Q E h =>?_) (fun f cJ A outer s H vs Q E hr h =>?_)
 ·obtain⟨o,dx,A,us,ts,aw,s,lk,a,b,k,rfl,_⟩:=h;rfl
 obtain⟨o,dx,A,us,ts,aw,s,lk,a,b,k,rfl,h,ha,hb,ia,q⟩:=h
 refine⟨_,(av (DS (pv 3) (DT (aM bG (eC (pv 0) O) (pv 1)) (pv 2) yx))
  (av (DS (pv 3) (DT (aM bG (eC (pv 0) O) (pv 2)) (pv 1) yx))
  (av (bz (i:=4) CK.nd O (aO O) (cL (wI O) O B.FU sQ (ae (pv 1) (ae (pv 2) aq))))
  (av (bz (i:=5) CK.nd O (aO O) (cL (wJ O) O B.Ox wL (ae (pv 1) (ae (pv 2) aq))))
  (av (FF (BD hr) (aM bG (eC (pv 0) O) (pv 4)) (pv 5) (pv 3) O)
  (aI (dE (PW.pt (pw_or (Je (Qt (BD hr) (pv 4) (eC (pv 0) O)) (by with_unfolding_all rfl)) (pw_or1 (cC By (pv 3) (aM bF (Xw (BD hr) (eC (pv 0) O) (pv 4) (fun _ _=>O)) aA) (cz _))))) (aI (FF (BD hr) (eC (pv 0) O) (pv 4) (cK (ae (pv 3) (ae (pv 4) (ae (pv 5) aq)))) O)) cD))))))),?_⟩
 try dsimp only[dR]
 obtain⟨ca,i0⟩:∃ c,A.Lr[a]? = some c:=⟨_,aj (by rw[h.lL];exact ha)⟩
 obtain⟨cb,lh⟩:∃ c,A.Lr[b]? = some c:=⟨_,aj (by rw[h.lL];exact hb)⟩
 refine⟨_,O,_,O,o,CS,dx,_,_,O,h.ins,Z.cS,Z.sr,O,_,O,A.L,_,_,_,O,O,a9.of h.hL,gf i0,_,O,ca,_,_,b,O,O,h.rL a ca i0,by rw[FD];exact JM hb,?_⟩
 rw[FC hb]
 have h1:=h.Zf i0 (dF s.L a b k) (fun x y n=>i5 (fun z=>n z.1))
 have b1:=(jw.refl A H).upd (c:=ca) (o := .lst (ie (dF s.L a b k) ts.length a)) (.inl (ak i0))
 generalize upd H ca (.lst (ie (dF s.L a b k) ts.length a))=H1 at h1 b1 ⊢
 refine⟨_,O,_,O,o,CS,dx,_,_,O,h1.ins,Z.cS,Z.sr,O,_,O,A.L,_,_,_,O,O,a9.of h1.hL,gf lh,_,O,cb,_,_,a,O,O,h1.rL b cb lh,by rw[FD];exact JM ha,?_⟩
 rw[FC ha]
 have h2:=h1.Zf lh (dF (dF s.L a b k) b a k) (fun x y n=>i5 (fun z=>n z.1))
 have b2:=b1.upd (c:=cb) (o := .lst (ie (dF (dF s.L a b k) b a k) ts.length b)) (.inl (ak lh))
 generalize upd H1 cb (.lst (ie (dF (dF s.L a b k) b a k) ts.length b))=H2 at h2 b2 ⊢
 refine⟨_,O,_,O,_,_,O,?_⟩
 rw[Jx]
 dsimp only[bq]
 refine⟨_,O,_,O,_,_,O,?_⟩
 rw[Jy]
 dsimp only[bq]
 have AQ:min a b < ts.length:=by omega
 have Kl:max a b < ts.length:=by omega
 obtain⟨cw,xU⟩:∃ c,A.Wr[min a b]? = some c:=⟨_,aj (by rw[h.lW];exact AQ)⟩
 obtain⟨kw,Cb,wx⟩:=h2.rW _ cw xU
 have dG:=h.dG
 refine⟨_,O,_,O,o,CS,dx,_,_,O,h2.ins,Z.cS,Z.yL,O,_,O,A.W,_,_,_,O,O,a9.of h2.hW,gf xU,_,O,cw,_,O,Dx.k (k := .inl ((max a b:Nat):Int)) Cb (cU (by have:=wx.dG;omega)),?_⟩
 have h3:=h2.Zc xU (kvs:=eW kw (.inl ((max a b:Nat):Int)) (nV k)) (dF s.W (min a b) (max a b) k) (fun x y n=>i5 (fun z=>n z.1)) (wx.put Kl)
 have b3:=b2.upd (c:=cw) (o := .dK (eW kw (.inl ((max a b:Nat):Int)) (nV k))) (.inr (.inl (ak xU)))
 generalize upd H2 cw (.dK (eW kw (.inl ((max a b:Nat):Int)) (nV k)))=H3 at h3 b3 ⊢
 obtain⟨kh,nX,ox⟩:=id h3.hH
 dsimp only
 refine xH (fun c Hc=>Hc=H3∧c=m8 (s.Hd (min a b)) k) (fun Qc qc =>?_) ?_ ?_
 ·cases e:s.Hd (min a b) with
  | none =>
   have hg:v9 H3 A.Hd (nV (min a b)) none:=by
    have:=v9.k (k:=(.inl ((min a b:Nat):Int):Key)) nX
    rw[ox.cG _ e]at this
    exact this
   exact⟨_,O,_,O,o,CS,dx,_,_,O,h3.ins,Z.cS,Z.pR,O,A.Hd,_,O,hg,_,O,oM (qc true _ ⟨O,by rw[e];rfl⟩)⟩
  | some pm =>
   obtain⟨m,h'⟩:=pm
   obtain⟨p,uc,pw⟩:=ox.Gy _ m h' e
   have hg:v9 H3 A.Hd (nV (min a b)) (some (.ref p)):=by
    have:=v9.k (k:=(.inl ((min a b:Nat):Int):Key)) nX
    rw[uc]at this
    exact this
   refine⟨_,O,_,O,o,CS,dx,_,_,O,h3.ins,Z.cS,Z.pR,O,A.Hd,_,O,hg,_,O,iF ?_⟩
   refine⟨_,O,_,O,o,CS,dx,_,_,O,h3.ins,Z.cS,Z.pR,O,_,O,A.Hd,_,O,hg,p,_,0,_,O,O,bM.of pw,aY (j:=0) rfl,_,_,O,O,_,O,qc _ _ ⟨O,?_⟩⟩
   rw[e]
   show decide ((k:Int) < (m:Int))=decide (k < m)
   rw[gF,decide_eq_true_iff,decide_eq_true_iff];omega
 ·rintro Hc ⟨rfl,e⟩
  refine⟨_,O,_,O,_,O,(show 3<=sizeLine by decide),fun p hp =>?_⟩
  obtain⟨H4,eH,s4,GZ⟩:=alloc hp (.tup [nV k,nV (min a b),nV (max a b)])
  rw[eH]
  have h4:=h3.same s4
  have hh4:=s4 _ _ nX
  have VU:=ox.but (H':=H4) fun c ys e=>s4 _ _ e
  refine⟨_,O,o,CS,dx,_,_,O,h4.ins,Z.cS,Z.pR,O,_,O,A.Hd,_,O,Dx.k (k := .inl ((min a b:Nat):Int)) hh4 (cU (by have:=VU.dG;omega)),?_⟩
  refine q _ ((b3.same s4).upd (.inr (.inr (.inl rfl)))) ?_
  have h5:=h4.S5 _ (VU.put AQ GZ)
  have es:(⟨dF (dF s.L a b k) b a k,dF s.W (min a b) (max a b) k,fun x=>if x=min a b then some (k,max a b) else s.Hd x,s.Sg,s.St,s.dn⟩:SS)=l9 s a b k false:=by
   have e3:(fun x=>if x=min a b then some (k,max a b) else s.Hd x)=fun x=>if x=min a b∧m8 (s.Hd (min a b)) k=true then some (k,max a b) else s.Hd x:=funext fun x=>by
    by_cases ex:x=min a b
    ·rw[if_pos ex,if_pos ⟨ex,e.symm⟩]
    ·rw[if_neg ex,if_neg (fun z=>ex z.1)]
   rw[e3];rfl
  rw[<- es]
  exact h5
 ·rintro Hc ⟨rfl,e⟩
  refine q _ b3 ?_
  have es:(⟨dF (dF s.L a b k) b a k,dF s.W (min a b) (max a b) k,s.Hd,s.Sg,s.St,s.dn⟩:SS)=l9 s a b k false:=by
   have e3:s.Hd=fun x=>if x=min a b∧m8 (s.Hd (min a b)) k=true then some (k,max a b) else s.Hd x:=funext fun x=>by
    rw[if_neg (fun z=>by rw[<- e]at z;cases z.2)]
   show SS.mk _ _ s.Hd _ _ _=SS.mk _ _ (fun x=>if x=min a b∧m8 (s.Hd (min a b)) k=true then some (k,max a b) else s.Hd x) _ _ _
   rw[<- e3];rfl
  rw[<- es]
  exact h3
theorem XU{H:Hp}{kvs:List (NK × V)}{xs:List (NK × Addr × Value)}(cV:KN H kvs xs):kvs.map (·.1)=xs.map (·.1):=by
 induction cV with
 | nil=>rfl
 | cons h t ih=>rw[aS,aS,ih,h.1]
theorem K3{H:Hp}{a:Addr}{kvs:List (NK × V)}(d:DN P w H a kvs):(kvs.map (·.1)).Nodup:=by
 obtain⟨_,_,xs,_,_,_,_,cV,_,_,_,hn⟩:=d
 rw[XU cV];exact hn
theorem GI{kvs:List (NK × V)}{n:Nat}(hn:(kvs.map (·.1)).Nodup)(h:∀ kv∈kvs,∃ p:Nat × Nat,kv.1=cg p∧p.1 < n∧p.2 < n):kvs.length<=n * n:=by
 have:=lE (U:=((bA n).flatMap fun a=>(bA n).map fun b=>cg (a,b))) hn fun x hx=>by
  obtain⟨kv,cR,rfl⟩:=bj.mp hx
  obtain⟨p,e,h1,h2⟩:=h kv cR
  rw[e]
  exact gU.mpr ⟨p.1,cI.mpr h1,bj.mpr ⟨p.2,cI.mpr h2,O⟩⟩
 rw[az]at this
 refine bf this ?_
 have fl:∀ m,((bA m).flatMap fun a=>(bA n).map fun b=>cg (a,b)).length=m * n:=fun m=>by
  induction m with
  | zero=>simp
  | succ m ih=>rw[kf,dY,aG,ih,vP];simp
 rw[fl]
 exact ar _
theorem PD.dG{H:Hp}{a:Addr}{n:Nat}{kvs:List (NK × V)}{f:Nat × Nat->Option V}(h:PD P w H a n kvs f)(hn:n<=30):kvs.length<=900:=bf (GI (K3 h.dn) h.key) (rF hn hn)
theorem PD.put{H H':Hp}{a:Addr}{n:Nat}{kvs:List (NK × V)}{f:Nat × Nat->Option V}(h:PD P w H a n kvs f){q:Nat × Nat}{v:V}(hq:q.1 < n∧q.2 < n)(d:DN P w H' a (eW kvs (cg q) v)):PD P w H' a n (eW kvs (cg q) v) (fun p=>if p=q then some v else f p):=by
 refine⟨d,fun p =>?_,fun kv cR =>?_⟩
 ·rw[oJ]
  by_cases e:p=q
  ·rw[if_pos (by rw[e]),if_pos e]
  ·rw[if_neg (fun z=>e (yH z)),if_neg e,h.val]
 ·rcases FE cR with z | rfl
  ·exact h.key kv z
  ·exact⟨q,O,hq⟩
inductive R4(P:Program)(w:World)(CS:Addr)(vs:List V)(H:Hp)(Q:VK):Prop
 | mk (o dx:Addr) (A:SA) (us:List V) (ts:List Tm) (aw:Nat × Nat->List (Nat × Nat)) (s:SS) (lk:Nat × Nat->Option Nat) (a b k:Nat) (z0:vs = [.ref o,nV a,nV b,nV k]) (z1:de P w CS o dx A us ts aw H s lk) (z2:a < ts.length) (z3:b < ts.length) (z4:a=b->less s.L a b k=false)
  (z5:∀ H',jw A H H'->de P w CS o dx A us ts aw H' (je s a b k true) lk->Q .cG H'):R4 P w CS vs H Q
def IF(P:Program)(w:World)(CS:Addr):Sp:=fun vs H Q _=>R4 P w CS vs H Q
theorem GQ{L:Mx}{a b k:Nat}{H:Hp}{Q:Bool->Hp->Prop}(q:Q (less L a b k) H):if decide (B6 (L a b)=V.cG)=true then Q true H else ∃ i j,B6 (L a b)=V.int j∧i=(k:Int)∧Q (decide (i < j)) H:=by
 unfold less at q
 cases e:L a b with
 | none =>
  rw[e]at q
  exact iZ (fun _=>q) (fun z=>absurd rfl z)
 | some m =>
  rw[e]at q
  refine iZ nofun (fun _=>⟨k,m,O,O,?_⟩)
  have:decide ((k:Int) < (m:Int))=decide (k < m):=by rw[gF,decide_eq_true_iff,decide_eq_true_iff];omega
  rw[this];exact q
theorem HM(B:lK mg)(Z:rP K mg CS)(uQ:lY P w K mg base 1 CS "offer" ba (Fp P w CS))(D:nF K CS "offer_step" "Search.offer_step" vd ba):lY P w K mg base 2 CS "offer_step" ba (IF P w CS):=by
 have cS:=Z.cS
 refine D.has zy (fun vs H Q E h =>?_) (fun f cJ A outer s H vs Q E hr h =>?_)
 ·obtain⟨o,dx,A,us,ts,aw,s,lk,a,b,k,rfl,_⟩:=h;rfl
 obtain⟨o,dx,A,us,ts,aw,s,lk,a,b,k,rfl,h,ha,hb,ia,q⟩:=h
 refine⟨_,(av (bz (i:=4) zy.nd O (aO O) (aM bG (aM bG (eC (pv 0) O) (pv 1)) (pv 2)))
  (aI (dE (PW.pt (pw_or (cC Jl (pv 4) vg (cz _)) (pw_or1 (cC By (pv 3) (pv 4) (cz _))))) (av (xI (n5 hr) (eC (pv 0) O) (cK (ae (cL (wI O) O B.FU sQ (ae (pv 1) (ae (pv 2) aq))) (ae (cL (wJ O) O B.Ox wL (ae (pv 1) (ae (pv 2) aq))) aq))) (pv 3) O)
  (aI (dt (ux uQ cS hr (by omega) (yI fun _ _ _ z=>z) (pv 0) (ae (pv 1) (ae (pv 2) (ae (pv 3) aq))))))) cD))),?_⟩
 try dsimp only[dR]
 obtain⟨ca,i0⟩:∃ c,A.Lr[a]? = some c:=⟨_,aj (by rw[h.lL];exact ha)⟩
 refine⟨_,O,o,CS,dx,_,_,O,h.ins,Z.cS,Z.sr,O,_,O,A.L,_,_,_,O,O,a9.of h.hL,gf i0,_,O,ca,_,_,_,O,O,a9.of (h.rL a ca i0),aY (oo hb),?_⟩
 dsimp only[bq]
 refine xH (fun c Hc=>Hc=H∧c=less s.L a b k) (fun Qc qc =>?_) ?_ ?_
 ·have q0:=qc (less s.L a b k) H ⟨O,O⟩
  have lr:=GQ (Q:=Qc) q0
  refine⟨_,O,O,_,O,?_⟩
  split at lr
  ·rename_i c;rw[if_pos c];exact lr
  ·rename_i c
   rw[if_neg c]
   obtain⟨i,j,e1,rfl,qq⟩:=lr
   exact⟨_,O,_,O,_,j,O,e1,_,O,qq⟩
 ·rintro Hc ⟨rfl,e⟩
  have e:=e.symm
  have gw:a≠b:=fun z=>by rw[ia z]at e;cases e
  have AQ:min a b < ts.length:=by omega
  have Kl:max a b < ts.length:=by omega
  refine⟨_,O,_,O,o,CS,dx,_,_,O,h.ins,Z.cS,Z.FT,O,_,O,_,O,_,_,O,_,O,_,O,_,_,O,(show 2<=sizeLine by decide),fun p hp =>?_⟩
  rw[Jx,Jy]at *
  obtain⟨H1,eH,s1,uc⟩:=alloc hp (.tup [nV (min a b),nV (max a b)])
  rw[eH]
  have h1:=h.same s1
  obtain⟨kg,g1⟩:=id h1.sg
  refine⟨A.Sg,p,kg,cg (min a b,max a b),O,O,g1.dn,kW uc,cU (by have:=g1.dG h.dG;omega),fun φ d =>?_⟩
  have h2:=h1.Ze (φ := φ) (x:=A.Sg) (.inl rfl) (dF s.Sg (min a b) (max a b) k) lk (fun _=>⟨⟨_,by
   have:=g1.put ⟨AQ,Kl⟩ d
   refine⟨this.dn,fun p =>?_,this.key⟩
   rw[this.val]
   by_cases ep:p=(min a b,max a b)
   ·rw[if_pos ep,ep,xF];rfl
   ·rw[if_neg ep,i5 (fun z=>ep (rE z.1 z.2))]⟩,O⟩) (fun z=>absurd z h.sep.e2)
  have b2:=(jw.refl A Hc).same s1 |>.upd (c:=A.Sg) (o := .ext φ) (.inr (.inr (.inr rfl)))
  generalize upd H1 A.Sg (.ext φ)=H2 at h2 b2 ⊢
  refine⟨_,O,o,dx,_,O,h2.ins,O,_,O,_,O,_,O,o,dx,A,us,ts,aw,_,lk,a,b,k,O,h2,ha,hb,gw,fun H3 b3 h3 =>?_⟩
  refine q H3 (b2.trans b3) ?_
  have es:je s a b k true=l9 s a b k true:=by unfold je;rw[if_pos e]
  rw[es]
  exact h3
 ·rintro Hc ⟨rfl,e⟩
  have es:je s a b k true=s:=by unfold je;rw[if_neg (by rw[<- e];decide)]
  refine q Hc (jw.refl A Hc) ?_
  rw[es];exact h
def nE(n:Nat)(s:SS):Prop := ∀ x,x < n->s.L x x=some 0
theorem A3{n:Nat}{s:SS}(h:nE n s){a k:Nat}(ha:a < n):less s.L a a k=false:=by
 unfold less
 rw[h a ha]
 exact decide_eq_false (jb k)
theorem K8{n:Nat}{s:SS}(h:nE n s){a b k:Nat}{sg:Bool}(ha:a < n):nE n (je s a b k sg):=by
 unfold je
 split
 ·rename_i c
  have gw:a≠b:=fun z=>by rw[<- z,A3 h ha]at c;cases c
  intro x hx
  rw[FP,if_neg (fun z=>by rcases z with⟨z1,z2⟩ | ⟨z1,z2⟩;exact gw (z1.symm.trans z2);exact gw (z2.symm.trans z1))]
  exact h x hx
 ·exact h
theorem xq{n:Nat}{a k:Nat}(ha:a < n):∀ {l:List (Nat × Nat)}{s:SS},nE n s->nE n (gZ a k s l)
 | [],s,h=>h
 | e :: l,s,h=>xq ha (l:=l) (K8 h ha)
theorem P1(s:SS)(a b k:Nat)(sg:Bool):(je s a b k sg).St=s.St∧(je s a b k sg).dn=s.dn:=by
 unfold je
 split <;> exact⟨O,O⟩
theorem Gw(a k:Nat):∀ (l:List (Nat × Nat)) (s:SS),(gZ a k s l).St=s.St
 | [],s=>rfl
 | e :: l,s=>(Gw a k l _).trans (P1 s a e.1 (k+e.2) false).1
theorem LZ{a k:Nat}{s:SS}{l:List (Nat × Nat)}{i:Nat}{e:Nat × Nat}(h:l[i]? = some e):gZ a k s (l.take (i+1))=je (gZ a k s (l.take i)) a e.1 (k+e.2) false:=by
 unfold gZ
 rw[iw,h,og];rfl
inductive WL(P:Program)(w:World)(CS:Addr)(vs:List V)(H:Hp)(Q:VK):Prop
 | mk (o dx:Addr) (A:SA) (us:List V) (ts:List Tm) (aw:Nat × Nat->List (Nat × Nat)) (s:SS) (lk:Nat × Nat->Option Nat) (a b k:Nat) (z0:vs = [.ref o,nV a,nV b,nV k]) (z1:de P w CS o dx A us ts aw H s lk) (z2:a < ts.length) (z3:b < ts.length) (z4:nE ts.length s) (z6:∀ e∈s.St b,e.1 < ts.length)
  (z5:∀ H',jw A H H'->de P w CS o dx A us ts aw H' (gZ a k s (s.St b)) lk->Q .cG H'):WL P w CS vs H Q
def Vm(P:Program)(w:World)(CS:Addr):Sp:=fun vs H Q _=>WL P w CS vs H Q
inductive LnI(P:Program)(w:World)(CS o dx:Addr)(A:SA)(us:List V)(ts:List Tm)(aw:Nat × Nat->List (Nat × Nat))(lk:Nat × Nat->Option Nat)(H:Hp)(G:St)(a k:Nat)(s:SS)(l:List (Nat × Nat))(i:Nat)(Y:St)(H':Hp):Prop
 | mk (x5 x6:Option V):(Y = G ++ [x5,x6])->jw A H H'->de P w CS o dx A us ts aw H' (gZ a k s (l.take i)) lk->LnI P w CS o dx A us ts aw lk H G a k s l i Y H'
theorem de.Jr{H:Hp}{o dx:Addr}{A:SA}{us:List V}{ts:List Tm}{aw:Nat × Nat->List (Nat × Nat)}{s:SS}{lk:Nat × Nat->Option Nat}(h:de P w CS o dx A us ts aw H s lk){c:Addr}{u:HO}(hc:H c=some u)(hl:c ∉ A.Lr)(hd:∀ kvs,u ≠ .dK kvs)(he:∀ φ,u ≠ .ext φ):¬ Gd A c:=by
 rintro(z | z | z | z)
 ·exact hl z
 ·obtain⟨i,hi⟩:=aU z
  obtain⟨kvs,e,_⟩:=h.rW i c hi
  rw[hc]at e
  exact hd _ (aD e)
 ·obtain⟨kvs,e,_⟩:=h.hH
  rw[<- z,hc]at e
  exact hd _ (aD e)
 ·obtain⟨kvs,e⟩:=h.sg
  obtain⟨φ,e⟩:=e.dn.ext
  rw[<- z,hc]at e
  exact he _ (aD e)
theorem LV(B:lK mg)(Z:rP K mg CS)(uQ:lY P w K mg base 1 CS "offer" ba (Fp P w CS))(D:nF K CS "lengthen" "Search.lengthen" yz ba):lY P w K mg base 2 CS "lengthen" ba (Vm P w CS):=by
 have cS:=Z.cS
 refine D.has rK (fun vs H Q E h =>?_) (fun f cJ A outer s H vs Q E hr h =>?_)
 ·obtain⟨o,dx,A,us,ts,aw,s,lk,a,b,k,rfl,_⟩:=h;rfl
 obtain⟨o,dx,A,us,ts,aw,s,lk,a,b,k,rfl,h,ha,hb,hdg,jV,q⟩:=h
 refine⟨_,(av (bz (i:=4) rK.nd O (aO O) (aM bG (eC (pv 0) O) (pv 1)))
  (aI (fA fM O (fU (aM bG (eC (pv 0) O) (pv 2))) (m5 O (et (bX (i:=5) rK.nd O (aO O)) (et (bX (i:=6) rK.nd O (aO O)) kX)))
  (aI (dE (PW.pt (pw_or (cC Jl (aM bG (pv 4) (pv 5)) vg (cz _)) (pw_or1 (cC By (eB l6 (pv 3) (pv 6)) (aM bG (pv 4) (pv 5)) (cz _))))) (aI (dt (ux uQ cS hr (by omega) (yI fun _ _ _ z=>z) (pv 0) (ae (pv 1) (ae (pv 5) (ae (eB l6 (pv 3) (pv 6)) aq)))))) cD))))),?_⟩
 try dsimp only[dR]
 obtain⟨ca,i0⟩:∃ c,A.Lr[a]? = some c:=⟨_,aj (by rw[h.lL];exact ha)⟩
 obtain⟨cb,lh⟩:∃ c,A.Sr[b]? = some c:=⟨_,aj (by rw[h.lS];exact hb)⟩
 obtain⟨sv,sE,jW⟩:=h.rS b cb lh
 have Ou:¬ Gd A cb:=h.Jr sE (fun z=>h.sep.dLS cb z (ak lh)) (fun _ z=>nomatch z) (fun _ z=>nomatch z)
 have ada:∀ {c ys},H c=some (.tup ys)->¬ Gd A c:=fun {c ys} e=>h.Jr e (fun z=>by
  obtain⟨i,hi⟩:=aU z
  rw[h.rL i c hi]at e;cases e) (fun _ z=>nomatch z) (fun _ z=>nomatch z)
 refine⟨_,O,o,CS,dx,_,_,O,h.ins,Z.cS,Z.sr,O,_,O,A.L,_,_,_,O,O,a9.of h.hL,gf i0,?_⟩
 dsimp only[bq]
 refine⟨_,O,o,CS,dx,_,_,O,h.ins,Z.cS,Z.D0,O,_,O,A.S,_,_,_,O,O,a9.of h.hS,gf lh,cb,O,⟨_,a9.of sE⟩,?_⟩
 refine gR (xs:=sv) (LnI P w CS o dx A us ts aw lk H [aa o,aN a,aN b,aN k,aa ca] a k s (s.St b)) ⟨none,none,O,jw.refl A H,h⟩ ?_ ?_ ?_
 ·rintro i Y H' _ ⟨x5,x6,rfl,bt,_⟩
  exact a9.of (bt _ _ Ou sE)
 ·rintro i y Y H' hy ⟨x5,x6,rfl,bt,h'⟩
  obtain⟨⟨c,m⟩,M4,p,rfl,hp⟩:=Paired.at jW hy
  have hc:=jV _ (ak M4)
  have abz:nE ts.length (gZ a k s ((s.St b).take i)):=xq ha hdg
  have ud:=bt _ _ (ada hp) hp
  have next:=LZ (a:=a) (k:=k) (s:=s) M4
  dsimp only at hc next
  generalize gZ a k s ((s.St b).take i)=s1 at h' abz next
  refine⟨p,_,O,bM.of ud,O,_,_,O,_,_,O,O,?_⟩
  dsimp only
  have vq:=aY (oo (L:=s1.L) (n:=ts.length) (a:=a) hc)
  have hra:=a9.of (K:=K) (h'.rL a ca i0)
  refine xH (fun d Hc=>Hc=H'∧d=less s1.L a c (k+m)) (fun Qc qc =>?_) ?_ ?_
  ·have lr:=GQ (Q:=Qc) (qc (less s1.L a c (k+m)) H' ⟨O,O⟩)
   refine⟨_,O,_,O,ca,_,_,_,O,O,hra,vq,O,_,O,?_⟩
   split at lr
   ·rename_i z;rw[if_pos z];exact lr
   ·rename_i z
    rw[if_neg z]
    obtain⟨i',j,e1,rfl,qq⟩:=lr
    refine⟨_,O,_,O,_,_,O,O,_,O,_,O,ca,_,_,_,O,O,hra,vq,_,j,O,e1,_,O,?_⟩
    exact qq
  ·rintro Hc ⟨rfl,e⟩
   have e:=e.symm
   have gw:a≠c:=fun z=>by rw[<- z,A3 abz ha]at e;cases e
   refine⟨_,O,o,dx,_,O,h'.ins,O,_,O,_,O,_,O,_,O,_,_,O,O,?_⟩
   show Gb P w CS [.ref o,nV a,nV c,nV (k+m)] Hc _
   refine⟨o,dx,A,us,ts,aw,s1,lk,a,c,k+m,O,h',ha,hc,gw,fun H3 b3 h3=>⟨_,_,O,bt.trans b3,?_⟩⟩
   rw[next]
   unfold je
   rw[if_pos e];exact h3
  ·rintro Hc ⟨rfl,e⟩
   refine⟨_,_,O,bt,?_⟩
   rw[next]
   unfold je
   rw[if_neg (by rw[<- e];decide)];exact h'
 ·rintro Y H' ⟨x5,x6,rfl,bt,h'⟩
  rw[aV jW,bK]at h'
  exact q H' bt h'
theorem yr(kvs:List (Key × V))(k j:Key):bL (lQ kvs k) j=if j=k then none else bL kvs j:=by
 induction kvs with
 | nil=>show bL [] j=_;rw[yq];split <;> rfl
 | cons p r ih =>
  unfold lQ at ih ⊢
  by_cases e:p.1=k
  ·rw[iK (by simp[e]),ih]
   by_cases ej:j=k
   ·rw[if_pos ej,if_pos ej]
   ·rw[if_neg ej,if_neg ej,eI (fun z=>ej (z.symm.trans e))]
  ·rw[iJ (by simp[e])]
   by_cases ep:p.1=j
   ·rw[eV ep,eV ep,if_neg (fun z=>e (ep.trans z))]
   ·rw[eI ep,eI ep,ih]
theorem Nh{kvs:List (Key × V)}{k:Key}(h:(kvs.map (·.1)).Nodup):((lQ kvs k).map (·.1)).Nodup:=by
 unfold lQ
 exact zj.sublist (List.Sublist.map _ zS) h
theorem oW.drop{H:Hp}{n:Nat}{kvs:List (Key × V)}{f:Nat->Option (Nat × Nat)}{l:Nat}(r:oW H n kvs f):oW H n (lQ kvs (.inl (l:Int))) (fun x=>if x=l then none else f x):=by
 refine⟨fun a e =>?_,fun a m b e =>?_,fun kv cR=>r.key kv (gC.mp cR).1,Nh r.nd⟩
 ·have e:(if a=l then none else f a)=none:=e
  rw[yr]
  by_cases ea:a=l
  ·rw[if_pos (by rw[ea])]
  ·rw[if_neg ea]at e
   rw[if_neg (fun z=>ea (by have:=gH z;omega))];exact r.cG a e
 ·have e:(if a=l then none else f a)=some (m,b):=e
  by_cases ea:a=l
  ·rw[if_pos ea]at e;cases e
  ·rw[if_neg ea]at e
   rw[yr,if_neg (fun z=>ea (by have:=gH z;omega))]
   exact r.Gy a m b e
theorem rn.drop{n:Nat}{kvs:List (Key × V)}{W:Mx}{l h:Nat}(r:rn n kvs (W l)):rn n (lQ kvs (.inl (h:Int))) (hU W l h l):=by
 refine⟨fun b =>?_,fun kv cR=>r.key kv (gC.mp cR).1,Nh r.nd⟩
 rw[yr]
 unfold hU
 by_cases e:b=h
 ·rw[if_pos (by rw[e]),if_pos ⟨O,e⟩];rfl
 ·rw[if_neg (fun z=>e (by have:=gH z;omega)),if_neg (fun z=>e z.2),r.val]
theorem xC:∀ {kvs:List (Key × V)}{k:Key}{v:V},bL kvs k=some v->∃ i:Nat,kvs[i]? = some (k,v)
 | [],k,v,h=>by rw[yq]at h;cases h
 | p :: r,k,v,h=>by
  by_cases e:p.1=k
  ·rw[eV e]at h
   cases h
   exact⟨0,by rw[<- e];rfl⟩
  ·rw[eI e]at h
   obtain⟨i,hi⟩:=xC h
   exact⟨i+1,hi⟩
inductive Sa(P:Program)(w:World)(CS:Addr)(vs:List V)(H:Hp)(Q:VK):Prop
 | mk (o dx:Addr) (A:SA) (us:List V) (ts:List Tm) (aw:Nat × Nat->List (Nat × Nat)) (s:SS) (lk:Nat × Nat->Option Nat) (a:Nat) (z0:vs = [.ref o,nV a]) (z1:de P w CS o dx A us ts aw H s lk) (z2:a < ts.length) (z3:s.Hd a≠none)
  (z5:∀ hd H',BL (s.W a) hd->jw A H H'->de P w CS o dx A us ts aw H' { s with Hd:=fun x=>if x=a then hd else s.Hd x } lk->Q .cG H'):Sa P w CS vs H Q
def P8(P:Program)(w:World)(CS:Addr):Sp:=fun vs H Q _=>Sa P w CS vs H Q
def N3:Option (Key × V)->Int
 | some (_,.int n)=>n
 | _=>0
inductive FhI(H1:Hp)(G:St)(cw:Addr)(ob:Obj)(kw:List (Key × V))(m:Nat)(j:Nat)(Y:St)(H':Hp):Prop
 | mk (x4:Option V):(Y = G ++ [x4])->H'=upd H1 cw (Ext cw ob)->(∀ i,i < j->N3 kw[i]? ≠ (m:Int))->FhI H1 G cw ob kw m j Y H'
theorem Jp(B:lK mg)(Z:rP K mg CS)(D:nF K CS "find_head" "Search.find_head" xf ["self", "a"]):lY P w K mg base 1 CS "find_head" ["self", "a"] (P8 P w CS):=by
 have cS:=Z.cS
 refine D.has pK (fun vs H Q E h =>?_) (fun f cJ A outer s H vs Q E hr h =>?_)
 ·obtain⟨o,dx,A,us,ts,aw,s,lk,a,rfl,_⟩:=h;rfl
 obtain⟨o,dx,A,us,ts,aw,s,lk,a,rfl,h,ha,hhd,q⟩:=h
 refine⟨_,(av (bz (i:=2) pK.nd O (aO O) (aM bG (eC (pv 0) O) (pv 1)))
  (av (dt (Ji (eC (pv 0) O) (pv 1) ⟨O,O,O,O⟩))
  (aI (dE (yF (pv 2) (fun _=>O)) (av (bz (i:=3) pK.nd O (aO O) (Ts O O B.FU (pv 2)))
  (aI (Xl (fA fM O (Xq (pv 2)) (bX (i:=4) pK.nd O (aO O))
  (aI (dE (cC gA (Xs (pv 2) (pv 4) (fun _ _=>O)) (pv 3) (cz _)) (av (FF (BD hr) (eC (pv 0) O) (pv 1) (cK (ae (pv 3) (ae (pv 1) (ae (pv 4) aq)))) O)
  (aI Jg)) cD)))))) cD)))),?_⟩
 try dsimp only[dR]
 obtain⟨cw,xU⟩:∃ c,A.Wr[a]? = some c:=⟨_,aj (by rw[h.lW];exact ha)⟩
 refine⟨_,O,o,CS,dx,_,_,O,h.ins,Z.cS,Z.yL,O,_,O,A.W,_,_,_,O,O,a9.of h.hW,gf xU,?_⟩
 dsimp only[bq]
 obtain⟨kh,nX,ox⟩:=id h.hH
 obtain⟨⟨hk,hb⟩,ehd⟩:=Option.ne_none_iff_exists'.mp hhd
 obtain⟨ph,VQ,_⟩:=ox.Gy a hk hb ehd
 refine⟨_,O,o,CS,dx,_,_,O,h.ins,Z.cS,Z.pR,O,A.Hd,O,.inl ⟨_,.inl nX⟩,_,O,kh,.inl (a:Int),_,nX,O,VQ,?_⟩
 have h1:=h.S5 _ (ox.drop (l:=a))
 have b1:=(jw.refl A H).upd (c:=A.Hd) (o := .dK (lQ kh (.inl (a:Int)))) (.inr (.inr (.inl rfl)))
 generalize upd H A.Hd (.dK (lQ kh (.inl (a:Int))))=H1 at h1 b1 ⊢
 obtain⟨kw,Cb,wx⟩:=h1.rW a cw xU
 obtain⟨VM,hg1,V6⟩:=id h1.hH
 have wx:rn ts.length kw (s.W a):=wx
 have at_:∀ i,i < kw.length->∃ b m:Nat,kw[i]? = some ((.inl (b:Int):Key),nV m)∧b < ts.length∧s.W a b=some m:=fun i hi=>by
  have e:kw[i]? = some kw[i]:=aj hi
  obtain⟨b,m,em,hb⟩:=wx.key kw[i] (jO hi)
  refine⟨b,m,by rw[e,em],hb,?_⟩
  have:=CG wx.nd kw[i] (jO hi)
  rw[em]at this
  have this:bL kw (.inl (b:Int))=some (nV m):=this
  rw[wx.val b]at this
  obtain⟨m',e',em'⟩:=cP.mp this
  rw[e']
  congr 1
  have:=V.int.inj em'
  omega
 have of_:∀ b m:Nat,s.W a b=some m->∃ i,kw[i]? = some ((.inl (b:Int):Key),nV m):=fun b m e=>xC (by rw[wx.val b,e];rfl)
 dsimp only
 refine xH (fun c Hc=>Hc=H1∧c = !kw.isEmpty) (fun Qc qc=>⟨_,O,_,.inr (.inr ⟨kw,Cb,O⟩),qc _ _ ⟨O,O⟩⟩) ?_ ?_
 ·rintro Hc ⟨rfl,e⟩
  have J0:0 < kw.length:=by cases kw with | nil=>cases e | cons p r=>exact Nat.succ_pos _
  have hF:∀ (i:Nat) (kv:Key × V),kw[i]? = some kv->kv.2 = .int (N3 kw[i]?):=fun i kv cR=>by
   obtain⟨b,m,e1,_⟩:=at_ i (ai.mp cR).1
   rw[cR]at e1
   cases e1
   rw[cR];rfl
  refine⟨_,O,cw,kw,fun i=>N3 kw[i]?,O,Cb,J0,hF,fun i hi OS =>?_⟩
  dsimp only[bq]
  obtain⟨b0,m0,e0,hb0,hw0⟩:=at_ i hi
  have ev0:N3 kw[i]? = (m0:Int):=by rw[e0];rfl
  rw[ev0]
  have least:∀ c m,s.W a c=some m->m0<=m:=fun c m ec=>by
   obtain⟨j,hj⟩:=of_ c m ec
   have:=OS j (ai.mp hj).1
   rw[ev0,hj]at this
   have this:(m0:Int)<=(m:Int):=this
   omega
  refine⟨_,O,cw,kw,O,Cb,fun ob dxo =>?_⟩
  have Z9:A.Hd≠cw:=fun z=>(bI.mp h.sep.nW).1 (by rw[z];exact ak xU)
  refine UA (FhI Hc [aa o,aN a,aa cw,aN m0] cw ob kw m0) ⟨none,O,O,fun j hj=>absurd hj (jb j)⟩ ?_ ?_ ?_
  ·rintro j Y H' _ ⟨x4,rfl,rfl,_⟩
   exact aF
  ·rintro j kv Y H' cR ⟨x4,rfl,rfl,qF⟩
   obtain⟨b,m,ej,hb,hwb⟩:=at_ j (ai.mp cR).1
   rw[cR]at ej
   cases ej
   dsimp only[bq]
   have hvb:bL kw (.inl (b:Int))=some (nV m):=by rw[wx.val b,hwb];rfl
   refine⟨_,O,_,O,cw,ob,kw,.inl (b:Int),nV m,O,O,aF,dxo,hvb,_,O,O,_,O,iZ (fun em =>?_) (fun em =>?_)⟩
   ·have em:m=m0:=by have:=V.int.inj em;omega
    subst em
    refine⟨_,O,_,O,_,O,(show 3<=sizeLine by decide),fun p hp =>?_⟩
    have Z0:p≠cw:=fun z=>by rw[z,aF]at hp;cases hp
    have hpH:Hc p=none:=by rw[aE Z0]at hp;exact hp
    have npH:A.Hd≠p:=bQ hg1 hpH
    have G0:o≠cw:=aZ h1.ins Cb nofun
    have ahm:(upd (upd Hc cw (Ext cw ob)) p (.tup [nV m,nV a,nV b])) o=some (.ins CS dx [("terms",.ref A.T),("least",.ref A.L),("waiting",.ref A.W),("heads",.ref A.Hd),("single",.ref A.Sg),("steps",.ref A.S),("awaited",.ref A.Aw),("lacking",.ref A.Lk)]):=by rw[aE (bQ h1.ins hpH),aE G0];exact h1.ins
    have V5:(upd (upd Hc cw (Ext cw ob)) p (.tup [nV m,nV a,nV b])) A.Hd=some (.dK VM):=by rw[aE npH,aE Z9];exact hg1
    refine⟨_,O,o,CS,dx,_,_,O,ahm,Z.cS,Z.pR,O,_,O,A.Hd,_,O,Dx.k (k := .inl (a:Int)) V5 (cU (by have:=V6.dG;have:=h.dG;omega)),?_⟩
    refine⟨cw,ob,kw,by rw[aE (cm Z9),aE (cm Z0),aF],dxo,?_⟩
    have eh:upd (upd (upd (upd Hc cw (Ext cw ob)) p (.tup [nV m,nV a,nV b])) A.Hd (.dK (eW VM (.inl (a:Int)) (.ref p)))) cw (.dK kw)=upd (upd Hc p (.tup [nV m,nV a,nV b])) A.Hd (.dK (eW VM (.inl (a:Int)) (.ref p))):=by
     funext c
     by_cases ec:c=cw
     ·subst ec
      rw[aF,aE (cm Z9),aE (cm Z0),Cb]
     ·rw[aE ec]
      by_cases eh:c=A.Hd
      ·subst eh
       rw[aF,aF]
      ·rw[aE eh,aE eh]
       by_cases ep:c=p
       ·subst ep
        rw[aF,aF]
       ·rw[aE ep,aE ep,aE ec]
    show Q V.cG (upd (upd (upd (upd Hc cw (Ext cw ob)) p (.tup [nV m,nV a,nV b])) A.Hd (.dK (eW VM (.inl (a:Int)) (.ref p)))) cw (.dK kw))
    rw[eh]
    obtain⟨H4,eH,s4,GZ⟩:=alloc hpH (.tup [nV m,nV a,nV b])
    rw[eH]
    have h4:=h1.same s4
    have VU:=(V6.but (H':=H4) fun c ys e=>s4 _ _ e).put ha GZ
    refine q (some (m,b)) _ ⟨nofun,fun k y z=>by cases z;exact⟨hwb,least⟩⟩ ((b1.same s4).upd (.inr (.inr (.inl rfl)))) ?_
    have h5:=h4.S5 _ VU
    have es:(⟨s.L,s.W,fun x=>if x=a then some (m,b) else (fun x=>if x=a then none else s.Hd x) x,s.Sg,s.St,s.dn⟩:SS)={ s with Hd:=fun x=>if x=a then some (m,b) else s.Hd x }:=by
     have e3:(fun x=>if x=a then some (m,b) else (fun x=>if x=a then none else s.Hd x) x)=fun x=>if x=a then some (m,b) else s.Hd x:=funext fun x=>by
      by_cases ex:x=a
      ·rw[if_pos ex,if_pos ex]
      ·rw[if_neg ex,if_neg ex];exact if_neg ex
     rw[e3]
    rw[<- es]
    exact h5
   ·refine⟨_,O,O,fun j' Kk =>?_⟩
    rcases hJ (BR Kk) with z | z
    ·exact qF j' z
    ·rw[z,cR]
     exact fun z2=>em (by have z2:(m:Int)=(m0:Int):=z2;show V.int _=V.int _;rw[z2])
  ·rintro Y H' ⟨x4,rfl,rfl,qF⟩
   exact absurd ev0 (qF i hi)
 ·rintro Hc ⟨rfl,e⟩
  refine q none Hc ⟨fun _ y =>?_,fun k y z=>nomatch z⟩ b1 h1
  have:kw = []:=by cases kw with | nil=>rfl | cons p r=>cases e
  have hv:=wx.val y
  rw[this,yq]at hv
  cases ew:s.W a y with
  | none=>rfl
  | some m=>rw[ew]at hv;cases hv
theorem SQ{as bs:List Nat}{i x y:Nat}(hx:as[i]? = some x)(hy:bs[i]? = some y):gj (as.take (i+1)) (bs.take (i+1))=gj (as.take i) (bs.take i) ++ (if x=y then [] else [(x,y)]):=by
 unfold gj
 rw[iw,iw,hx,hy]
 have e:(as.take i ++ [x]).zip (bs.take i ++ [y])=(as.take i).zip (bs.take i) ++ [(x,y)]:=by
  have hl:(as.take i).length=(bs.take i).length:=by
   have:=(ai.mp hx).1
   have:=(ai.mp hy).1
   rw[bW,bW];omega
  rw[List.zip_append hl];rfl
 show List.filter _ ((as.take i ++ [x]).zip (bs.take i ++ [y]))=_
 rw[e,Bd]
 congr 1
 by_cases q:x=y
 ·rw[if_pos q,iK (by simp[q])];rfl
 ·rw[if_neg q,iJ (by simp[q])];rfl
inductive WJ(vs:List V)(H:Hp)(Q:VK):Prop
 | mk (T:Addr) (us:List V) (ts:List Tm) (a b:Nat) (x y:Str) (as bs:List Nat) (z0:vs = [.ref T,nV a,nV b]) (z1:H T=some (.lst us)) (z2:lH H us ts) (z3:ts[a]? = some (.of x as)) (z4:ts[b]? = some (.of y bs)) (z5:as.length=bs.length) (z6:as.length<=1000)
  (z7:∀ D jk H',bJ H H'->H D=none->H' D=some (.lst jk)->dZ H' jk (cE ts a b)->Q (.ref D) H'):WJ vs H Q
def Ia:Sp:=fun vs H Q _=>WJ vs H Q
theorem tm_val{H:Hp}{us:List V}{ts:List Tm}(h:lH H us ts){a:Nat}{x:Str}{as:List Nat}(ha:ts[a]? = some (.of x as)):∃ t c,us[a]? = some (.ref t)∧H t=some (.tup [.str "of",.str x,.ref c])∧H c=some (.tup (as.map nV)):=by
 have hl:=(ai.mp ha).1
 have hu:us[a]? = some (us[a]'(by rw[aV h];exact hl)):=aj _
 obtain⟨t,ht,htu⟩:=DG h hu
 rw[ha]at ht
 cases ht
 obtain⟨t,c,e,h1,h2⟩:=htu
 exact⟨t,c,by rw[hu,e],h1,h2⟩
theorem FH(Pb:mg "zip" = none)(D:Def K mg "unlike_arms" oE wa4):dQ P w K mg base 1 "unlike_arms" wa4 Ia:=by
 refine D.has Fu (fun vs H Q E h =>?_) (fun f cJ A outer s H vs Q E hr h =>?_)
 ·obtain⟨T,us,ts,a,b,x,y,as,bs,rfl,_⟩:=h;rfl
 obtain⟨T,us,ts,a,b,x,y,as,bs,rfl,hT,i7,ha,hb,hl,Ii,q⟩:=h
 refine⟨_,(aI (cF (Tv (te:=_) (ct:=(HY (uX _ _ _))) (own := ["x", "y"]) (caps := []) (iW (aX oE) wa4 O O O (by decide +kernel)) (Xp O Pb (ae (aM bF (aM bG (pv 0) (pv 1)) aA) (ae (aM bF (aM bG (pv 0) (pv 2)) aA) aq))) O (fun _ _ _=>ZG (K:=K) O O (show (["x", "y"]:List Str).Nodup by decide +kernel) O O O O) (fun _ _ _=>(cC wm (pv 0) (pv 1) (cz _))) (fun _ _ _=>(cK (ae (pv 0) (ae (pv 1) aq))))))),?_⟩
 try dsimp only[dR]
 obtain⟨ta,ca,hua,hta,i0⟩:=tm_val i7 ha
 obtain⟨tb,cb,hub,VR,lh⟩:=tm_val i7 hb
 refine⟨_,O,_,O,T,_,_,_,O,O,a9.of hT,aY hua,ta,_,2,_,O,O,bM.of hta,aY (j:=2) rfl,_,O,_,O,T,_,_,_,O,O,a9.of hT,aY hub,tb,_,2,_,O,O,bM.of VR,aY (j:=2) rfl,ca,cb,as.map nV,bs.map nV,O,bM.of i0,bM.of lh,?_⟩
 intro D hD
 refine⟨fun i m G zs H'=>m=as.length - i∧i<=as.length∧(∃ o p, G = [o,p])∧dZ H' zs (gj (as.take i) (bs.take i))∧bJ H H'∧H' D=some (.lst zs),⟨as.length,by simp,bx _,⟨none,none,O⟩,by rw[lB,lB];exact .nil,bo hD _,aF⟩,?_⟩
 rintro i m G zs H' ⟨rfl,hi,⟨o1,o2,rfl⟩,zC,sm,xX⟩
 refine⟨xX,?_⟩
 have hA:=bM.of (K:=K) (sm _ _ i0)
 have hB:=bM.of (K:=K) (sm _ _ lh)
 by_cases cW:i < as.length
 ·have hx:as[i]? = some as[i]:=aj cW
  have hy:bs[i]? = some (bs[i]'(by omega)):=aj (by omega)
  generalize as[i]=u at hx
  generalize bs[i]'(by omega)=v at hy
  have hzl:zs.length<=i:=by
   rw[aV zC]
   unfold gj
   refine bf (jc ..) ?_
   rw[wV,bW]
   omega
  refine .inr ⟨⟨_,_,nV u,nV v,hA,hB,by rw[aK,hx];rfl,by rw[aK,hy];rfl⟩,cU (by omega),fun r H2 yl =>?_⟩
  obtain⟨p,u',v',hp,rfl,JU,JR,rfl⟩:=yl
  have eu:u'=nV u:=by have:=JU _ hA;rw[aK,hx]at this;exact(aD this).symm
  have ev:v'=nV v:=by have:=JR _ hB;rw[aK,hy]at this;exact(aD this).symm
  subst eu ev
  refine⟨p,_,O,bM.of aF,O,_,_,O,_,_,O,O,?_⟩
  have s2:=bo hp (.tup [nV u,nV v])
  have xY:=s2 _ _ xX
  have Ec:=bC zC (H':=upd H' p (.tup [nV u,nV v])) fun c ys e=>s2 _ _ e
  have jC:=sm.trans s2
  generalize upd H' p (.tup [nV u,nV v])=H3 at s2 xY Ec jC ⊢
  have nx:=SQ hx hy
  refine⟨_,O,_,O,O,_,O,rM (fun ne =>?_) (fun eq =>?_)⟩
  ·have ne:u≠v:=fun z=>ne (by rw[z])
   refine⟨_,O,_,O,(show 2<=sizeLine by decide),fun q hq =>?_⟩
   obtain⟨H4,eH,s4,JY⟩:=alloc hq (.tup [nV u,nV v])
   rw[eH]
   have KH:=s4 _ _ xY
   have kp:∀ c ys,H4 c=some (.tup ys)->(upd H4 D (.lst (zs ++ [.ref q]))) c=some (.tup ys):=fun c ys e=>by rw[aE (aZ e KH nofun)];exact e
   refine⟨KH,as.length - (i+1),by omega,O,cW,⟨_,_,O⟩,?_,(jC.trans s4).put hD,aF⟩
   rw[nx,if_neg ne]
   exact fQ (bC (bC Ec fun c ys e=>s4 _ _ e) kp) (.cons ⟨q,O,kp _ _ JY⟩ .nil)
  ·have eq:u=v:=by have:=V.int.inj eq;omega
   refine⟨as.length - (i+1),by omega,O,cW,⟨_,_,O⟩,?_,jC,xY⟩
   rw[nx,if_pos eq,dw]
   exact Ec
 ·have e:i=as.length:=by omega
  subst e
  refine .inl ⟨⟨_,hA,by rw[az]⟩,q D zs H' sm hD xX ?_⟩
  rw[bK,hl,bK]at zC
  have eu:cE ts a b=gj as bs:=by unfold cE;rw[ha,hb];rfl
  rw[eu];exact zC
inductive acN(vs:List V)(H:Hp)(Q:VK):Prop
 | mk (T Lc:Addr) (Lr:List Addr) (us:List V) (ts:List Tm) (L:Mx) (a b:Nat) (x y:Str) (as bs:List Nat) (z0:vs = [.ref T,.ref Lc,nV a,nV b]) (z1:H T=some (.lst us)) (z2:lH H us ts) (z3:ts[a]? = some (.of x as)) (z4:ts[b]? = some (.of y bs)) (z5:as.length=bs.length) (z6:as.length<=1000)
  (z8:H Lc=some (.lst (Lr.map V.ref))) (z9:Lr.length=ts.length) (BZ:∀ (r:Nat) (c:Addr),Lr[r]? = some c->H c=some (.lst (ie L ts.length r))) (Dz:∀ p∈cE ts a b,p.1 < ts.length∧p.2 < ts.length∧∃ k,L p.1 p.2=some k)
  (z7:∀ H',bJ H H'->Q (nV (cx ts L a b)) H'):acN vs H Q
def S3:Sp:=fun vs H Q _=>acN vs H Q
theorem Gs{g:Nat × Nat->Nat}{p:Nat × Nat}:∀ {l:List (Nat × Nat)},mU g (l ++ [p])=mU g l+g p
 | []=>by show g p+0=0+g p;omega
 | q :: l=>by show g q+mU g (l ++ [p])=g q+mU g l+g p;rw[Gs];omega
theorem fO{α : Type}{l:List α}{i:Nat}{a : α}(h:l[i]? = some a):l.take (i+1)=l.take i ++ [a]:=by rw[iw,h];rfl
inductive LLI(H:Hp)(G:St)(rZ:List (Option V))(g:Nat × Nat->Nat)(l:List (Nat × Nat))(i:Nat)(Y:St)(H':Hp):Prop
 | mk (x5 x6:Option V):(Y = G ++ [some (nV (1+mU g (l.take i))),x5,x6])->H'=H->LLI H G rZ g l i Y H'
theorem FK(gK:dQ P w K mg base 1 "unlike_arms" wa4 Ia)(D:Def K mg "like_length" tj wa6):dQ P w K mg base 2 "like_length" wa6 S3:=by
 refine D.has kQ (fun vs H Q E h =>?_) (fun f cJ A outer s H vs Q E hr h =>?_)
 ·obtain⟨T,Lc,Lr,us,ts,L,a,b,x,y,as,bs,rfl,_⟩:=h;rfl
 obtain⟨T,Lc,Lr,us,ts,L,a,b,x,y,as,bs,rfl,hT,i7,ha,hb,hl,Ii,hLc,lLr,AN,iQ,q⟩:=h
 refine⟨_,(av (bz (i:=4) kQ.nd O (aO O) aA)
  (av (fA cq O (fU (bp gK hr (by omega) O (ae (pv 0) (ae (pv 2) (ae (pv 3) aq))))) (m5 O (et (bX (i:=5) kQ.nd O (aO O)) (et (bX (i:=6) kQ.nd O (aO O)) kX)))
  (aI (Qm (i:=4) kQ.nd O (aO O) (aM bG (aM bG (pv 1) (pv 5)) (pv 6)) QU)))
  (aI (cF (pv 4))))),?_⟩
 try dsimp only[dR]
 refine⟨_,O,_,O,_,O,T,us,ts,a,b,x,y,as,bs,O,hT,i7,ha,hb,hl,Ii,fun D1 r8 H1 s1 Wt kF uc =>?_⟩
 refine⟨D1,O,⟨_,a9.of kF⟩,?_⟩
 refine gR (xs:=r8) (LLI H1 [aa T,aa Lc,aN a,aN b] [] (fun p=>(L p.1 p.2).getD 0) (cE ts a b)) ⟨none,none,O,O⟩ ?_ ?_ ?_
 ·rintro i Y H' _ ⟨x5,x6,rfl,rfl⟩
  exact a9.of kF
 ·rintro i v Y H' hv ⟨x5,x6,rfl,rfl⟩
  obtain⟨⟨u,t⟩,wz,p,rfl,hp⟩:=Paired.at uc hv
  obtain⟨hu,ht,k,hk⟩:=iQ _ (ak wz)
  dsimp only at hu ht hk
  obtain⟨cu,Q6⟩:∃ c,Lr[u]? = some c:=⟨_,aj (by rw[lLr];exact hu)⟩
  refine⟨p,_,O,bM.of hp,O,_,_,O,_,_,O,O,?_⟩
  have vq:=aY (oo (L:=L) (n:=ts.length) (a:=u) ht)
  rw[hk]at vq
  refine⟨_,O,_,O,_,O,Lc,_,_,_,O,O,a9.of (s1 _ _ hLc),gf Q6,_,O,cu,_,_,_,O,O,a9.of (s1 _ _ (AN u cu Q6)),vq,_,_,O,O,⟨some (nV u),some (nV t),?_,O⟩⟩
  rw[fO wz,Gs]
  dsimp only
  rw[hk]
  generalize mU (fun p=>(L p.1 p.2).getD 0) ((cE ts a b).take i)=S
  have ev:V.int (((1+S:Nat):Int)+(k:Int))=nV (1+(S+k)):=by
   show V.int _=V.int _
   congr 1
   omega
  show [some (V.ref T),some (V.ref Lc),some (nV a),some (nV b),some (V.int (((1+S:Nat):Int)+(k:Int))),some (nV u),some (nV t)] = [some (V.ref T),some (V.ref Lc),some (nV a),some (nV b),some (nV (1+(S+k))),some (nV u),some (nV t)]
  rw[ev]
 ·rintro Y H' ⟨x5,x6,rfl,rfl⟩
  rw[aV uc,bK]
  exact⟨_,O,q _ s1⟩
theorem JE{ts:List Tm}{es:List bY}{ls:List Nat}{lp:List (Nat × Nat)}{nd:Nat × Nat->List (Nat × Nat)}{s:SS}{lk:kB}(hp:LP ts ls lp nd){u v k:Nat}(JS:u < v)(h:SI ts es ts.length s)(hh:oV s)(top:∀ x∈s.dn,x.k<=k)(JT:s.L u v=some k){p:Nat × Nat}(hm:p∈lp)(hq:(u,v)∈nd p)(e1:lk p=iC s (nd p)+1) :
  kC ts es ts.length s (dI ts (s,lk) p).1∧(fF lk p p=0->∀ q∈nd p,sB s q=true):=by
 have e2:fF lk p p=iC s (nd p):=by unfold fF;rw[if_pos rfl,e1];rfl
 refine⟨?_,fun z=>yB.mp (e2.symm.trans z)⟩
 by_cases ez:fF lk p p=0
 ·have A0:dI ts (s,lk) p=(je s p.1 p.2 (cx ts s.L p.1 p.2) true,fF lk p):=if_pos ez
  rw[A0]
  have iQ:=yB.mp (e2.symm.trans ez)
  obtain⟨cW,x,as,bs,ha,hb,eD⟩:=hp.at_ p hm
  have Uv:k<=cx ts s.L p.1 p.2:=by
   obtain⟨r,hr,er⟩:=(hp.Jv p hm _).mp hq
   have hL:s.L r.1 r.2=some k:=by
    have q1:min r.1 r.2=u:=congrArg dB er
    have q2:max r.1 r.2=v:=congrArg zf er
    rcases gI r.1 r.2 with q | q
    ·rw[show r.1=u by omega,show r.2=v by omega];exact JT
    ·rw[show r.1=v by omega,show r.2=u by omega,h.sym];exact JT
   have:=uZ (g:=fun p=>(s.L p.1 p.2).getD 0) hr
   have this:(s.L r.1 r.2).getD 0<=mU (fun p=>(s.L p.1 p.2).getD 0) (cE ts p.1 p.2):=this
   rw[hL]at this
   have this:k<=mU (fun p=>(s.L p.1 p.2).getD 0) (cE ts p.1 p.2):=this
   unfold cx
   omega
  exact(DD (sg:=true) h hh (ai.mp ha).1 (ai.mp hb).1 (fun y hy=>bf (top y hy) Uv) (by unfold cx;omega) (JF h hp hm iQ) (fun _ => .inl rfl)).1
 ·have A0:dI ts (s,lk) p=(s,fF lk p):=if_neg ez
  rw[A0]
  exact kC.refl h hh
theorem T6{ts:List Tm}{s:SS}{lk:kB}(p:Nat × Nat):(dI ts (s,lk) p).2=fF lk p:=by
 unfold dI
 split <;> rfl
theorem Hb{ts:List Tm}{st:SS × kB}{l:List (Nat × Nat)}{i:Nat}{p:Nat × Nat}(h:l[i]? = some p):(l.take (i+1)).foldl (dI ts) st=dI ts ((l.take i).foldl (dI ts) st) p:=by
 rw[fO h,og];rfl
theorem JD{ts:List Tm}{es:List bY}{ls:List Nat}{lp:List (Nat × Nat)}{nd:Nat × Nat->List (Nat × Nat)}{s:SS}{lk:kB}(hp:LP ts ls lp nd){u v k:Nat}(JS:u < v)(h:SI ts es ts.length s)(hh:oV s)(top:∀ x∈s.dn,x.k<=k)(hdn:s.Dn u v k){l:List (Nat × Nat)}(hn:l.Nodup)(hl:∀ p∈l,p∈lp∧(u,v)∈nd p)(hk:∀ p∈l,lk p=iC s (nd p)+1) :
  ∀ i,i<=l.length->kC ts es ts.length s ((l.take i).foldl (dI ts) (s,lk)).1∧∀ j p,l[j]? = some p->i<=j->((l.take i).foldl (dI ts) (s,lk)).2 p=lk p
 | 0,_=>⟨kC.refl h hh,fun j p _ _=>rfl⟩
 | i+1,hi=>by
  obtain⟨kp,sn⟩:=JD hp JS h hh top hdn hn hl hk i (by omega)
  have MT:l[i]? = some l[i]:=aj (by omega)
  generalize l[i]=p at MT
  rw[Hb MT]
  have e0:=sn i p MT (ar _)
  generalize (l.take i).foldl (dI ts) (s,lk)=st at kp sn e0 ⊢
  obtain⟨s1,lk1⟩:=st
  dsimp only at kp sn e0
  obtain⟨hm,hq⟩:=hl p (ak MT)
  have d1:s1.Dn u v k:=by unfold SS.Dn;rw[kp.dn];exact hdn
  have agx:iC s1 (nd p)=iC s (nd p):=by unfold iC sB;rw[kp.dn]
  obtain⟨k1,_⟩:=JE (lk:=lk1) hp JS kp.si kp.hd (by rw[kp.dn];exact top) (kp.si.Co d1).1 hm hq (by rw[e0,agx];exact hk p (ak MT))
  refine⟨kp.trans k1,fun j p' hj AR =>?_⟩
  rw[T6]
  unfold fF
  rw[if_neg (fun z=>by
   rw[z]at hj
   have:=(kL (ai.mp hj).1 hn).mp (hj.trans MT.symm)
   omega)]
  exact sn j p' hj (by omega)
def ad5(s:SS):Prop := ∀ x,(s.St x).length<=s.dn.length
def uH(A:SA)(c:Addr):Prop:=Gd A c∨c∈A.Sr∨c=A.Lk
def iS(A:SA)(H H':Hp):Prop := ∀ c o, ¬ uH A c->H c=some o->H' c=some o
theorem iS.of{A:SA}{H H':Hp}(h:jw A H H'):iS A H H':=fun c o n e=>h c o (fun z=>n (.inl z)) e
theorem iS.trans{A:SA}{H H1 H2:Hp}(a:iS A H H1)(b:iS A H1 H2):iS A H H2:=fun c o n e=>b c o n (a c o n e)
theorem iS.upd{A:SA}{H H':Hp}(a:iS A H H'){c:Addr}{o:HO}(hc:uH A c):iS A H (upd H' c o):=fun d u n e=>by rw[aE (fun z=>n (by rw[z];exact hc))];exact a d u n e
theorem iS.same{A:SA}{H H1 H2:Hp}(a:iS A H H1)(b:bJ H1 H2):iS A H H2:=fun c o n e=>b _ _ (a c o n e)
def sx(lp:List (Nat × Nat))(lk:kB):Nat × Nat->Option Nat:=fun p=>if p∈lp then some (lk p) else none
theorem XR{lp:List (Nat × Nat)}{lk:kB}{p:Nat × Nat}(hm:p∈lp)(q:Nat × Nat):((sx lp (fF lk p)) q).map nV=if q=p then some (nV (fF lk p p)) else ((sx lp lk) q).map nV:=by
 unfold sx
 by_cases e:q=p
 ·subst e;rw[if_pos hm,if_pos rfl];rfl
 ·rw[if_neg e]
  by_cases hq:q∈lp
  ·rw[if_pos hq,if_pos hq]
   unfold fF
   rw[if_neg e]
  ·rw[if_neg hq,if_neg hq]
theorem de.dnG{H:Hp}{o dx:Addr}{A:SA}{us:List V}{ts:List Tm}{aw:Nat × Nat->List (Nat × Nat)}{s:SS}{lk:Nat × Nat->Option Nat}(h:de P w CS o dx A us ts aw H s lk)(d:List DE):de P w CS o dx A us ts aw H { s with dn:=d } lk :=
 ⟨h.ins,h.hT,h.Mf,h.hL,h.lL,h.rL,h.hW,h.lW,h.rW,h.hH,h.sg,h.hS,h.lS,h.rS,h.mF,h.me,h.sep,h.dG⟩
theorem de.MD{H:Hp}{o dx:Addr}{A:SA}{us:List V}{ts:List Tm}{aw:Nat × Nat->List (Nat × Nat)}{s:SS}{lk:Nat × Nat->Option Nat}(h:de P w CS o dx A us ts aw H s lk){c:Addr}{u:HO}(hc:H c=some u)(hl:c ∉ A.Lr)(hs:c ∉ A.Sr)(hd:∀ kvs,u ≠ .dK kvs)(he:∀ φ,u ≠ .ext φ):¬ uH A c:=by
 rintro(z | z | z)
 ·exact h.Jr hc hl hd he z
 ·exact hs z
 ·obtain⟨kvs,e⟩:=h.me
  obtain⟨φ,e⟩:=e.dn.ext
  rw[<- z,hc]at e
  exact he _ (aD e)
theorem de.PU{H:Hp}{o dx:Addr}{A:SA}{us:List V}{ts:List Tm}{aw:Nat × Nat->List (Nat × Nat)}{s:SS}{lk:Nat × Nat->Option Nat}(h:de P w CS o dx A us ts aw H s lk){c:Addr}{ys:List V}(hc:H c=some (.tup ys)):¬ uH A c:=by
 refine h.MD hc (fun z =>?_) (fun z =>?_) (fun _ z=>nomatch z) (fun _ z=>nomatch z)
 ·obtain⟨i,hi⟩:=aU z
  have:=h.rL i c hi
  rw[hc]at this;cases this
 ·obtain⟨i,hi⟩:=aU z
  obtain⟨vs,e,_⟩:=h.rS i c hi
  rw[hc]at e;cases e
inductive SlI(P:Program)(w:World)(CS o dx:Addr)(A:SA)(us:List V)(ts:List Tm)(aw:Nat × Nat->List (Nat × Nat))(lp:List (Nat × Nat))(H:Hp)(G:St)(st:SS × kB)(l:List (Nat × Nat))(i:Nat)(Y:St)(H':Hp):Prop
 | mk (x4 x5:Option V):(Y = G ++ [x4,x5])->iS A H H'->de P w CS o dx A us ts aw H' ((l.take i).foldl (dI ts) st).1 (sx lp ((l.take i).foldl (dI ts) st).2)->SlI P w CS o dx A us ts aw lp H G st l i Y H'
structure ND(P:Program)(w:World)(CS o dx:Addr)(A:SA)(us:List V)(ts:List Tm)(es:List bY)(ls:List Nat)(lp:List (Nat × Nat))(nd:Nat × Nat->List (Nat × Nat))(aw:Nat × Nat->List (Nat × Nat))(H:Hp)(s:SS)(lk:kB):Prop where
 at_:de P w CS o dx A us ts aw H s (sx lp lk)
 all:zt ts es lp nd s lk
 len:ad5 s
structure Fix(ts:List Tm)(ls:List Nat)(lp:List (Nat × Nat))(nd:Nat × Nat->List (Nat × Nat))(aw:Nat × Nat->List (Nat × Nat)):Prop where
 MJ:LP ts ls lp nd
 WG:∀ q,(aw q).Nodup
 Nt:∀ q p,p∈aw q↔p∈lp∧q∈nd p
 oZ:∀ (i:Nat) x as,ts[i]? = some (.of x as)->as.length<=1000∧∀ a∈as,a < ts.length
inductive Lo(P:Program)(w:World)(CS:Addr)(vs:List V)(H:Hp)(Q:VK):Prop
 | mk (o dx:Addr) (A:SA) (us:List V) (ts:List Tm) (es:List bY) (ls:List Nat) (lp:List (Nat × Nat)) (nd:Nat × Nat->List (Nat × Nat)) (aw:Nat × Nat->List (Nat × Nat)) (s:SS) (lk:kB) (a b k:Nat) (z0:vs = [.ref o,nV a,nV b,nV k]) (z1:ND P w CS o dx A us ts es ls lp nd aw H s lk) (z2:Fix ts ls lp nd aw) (z3:s.W a b=some k) (z4:∀ c d m,s.W c d=some m->k<=m)
  (z5:∀ s' B8 H',iS A H H'->ND P w CS o dx A us ts es ls lp nd aw H' s' B8->s'.dn.length=s.dn.length+1->Q .cG H'):Lo P w CS vs H Q
def IG(P:Program)(w:World)(CS:Addr):Sp:=fun vs H Q _=>Lo P w CS vs H Q
theorem adt{o:Option Nat}{k:Nat}:decide ((EZ nV o).getD V.cG=nV k)=decide (o=some k):=by
 rw[gF,decide_eq_true_iff,decide_eq_true_iff]
 cases o with
 | none=>exact⟨fun z=>(nomatch z),fun z=>(nomatch z)⟩
 | some m=>exact⟨fun z=>by have z:V.int m=V.int k:=z;have:=V.int.inj z;congr 1;omega,fun z=>by cases z;rfl⟩
theorem QN{ts:List Tm}{es:List bY}{ls:List Nat}{lp:List (Nat × Nat)}{nd:Nat × Nat->List (Nat × Nat)}{s s3:SS}{lk:kB}(A:zt ts es lp nd s lk)(hp:LP ts ls lp nd){a b k:Nat}{f:Bool}(hw:s.W a b=some k)(qG:s3.dn=s.dn ++ [⟨a,b,k,f⟩]){p:Nat × Nat}(hm:p∈lp)(hq:(a,b)∈nd p):lk p=iC s3 (nd p)+1:=by
 have hb:sB s (a,b)=false:=by
  cases e:sB s (a,b) with
  | false=>rfl
  | true =>
   obtain⟨x,hx,g1,g2⟩:=pN.mp e
   have:=(A.si.dl x hx).2.2
   rw[g1,g2,hw]at this;cases this
 have h3:∀ q,sB s3 q=true↔sB s q=true∨q=(a,b):=fun q=>by
  rw[pN,pN,qG]
  constructor
  ·rintro⟨x,hx,g⟩
   rcases au.mp hx with hx | hx
   ·exact .inl ⟨x,hx,g⟩
   ·rw[ax.mp hx]at g
    exact .inr (rE g.1.symm g.2.symm)
  ·rintro(⟨x,hx,g⟩ | rfl)
   ·exact⟨x,au.mpr (.inl hx),g⟩
   ·exact⟨_,au.mpr (.inr (bg _)),O,O⟩
 rw[A.aak p hm,CP hb h3 (hp.ndd p hm),if_pos hq]
theorem de.agK{H:Hp}{o dx:Addr}{A:SA}{us:List V}{ts:List Tm}{aw:Nat × Nat->List (Nat × Nat)}{s:SS}{lk:Nat × Nat->Option Nat}(h:de P w CS o dx A us ts aw H s lk){c:Addr}(hc:H c=none):¬ uH A c:=by
 rintro((z | z | z | z) | z | z)
 ·obtain⟨i,hi⟩:=aU z
  rw[h.rL i c hi]at hc;cases hc
 ·obtain⟨i,hi⟩:=aU z
  obtain⟨kvs,e,_⟩:=h.rW i c hi
  rw[hc]at e;cases e
 ·obtain⟨kvs,e,_⟩:=h.hH
  rw[<- z,hc]at e;cases e
 ·obtain⟨kvs,e⟩:=h.sg
  obtain⟨φ,e⟩:=e.dn.ext
  rw[<- z,hc]at e;cases e
 ·obtain⟨i,hi⟩:=aU z
  obtain⟨kvs,e,_⟩:=h.rS i c hi
  rw[hc]at e;cases e
 ·obtain⟨kvs,e⟩:=h.me
  obtain⟨φ,e⟩:=e.dn.ext
  rw[<- z,hc]at e;cases e
theorem Yg{H:Hp}{o dx:Addr}{A:SA}{us:List V}{ts:List Tm}{aw:Nat × Nat->List (Nat × Nat)}{s:SS}{lk:Nat × Nat->Option Nat}(h:de P w CS o dx A us ts aw H s lk){kvs:List (NK × V)}(q:Nat × Nat){c:Addr}(hc:H c=none)(hv:(aw q = []∧bL kvs (cg q)=none)∨∃ c vs,bL kvs (cg q)=some (.ref c)∧H c=some (.lst vs)∧dZ H vs (aw q)∧c ∉ A.Lr∧c ∉ A.Sr) :
  ∃ d vs,(bL kvs (cg q)).getD (.ref c) = .ref d∧(upd H c (.lst [])) d=some (.lst vs)∧dZ (upd H c (.lst [])) vs (aw q)∧¬ uH A d:=by
 rcases hv with⟨e1,e2⟩ | ⟨d,vs,e1,e2,e3,n1,n2⟩
 ·exact⟨c, [],by rw[e2];rfl,aF,by rw[e1];exact .nil,h.agK hc⟩
 ·have sm:=bo hc (.lst [])
  exact⟨d,vs,by rw[e1];rfl,sm _ _ e2,bC e3 fun c ys e=>sm _ _ e,h.MD e2 n1 n2 (fun _ z=>nomatch z) (fun _ z=>nomatch z)⟩
theorem Qv(B:lK mg)(Z:rP K mg CS)(xp:lY P w K mg base 1 CS "find_head" ["self", "a"] (P8 P w CS))(uA:lY P w K mg base 2 CS "lengthen" ba (Vm P w CS))(ly:lY P w K mg base 2 CS "offer_step" ba (IF P w CS))(j0:dQ P w K mg base 2 "like_length" wa6 S3)(D:nF K CS "settle" "Search.settle" CL ba):lY P w K mg base 3 CS "settle" ba (IG P w CS):=by
 have cS:=Z.cS
 refine D.has Al (fun vs H Q E h =>?_) (fun f cJ A outer s H vs Q E hr h =>?_)
 ·obtain⟨o,dx,A,us,ts,es,ls,lp,nd,aw,s,lk,a,b,k,rfl,_⟩:=h;rfl
 obtain⟨o,dx,A,us,ts,es,ls,lp,nd,aw,s,lk,a,b,k,rfl,rd,fx,hw,least,q⟩:=h
 refine⟨_,(av (dt (Ji (aM bG (eC (pv 0) O) (pv 1)) (pv 2) ⟨O,O,O,O⟩))
  (av (dt (ux xp cS hr (by omega) (yI fun _ _ _ z=>z) (pv 0) (ae (pv 1) aq)))
  (av (dE (cC gA (Tp (n5 hr) (eC (pv 0) O) (cK (ae (pv 1) (ae (pv 2) aq))) ⟨O,O,O,O⟩) (pv 3) (cz _)) (av (dt (kG bE bV bU fJ (aM bG (eC (pv 0) O) (pv 1)) (ae (cK (ae (pv 2) (ae (pv 3) aq))) aq)))
  (aI (dt (kG bE bV bU fJ (aM bG (eC (pv 0) O) (pv 2)) (ae (cK (ae (pv 1) (ae (pv 3) aq))) aq))))) cD)
  (av (dt (ux uA cS hr (by omega) (yI fun _ _ _ z=>z) (pv 0) (ae (pv 1) (ae (pv 2) (ae (pv 3) aq)))))
  (av (dt (ux uA cS hr (by omega) (yI fun _ _ _ z=>z) (pv 0) (ae (pv 2) (ae (pv 1) (ae (pv 3) aq)))))
  (aI (fA fM O (fU (To (n5 hr) (eC (pv 0) O) (cK (ae (pv 1) (ae (pv 2) aq))) (j8 aq) ⟨O,O,O,O⟩)) (m5 O (et (bX (i:=4) Al.nd O (aO O)) (et (bX (i:=5) Al.nd O (aO O)) kX)))
  (av (Xn (eC (pv 0) O) (cK (ae (pv 4) (ae (pv 5) aq))) (ab8 (n5 hr)) aA aaA (Zb (n5 hr)))
  (aI (dE (cC gA (Mu (n5 hr) (eC (pv 0) O) (cK (ae (pv 4) (ae (pv 5) aq))) (fun _ _=>O)) aA (cz _)) (aI (dt (ux ly cS hr (by omega) (yI fun _ _ _ z=>z) (pv 0) (ae (pv 4) (ae (pv 5) (ae (bp j0 hr (by omega) O (ae (eC (pv 0) O) (ae (eC (pv 0) O) (ae (pv 4) (ae (pv 5) aq))))) aq)))))) cD)))))))))),?_⟩
 try dsimp only[dR]
 have h:=rd.at_
 have si:=rd.all.si
 obtain⟨ia,ahI⟩:=si.wl a b k hw
 obtain⟨ha,hb⟩:=si.zH a b k ahI
 obtain⟨cw,xU⟩:∃ c,A.Wr[a]? = some c:=⟨_,aj (by rw[h.lW];exact ha)⟩
 obtain⟨kw,Cb,wx⟩:=h.rW a cw xU
 have hvb:bL kw (.inl (b:Int))=some (nV k):=by rw[wx.val b,hw];rfl
 -- it N2 no more
 refine⟨_,O,o,CS,dx,_,_,O,h.ins,Z.cS,Z.yL,O,_,O,A.W,_,_,_,O,O,a9.of h.hW,gf xU,cw,O,.inl ⟨_,.inl Cb⟩,_,O,kw,.inl (b:Int),_,Cb,O,hvb,?_⟩
 have h1:=h.Zc xU (hU s.W a b) (fun x y n=>by unfold hU;rw[if_neg (fun z=>n z.1)]) wx.drop
 have b1:iS A H (upd H cw (.dK (lQ kw (.inl (b:Int))))):=(iS.of (jw.refl A H)).upd (.inl (.inr (.inl (ak xU))))
 generalize upd H cw (.dK (lQ kw (.inl (b:Int))))=H1 at h1 b1 ⊢
 have hhd:s.Hd a≠none:=fun z=>by rw[rd.all.hd.hn a z b]at hw;cases hw
 refine⟨_,O,o,dx,_,O,h1.ins,O,_,O,o,dx,A,us,ts,aw,_,sx lp lk,a,O,h1,ha,hhd,fun hd H2 rh b2 h2 =>?_⟩
 have b2:=b1.trans (iS.of b2)
 -- is it one step
 obtain⟨kg,g1⟩:=id h2.sg
 dsimp only
 refine mZ (fun bw H4 => bw = [aa o,aN a,aN b,aN k,none,none]∧iS A H H4∧de P w CS o dx A us ts aw H4 (pP s a b k (decide (s.Sg a b=some k)) hd) (sx lp lk)) ?_ (fun key =>?_)
 rotate_left
 ·refine xH (fun c Hc=>bJ H2 Hc∧c=decide (s.Sg a b=some k)) (fun Qc qc =>?_) ?_ ?_
  ·refine⟨_,O,o,CS,dx,_,_,O,h2.ins,Z.cS,Z.FT,O,A.Sg,O,⟨_,g1.dn⟩,_,O,_,O,(show 2<=sizeLine by decide),fun p hp =>?_⟩
   obtain⟨H3,eH,s3,ua⟩:=alloc hp (.tup [nV a,nV b])
   rw[eH]
   refine⟨p,kg,cg (a,b),O,g1.dn.same s3,kW ua,?_⟩
   rw[g1.val]
   refine⟨_,O,(show S7 ((EZ nV (s.Sg a b)).getD V.cG) (nV k)=true by cases s.Sg a b <;> rfl),_,O,?_⟩
   have:=qc (decide (s.Sg a b=some k)) H3 ⟨s3,O⟩
   rw[<- adt]at this
   exact this
  ·rintro Hc ⟨s3,e⟩
   have h3:=h2.same s3
   obtain⟨ca,i0⟩:∃ c,A.Sr[a]? = some c:=⟨_,aj (by rw[h.lS];exact ha)⟩
   obtain⟨cb,lh⟩:∃ c,A.Sr[b]? = some c:=⟨_,aj (by rw[h.lS];exact hb)⟩
   have hdn:s.dn.length<=900:=bf (RD rd.all) (rF h.dG h.dG)
   obtain⟨va,sE,jW⟩:=h3.rS a ca i0
   have la:=aV jW
   have l1:=rd.len a
   have la:va.length=(s.St a).length:=la
   refine⟨_,O,o,CS,dx,_,_,O,h3.ins,Z.cS,Z.D0,O,_,O,A.S,_,_,_,O,O,a9.of h3.hS,gf i0,.inl ⟨O,_,a9.of sE⟩,_,O,_,O,(show 2<=sizeLine by decide),fun q1 Eh =>?_⟩
   obtain⟨H4,eH,s4,JY⟩:=alloc Eh (.tup [nV b,nV k])
   rw[eH]
   refine⟨ca,_,_,O,O,s4 _ _ sE,cU (by omega),?_⟩
   have h4:=h3.same s4
   have h5:=h4.Zd i0 (vs:=va ++ [.ref q1]) (fun x=>if x=a then s.St a ++ [(b,k)] else s.St x) (fun x n=>if_neg n) (by
    rw[if_pos rfl]
    exact fQ (bC jW fun c ys e=>s4 _ _ e) (.cons ⟨q1,O,JY⟩ .nil))
   have b5:iS A H (upd H4 ca (.lst (va ++ [.ref q1]))):=((b2.same s3).same s4).upd (.inr (.inl (ak i0)))
   generalize upd H4 ca (.lst (va ++ [.ref q1]))=H5 at h5 b5 ⊢
   obtain⟨vb,sD,t6⟩:=h5.rS b cb lh
   have t6:dZ H5 vb (if b=a then s.St a ++ [(b,k)] else s.St b):=t6
   rw[if_neg (by omega)]at t6
   have lb:=aV t6
   have l2:=rd.len b
   refine⟨_,O,o,CS,dx,_,_,O,h5.ins,Z.cS,Z.D0,O,_,O,A.S,_,_,_,O,O,a9.of h5.hS,gf lh,.inl ⟨O,_,a9.of sD⟩,_,O,_,O,(show 2<=sizeLine by decide),fun q2 JZ =>?_⟩
   obtain⟨H6,eH,s6,hq6⟩:=alloc JZ (.tup [nV a,nV k])
   rw[eH]
   refine⟨cb,_,_,O,O,s6 _ _ sD,cU (by omega),key _ _ ⟨O,(b5.same s6).upd (.inr (.inl (ak lh))),?_⟩⟩
   have h6:=h5.same s6
   have h7:=h6.Zd lh (vs:=vb ++ [.ref q2]) (fun x=>if x=a then s.St a ++ [(b,k)] else if x=b then s.St b ++ [(a,k)] else s.St x) (fun x n=>by
    show _=if x=a then s.St a ++ [(b,k)] else s.St x
    by_cases ex:x=a
    ·rw[if_pos ex,if_pos ex]
    ·rw[if_neg ex,if_neg ex,if_neg n]) (by
    rw[if_neg (by omega),if_pos rfl]
    exact fQ (bC t6 fun c ys e=>s6 _ _ e) (.cons ⟨q2,O,hq6⟩ .nil))
   have h8:=h7.dnG (s.dn ++ [⟨a,b,k,decide (s.Sg a b=some k)⟩])
   have es:(⟨s.L,hU s.W a b,fun x=>if x=a then hd else s.Hd x,s.Sg,fun x=>if x=a then s.St a ++ [(b,k)] else if x=b then s.St b ++ [(a,k)] else s.St x,s.dn ++ [⟨a,b,k,decide (s.Sg a b=some k)⟩]⟩:SS)=pP s a b k (decide (s.Sg a b=some k)) hd:=by
    unfold pP
    rw[<- e]
    rfl
   rw[<- es]
   exact h8
  ·rintro Hc ⟨s3,e⟩
   refine key _ _ ⟨O,b2.same s3,?_⟩
   have h8:=(h2.same s3).dnG (s.dn ++ [⟨a,b,k,decide (s.Sg a b=some k)⟩])
   have es:(⟨s.L,hU s.W a b,fun x=>if x=a then hd else s.Hd x,s.Sg,s.St,s.dn ++ [⟨a,b,k,decide (s.Sg a b=some k)⟩]⟩:SS)=pP s a b k (decide (s.Sg a b=some k)) hd:=by
    unfold pP
    rw[<- e]
    rfl
   rw[<- es]
   exact h8
 rintro bw H4 ⟨rfl,b4,h4⟩
 have hf:s.Sg a b=some k->decide (s.Sg a b=some k)=true:=fun z=>decide_eq_true z
 generalize decide (s.Sg a b=some k)=fl at h4 hf
 obtain⟨i1,o1⟩:=Qp (f:=fl) si rd.all.hd hw least hf rh
 have YY:∀ x,∀ e∈(pP s a b k fl hd).St x,e.1 < ts.length:=fun x e he=>by
  obtain⟨y,hy,py,_⟩:=(i1.st x e.1 e.2).mp he
  exact(i1.zH _ _ _ (i1.Co ⟨y,hy,py,O⟩).1).2
 -- adG
 refine⟨_,O,o,dx,_,O,h4.ins,O,_,O,_,O,_,O,o,dx,A,us,ts,aw,_,sx lp lk,a,b,k,O,h4,ha,hb,i1.diag,YY b,fun H5 b5 h5 =>?_⟩
 obtain⟨s1,Wx⟩:∃ s1,s1=pP s a b k fl hd:=⟨_,O⟩
 rw[<- Wx]at h5 i1 o1 YY
 obtain⟨s2,Rv⟩:∃ s2,s2=gZ a k s1 (s1.St b):=⟨_,O⟩
 rw[<- Rv]at h5
 have Ah:s2.St=s1.St:=by rw[Rv];exact Gw ..
 have dg2:nE ts.length s2:=by rw[Rv];exact xq ha i1.diag
 refine⟨_,O,o,dx,_,O,h5.ins,O,_,O,_,O,_,O,o,dx,A,us,ts,aw,_,sx lp lk,b,a,k,O,h5,hb,ha,dg2,by rw[Ah];exact YY a,fun H6 b6 h6 =>?_⟩
 obtain⟨s3,es3⟩:∃ s3,s3=gZ b k s2 (s2.St a):=⟨_,O⟩
 rw[<- es3]at h6
 obtain⟨kk,fa3,qG,le3,Oa⟩:=GA (f:=fl) si rd.all.hd rd.all.fa hw least hf rh s1 s2 s3 Wx Rv es3
 have YB:=UU rd.all fx.MJ hw least hf rh (fx.WG (a,b)) (fun p=>fx.Nt (a,b) p) s1 s2 s3 Wx Rv es3
 have d3:s3.Dn a b k:=⟨⟨a,b,k,fl⟩,by rw[qG];exact au.mpr (.inr (bg _)),.inl ⟨O,O⟩,O⟩
 have sH:∀ p∈aw (a,b),p∈lp∧(a,b)∈nd p:=fun p hp=>(fx.Nt (a,b) p).mp hp
 have hk3:∀ p∈aw (a,b),lk p=iC s3 (nd p)+1:=fun p hp=>QN rd.all fx.MJ hw qG (sH p hp).1 (sH p hp).2
 have mid:=JD fx.MJ ia kk.si kk.hd Oa d3 (fx.WG (a,b)) sH hk3
 have b6:=(b4.trans (iS.of b5)).trans (iS.of b6)
 obtain⟨ka,d0,dk,dq⟩:=id h6.mF
 -- SN N2 for it
 refine⟨_,O,o,CS,dx,_,_,O,h6.ins,Z.cS,Z.C1,O,A.Aw,O,⟨_,d0⟩,_,O,_,O,(show 2<=sizeLine by decide),fun p hp =>?_⟩
 obtain⟨H7,eH,s7,hp7⟩:=alloc hp (.tup [nV a,nV b])
 rw[eH]
 have h7:=h6.same s7
 have dq7:(aw (a,b) = []∧bL ka (cg (a,b))=none)∨∃ c vs,bL ka (cg (a,b))=some (.ref c)∧H7 c=some (.lst vs)∧dZ H7 vs (aw (a,b))∧c ∉ A.Lr∧c ∉ A.Sr:=(dq (a,b)).imp id fun ⟨c,vs,g1,g2,g3,g4⟩=>⟨c,vs,g1,s7 _ _ g2,bC g3 (fun c ys e=>s7 _ _ e),g4⟩
 refine⟨(show 0<=sizeLine by decide),fun c hc =>?_⟩
 obtain⟨cl,vl,g1,g2,g3,g4⟩:=Yg h7 (a,b) hc dq7
 have s8:=s7.trans (bo hc (.lst []))
 have GY:=bo hc (.lst []) _ _ hp7
 generalize upd H7 c (.lst [])=H8 at g2 g3 s8 GY ⊢
 have h8:=h6.same s8
 have b8:=b6.same s8
 refine⟨p,ka,cg (a,b),O,d0.same s8,kW GY,?_⟩
 rw[g1]
 refine⟨cl,O,⟨_,a9.of g2⟩,?_⟩
 refine gR (xs:=vl) (SlI P w CS o dx A us ts aw lp H8 [aa o,aN a,aN b,aN k] (s3,lk) (aw (a,b))) ⟨none,none,O,fun c o _ e=>e,h8⟩ ?_ ?_ ?_
 ·rintro i Y H' _ ⟨x4,x5,rfl,bt,_⟩
  exact a9.of (bt _ _ g4 g2)
 ·rintro i y Y H' hy ⟨x4,x5,rfl,bt,h'⟩
  obtain⟨pq,GX,pa,rfl,qE⟩:=Paired.at g3 hy
  have Ei:=ak GX
  obtain⟨hm,hq⟩:=sH pq Ei
  have cW:=(ai.mp GX).1
  obtain⟨kp,sn⟩:=mid i (by omega)
  have nx:=Hb (ts:=ts) (st:=(s3,lk)) GX
  have e0:=sn i pq GX (ar _)
  have Ui:=bt _ _ (h8.PU qE) qE
  generalize (List.take i (aw (a,b))).foldl (dI ts) (s3,lk)=st at h' kp sn nx e0
  obtain⟨s4,AG⟩:=st
  dsimp only at h' kp sn e0
  obtain⟨alD,x,as,bs,ta,tb,hl⟩:=fx.MJ.at_ pq hm
  have la:=(ai.mp ta).1
  have lb:=(ai.mp tb).1
  have d4:s4.Dn a b k:=by unfold SS.Dn;rw[kp.dn];exact d3
  have agw:iC s4 (nd pq)=iC s3 (nd pq):=by unfold iC sB;rw[kp.dn]
  have e4:AG pq=iC s4 (nd pq)+1:=by rw[e0,agw];exact hk3 pq Ei
  obtain⟨_,agf⟩:=JE (lk:=AG) fx.MJ ia kp.si kp.hd (by rw[kp.dn];exact Oa) (kp.si.Co d4).1 hm hq e4
  refine⟨pa,_,O,bM.of Ui,O,_,_,O,_,_,O,O,?_⟩
  dsimp only
  -- it adJ one less
  refine⟨_,O,o,CS,dx,_,_,O,h'.ins,Z.cS,Z.yM,O,_,O,_,O,(show 2<=sizeLine by decide),fun p1 uc =>?_⟩
  have s9:=bo uc (.tup [nV pq.1,nV pq.2])
  have Ka:=aF (H:=H') (a:=p1) (o := .tup [nV pq.1,nV pq.2])
  generalize upd H' p1 (.tup [nV pq.1,nV pq.2])=H9 at s9 Ka ⊢
  have h9:=h'.same s9
  have bt9:=bt.same s9
  obtain⟨kl,l1⟩:=id h9.me
  have hv:bL kl (cg pq)=some (nV (AG pq)):=by rw[l1.val];unfold sx;rw[if_pos hm];rfl
  refine⟨A.Lk,p1,kl,cg pq,_,O,O,l1.dn,kW Ka,hv,?_⟩
  have ev:V.int ((AG pq:Int) - 1)=nV (fF AG pq pq):=by
   show V.int _=V.int _
   congr 1
   unfold fF
   rw[if_pos rfl]
   omega
  refine⟨_,_,O,O,A.Lk,p1,kl,cg pq,O,O,l1.dn,kW Ka,cU (by have:=l1.dG h.dG;omega),fun φ d =>?_⟩
  have d:DN P w (upd H9 A.Lk (.ext φ)) A.Lk (eW kl (cg pq) (V.int ((AG pq:Int) - 1))):=d
  rw[ev]at d
  have AZ:=h9.Ze (φ := φ) (x:=A.Lk) (.inr rfl) s4.Sg (sx lp (fF AG pq)) (fun z=>absurd z.symm h.sep.e2) (fun _=>⟨⟨_,by
   have:=l1.put ⟨la,lb⟩ d
   refine⟨this.dn,fun q =>?_,this.key⟩
   rw[this.val]
   exact(XR hm q).symm⟩,O⟩)
  have Nr:iS A H8 (upd H9 A.Lk (.ext φ)):=bt9.upd (.inr (.inr rfl))
  generalize upd H9 A.Lk (.ext φ)=zP at AZ Nr ⊢
  dsimp only
  obtain⟨k2,l2⟩:=id AZ.me
  have VP:bL k2 (cg pq)=some (nV (fF AG pq pq)):=by rw[l2.val];unfold sx;rw[if_pos hm];rfl
  refine xH (fun c Hc=>bJ zP Hc∧c=decide (fF AG pq pq=0)) (fun Qc qc =>?_) ?_ ?_
  ·refine⟨_,O,o,CS,dx,_,_,O,AZ.ins,Z.cS,Z.yM,O,_,O,_,O,(show 2<=sizeLine by decide),fun p2 pw =>?_⟩
   obtain⟨Fb,eH,mY,ahe⟩:=alloc pw (.tup [nV pq.1,nV pq.2])
   rw[eH]
   refine⟨A.Lk,p2,k2,cg pq,_,O,O,l2.dn.same mY,kW ahe,VP,O,_,O,?_⟩
   have:=qc _ Fb ⟨mY,O⟩
   rw[show decide (fF AG pq pq=0)=decide (nV (fF AG pq pq)=V.int 0) by
    rw[gF,decide_eq_true_iff,decide_eq_true_iff]
    exact⟨fun z=>by rw[z];rfl,fun z=>by have:=V.int.inj z;omega⟩]at this
   exact this
  ·rintro Hc ⟨mY,ez⟩
   have ez:=of_decide_eq_true ez.symm
   have Et:=AZ.same mY
   refine⟨_,O,o,dx,_,O,Et.ins,O,_,O,_,O,_,O,o,CS,dx,_,_,O,Et.ins,Z.cS,Z.Jw,O,_,O,o,CS,dx,_,_,O,Et.ins,Z.cS,Z.sr,O,_,O,_,O,?_⟩
   refine⟨A.T,A.L,A.Lr,us,ts,s4.L,pq.1,pq.2,x,x,as,bs,O,Et.hT,Et.Mf,ta,tb,hl,(fx.oZ _ _ _ ta).1,Et.hL,Et.lL,Et.rL,fun r hr =>?_,fun SE IU =>?_⟩
   ·have gw:=(iu.mp hr).1
    obtain⟨j,_,ej⟩:=Og kp.si gw (agf ez _ ((fx.MJ.Jv pq hm _).mpr ⟨r,hr,O⟩))
    obtain⟨r1,r2⟩:=kp.si.zH _ _ _ ej
    exact⟨r1,r2,j,ej⟩
   ·have KJ:=Et.same IU
    refine⟨o,dx,A,us,ts,aw,_,_,pq.1,pq.2,_,O,KJ,la,lb,fun z=>absurd z (by omega),fun LC b13 h13=>⟨_,_,O,((Nr.same mY).same IU).trans (iS.of b13),?_⟩⟩
    rw[nx]
    unfold dI
    rw[if_pos ez]
    exact h13
  ·rintro Hc ⟨mY,ez⟩
   have ez:=of_decide_eq_false ez.symm
   refine⟨_,_,O,Nr.same mY,?_⟩
   rw[nx]
   unfold dI
   rw[if_neg ez]
   exact AZ.same mY
 ·rintro Y H' ⟨x4,x5,rfl,bt,h'⟩
  rw[aV g3,bK]at h'
  refine q _ _ H' (b8.trans bt) ⟨h',YB.1,fun x =>?_⟩ (by rw[YB.2,aG];rfl)
  rw[YB.2]
  have kp:=(mid (aw (a,b)).length (ar _)).1
  rw[bK]at kp
  rw[kp.st,kk.st,Wx,aG]
  have l0:=rd.len
  have la:=l0 a
  have lb:=l0 b
  have lx:=l0 x
  show ((pP s a b k fl hd).St x).length<=s.dn.length+1
  unfold pP
  dsimp only
  cases fl with
  | true =>
   rw[if_pos rfl]
   split
   ·rw[aG];exact lX la 1
   ·split
    ·rw[aG];exact lX lb 1
    ·omega
  | false=>rw[if_neg (by decide)];omega
def hdF(Hd:Nat->Option (Nat × Nat)):Option (Key × V)->List Int
 | some (.inl z,_)=>match Hd z.toNat with
  | some (k,b) => [(k:Int),(z.toNat:Int),(b:Int)]
  | none => []
 | _ => []
theorem Wa{H:Hp}{n:Nat}{kvs:List (Key × V)}{f:Nat->Option (Nat × Nat)}(r:oW H n kvs f){i:Nat}{kv:Key × V}(h:kvs[i]? = some kv):∃ a k b p,f a=some (k,b)∧kv=((.inl (a:Int):Key),V.ref p)∧H p=some (.tup [nV k,nV a,nV b]):=by
 have hm:=ak h
 obtain⟨a,ea,_⟩:=r.key kv hm
 have hv:=CG r.nd kv hm
 rw[ea]at hv
 cases e:f a with
 | none=>rw[r.cG a e]at hv;cases hv
 | some kb =>
  obtain⟨k,b⟩:=kb
  obtain⟨p,h1,h2⟩:=r.Gy a k b e
  rw[h1]at hv
  exact⟨a,k,b,p,e,rE ea (aD hv).symm,h2⟩
theorem Ut{f:Nat->Option (Nat × Nat)}{a k b:Nat}{v:V}(h:f a=some (k,b)):hdF f (some ((.inl (a:Int):Key),v)) = [(k:Int),(a:Int),(b:Int)]:=by
 show (match f (a:Int).toNat with | some (k,b) => [(k:Int),((a:Int).toNat:Int),(b:Int)] | none => [])=_
 rw[show (a:Int).toNat=a by omega,h]
inductive R5(P:Program)(w:World)(CS:Addr)(vs:List V)(H:Hp)(Q:VK):Prop
 | mk (o dx:Addr) (A:SA) (us:List V) (ts:List Tm) (es:List bY) (ls:List Nat) (lp:List (Nat × Nat)) (nd:Nat × Nat->List (Nat × Nat)) (aw:Nat × Nat->List (Nat × Nat)) (s:SS) (lk:kB) (z0:vs = [.ref o]) (z1:ND P w CS o dx A us ts es ls lp nd aw H s lk) (z2:Fix ts ls lp nd aw)
  (z5:∀ s' B8 H',iS A H H'->ND P w CS o dx A us ts es ls lp nd aw H' s' B8->(∀ a,s'.Hd a=none)->Q .cG H'):R5 P w CS vs H Q
def P6(P:Program)(w:World)(CS:Addr):Sp:=fun vs H Q _=>R5 P w CS vs H Q
inductive SaI(P:Program)(w:World)(CS o dx:Addr)(A:SA)(us:List V)(ts:List Tm)(es:List bY)(ls:List Nat)(lp:List (Nat × Nat))(nd:Nat × Nat->List (Nat × Nat))(aw:Nat × Nat->List (Nat × Nat))(H:Hp)(m:Nat)(Y:St)(H':Hp):Prop
 | mk (s:SS) (lk:kB) (x1:Option V):(Y = [some (.ref o),x1])->iS A H H'->ND P w CS o dx A us ts es ls lp nd aw H' s lk->m=ts.length * ts.length - s.dn.length->SaI P w CS o dx A us ts es ls lp nd aw H m Y H'
theorem HL(B:lK mg)(Z:rP K mg CS)(Dc:lY P w K mg base 3 CS "settle" ba (IG P w CS))(D:nF K CS "settle_all" "Search.settle_all" u9 ["self"]):lY P w K mg base 4 CS "settle_all" ["self"] (P6 P w CS):=by
 have cS:=Z.cS
 refine D.has zx (fun vs H Q E h =>?_) (fun f cJ A outer s H vs Q E hr h =>?_)
 ·obtain⟨o,dx,A,us,ts,es,ls,lp,nd,aw,s,lk,rfl,_⟩:=h;rfl
 obtain⟨o,dx,A,us,ts,es,ls,lp,nd,aw,s,lk,rfl,rd,fx,q⟩:=h
 refine⟨_,(aI (yG fM (yF (eC (pv 0) O) (fun _=>O))
  (av (bz (i:=1) zx.nd O (aO O) (Tq (BD hr) O O B.FU (eC (pv 0) O)))
  (aI (dt (ux Dc cS hr (by omega) (yI fun _ _ _ z=>z) (pv 0) (ae (aM bF (pv 1) aA) (ae (aM bF (pv 1) aA) (ae (aM bF (pv 1) aA) aq))))))))),?_⟩
 try dsimp only[dR]
 refine⟨SaI P w CS o dx A us ts es ls lp nd aw H,⟨_,s,lk,none,O,fun c o _ e=>e,rd,O⟩,?_⟩
 rintro m Y H1 ⟨s1,lk1,x1,rfl,b1,r1,rfl⟩
 have h1:=r1.at_
 obtain⟨kh,nX,ox⟩:=id h1.hH
 refine⟨_,O,o,CS,dx,_,_,O,h1.ins,Z.cS,Z.pR,O,_,.inr (.inr ⟨kh,nX,O⟩),?_⟩
 cases ek:kh.isEmpty with
 | true =>
  refine iF (q _ _ _ b1 r1 fun a =>?_)
  cases e:s1.Hd a with
  | none=>rfl
  | some kb =>
   obtain⟨k,b⟩:=kb
   obtain⟨p,e1,_⟩:=ox.Gy a k b e
   rw[List.isEmpty_iff.mp ek]at e1
   cases e1
 | false =>
  refine oM ⟨fun bw H'=>∃ m',m' < ts.length * ts.length - s1.dn.length∧SaI P w CS o dx A us ts es ls lp nd aw H m' bw H',fun _ _ z=>z,?_⟩
  have J0:0 < kh.length:=by cases kh with | nil=>cases ek | cons p r=>exact Nat.succ_pos _
  refine⟨_,O,o,CS,dx,_,_,O,h1.ins,Z.cS,Z.pR,O,A.Hd,kh,fun i=>hdF s1.Hd kh[i]?,O,nX,J0,fun i kv cR =>?_,fun i kv cR OS =>?_⟩
  ·obtain⟨a,k,b,p,e1,rfl,e3⟩:=Wa ox cR
   refine⟨p,O,?_⟩
   rw[cR,Ut e1]
   exact e3
  ·obtain⟨a,k,b,p,e1,rfl,e3⟩:=Wa ox cR
   obtain⟨hw,least⟩:=r1.all.least e1 fun c k' d ec=>by
    obtain⟨pc,ec1,ec2⟩:=ox.Gy c k' d ec
    obtain⟨j,hj⟩:=xC ec1
    have:=OS j (ai.mp hj).1
    rw[cR,hj,Ut e1,Ut ec]at this
    refine oP fun z =>?_
    rw[show HT.lexLt [(k':Int),(c:Int),(d:Int)] [(k:Int),(a:Int),(b:Int)]=true by rw[HT.uz,if_neg (by omega)];exact decide_eq_true (by omega)]at this
    cases this
   dsimp only[bq]
   refine⟨_,O,o,dx,_,O,h1.ins,O,_,O,p,_,1,_,O,O,bM.of e3,aY (j:=1) rfl,_,O,p,_,2,_,O,O,bM.of e3,aY (j:=2) rfl,_,O,p,_,0,_,O,O,bM.of e3,aY (j:=0) rfl,?_⟩
   refine⟨o,dx,A,us,ts,es,ls,lp,nd,aw,s1,lk1,a,b,k,O,r1,fx,hw,least,fun s2 lk2 H2 b2 r2 e2=>⟨_,?_,s2,lk2,_,O,b1.trans b2,r2,O⟩⟩
   have:=RD r2.all
   omega
def rm(l:List (Nat × Nat))(q:Nat × Nat):List (Nat × Nat):=if q∈l then l else l ++ [q]
theorem Lj{q:Nat × Nat}:∀ {l acc:List (Nat × Nat)},q∈l.foldl rm acc↔q∈acc∨q∈l
 | [],acc=>⟨.inl,fun z=>z.elim id fun z=>nomatch z⟩
 | r :: l,acc=>by
  rw[qt,Lj,aW]
  have:q∈rm acc r↔q∈acc∨q=r:=by
   unfold rm
   split
   ·rename_i c
    exact⟨.inl,fun z=>z.elim id fun z=>by rw[z];exact c⟩
   ·rw[au,ax]
  rw[this,or_assoc]
theorem ER:∀ {l acc:List (Nat × Nat)},acc.Nodup->(l.foldl rm acc).Nodup
 | [],acc,h=>h
 | r :: l,acc,h=>by
  refine ER (l:=l) ?_
  unfold rm
  split
  ·exact h
  ·rename_i c
   rw[eR]
   exact⟨h,bI.mpr ⟨cM,c6⟩,fun x hx y hy e=>c (by rw[<- ax.mp hy, <- e];exact hx)⟩
theorem Ll:∀ {l acc:List (Nat × Nat)},(l.foldl rm acc).length<=acc.length+l.length
 | [],acc=>ar _
 | r :: l,acc=>by
  have h1:=Ll (l:=l) (acc:=rm acc r)
  have h2:(rm acc r).length<=acc.length+1:=by
   unfold rm
   split
   ·omega
   ·rw[aG];exact ar _
  rw[qt,bO]
  omega
def hX(ts:List Tm)(p:Nat × Nat):List (Nat × Nat):=((cE ts p.1 p.2).map GJ).foldl rm []
theorem FR{ts:List Tm}{p q:Nat × Nat}:q∈hX ts p↔∃ r∈cE ts p.1 p.2,GJ r=q:=by
 unfold hX
 rw[Lj,bj]
 exact⟨fun z=>z.elim nofun id,.inr⟩
theorem GL(ts:List Tm)(p:Nat × Nat):(hX ts p).Nodup:=ER c6
def kT(l:List (Nat × Nat)):List (NK × V):=l.map fun q=>(cg q,.bl true)
theorem Ip(q:Nat × Nat):∀ l:List (Nat × Nat),bL (kT l) (cg q)=if q∈l then some (.bl true) else none
 | []=>rfl
 | r :: l=>by
  show bL ((cg r,V.bl true) :: kT l) (cg q)=_
  by_cases e:r=q
  ·rw[eV (by rw[e]),if_pos (by rw[e];exact bb)]
  ·rw[eI (fun z=>e (yH z)),Ip q l]
   by_cases h:q∈l
   ·rw[if_pos h,if_pos (aR _ h)]
   ·rw[if_neg h,if_neg (fun z=>(aW.mp z).elim (fun z=>e z.symm) h)]
theorem Zy(l:List (Nat × Nat))(q:Nat × Nat):eW (kT l) (cg q) (.bl true)=kT (rm l q):=by
 unfold rm
 by_cases h:q∈l
 ·rw[if_pos h]
  unfold eW
  rw[lM,Ip,if_pos h,if_pos (by rfl)]
  unfold kT
  rw[il]
  refine iN fun x _ =>?_
  show (if cg x=cg q then (cg x,V.bl true) else (cg x,V.bl true))=_
  split <;> rfl
 ·rw[if_neg h,qT _ (by rw[Ip,if_neg h])]
  unfold kT
  rw[dv];rfl
structure Ff(P:Program)(w:World)(H0 H:Hp)(A:SA)(n:Nat)(aw:Nat × Nat->List (Nat × Nat))(kvs:List (NK × V)):Prop where
 dn:DN P w H A.Aw kvs
 key:∀ kv∈kvs,∃ p:Nat × Nat,kv.1=cg p∧p.1 < n∧p.2 < n
 val:∀ q,(aw q = []∧bL kvs (cg q)=none)∨∃ c vs,bL kvs (cg q)=some (.ref c)∧H c=some (.lst vs)∧dZ H vs (aw q)∧H0 c=none
 inj:∀ q q' c,bL kvs (cg q)=some (.ref c)->bL kvs (cg q')=some (.ref c)->q=q'
structure mO(P:Program)(w:World)(H0:Hp)(A:SA)(n:Nat)(aw:Nat × Nat->List (Nat × Nat))(lk:Nat × Nat->Option Nat)(H:Hp):Prop where
 fr:∀ c u,c≠A.Aw->c≠A.Lk->H0 c=some u->H c=some u
 mF:∃ kvs,Ff P w H0 H A n aw kvs
 me:∃ kvs,PD P w H A.Lk n kvs fun p=>(lk p).map nV
section
variable {H0 H H':Hp}{o dx:Addr}{A:SA}{n:Nat}{us:List V}{ts:List Tm}{aw RX:Nat × Nat->List (Nat × Nat)}{s:SS}{lk QH:Nat × Nat->Option Nat}{kvs:List (NK × V)}
theorem Ff.same(h:Ff P w H0 H A n aw kvs)(sm:bJ H H'):Ff P w H0 H' A n aw kvs :=
 ⟨h.dn.same sm,h.key,fun q=>(h.val q).imp id fun ⟨c,vs,h1,h2,h3,h4⟩=>⟨c,vs,h1,sm _ _ h2,bC h3 (fun c ys e=>sm _ _ e),h4⟩,h.inj⟩
theorem mO.same(h:mO P w H0 A n aw lk H)(sm:bJ H H'):mO P w H0 A n aw lk H':=by
 obtain⟨k1,h1⟩:=h.mF
 obtain⟨k2,h2⟩:=h.me
 exact⟨fun c u n1 n2 e=>sm _ _ (h.fr c u n1 n2 e),⟨k1,h1.same sm⟩,k2,h2.dn.same sm,h2.val,h2.key⟩
theorem mO.new(h:mO P w H0 A n aw lk H){x:Addr}(hx:H x=none):H0 x=none∧x≠A.Aw∧x≠A.Lk:=by
 obtain⟨k1,h1⟩:=h.mF
 obtain⟨k2,h2⟩:=h.me
 obtain⟨φ,e1⟩:=h1.dn.ext
 obtain⟨ψ,e2⟩:=h2.dn.ext
 have n1:x≠A.Aw:=fun z=>by rw[z,e1]at hx;cases hx
 have n2:x≠A.Lk:=fun z=>by rw[z,e2]at hx;cases hx
 refine⟨?_,n1,n2⟩
 cases e:H0 x with
 | none=>rfl
 | some u=>rw[h.fr x u n1 n2 e]at hx;cases hx
theorem mO.but(h:mO P w H0 A n aw lk H){x:Addr}{φ : Heap->Prop}(hx:H x=some (.ext φ))(h0:H0 x=none)(n1:x≠A.Aw)(n2:x≠A.Lk)(bt:dD x H H'):mO P w H0 A n aw lk H':=by
 obtain⟨k1,h1⟩:=h.mF
 obtain⟨k2,h2⟩:=h.me
 have nt:∀ c ys,H c=some (.tup ys)->c≠x:=fun c ys e=>aZ e hx nofun
 refine⟨fun c u m1 m2 e=>bt _ _ (fun z=>by rw[z,h0]at e;cases e) (h.fr c u m1 m2 e),⟨k1,?_⟩,k2,h2.but bt (cm n2) nt⟩
 refine⟨h1.dn.keep (fun φ e=>bt _ _ (cm n1) e) (fun c ys e=>bt _ _ (nt c ys e) e),h1.key,fun q=>(h1.val q).imp id fun ⟨c,vs,g1,g2,g3,g4⟩=>⟨c,vs,g1,bt _ _ (aZ g2 hx nofun) g2,bC g3 (fun c ys e=>bt _ _ (nt c ys e) e),g4⟩,h1.inj⟩
theorem mO.se(h0:de P w CS o dx A us ts RX H0 s QH)(h:mO P w H0 A ts.length aw lk H):de P w CS o dx A us ts aw H s lk:=by
 obtain⟨ka,a1⟩:=h.mF
 have xa:∃ φ,H0 A.Aw=some (.ext φ):=by obtain⟨kvs,d,_⟩:=h0.mF;exact d.ext
 have xl:∃ φ,H0 A.Lk=some (.ext φ):=by obtain⟨kvs,d⟩:=h0.me;exact d.dn.ext
 obtain⟨φ,xa⟩:=xa
 obtain⟨ψ,xl⟩:=xl
 have kp:∀ c u,(∀ φ,u ≠ .ext φ)->H0 c=some u->H c=some u:=fun c u n e=>h.fr c u (aZ e xa (n _)) (aZ e xl (n _)) e
 have kt:∀ c ys,H0 c=some (.tup ys)->H c=some (.tup ys):=fun c ys e=>kp c _ (fun _ z=>nomatch z) e
 obtain⟨kh,nX,ox⟩:=h0.hH
 obtain⟨kg,g1⟩:=h0.sg
 refine⟨kp _ _ (fun _ z=>nomatch z) h0.ins,kp _ _ (fun _ z=>nomatch z) h0.hT,mR kt h0.Mf,kp _ _ (fun _ z=>nomatch z) h0.hL,h0.lL,fun a c e=>kp _ _ (fun _ z=>nomatch z) (h0.rL a c e),kp _ _ (fun _ z=>nomatch z) h0.hW,h0.lW,fun a c e =>?_,⟨kh,kp _ _ (fun _ z=>nomatch z) nX,ox.but kt⟩,⟨kg,g1.dn.keep (fun φ e=>h.fr _ _ h0.sep.e1 h0.sep.e2 e) kt,g1.val,g1.key⟩,kp _ _ (fun _ z=>nomatch z) h0.hS,h0.lS,fun a c e =>?_,⟨ka,a1.dn,a1.key,fun q=>(a1.val q).imp id fun ⟨c,vs,z1,z2,z3,z4⟩=>⟨c,vs,z1,z2,z3,fun z =>?_,fun z =>?_⟩⟩,h.me,h0.sep,h0.dG⟩
 ·obtain⟨kvs,e1,e2⟩:=h0.rW a c e
  exact⟨kvs,kp _ _ (fun _ z=>nomatch z) e1,e2⟩
 ·obtain⟨vs,e1,e2⟩:=h0.rS a c e
  exact⟨vs,kp _ _ (fun _ z=>nomatch z) e1,bC e2 kt⟩
 ·obtain⟨i,hi⟩:=aU z
  rw[h0.rL i c hi]at z4;cases z4
 ·obtain⟨i,hi⟩:=aU z
  obtain⟨vs,e1,_⟩:=h0.rS i c hi
  rw[e1]at z4;cases z4
def EL(aw:Nat × Nat->List (Nat × Nat))(q p:Nat × Nat):Nat × Nat->List (Nat × Nat):=fun r=>if r=q then aw q ++ [p] else aw r
theorem mO.app(h:mO P w H0 A n aw lk H)(a1:Ff P w H0 H A n aw kvs){q p:Nat × Nat}{c:Addr}(hc:bL kvs (cg q)=some (.ref c)){b:Addr}(hb:H b=some (.tup [nV p.1,nV p.2])) :
  ∃ vs,H c=some (.lst vs)∧vs.length=(aw q).length∧mO P w H0 A n (EL aw q p) lk (upd H c (.lst (vs ++ [.ref b]))):=by
 rcases a1.val q with⟨_,z⟩ | ⟨c',vs,g1,g2,g3,g4⟩
 ·rw[hc]at z;cases z
 rw[hc]at g1
 cases g1
 refine⟨vs,g2,aV g3,?_⟩
 obtain⟨k2,h2⟩:=h.me
 have bt:dD c H (upd H c (.lst (vs ++ [.ref b]))):=fun b o n e=>by rw[aE n];exact e
 have nt:∀ d ys,H d=some (.tup ys)->d≠c:=fun d ys e=>aZ e g2 nofun
 have kt:∀ d ys,H d=some (.tup ys)->(upd H c (.lst (vs ++ [.ref b]))) d=some (.tup ys):=fun d ys e=>bt _ _ (nt d ys e) e
 obtain⟨φ,e1⟩:=a1.dn.ext
 obtain⟨ψ,e2⟩:=h2.dn.ext
 refine⟨fun d u m1 m2 e=>bt _ _ (fun z=>by rw[z,g4]at e;cases e) (h.fr d u m1 m2 e),⟨kvs,?_⟩,k2,h2.but bt (aZ e2 g2 nofun) nt⟩
 refine⟨a1.dn.keep (fun φ e=>bt _ _ (aZ e1 g2 nofun) e) kt,a1.key,fun r =>?_,a1.inj⟩
 by_cases er:r=q
 ·subst er
  refine .inr ⟨c,_,hc,aF,?_,g4⟩
  unfold EL
  rw[if_pos rfl]
  exact fQ (bC g3 kt) (.cons ⟨b,O,kt _ _ hb⟩ .nil)
 ·have ea:EL aw q p r=aw r:=if_neg er
  rw[ea]
  refine(a1.val r).imp id fun ⟨d,ws,z1,z2,z3,z4⟩=>⟨d,ws,z1,bt _ _ (fun z=>er (a1.inj r q c (by rw[z1,z]) hc)) z2,bC z3 kt,z4⟩
theorem mO.fresh(h:mO P w H0 A n aw lk H)(a1:Ff P w H0 H A n aw kvs){q:Nat × Nat}(hq:q.1 < n∧q.2 < n)(hn:bL kvs (cg q)=none){c:Addr}(hc:H c=some (.lst []))(hc0:H0 c=none)(nu:∀ r,bL kvs (cg r)≠some (.ref c)){φ : Heap->Prop}(d:DN P w (upd H A.Aw (.ext φ)) A.Aw (kvs ++ [(cg q,.ref c)]))(e3:A.Aw≠A.Lk) :
  mO P w H0 A n aw lk (upd H A.Aw (.ext φ))∧Ff P w H0 (upd H A.Aw (.ext φ)) A n aw (kvs ++ [(cg q,.ref c)]):=by
 obtain⟨k2,h2⟩:=h.me
 obtain⟨ψ,e1⟩:=a1.dn.ext
 have bt:dD A.Aw H (upd H A.Aw (.ext φ)):=fun b o n e=>by rw[aE n];exact e
 have nt:∀ d ys,H d=some (.tup ys)->d≠A.Aw:=fun d ys e=>aZ e e1 nofun
 have kt:∀ d ys,H d=some (.tup ys)->(upd H A.Aw (.ext φ)) d=some (.tup ys):=fun d ys e=>bt _ _ (nt d ys e) e
 have put:∀ r,bL (kvs ++ [(cg q,.ref c)]) (cg r)=if r=q then some (.ref c) else bL kvs (cg r):=fun r=>by
  rw[<- qT (.ref c) hn,oJ]
  by_cases e:r=q
  ·rw[if_pos (by rw[e]),if_pos e]
  ·rw[if_neg (fun z=>e (yH z)),if_neg e]
 have k:Ff P w H0 (upd H A.Aw (.ext φ)) A n aw (kvs ++ [(cg q,.ref c)]):=by
  refine⟨d,fun kv cR =>?_,fun r =>?_,fun r r' c' z1 z2 =>?_⟩
  ·rcases au.mp cR with z | z
   ·exact a1.key kv z
   ·rw[ax.mp z];exact⟨q,O,hq⟩
  ·rw[put]
   by_cases er:r=q
   ·rw[if_pos er]
    rcases a1.val r with⟨z,_⟩ | ⟨d,vs,z,_⟩
    ·exact .inr ⟨c, [],O,bt _ _ (aZ hc e1 nofun) hc,by rw[z];exact .nil,hc0⟩
    ·rw[er,hn]at z;cases z
   ·rw[if_neg er]
    refine(a1.val r).imp id fun ⟨d,ws,z1,z2,z3,z4⟩=>⟨d,ws,z1,bt _ _ (aZ z2 e1 nofun) z2,bC z3 kt,z4⟩
  ·rw[put]at z1 z2
   by_cases er:r=q
   ·rw[if_pos er]at z1
    cases z1
    by_cases Rx:r'=q
    ·rw[er,Rx]
    ·rw[if_neg Rx]at z2;exact absurd z2 (nu r')
   ·rw[if_neg er]at z1
    by_cases Rx:r'=q
    ·rw[if_pos Rx]at z2
     cases z2
     exact absurd z1 (nu r)
    ·rw[if_neg Rx]at z2
     exact a1.inj r r' c' z1 z2
 exact⟨⟨fun c u m1 m2 e=>bt _ _ m1 (h.fr c u m1 m2 e),⟨_,k⟩,k2,h2.but bt (cm e3) nt⟩,k⟩
end
end
section
variable {P:Program}{w:World}{K:ao}{mg:Str->Option Value}{base:Heap}{CB CF CH CS CN CE CM tB:Addr}
theorem mO.adF{H0 H:Hp}{A:SA}{n:Nat}{aw:Nat × Nat->List (Nat × Nat)}{lk:Nat × Nat->Option Nat}{kl:List (NK × V)}(h:mO P w H0 A n aw lk H)(h2:PD P w H A.Lk n kl fun p=>(lk p).map nV){q:Nat × Nat}{m:Nat}(hq:q.1 < n∧q.2 < n)(e3:A.Aw≠A.Lk){φ : Heap->Prop}(d:DN P w (upd H A.Lk (.ext φ)) A.Lk (eW kl (cg q) (nV m))):mO P w H0 A n aw (fun p=>if p=q then some m else lk p) (upd H A.Lk (.ext φ)):=by
 obtain⟨ψ,e2⟩:=h2.dn.ext
 obtain⟨k1,a1⟩:=h.mF
 have bt:dD A.Lk H (upd H A.Lk (.ext φ)):=fun b o n e=>by rw[aE n];exact e
 have nt:∀ d ys,H d=some (.tup ys)->d≠A.Lk:=fun d ys e=>aZ e e2 nofun
 have kt:∀ d ys,H d=some (.tup ys)->(upd H A.Lk (.ext φ)) d=some (.tup ys):=fun d ys e=>bt _ _ (nt d ys e) e
 refine⟨fun c u m1 m2 e=>bt _ _ m2 (h.fr c u m1 m2 e),⟨k1,a1.dn.keep (fun φ e=>bt _ _ e3 e) kt,a1.key,fun r=>(a1.val r).imp id fun ⟨c,ws,z1,z2,z3,z4⟩=>⟨c,ws,z1,bt _ _ (aZ z2 e2 nofun) z2,bC z3 kt,z4⟩,a1.inj⟩,eW kl (cg q) (nV m),?_⟩
 have:=h2.put hq d
 refine⟨this.dn,fun p =>?_,this.key⟩
 rw[this.val]
 show _=EZ nV (if p=q then some m else lk p)
 split <;> rfl
def qd(aw:Nat × Nat->List (Nat × Nat))(l:List (Nat × Nat))(p:Nat × Nat):Nat × Nat->List (Nat × Nat):=fun q=>if q∈l then aw q ++ [p] else aw q
theorem Ye{aw:Nat × Nat->List (Nat × Nat)}{l:List (Nat × Nat)}{p q:Nat × Nat}{i:Nat}(hn:l.Nodup)(h:l[i]? = some q):EL (qd aw (l.take i) p) q p=qd aw (l.take (i+1)) p:=by
 have nq:q ∉ l.take i:=fun z=>by
  obtain⟨j,hj⟩:=aU z
  rw[nC]at hj
  split at hj
  ·rename_i c
   have:=(kL (ai.mp hj).1 hn).mp (hj.trans h.symm)
   omega
  ·cases hj
 funext r
 unfold EL qd
 rw[fO h]
 by_cases er:r=q
 ·subst er
  rw[if_pos rfl,if_neg nq,if_pos (au.mpr (.inr (bg _)))]
 ·rw[if_neg er]
  by_cases hr:r∈l.take i
  ·rw[if_pos hr,if_pos (au.mpr (.inl hr))]
  ·rw[if_neg hr,if_neg (fun z=>(au.mp z).elim hr fun z=>er (ax.mp z))]
inductive NB(P:Program)(w:World)(CS:Addr)(vs:List V)(H:Hp)(Q:VK):Prop
 | mk (o dx:Addr) (A:SA) (us:List V) (ts:List Tm) (RX aw:Nat × Nat->List (Nat × Nat)) (s:SS) (QH lk:Nat × Nat->Option Nat) (H0:Hp) (a b:Nat) (x y:Str) (as bs:List Nat) (z0:vs = [.ref o,nV a,nV b]) (z1:de P w CS o dx A us ts RX H0 s QH) (z2:mO P w H0 A ts.length aw lk H)
  (z3:ts[a]? = some (.of x as)) (z4:ts[b]? = some (.of y bs)) (z5:as.length=bs.length) (z6:as.length<=1000) (z7:∀ r∈cE ts a b,r.1 < ts.length∧r.2 < ts.length) (z8:∀ q,(aw q).length<=900)
  (z9:∀ H',mO P w H0 A ts.length (qd aw (hX ts (a,b)) (a,b)) (fun p=>if p=(a,b) then some (hX ts (a,b)).length else lk p) H'->Q .cG H'):NB P w CS vs H Q
def Mn(P:Program)(w:World)(CS:Addr):Sp:=fun vs H Q _=>NB P w CS vs H Q
inductive AaI(P:Program)(w:World)(N:Addr)(H:Hp)(G:St)(l:List (Nat × Nat))(i:Nat)(Y:St)(H':Hp):Prop
 | mk (x4 x5:Option V):(Y = G ++ [x4,x5,none])->dD N H H'->DN P w H' N (kT ((l.take i).foldl rm []))->AaI P w N H G l i Y H'
inductive AbI(P:Program)(w:World)(N:Addr)(ob:Obj)(H0:Hp)(A:SA)(n:Nat)(aw:Nat × Nat->List (Nat × Nat))(lk:Nat × Nat->Option Nat)(G:St)(l:List (Nat × Nat))(p:Nat × Nat)(i:Nat)(Y:St)(H':Hp):Prop
 | mk (x6:Option V):(Y = G ++ [x6])->mO P w H0 A n (qd aw (l.take i) p) lk H'->qL P w H' N ob (kT l)->AbI P w N ob H0 A n aw lk G l p i Y H'
theorem HP(B:lK mg)(Z:rP K mg CS)(gK:dQ P w K mg base 1 "unlike_arms" wa4 Ia)(D:nF K CS "await_arms" "Search.await_arms" vf wb5):lY P w K mg base 2 CS "await_arms" wb5 (Mn P w CS):=by
 have cS:=Z.cS
 refine D.has l3 (fun vs H Q E h =>?_) (fun f cJ A outer s H vs Q E hr h =>?_)
 ·obtain⟨o,dx,A,us,ts,RX,aw,s,QH,lk,H0,a,b,x,y,as,bs,rfl,_⟩:=h;rfl
 obtain⟨o,dx,A,us,ts,RX,aw,s,QH,lk,H0,a,b,x,y,as,bs,rfl,h0,hx,ta,tb,hl,Ii,sH,Uq,q⟩:=h
 refine⟨_,(av (bz (i:=3) l3.nd O (aO O) m6)
  (av (fA fM O (fU (bp gK hr (by omega) O (ae (eC (pv 0) O) (ae (pv 1) (ae (pv 2) aq))))) (m5 O (et (bX (i:=4) l3.nd O (aO O)) (et (bX (i:=5) l3.nd O (aO O)) kX)))
  (aI (xI (n5 hr) (pv 3) (cK (ae (cL (wI O) O B.FU sQ (ae (pv 4) (ae (pv 5) aq))) (ae (cL (wJ O) O B.Ox wL (ae (pv 4) (ae (pv 5) aq))) aq))) js O)))
  (av (xI (n5 hr) (eC (pv 0) O) (cK (ae (pv 1) (ae (pv 2) aq))) (cL RQ O B.m7 cQ (ae (pv 3) aq)) O)
  (aI (fA fM O (Ti (pv 3)) (bX (i:=6) l3.nd O (aO O))
  (aI (dt (kG bE bV bU fJ (FG (n5 hr) (eC (pv 0) O) (pv 6) (j8 aq) ⟨O,O,O,O⟩) (ae (cK (ae (pv 1) (ae (pv 2) aq))) aq))))))))),?_⟩
 try dsimp only[dR]
 have la:=(ai.mp ta).1
 have lb:=(ai.mp tb).1
 intro N φ hN dN
 dsimp only[bq]
 obtain⟨Ck,VF,nLk⟩:=hx.new hN
 have AM:=hx.same (bo hN (.ext φ))
 generalize upd H N (.ext φ)=H1 at dN AM ⊢
 have Zh:=AM.se h0
 refine⟨_,O,o,CS,dx,_,_,O,Zh.ins,Z.cS,Z.Jw,O,_,O,_,O,A.T,us,ts,a,b,x,y,as,bs,O,Zh.hT,Zh.Mf,ta,tb,hl,Ii,fun D1 r8 H2 s2 Wt kF uc =>?_⟩
 have MP:=AM.same s2
 have dN2:=dN.same s2
 obtain⟨UZ,eN2⟩:=dN2.ext
 have VE:D1≠N:=aZ kF eN2 nofun
 have alu:(cE ts a b).length<=1000:=by
  have eu:cE ts a b=gj as bs:=by unfold cE;rw[ta,tb];rfl
  rw[eu]
  unfold gj
  refine bf (jc ..) ?_
  rw[wV]
  omega
 refine⟨D1,O,⟨_,a9.of kF⟩,?_⟩
 refine gR (xs:=r8) (AaI P w N H2 [aa o,aN a,aN b,aa N] ((cE ts a b).map GJ)) ⟨none,none,O,fun c u n e=>e,dN2⟩ ?_ ?_ ?_
 ·rintro i Y H' _ ⟨x4,x5,rfl,bt,_⟩
  exact a9.of (bt _ _ VE kF)
 ·rintro i v Y H' hv ⟨x4,x5,rfl,bt,dn⟩
  obtain⟨⟨u,t⟩,wz,p,rfl,hp⟩:=Paired.at uc hv
  have ud:=bt _ _ (aZ hp eN2 nofun) hp
  have hnr:((cE ts a b).map GJ)[i]? = some (min u t,max u t):=by rw[aK,wz];rfl
  have hi:=(ai.mp wz).1
  refine⟨p,_,O,bM.of ud,O,_,_,O,_,_,O,O,?_⟩
  dsimp only
  refine⟨_,O,_,O,_,O,_,_,O,_,O,_,O,_,_,O,(show 2<=sizeLine by decide),fun p3 ua =>?_⟩
  rw[Jx,Jy]at *
  have s3:=bo ua (.tup [nV (min u t),nV (max u t)])
  have aa2:=aF (H:=H') (a:=p3) (o := .tup [nV (min u t),nV (max u t)])
  generalize upd H' p3 (.tup [nV (min u t),nV (max u t)])=H3 at s3 aa2 ⊢
  have dG:=Ll (l:=((cE ts a b).map GJ).take i) (acc := [])
  refine⟨N,p3,_,cg (min u t,max u t),O,O,dn.same s3,kW aa2,cU (by
   unfold kT
   rw[az]
   rw[bW,az,mK]at dG
   omega),fun φ d=>⟨_,_,O,fun c u n e=>by rw[aE n];exact s3 _ _ (bt c u n e),?_⟩⟩
  rw[Zy]at d
  rw[fO hnr,og]
  exact d
 ·rintro Y H3 ⟨x4,x5,rfl,bt,dn⟩
  have lv:r8.length=((cE ts a b).map GJ).length:=by rw[az];exact aV uc
  rw[lv,bK]at dn
  have dn:DN P w H3 N (kT (hX ts (a,b))):=dn
  have hx3:=MP.but eN2 Ck VF nLk bt
  dsimp only[List.append,vR,qo]
  have se3:=hx3.se h0
  -- how fB it adJ
  refine⟨_,O,N,_,O,dn,_,O,o,CS,dx,_,_,O,se3.ins,Z.cS,Z.yM,O,_,O,_,O,(show 2<=sizeLine by decide),fun p4 GZ =>?_⟩
  have s4:=bo GZ (.tup [nV a,nV b])
  have aa1:=aF (H:=H3) (a:=p4) (o := .tup [nV a,nV b])
  generalize upd H3 p4 (.tup [nV a,nV b])=H4 at s4 aa1 ⊢
  have hx4:=hx3.same s4
  obtain⟨kl,l4⟩:=id hx4.me
  refine⟨A.Lk,p4,kl,cg (a,b),O,O,l4.dn,kW aa1,cU (by have:=l4.dG h0.dG;omega),fun φ5 d5 =>?_⟩
  rw[show V.int ((kT (hX ts (a,b))).length:Int)=nV (hX ts (a,b)).length by unfold kT;rw[az]]at d5
  have hx5:=hx4.adF l4 ⟨la,lb⟩ h0.sep.e3 d5
  have RE:DN P w (upd H4 A.Lk (.ext φ5)) N (kT (hX ts (a,b))):=(dn.same s4).keep (fun φ e=>by rw[aE nLk];exact e) (fun c ys e=>by rw[aE (by obtain⟨ψ,e2⟩:=l4.dn.ext;exact aZ e e2 nofun)];exact e)
  generalize upd H4 A.Lk (.ext φ5)=H5 at hx5 RE ⊢
  -- and it N2
  refine⟨_,O,N,_,O,RE,fun ob Ez =>?_⟩
  have ag3:(kT (hX ts (a,b))).length=(hX ts (a,b)).length:=by unfold kT;rw[az]
  refine Rt (AbI P w N ob H0 A ts.length aw (fun p=>if p=(a,b) then some (hX ts (a,b)).length else lk p) [aa o,aN a,aN b,aa N,x4,x5] (hX ts (a,b)) (a,b)) ⟨none,O,?_,Ez⟩ ?_ ?_ ?_
  ·have:qd aw ((hX ts (a,b)).take 0) (a,b)=aw:=funext fun r=>if_neg (by rw[lB];exact cM)
   rw[this];exact hx5
  ·rintro i Y H' _ ⟨x6,rfl,_,d⟩
   exact d
  ·rintro i kv bk Y H' cR nk ⟨x6,rfl,wu,ahM⟩
   have hq:∃ e,(hX ts (a,b))[i]? = some e∧kv=(cg e,.bl true):=by
    unfold kT at cR
    rw[aK]at cR
    obtain⟨e,h1,h2⟩:=cP.mp cR
    exact⟨e,h1,h2.symm⟩
   obtain⟨e,he,rfl⟩:=hq
   have nx:=Ye (aw:=aw) (p:=(a,b)) (GL ts (a,b)) he
   have hem:=ak he
   obtain⟨r,hr,er⟩:=FR.mp hem
   obtain⟨r1,r2⟩:=sH r hr
   have aho:e.1 < ts.length∧e.2 < ts.length:=by
    rw[<- er]
    exact⟨(show min r.1 r.2 < _ by omega),(show max r.1 r.2 < _ by omega)⟩
   have se':=wu.se h0
   obtain⟨ka,a1⟩:=id wu.mF
   dsimp only[bq]
   refine⟨_,O,o,CS,dx,_,_,O,se'.ins,Z.cS,Z.C1,O,A.Aw,O,⟨_,a1.dn⟩,_,O,(show 0<=sizeLine by decide),fun c hc =>?_⟩
   have s6:=bo hc (.lst [])
   have hc6:=aF (H:=H') (a:=c) (o := .lst [])
   obtain⟨hc0,ncA,_⟩:=wu.new hc
   have agQ:∀ r,bL ka (cg r)≠some (.ref c):=fun r z=>by
    rcases a1.val r with⟨_,z'⟩ | ⟨c',vs,z1,z2,_⟩
    ·rw[z]at z';cases z'
    ·rw[z]at z1;cases z1;rw[hc]at z2;cases z2
   generalize upd H' c (.lst [])=H6 at s6 hc6 ⊢
   have hx6:=wu.same s6
   have a6:=a1.same s6
   have nk6:fD H6 (cg e) bk:=nk.keep fun d ys z=>s6 _ _ z
   have d6:=ahM.same s6
   -- oY end,ahY oY list is old or new
   have fin:∀ H7 (kv7:List (NK × V)) (cl:Addr),mO P w H0 A ts.length (qd aw ((hX ts (a,b)).take i) (a,b)) (fun p=>if p=(a,b) then some (hX ts (a,b)).length else lk p) H7->Ff P w H0 H7 A ts.length (qd aw ((hX ts (a,b)).take i) (a,b)) kv7->qL P w H7 N ob (kT (hX ts (a,b)))->bL kv7 (cg e)=some (.ref cl) ->
     (∃ vs,H7 cl=some (.lst vs))∧∀ p8,H7 p8=none->∃ vs,(upd H7 p8 (.tup [nV a,nV b])) cl=some (.lst vs)∧vs.length < sizeLine∧AbI P w N ob H0 A ts.length aw (fun p=>if p=(a,b) then some (hX ts (a,b)).length else lk p) [aa o,aN a,aN b,aa N,x4,x5] (hX ts (a,b)) (a,b) (i+1) [aa o,aN a,aN b,aa N,x4,x5,some (.ref bk)] (upd (upd H7 p8 (.tup [nV a,nV b])) cl (.lst (vs ++ [.ref p8]))):=by
    intro H7 kv7 cl x7 a7 d7 Ee
    refine⟨?_,fun p8 GY =>?_⟩
    ·rcases a7.val e with⟨_,z⟩ | ⟨c',vs,z1,z2,_⟩
     ·rw[Ee]at z;cases z
     ·rw[Ee]at z1;cases z1;exact⟨vs,z2⟩
    have s8:=bo GY (.tup [nV a,nV b])
    have aa0:=aF (H:=H7) (a:=p8) (o := .tup [nV a,nV b])
    generalize upd H7 p8 (.tup [nV a,nV b])=H8 at s8 aa0 ⊢
    obtain⟨vs,g1,g2,g3⟩:=(x7.same s8).app (p:=(a,b)) (a7.same s8) Ee aa0
    refine⟨vs,g1,cU ?_,_,O,?_,?_⟩
    ·rw[g2]
     have:=Uq e
     unfold qd
     split
     ·rw[aG]
      show (aw e).length+1<=1000
      omega
     ·omega
    ·rw[<- nx];exact g3
    ·obtain⟨_,_,_,eN,_⟩:=id (d7.same s8)
     exact(d7.same s8).keep (fun z=>by rw[aE (aZ eN g1 nofun)];exact z) (fun c ys z=>by rw[aE (aZ z g1 nofun)];exact z)
   have alh:ka.length<=900:=bf (GI (K3 a6.dn) a6.key) (rF h0.dG h0.dG)
   refine⟨ka,cg e,bk,a6.dn,O,nk6,cU (by omega),fun v hv =>?_,fun hn φ d =>?_⟩
   ·obtain⟨cl,rfl⟩:∃ cl,v = .ref cl:=by
     rcases a6.val e with⟨_,z⟩ | ⟨c',vs,z1,_⟩
     ·rw[hv]at z;cases z
     ·rw[hv]at z1;cases z1;exact⟨_,O⟩
    obtain⟨⟨v0,f0⟩,f1⟩:=fin H6 ka cl hx6 a6 d6 hv
    refine⟨.inl ⟨O,_,a9.of f0⟩,_,O,_,O,(show 2<=sizeLine by decide),fun p8 GY =>?_⟩
    obtain⟨vs,f2,f3,f4⟩:=f1 p8 GY
    exact⟨cl,_,_,O,O,f2,f3,f4⟩
   ·obtain⟨x7,a7⟩:=hx6.fresh a6 aho hn hc6 hc0 agQ d h0.sep.e3
    have Ee:bL (ka ++ [(cg e,V.ref c)]) (cg e)=some (.ref c):=by rw[<- qT (.ref c) hn,oJ,if_pos rfl]
    have d7:qL P w (upd H6 A.Aw (.ext φ)) N ob (kT (hX ts (a,b))):=d6.keep (fun z=>by rw[aE VF];exact z) (fun c ys z=>by rw[aE (by obtain⟨ψ,e2⟩:=a6.dn.ext;exact aZ z e2 nofun)];exact z)
    obtain⟨⟨v0,f0⟩,f1⟩:=fin _ _ c x7 a7 d7 Ee
    refine⟨.inl ⟨O,_,a9.of f0⟩,_,O,_,O,(show 2<=sizeLine by decide),fun p8 GY =>?_⟩
    obtain⟨vs,f2,f3,f4⟩:=f1 p8 GY
    exact⟨c,_,_,O,O,f2,f3,f4⟩
  ·rintro Y H' ⟨x6,rfl,wu,_⟩
   rw[ag3,bK]at wu
   exact q H' wu
theorem IY(v:V):∀ n:Nat,(bR n [v]).flatten=bR n v
 | 0=>rfl
 | n+1=>by rw[gG,kM,IY v n,gG];rfl
def wH(i:Nat):Mx:=fun a b=>if a=b∧a < i then some 0 else none
theorem Ta(n a:Nat):ie (wH 0) n a=bR n V.cG:=by
 unfold ie
 have:(fun b=>B6 (wH 0 a b))=fun _=>V.cG:=funext fun b=>by
  unfold wH
  rw[if_neg (fun z=>jb _ z.2)];rfl
 rw[this,List.map_const',cN]
theorem RH(i:Nat):wH (i+1)=dF (wH i) i i 0:=by
 funext a b
 unfold dF wH
 by_cases e:a=i∧b=i
 ·rw[if_pos e,if_pos ⟨e.1.trans e.2.symm,by omega⟩]
 ·rw[if_neg e]
  by_cases c:a=b∧a < i
  ·rw[if_pos c,if_pos ⟨c.1,by omega⟩]
  ·rw[if_neg c,if_neg (fun z=>c ⟨z.1,by omega⟩)]
inductive Ny(P:Program)(w:World)(CS:Addr)(vs:List V)(H:Hp)(Q:VK):Prop
 | mk (o dx T:Addr) (us:List V) (ts:List Tm) (z0:vs = [.ref o,.ref T]) (z1:H o=some (.ins CS dx [])) (z2:H T=some (.lst us)) (z3:lH H us ts) (z4:ts.length<=30)
  (z5:∀ A H',A.T=T->dD o H H'->de P w CS o dx A us ts (fun _ => []) H' (mV ts.length) (fun _=>none)->(∀ c u,H c=some u->¬ uH A c∧c≠A.Aw)->DN P w H' A.Aw []->Q .cG H'):Ny P w CS vs H Q
def Ml(P:Program)(w:World)(CS:Addr):Sp:=fun vs H Q _=>Ny P w CS vs H Q
inductive SiI(Lr:List Addr)(n:Nat)(H:Hp)(G:St)(i:Nat)(Y:St)(H':Hp):Prop
 | mk (x2:Option V):(Y = G ++ [x2])->(∀ c u,c ∉ Lr->H c=some u->H' c=some u)->(∀ (a:Nat) (c:Addr),Lr[a]? = some c->H' c=some (.lst (ie (wH i) n a)))->SiI Lr n H G i Y H'
theorem TF(B:lK mg)(Z:rP K mg CS)(D:Pn K mg "Search" CS "Search.__init__" ml wb7):Pj P w K mg base 1 "Search" CS wb7 (Ml P w CS):=by
 refine D.has IP (fun vs H Q E h =>?_) (fun f cJ A outer s H vs Q E hr h =>?_)
 ·obtain⟨o,dx,T,us,ts,rfl,_⟩:=h;rfl
 obtain⟨o,dx,T,us,ts,rfl,ho,hT,i7,dG,q⟩:=h
 refine⟨_,(av (sq (pv 0) (pv 1) O)
  (av (sq (pv 0) (xJ (te:=(uX _ _ (YV (fun xs H Q=>Ph K xs H Q) (uw _ yt)))) (own := ["term"]) (caps := [("terms",1)]) (iW (aX ml) wb6 O O O (by decide +kernel)) (fU (pv 1)) O (fun _ _ _=>bX (i:=0) (show (["term", "terms"]:List Str).Nodup by decide +kernel) O (aO O)) (fun _ _ _=>(eB ZP (j8 (ae vg aq)) (cL dU O B.m7 cQ (ae (pv 1) aq))))) O)
  (av (fA fM O (Ay O B.As (ae (cL dU O B.m7 cQ (ae (pv 1) aq)) aq)) (bX (i:=2) IP.nd O (aO O))
  (aI (DS aA (DT (aM bG (eC (pv 0) O) (pv 2)) (pv 2) yx))))
  (av (sq (pv 0) (xJ (te:=_) (own := ["term"]) (caps := []) (iW (aX ml) wb6 O O O (by decide +kernel)) (fU (pv 1)) O (fun _ _ _=>bX (i:=0) (show (["term"]:List Str).Nodup by decide +kernel) O (aO O)) (fun _ _ _=>Jj)) O)
  (av (sq (pv 0) Jj O)
  (av (sq (pv 0) m6 O)
  (av (sq (pv 0) (xJ (te:=_) (own := ["term"]) (caps := []) (iW (aX ml) wb6 O O O (by decide +kernel)) (fU (pv 1)) O (fun _ _ _=>bX (i:=0) (show (["term"]:List Str).Nodup by decide +kernel) O (aO O)) (fun _ _ _=>(j8 aq))) O)
  (av (sq (pv 0) m6 O)
  (aI (sq (pv 0) m6 O)))))))))),?_⟩
 try dsimp only[dR]
 have eD:us.length=ts.length:=aV i7
 have GN:T≠o:=aZ hT ho nofun
 have kT':∀ c ys,H c=some (.tup ys)->c≠o:=fun c ys e=>aZ e ho nofun
 -- oY ale
 refine⟨_,O,_,O,o,CS,dx,_,O,ho,Z.cS,Z.Jw,by decide,?_⟩
 have b1:dD o H (upd H o (.ins CS dx (fc "terms" (.ref T) []))):=(dD.refl o H).put
 have Kd:(upd H o (.ins CS dx (fc "terms" (.ref T) []))) o=some (.ins CS dx [("terms",.ref T)]):=aF
 have Ep:=b1 _ _ GN hT
 generalize upd H o (.ins CS dx (fc "terms" (.ref T) []))=H1 at b1 Kd Ep ⊢
 -- oY least ah2
 refine⟨_,O,T,O,⟨_,a9.of Ep⟩,?_⟩
 refine zc (K:=K) (xs:=us) (.lst (bR ts.length .cG)) (a9.of Ep) (by omega) (fun x hx H' sm Q' q' =>?_) (fun L H2 Lr KD s2 Es lLr nLr M6 =>?_)
 ·refine⟨(show 1<=sizeLine by decide),fun l hl =>?_⟩
  have s3:=bo hl (.lst [V.cG])
  refine⟨_,O,T,us,O,.inl (a9.of (s3 _ _ (sm _ _ Ep))),l,_,_,O,O,aF,by omega,by omega,?_,fun p hp =>?_⟩
  ·rw[show ((us.length:Int)).toNat=us.length by omega]
   exact jM (cU (show 1 * us.length<=1000 by omega))
  ·rw[IY,show ((us.length:Int)).toNat=ts.length by omega]
   exact q' p _ (s3.free hp) (s3.trans (bo hp _)) aF
 have b2:=b1.same s2
 have MV:=s2 _ _ Kd
 have Rg:=s2 _ _ Ep
 refine⟨_,O,o,CS,dx,_,O,MV,Z.cS,Z.sr,(show 1 < 1000 by decide),?_⟩
 have bt:dD o H2 (upd H2 o (.ins CS dx (fc "least" (.ref L) [("terms",.ref T)]))):=(dD.refl o H2).put
 have ho3:(upd H2 o (.ins CS dx (fc "least" (.ref L) [("terms",.ref T)]))) o=some (.ins CS dx [("terms",.ref T),("least",.ref L)]):=aF
 generalize upd H2 o (.ins CS dx (fc "least" (.ref L) [("terms",.ref T)]))=H3 at bt ho3 ⊢
 have b3:=b2.trans bt
 have Ky:=bt _ _ GN Rg
 have Er:=bt _ _ (aZ Es MV nofun) Es
 have ahH:∀ (a:Nat) (c:Addr),Lr[a]? = some c->H3 c=some (.lst (ie (wH 0) ts.length a)):=fun a c e=>by
  rw[Ta]
  have:=(M6 c (ak e)).2.1
  exact bt _ _ (aZ this MV nofun) this
 clear bt
 have Z3:o ∉ Lr:=fun z=>by have:=(M6 o z).1;rw[Kd]at this;cases this
 have Z7:T ∉ Lr:=fun z=>by have:=(M6 T z).1;rw[Ep]at this;cases this
 have TY:L ∉ Lr:=fun z=>(M6 L z).2.2 rfl
 refine⟨_,O,T,_,O,.inl (a9.of Ky),_,O,by omega,by omega,?_⟩
 refine G9 (lo:=0) (SiI Lr ts.length H3 [aa o,aa T]) ⟨none,O,fun c u _ e=>e,ahH⟩ ?_ ?_
 ·rintro i Y H' hi ⟨x2,rfl,fr,rows⟩
  dsimp only[bq]
  rw[vW]
  have hi:i < ts.length:=by omega
  obtain⟨ca,i0⟩:∃ c,Lr[i]? = some c:=⟨_,aj (by omega)⟩
  refine⟨_,O,o,CS,dx,_,_,O,fr _ _ Z3 ho3,Z.cS,Z.sr,O,_,O,L,_,_,_,O,O,a9.of (fr _ _ TY Er),gf i0,_,O,ca,_,_,i,O,O,rows i ca i0,by rw[FD];exact JM hi,⟨_,O,fun c u n e =>?_,fun a c hc =>?_⟩⟩
  ·rw[aE (fun z=>n (by rw[z];exact ak i0))];exact fr c u n e
  ·rw[RH]
   by_cases e:a=i
   ·subst e
    rw[i0]at hc
    cases hc
    rw[aF, <- FC hi];rfl
   ·rw[aE (EN nLr hc i0 e),rows a c hc]
    unfold ie
    congr 2
    exact iN fun b _=>by rw[i5 (fun z=>e z.1)]
 rintro Y H4 ⟨x2,rfl,fr,rows⟩
 rw[show ((us.length:Int)).toNat=ts.length by omega]at rows
 have Kb:=fr _ _ Z3 ho3
 have Eo:=fr _ _ Z7 Ky
 have KC:=fr _ _ TY Er
 have b4:dD o H H4:=fun c u n e=>fr c u (fun z=>by
  have:=(M6 c z).1
  rw[b1 c u n e]at this;cases this) (b3 c u n e)
 dsimp only[vR,qo]
 -- SN N2
 refine⟨_,O,T,O,⟨_,a9.of Eo⟩,?_⟩
 refine zc (K:=K) (xs:=us) (.dK []) (a9.of Eo) (by omega) (fun x hx H' sm Q' q'=>fun p hp=>q' p _ hp (bo hp _) aF) (fun W H5 Wr hW0 s5 Ci lWr nWr hWr =>?_)
 have G1:=s5 _ _ Kb
 have Wh:=s5 _ _ Eo
 have b5:=b4.same s5
 refine⟨_,O,o,CS,dx,_,O,G1,Z.cS,Z.yL,(show 2 < 1000 by decide),?_⟩
 have t5:dD o H5 (upd H5 o (.ins CS dx (fc "waiting" (.ref W) [("terms",.ref T),("least",.ref L)]))):=(dD.refl o H5).put
 have ho6:(upd H5 o (.ins CS dx (fc "waiting" (.ref W) [("terms",.ref T),("least",.ref L)]))) o=some (.ins CS dx [("terms",.ref T),("least",.ref L),("waiting",.ref W)]):=aF
 generalize upd H5 o (.ins CS dx (fc "waiting" (.ref W) [("terms",.ref T),("least",.ref L)]))=H6 at t5 ho6 ⊢
 have Kx:=t5 _ _ GN Wh
 have b6:=b5.trans t5
 intro Hd hHd
 obtain⟨H7,eH,s7,hd7⟩:=alloc hHd (.dK [])
 rw[eH]
 have VW:=s7 _ _ ho6
 have hT7:=s7 _ _ Kx
 have b7:=b6.same s7
 refine⟨_,O,o,CS,dx,_,O,VW,Z.cS,Z.pR,(show 3 < 1000 by decide),?_⟩
 have t7:dD o H7 (upd H7 o (.ins CS dx (fc "heads" (.ref Hd) [("terms",.ref T),("least",.ref L),("waiting",.ref W)]))):=(dD.refl o H7).put
 have ho8:(upd H7 o (.ins CS dx (fc "heads" (.ref Hd) [("terms",.ref T),("least",.ref L),("waiting",.ref W)]))) o=some (.ins CS dx [("terms",.ref T),("least",.ref L),("waiting",.ref W),("heads",.ref Hd)]):=aF
 generalize upd H7 o (.ins CS dx (fc "heads" (.ref Hd) [("terms",.ref T),("least",.ref L),("waiting",.ref W)]))=H8 at t7 ho8 ⊢
 have hT8:=t7 _ _ GN hT7
 have b8:=b7.trans t7
 intro Sg φg hSg RM
 have s9:=bo hSg (.ext φg)
 generalize upd H8 Sg (.ext φg)=H9 at s9 RM ⊢
 have MU:=s9 _ _ ho8
 have hT9:=s9 _ _ hT8
 have b9:=b8.same s9
 refine⟨_,O,o,CS,dx,_,O,MU,Z.cS,Z.FT,(show 4 < 1000 by decide),?_⟩
 have t9:dD o H9 (upd H9 o (.ins CS dx (fc "single" (.ref Sg) [("terms",.ref T),("least",.ref L),("waiting",.ref W),("heads",.ref Hd)]))):=(dD.refl o H9).put
 have Um:(upd H9 o (.ins CS dx (fc "single" (.ref Sg) [("terms",.ref T),("least",.ref L),("waiting",.ref W),("heads",.ref Hd)]))) o=some (.ins CS dx [("terms",.ref T),("least",.ref L),("waiting",.ref W),("heads",.ref Hd),("single",.ref Sg)]):=aF
 generalize upd H9 o (.ins CS dx (fc "single" (.ref Sg) [("terms",.ref T),("least",.ref L),("waiting",.ref W),("heads",.ref Hd)]))=zP at t9 Um ⊢
 have O0:=t9 _ _ GN hT9
 have Nr:=b9.trans t9
 refine⟨_,O,T,O,⟨_,a9.of O0⟩,?_⟩
 refine zc (K:=K) (xs:=us) (.lst []) (a9.of O0) (by omega) (fun x hx H' sm Q' q'=>⟨(show 0<=sizeLine by decide),fun p hp=>q' p _ hp (bo hp _) aF⟩) (fun S Fb Sr hS0 mY abS lSr Z8 zE =>?_)
 have Kc:=mY _ _ Um
 have ahE:=mY _ _ O0
 have b11:=Nr.same mY
 refine⟨_,O,o,CS,dx,_,O,Kc,Z.cS,Z.D0,(show 5 < 1000 by decide),?_⟩
 have Mh:dD o Fb (upd Fb o (.ins CS dx (fc "steps" (.ref S) [("terms",.ref T),("least",.ref L),("waiting",.ref W),("heads",.ref Hd),("single",.ref Sg)]))):=(dD.refl o Fb).put
 have Ul:(upd Fb o (.ins CS dx (fc "steps" (.ref S) [("terms",.ref T),("least",.ref L),("waiting",.ref W),("heads",.ref Hd),("single",.ref Sg)]))) o=some (.ins CS dx [("terms",.ref T),("least",.ref L),("waiting",.ref W),("heads",.ref Hd),("single",.ref Sg),("steps",.ref S)]):=aF
 generalize upd Fb o (.ins CS dx (fc "steps" (.ref S) [("terms",.ref T),("least",.ref L),("waiting",.ref W),("heads",.ref Hd),("single",.ref Sg)]))=SE at Mh Ul ⊢
 have ahD:=Mh _ _ GN ahE
 have b12:=b11.trans Mh
 intro Aw φa hAw WB
 have DP:=bo hAw (.ext φa)
 generalize upd SE Aw (.ext φa)=LC at DP WB ⊢
 have C8:=DP _ _ Ul
 have ahC:=DP _ _ ahD
 have b13:=b12.same DP
 refine⟨_,O,o,CS,dx,_,O,C8,Z.cS,Z.C1,(show 6 < 1000 by decide),?_⟩
 have Mg:dD o LC (upd LC o (.ins CS dx (fc "awaited" (.ref Aw) [("terms",.ref T),("least",.ref L),("waiting",.ref W),("heads",.ref Hd),("single",.ref Sg),("steps",.ref S)]))):=(dD.refl o LC).put
 have Uk:(upd LC o (.ins CS dx (fc "awaited" (.ref Aw) [("terms",.ref T),("least",.ref L),("waiting",.ref W),("heads",.ref Hd),("single",.ref Sg),("steps",.ref S)]))) o=some (.ins CS dx [("terms",.ref T),("least",.ref L),("waiting",.ref W),("heads",.ref Hd),("single",.ref Sg),("steps",.ref S),("awaited",.ref Aw)]):=aF
 generalize upd LC o (.ins CS dx (fc "awaited" (.ref Aw) [("terms",.ref T),("least",.ref L),("waiting",.ref W),("heads",.ref Hd),("single",.ref Sg),("steps",.ref S)]))=H14 at Mg Uk ⊢
 have ahB:=Mg _ _ GN ahC
 have b14:=b13.trans Mg
 intro Lk φl Wm dLk
 have GD:=bo Wm (.ext φl)
 generalize upd H14 Lk (.ext φl)=NY at GD dLk ⊢
 have Uj:=GD _ _ Uk
 have ahA:=GD _ _ ahB
 have b15:=b14.same GD
 refine⟨_,O,o,CS,dx,_,O,Uj,Z.cS,Z.yM,(show 7 < 1000 by decide),?_⟩
 have Vj:dD o NY (upd NY o (.ins CS dx (fc "lacking" (.ref Lk) [("terms",.ref T),("least",.ref L),("waiting",.ref W),("heads",.ref Hd),("single",.ref Sg),("steps",.ref S),("awaited",.ref Aw)]))):=(dD.refl o NY).put
 have abb:(upd NY o (.ins CS dx (fc "lacking" (.ref Lk) [("terms",.ref T),("least",.ref L),("waiting",.ref W),("heads",.ref Hd),("single",.ref Sg),("steps",.ref S),("awaited",.ref Aw)]))) o=some (.ins CS dx [("terms",.ref T),("least",.ref L),("waiting",.ref W),("heads",.ref Hd),("single",.ref Sg),("steps",.ref S),("awaited",.ref Aw),("lacking",.ref Lk)]):=aF
 generalize upd NY o (.ins CS dx (fc "lacking" (.ref Lk) [("terms",.ref T),("least",.ref L),("waiting",.ref W),("heads",.ref Hd),("single",.ref Sg),("steps",.ref S),("awaited",.ref Aw)]))=HG at Vj abb ⊢
 have ahz:=Vj _ _ GN ahA
 have b16:=b15.trans Vj
 have e15:=Vj
 have e14:dD o H14 HG:=fun c u n e=>e15 c u n (GD c u e)
 have RC:=Mg.trans e14
 have e12:dD o SE HG:=fun c u n e=>RC c u n (DP c u e)
 have e11:=Mh.trans e12
 have e10:dD o zP HG:=fun c u n e=>e11 c u n (mY c u e)
 have e9:=t9.trans e10
 have e8:dD o H8 HG:=fun c u n e=>e9 c u n (s9 c u e)
 have e7:=t7.trans e8
 have e6:dD o H6 HG:=fun c u n e=>e7 c u n (s7 c u e)
 have e5:=t5.trans e6
 have e4:dD o H4 HG:=fun c u n e=>e5 c u n (s5 c u e)
 have f9:dD o H4 zP:=fun c u n e=>t9 c u n (s9 c u (t7 c u n (s7 c u (t5 c u n (s5 c u e)))))
 -- SN lives is no new alc
 have al:∀ {Hk:Hp}{v:HO},dD o H Hk->Hk o=some v->∀ {c:Addr}{u:HO},H c=some u->Hk c≠none:=fun {Hk v} bk hk {c u} e z=>by
  by_cases ec:c=o
  ·rw[ec,hk]at z;cases z
  ·rw[bk c u ec e]at z;cases z
 refine q ⟨T,L,W,S,Hd,Sg,Aw,Lk,Lr,Wr,Sr⟩ HG rfl b16 ?_ (fun c u e=>⟨?_,fun z=>al b12 Ul e (by rw[z];exact hAw)⟩) (WB.keep (fun φ e=>RC _ _ (aZ e C8 nofun) e) (fun c ys e=>RC _ _ (aZ e C8 nofun) e))
 ·refine⟨abb,ahz,mR (fun c ys e=>b16 _ _ (kT' c ys e) e) i7,e4 _ _ (aZ KC Kb nofun) KC,(show Lr.length=ts.length by omega),fun a c e =>?_,e5 _ _ (aZ Ci G1 nofun) Ci,(show Wr.length=ts.length by omega),fun a c e =>?_,⟨[],e7 _ _ (aZ hd7 VW nofun) hd7,?_⟩,⟨[],?_⟩,e11 _ _ (aZ abS Kc nofun) abS,(show Sr.length=ts.length by omega),fun a c e =>?_,?_,⟨[],?_⟩,?_,dG⟩
  ·exact e4 _ _ (aZ (rows a c e) Kb nofun) (rows a c e)
  ·have:=(hWr c (ak e)).2.1
   exact⟨[],e5 _ _ (aZ this G1 nofun) this,fun b=>rfl,(fun kv cR=>nomatch cR),c6⟩
  ·exact⟨fun a _=>rfl,fun a k b e=>(nomatch e),(fun kv cR=>nomatch cR),c6⟩
  ·obtain⟨φ,e⟩:=RM.ext
   exact⟨RM.keep (fun φ e=>e9 _ _ (aZ e MU nofun) e) (fun c ys e=>e9 _ _ (aZ e MU nofun) e),fun p=>rfl,(fun kv cR=>nomatch cR)⟩
  ·have:=(zE c (ak e)).2.1
   exact⟨[],e11 _ _ (aZ this Kc nofun) this,.nil⟩
  ·exact⟨[],WB.keep (fun φ e=>RC _ _ (aZ e C8 nofun) e) (fun c ys e=>RC _ _ (aZ e C8 nofun) e),fun kv cR=>(nomatch cR),fun q => .inl ⟨O,O⟩⟩
  ·exact⟨dLk.keep (fun φ e=>e15 _ _ (aZ e Uj nofun) e) (fun c ys e=>e15 _ _ (aZ e Uj nofun) e),fun p=>rfl,(fun kv cR=>nomatch cR)⟩
  ·have ahJ:=f9 _ _ (aZ KC Kb nofun) KC
   have ahx:zP W=_:=t9 _ _ (aZ (s9 _ _ (t7 _ _ (aZ (s7 _ _ (t5 _ _ (aZ Ci G1 nofun) Ci)) VW nofun) (s7 _ _ (t5 _ _ (aZ Ci G1 nofun) Ci)))) MU nofun) (s9 _ _ (t7 _ _ (aZ (s7 _ _ (t5 _ _ (aZ Ci G1 nofun) Ci)) VW nofun) (s7 _ _ (t5 _ _ (aZ Ci G1 nofun) Ci))))
   refine⟨nLr,bI.mpr ⟨fun z =>?_,nWr⟩,Z8,fun c hc z =>?_,fun c hc =>?_,?_,?_,?_⟩
   ·have:=(hWr Hd z).2.1
    have:=t5 _ _ (aZ this G1 nofun) this
    rw[hHd]at this;cases this
   ·obtain⟨a,ha⟩:=aU hc
    have:=f9 _ _ (aZ (rows a c ha) Kb nofun) (rows a c ha)
    rw[(zE c z).1]at this;cases this
   ·have adZ:∀ c∈Lr,zP c≠none:=fun c hc z=>by
     obtain⟨a,ha⟩:=aU hc
     rw[f9 _ _ (aZ (rows a c ha) Kb nofun) (rows a c ha)]at z;cases z
    have hc:c ∈ [T,L,W,S]:=hc
    rcases aW.mp hc with rfl | hc
    ·exact⟨Z7,fun z=>by have:=(zE c z).1;rw[O0]at this;cases this⟩
    rcases aW.mp hc with rfl | hc
    ·exact⟨TY,fun z=>by have:=(zE c z).1;rw[ahJ]at this;cases this⟩
    rcases aW.mp hc with rfl | hc
    ·refine⟨fun z =>?_,fun z=>by have:=(zE c z).1;rw[ahx]at this;cases this⟩
     obtain⟨a,ha⟩:=aU z
     have ha:Lr[a]? = some c:=ha
     rw[rows a c ha]at hW0;cases hW0
    ·rw[ax.mp hc]
     exact⟨fun z=>adZ S z hS0,fun z=>(zE S z).2.2 rfl⟩
   ·obtain⟨φ,e⟩:=RM.ext
    have AZ:=t9 _ _ (aZ e MU nofun) e
    have KJ:=Mh _ _ (aZ (mY _ _ AZ) Kc nofun) (mY _ _ AZ)
    exact fun z=>by rw[show Sg=Aw from z,hAw]at KJ;cases KJ
   ·obtain⟨φ,e⟩:=RM.ext
    have AZ:=t9 _ _ (aZ e MU nofun) e
    have KJ:=Mh _ _ (aZ (mY _ _ AZ) Kc nofun) (mY _ _ AZ)
    have Rm:=Mg _ _ (aZ (DP _ _ KJ) C8 nofun) (DP _ _ KJ)
    exact fun z=>by rw[show Sg=Lk from z,Wm]at Rm;cases Rm
   ·obtain⟨φ,e⟩:=WB.ext
    have Rm:=Mg _ _ (aZ e C8 nofun) e
    exact fun z=>by rw[show Aw=Lk from z,Wm]at Rm;cases Rm
 ·rintro((z | z | z | z) | z | z)
  ·exact al b1 Kd e (M6 c z).1
  ·exact al b4 Kb e (hWr c z).1
  ·exact al b6 ho6 e (by rw[z];exact hHd)
  ·exact al b8 ho8 e (by rw[z];exact hSg)
  ·exact al Nr Um e (zE c z).1
  ·exact al b14 Uk e (by rw[z];exact Wm)
end
section
def tL(ts:List Tm)(ls:List Nat)(k:Nat)(m:Tm):Prop := ∃ x as,ts[k]? = some (.of x as)∧mk ls (.of x as)=m
abbrev Rw:=Tm × Addr × List Nat
structure mz(ts:List Tm)(ls:List Nat)(i:Nat)(rs:List Rw):Prop where
 row:∀ r∈rs,∀ k,k∈r.2.2↔k < i∧tL ts ls k r.1
 inc:∀ r∈rs,r.2.2.Pairwise (· < ·)
 has:∀ k m,k < i->tL ts ls k m->∃ r∈rs,r.1=m
 i6:(rs.map (·.1)).Nodup
 dG:rs.length<=i
open Classical in
def j7(m:Tm)(k:Nat)(r:Rw):Rw:=if r.1=m then (r.1,r.2.1,r.2.2 ++ [k]) else r
theorem Bu(m:Tm)(k:Nat)(r:Rw):(j7 m k r).1=r.1:=by unfold j7;split <;> rfl
theorem Fz(m:Tm)(k:Nat)(r:Rw):(j7 m k r).2.1=r.2.1:=by unfold j7;split <;> rfl
section
variable {ts:List Tm}{ls:List Nat}{i:Nat}{rs:List Rw}{m:Tm}
theorem vh{k:Nat}{m m':Tm}(h:tL ts ls k m)(h':tL ts ls k m'):m=m':=by
 obtain⟨x,as,e,rfl⟩:=h
 obtain⟨y,bs,e',rfl⟩:=h'
 rw[e]at e'
 cases e';rfl
theorem mz.nil:mz ts ls 0 []:=⟨fun r hr=>(nomatch hr),fun r hr=>(nomatch hr),fun k m hk=>absurd hk (jb k),c6,ar _⟩
theorem mz.skip(h:mz ts ls i rs)(hn:∀ m, ¬ tL ts ls i m):mz ts ls (i+1) rs:=by
 refine⟨fun r hr k =>?_,h.inc,fun k m hk hm =>?_,h.i6,uo h.dG⟩
 ·rw[h.row r hr k]
  refine⟨fun z=>⟨by omega,z.2⟩,fun z=>⟨?_,z.2⟩⟩
  by_cases e:k=i
  ·subst e;exact absurd z.2 (hn _)
  ·omega
 ·by_cases e:k=i
  ·subst e;exact absurd hm (hn _)
  ·exact h.has k m (by omega) hm
theorem mz.old(h:mz ts ls i rs)(hm:tL ts ls i m)(ex:∃ r∈rs,r.1=m):mz ts ls (i+1) (rs.map (j7 m i)):=by
 refine⟨fun r hr k =>?_,fun r hr =>?_,fun k m' hk xS =>?_,?_,by rw[az];exact uo h.dG⟩
 ·obtain⟨r0,vt,rfl⟩:=bj.mp hr
  have h0:=h.row r0 vt k
  unfold j7
  by_cases e:r0.1=m
  ·rw[if_pos e]
   dsimp only
   rw[au,ax,h0]
   constructor
   ·rintro(z | rfl)
    ·exact⟨by omega,z.2⟩
    ·exact⟨by omega,by rw[e];exact hm⟩
   ·rintro⟨z1,z2⟩
    by_cases ek:k=i
    ·exact .inr ek
    ·exact .inl ⟨by omega,z2⟩
  ·rw[if_neg e,h0]
   refine⟨fun z=>⟨by omega,z.2⟩,fun z=>⟨?_,z.2⟩⟩
   by_cases ek:k=i
   ·subst ek;exact absurd (vh z.2 hm) e
   ·omega
 ·obtain⟨r0,vt,rfl⟩:=bj.mp hr
  unfold j7
  by_cases e:r0.1=m
  ·rw[if_pos e]
   dsimp only
   rw[zh]
   refine⟨h.inc r0 vt,nZ _ _,fun a ha b hb =>?_⟩
   rw[ax.mp hb]
   exact((h.row r0 vt a).mp ha).1
  ·rw[if_neg e];exact h.inc r0 vt
 ·by_cases e:k=i
  ·subst e
   obtain⟨r,hr,er⟩:=ex
   exact⟨_,bj.mpr ⟨r,hr,O⟩,by rw[Bu,er];exact vh hm xS⟩
  ·obtain⟨r,hr,er⟩:=h.has k m' (by omega) xS
   exact⟨_,bj.mpr ⟨r,hr,O⟩,by rw[Bu,er]⟩
 ·rw[il]
  have:(fun r=>(j7 m i r).1)=fun r:Rw=>r.1:=funext fun r=>Bu m i r
  show (rs.map fun r=>(j7 m i r).1).Nodup
  rw[this];exact h.i6
theorem mz.new(h:mz ts ls i rs)(hm:tL ts ls i m)(nx:∀ r∈rs,r.1≠m)(c:Addr):mz ts ls (i+1) (rs ++ [(m,c, [i])]):=by
 refine⟨fun r hr k =>?_,fun r hr =>?_,fun k m' hk xS =>?_,?_,by rw[aG];exact Dl h.dG⟩
 ·rcases au.mp hr with h1 | h1
  ·rw[h.row r h1 k]
   refine⟨fun z=>⟨by omega,z.2⟩,fun z=>⟨?_,z.2⟩⟩
   by_cases ek:k=i
   ·subst ek;exact absurd (vh z.2 hm) (nx r h1)
   ·omega
  ·rw[ax.mp h1]
   dsimp only
   rw[ax]
   constructor
   ·rintro rfl;exact⟨by omega,hm⟩
   ·rintro⟨z1,z2⟩
    by_cases ek:k=i
    ·exact ek
    ·obtain⟨r,hr,er⟩:=h.has k m (by omega) z2
     exact absurd er (nx r hr)
 ·rcases au.mp hr with hr | hr
  ·exact h.inc r hr
  ·rw[ax.mp hr];exact nZ _ _
 ·by_cases e:k=i
  ·subst e
   exact⟨_,au.mpr (.inr (bg _)),vh hm xS⟩
  ·obtain⟨r,hr,er⟩:=h.has k m' (by omega) xS
   exact⟨r,au.mpr (.inl hr),er⟩
 ·rw[dv,eR]
  refine⟨h.i6,bI.mpr ⟨cM,c6⟩,fun x hx y hy e =>?_⟩
  obtain⟨r,hr,er⟩:=bj.mp hx
  have hy:y=m:=ax.mp hy
  exact nx r hr (er.trans (e.trans hy))
def pO(row:List Nat)(j:Nat):List (Nat × Nat):=(bA j).flatMap fun pl=>(row.take pl).map fun a=>(a,row.getD pl 0)
def lU(rs:List Rw)(i:Nat):List (Nat × Nat):=(rs.take i).flatMap fun r=>pO r.2.2 r.2.2.length
theorem CW(row:List Nat)(j:Nat):pO row (j+1)=pO row j ++ (row.take j).map fun a=>(a,row.getD j 0):=by
 unfold pO
 rw[kf,dY];simp
theorem UW{rs:List Rw}{i:Nat}{r:Rw}(h:rs[i]? = some r):lU rs (i+1)=lU rs i ++ pO r.2.2 r.2.2.length:=by
 unfold lU
 rw[fO h,dY];simp
theorem Te(row:List Nat){j j':Nat}(h:j<=j'):(pO row j).length<=(pO row j').length:=by
 induction h with
 | refl=>exact ar _
 | step _ ih=>rw[CW,aG];omega
theorem UX(rs:List Rw)(i:Nat):(lU rs i).length<=(lU rs rs.length).length:=by
 unfold lU
 rw[bK]
 conv=>rhs;rw[<- yf i rs]
 rw[dY,aG]
 exact jN _ _
theorem Bv{row:List Nat}{p:Nat × Nat}:p∈pO row row.length↔∃ i j:Nat,i < j∧row[i]? = some p.1∧row[j]? = some p.2:=by
 unfold pO
 rw[gU]
 constructor
 ·rintro⟨j,hj,hp⟩
  rw[cI]at hj
  obtain⟨a,ha,rfl⟩:=bj.mp hp
  obtain⟨i,hi⟩:=aU ha
  rw[nC]at hi
  split at hi
  ·rename_i c
   refine⟨i,j,c,hi,?_⟩
   dsimp only
   rw[bc,aj hj];rfl
  ·cases hi
 ·rintro⟨i,j,AR,hi,hj⟩
  refine⟨j,cI.mpr (ai.mp hj).1,bj.mpr ⟨p.1,?_,?_⟩⟩
  ·exact ak (i:=i) (by rw[nC,if_pos AR];exact hi)
  ·rw[bc,hj];rfl
theorem Nu{p:Nat × Nat}:p∈lU rs rs.length↔∃ r∈rs,p∈pO r.2.2 r.2.2.length:=by
 unfold lU
 rw[bK,gU]
theorem QW{row:List Nat}(h:row.Pairwise (· < ·)){i j a b:Nat}(hi:row[i]? = some a)(hj:row[j]? = some b)(AR:i < j):a < b:=by
 obtain⟨h1,e1⟩:=ai.mp hi
 obtain⟨h2,e2⟩:=ai.mp hj
 have:=mJ.mp h i j h1 h2 AR
 rw[e1,e2]at this
 exact this
theorem aaB{row:List Nat}(h:row.Pairwise (· < ·)){a b:Nat}(ha:a∈row)(hb:b∈row)(ia:a < b):∃ i j:Nat,i < j∧row[i]? = some a∧row[j]? = some b:=by
 obtain⟨i,hi⟩:=aU ha
 obtain⟨j,hj⟩:=aU hb
 rcases BQ i j with q | q | q
 ·exact⟨i,j,q,hi,hj⟩
 ·rw[q,hj]at hi;cases hi;omega
 ·have:=QW h hj hi q;omega
theorem Qn{row:List Nat}(h:row.Pairwise (· < ·)):(pO row row.length).Nodup:=by
 have hn:row.Nodup:=h.imp fun {a b} (z:a < b)=>br z
 unfold pO
 rw[zj,yg]
 refine⟨fun j hj =>?_,?_⟩
 ·rw[jq]
  refine((BS j row).nodup hn).imp fun {a b} ia e=>ia (congrArg dB e)
 ·refine vU ?_ (List.nodup_range (n:=row.length))
  intro j j' hj Kk gw x hx y hy e
  obtain⟨a,_,rfl⟩:=bj.mp hx
  obtain⟨b,_,rfl⟩:=bj.mp hy
  have e2:row.getD j 0=row.getD j' 0:=congrArg zf e
  have hj:=cI.mp hj
  have Kk:=cI.mp Kk
  rw[bc,bc,aj hj,aj Kk]at e2
  exact gw ((Dr hn).mp e2)
theorem JB(h:mz ts ls i rs):(lU rs rs.length).Nodup:=by
 unfold lU
 rw[bK,zj,yg]
 refine⟨fun r hr=>Qn (h.inc r hr),?_⟩
 refine(jq.mp h.i6).imp_of_mem ?_
 intro r r' hr AN gw x hx y hy e
 obtain⟨i1,j1,_,V4,_⟩:=Bv.mp hx
 obtain⟨i2,j2,_,hi2,_⟩:=Bv.mp hy
 have m1:=((h.row r hr _).mp (ak V4)).2
 have m2:=((h.row r' AN _).mp (ak hi2)).2
 rw[<- e]at m2
 exact gw (vh m1 m2)
theorem OC(h:mz ts ls ts.length rs){p:Nat × Nat}(hp:p∈lU rs rs.length):p.1 < p.2∧p.2 < ts.length∧∃ m,tL ts ls p.1 m∧tL ts ls p.2 m:=by
 obtain⟨r,hr,hpr⟩:=Nu.mp hp
 obtain⟨i1,j1,AR,V4,hj1⟩:=Bv.mp hpr
 have m1:=(h.row r hr _).mp (ak V4)
 have m2:=(h.row r hr _).mp (ak hj1)
 exact⟨QW (h.inc r hr) V4 hj1 AR,m2.1,r.1,m1.2,m2.2⟩
theorem aag(h:mz ts ls ts.length rs)(hn:ts.length<=30):(lU rs rs.length).length<=900:=by
 have:=lE (U:=((bA ts.length).flatMap fun a=>(bA ts.length).map fun b=>(a,b))) (JB h) fun x hx=>by
  obtain⟨h1,h2,_⟩:=OC h hx
  exact gU.mpr ⟨x.1,cI.mpr (by omega),bj.mpr ⟨x.2,cI.mpr h2,O⟩⟩
 refine bf this ?_
 have fl:∀ m,((bA m).flatMap fun a=>(bA ts.length).map fun b=>(a,b)).length=m * ts.length:=fun m=>by
  induction m with
  | zero=>simp
  | succ m ih=>rw[kf,dY,aG,ih,vP];simp
 rw[fl]
 exact rF hn hn
theorem adE(h:mz ts ls ts.length rs)(sF:ts.Nodup):LP ts ls (lU rs rs.length) (hX ts):=by
 have at_:∀ p∈lU rs rs.length,p.1 < p.2∧∃ x as bs,ts[p.1]? = some (.of x as)∧ts[p.2]? = some (.of x bs)∧as.length=bs.length:=fun p hp=>by
  obtain⟨h1,_,m,⟨x,as,e1,e2⟩,y,bs,e3,e4⟩:=OC h hp
  rw[<- e4]at e2
  have e2:TM.of x (as.map fun a=>ls.getD a 0)=TM.of y (bs.map fun a=>ls.getD a 0):=e2
  injection e2 with g1 g2
  subst g1
  have:=congrArg List.length g2
  rw[az,az]at this
  exact⟨h1,x,as,bs,e1,e3,this⟩
 refine⟨at_,fun a b x as bs ia ha hb hl hk =>?_,JB h,fun p _=>GL ts p,fun p _ q=>FR,fun p hp e =>?_⟩
 ·have ma:tL ts ls a (mk ls (.of x as)):=⟨x,as,ha,O⟩
  have mb:tL ts ls b (mk ls (.of x as)):=⟨x,bs,hb,by
   show TM.of x (bs.map fun a=>ls.getD a 0)=TM.of x (as.map fun a=>ls.getD a 0)
   congr 1
   refine d9 fun k =>?_
   rw[aK,aK]
   cases e:as[k]? with
   | none=>rw[eY (by rw[<- hl];exact uI.mp e)]
   | some u =>
    have cW:=(ai.mp e).1
    have e':bs[k]? = some (bs[k]'(by omega)):=aj (by omega)
    rw[e']
    exact congrArg some (hk k u _ e e').symm⟩
  have la:=(ai.mp ha).1
  have lb:=(ai.mp hb).1
  obtain⟨r,hr,er⟩:=h.has a _ la ma
  have ra:=(h.row r hr a).mpr ⟨la,by rw[er];exact ma⟩
  have rb:=(h.row r hr b).mpr ⟨lb,by rw[er];exact mb⟩
  exact Nu.mpr ⟨r,hr,Bv.mpr (aaB (h.inc r hr) ra rb ia)⟩
 ·obtain⟨cW,x,as,bs,ha,hb,hl⟩:=at_ p hp
  have gw:as≠bs:=fun z=>by
   rw[z, <- hb]at ha
   have:=(kL (by have:=(ai.mp hb).1;omega) sF).mp ha
   omega
  refine gw (d9 fun k =>?_)
  cases ek:as[k]? with
  | none=>rw[eY (by rw[<- hl];exact uI.mp ek)]
  | some u =>
   have hk:=(ai.mp ek).1
   have e':bs[k]? = some (bs[k]'(by omega)):=aj (by omega)
   generalize bs[k]'(by omega)=v at e'
   rw[e']
   by_cases KS:u=v
   ·rw[KS]
   ·have hu:(u,v)∈cE ts p.1 p.2:=by
     have eu:cE ts p.1 p.2=gj as bs:=by unfold cE;rw[ha,hb];rfl
     rw[eu]
     exact iu.mpr ⟨KS,k,ek,e'⟩
    have:=FR.mpr ⟨_,hu,O⟩
    rw[e]at this
    cases this
end
end
section
variable {P:Program}{w:World}{K:ao}{mg:Str->Option Value}{base:Heap}{CB CF CH CS CN CE CM tB:Addr}
def sC(rs:List Rw):List (NK × V):=rs.map fun r=>(iY r.1,V.ref r.2.1)
theorem Fi{m:Tm}:∀ {rs:List Rw},(∀ v,bL (sC rs) (iY m)=some v->∃ r∈rs,r.1=m∧v = .ref r.2.1)∧(bL (sC rs) (iY m)=none->∀ r∈rs,r.1≠m)
 | []=>⟨fun v e=>(nomatch e),fun _ r hr=>(nomatch hr)⟩
 | r :: rs=>by
  obtain⟨h1,h2⟩:=Fi (m:=m) (rs:=rs)
  have e0:sC (r :: rs)=(iY r.1,V.ref r.2.1) :: sC rs:=rfl
  rw[e0]
  by_cases e:r.1=m
  ·rw[eV (by rw[e])]
   refine⟨fun v ev=>⟨r,bb,e,(aD ev).symm⟩,nofun⟩
  ·rw[eI (fun z=>e (Iw z))]
   refine⟨fun v ev =>?_,fun z r' AN =>?_⟩
   ·obtain⟨r',AN,g⟩:=h1 v ev
    exact⟨r',aR _ AN,g⟩
   ·rcases aW.mp AN with rfl | AN
    ·exact e
    ·exact h2 z r' AN
theorem BA{α β : Type}{f : α -> β}:∀ {l:List α},(l.map f).Nodup->∀ {a b : α},a∈l->b∈l->f a=f b->a=b
 | [],_,a,b,ha,_,_=>nomatch ha
 | x :: l,h,a,b,ha,hb,e=>by
  rw[aS,bI]at h
  rcases aW.mp ha with ea | Wf
  ·rcases aW.mp hb with eb | ug
   ·rw[ea,eb]
   ·exact absurd (bj.mpr ⟨b,ug,by rw[<- e,ea]⟩) h.1
  ·rcases aW.mp hb with eb | ug
   ·exact absurd (bj.mpr ⟨a,Wf,by rw[e,eb]⟩) h.1
   ·exact BA h.2 Wf ug e
theorem XT(rs:List Rw)(m:Tm)(k:Nat):sC (rs.map (j7 m k))=sC rs:=by
 unfold sC
 rw[il]
 exact iN fun r _=>by show (iY (j7 m k r).1,V.ref (j7 m k r).2.1)=_;rw[Bu,Fz]
structure Pd(H H':Hp)(rs:List Rw):Prop where
 at_:∀ r∈rs,H' r.2.1=some (.lst (r.2.2.map nV))∧H r.2.1=none
 i6:(rs.map (·.2.1)).Nodup
theorem Pd.same{H H1 H2:Hp}{rs:List Rw}(h:Pd H H1 rs)(sm:bJ H1 H2):Pd H H2 rs:=⟨fun r hr=>⟨sm _ _ (h.at_ r hr).1,(h.at_ r hr).2⟩,h.i6⟩
theorem Np(row:List Nat)(j:Nat):rj (row.map nV) none (some (j:Int))=(row.take j).map nV:=by
 unfold rj
 rw[HT.Xg,HT.S8,Gf,Nat.sub_zero,az, <- List.map_take]
 congr 1
 rcases i4 j row.length with z | z
 ·rw[ik z]
 ·rw[gS z,bK,xv z]
theorem XY{row:List Nat}{n:Nat}(h:row.Pairwise (· < ·))(hn:∀ k∈row,k < n):row.length<=n:=by
 have:=lE (U:=bA n) (h.imp fun {a b} (z:a < b)=>br z) fun x hx=>cI.mpr (hn x hx)
 rw[cN]at this
 exact this
theorem XQ{ts:List Tm}{ls:List Nat}{rs:List Rw}(h:mz ts ls ts.length rs):∀ p∈lU rs rs.length,∀ q∈cE ts p.1 p.2,ls.getD q.1 0=ls.getD q.2 0:=fun p hp q hq=>by
 obtain⟨h1,_,m,⟨x,as,e1,e2⟩,y,bs,e3,e4⟩:=OC h hp
 rw[<- e4]at e2
 have e2:TM.of x (as.map fun a=>ls.getD a 0)=TM.of y (bs.map fun a=>ls.getD a 0):=e2
 injection e2 with g1 g2
 have ea:cE ts p.1 p.2=gj as bs:=by unfold cE;rw[e1,e3];rfl
 rw[ea]at hq
 obtain⟨_,k,hu,hv⟩:=iu.mp hq
 have this:(as.map fun a=>ls.getD a 0)[k]? = (bs.map fun a=>ls.getD a 0)[k]? := by rw[g2]
 rw[aK,aK,hu,hv]at this
 exact aD this
inductive R8(vs:List V)(H:Hp)(Q:VK):Prop
 | mk (T L:Addr) (us:List V) (ts:List Tm) (ls:List Nat) (z0:vs = [.ref T,.ref L]) (z1:H T=some (.lst us)) (z2:lH H us ts) (z3:H L=some (.lst (ls.map nV))) (z4:∀ (i:Nat) x as,ts[i]? = some (.of x as)->as.length<=1000∧∀ a∈as,a < ls.length) (z5:ts.length<=30) (z6:ts.Nodup)
  (z7:∀ lp D jk H',bJ H H'->H D=none->H' D=some (.lst jk)->dZ H' jk lp->lp.length<=900->LP ts ls lp (hX ts)->(∀ p∈lp,∀ q∈cE ts p.1 p.2,ls.getD q.1 0=ls.getD q.2 0)->Q (.ref D) H'):R8 vs H Q
def II:Sp:=fun vs H Q _=>R8 vs H Q
inductive LqI(P:Program)(w:World)(H:Hp)(T L p:Addr)(ts:List Tm)(ls:List Nat)(i:Nat)(Y:St)(H':Hp):Prop
 | mk (rs:List Rw) (x3 x4:Option V):(Y = [aa T,aa L,aa p,x3,x4,none,none,none,none,none])->bJ H H'->DN P w H' p (sC rs)->mz ts ls i rs->Pd H H' rs->LqI P w H T L p ts ls i Y H'
inductive LrI(H:Hp)(Z:Addr)(G:St)(lp:List (Nat × Nat))(Y:St)(H':Hp):Prop
 | mk (zs:List V) (rZ:St):(Y = G ++ [some (.ref Z)] ++ rZ)->(rZ.length=4)->dD Z H H'->H' Z=some (.lst zs)->dZ H' zs lp->LrI H Z G lp Y H'
inductive LsI(H:Hp)(Z:Addr)(G:St)(lp:List (Nat × Nat))(Y:St)(H':Hp):Prop
 | mk (zs:List V) (x7 x8 x9:Option V):(Y = G ++ [x7,x8,x9])->dD Z H H'->H' Z=some (.lst zs)->dZ H' zs lp->LsI H Z G lp Y H'
inductive LtI(H:Hp)(Z:Addr)(G:St)(lp:List (Nat × Nat))(Y:St)(H':Hp):Prop
 | mk (zs:List V) (x9:Option V):(Y = G ++ [x9])->dD Z H H'->H' Z=some (.lst zs)->dZ H' zs lp->LtI H Z G lp Y H'
theorem HN(B:lK mg)(xV:dQ P w K mg base 1 "mark" wb0 (IH K))(D:Def K mg "like_pairs" ve wa0):dQ P w K mg base 2 "like_pairs" wa0 II:=by
 refine D.has gJ (fun vs H Q E h =>?_) (fun f cJ A outer s H vs Q E hr h =>?_)
 ·obtain⟨T,L,us,ts,ls,rfl,_⟩:=h;rfl
 obtain⟨T,L,us,ts,ls,rfl,hT,i7,hL,MR,dG,sF,q⟩:=h
 refine⟨_,(av (bz (i:=2) gJ.nd O (aO O) m6)
  (av (fA cq O (Bx O B.uB (ae (pv 0) aq)) (m5 O (et (bX (i:=3) gJ.nd O (aO O)) (et (bX (i:=4) gJ.nd O (aO O)) kX)))
  (aI (dE (cC gA (aM bF (pv 4) aA) fP (cz _)) (aI (dt (kG bE bV bU fJ (FG (n5 hr) (pv 2) (bp xV hr (by omega) O (ae (pv 4) (ae (pv 1) aq))) (j8 aq) ⟨O,O,O,O⟩) (ae (pv 3) aq)))) cD)))
  (av (bz (i:=5) gJ.nd O (aO O) (j8 aq))
  (av (fA cq O (Th (pv 2)) (bX (i:=6) gJ.nd O (aO O))
  (aI (fA cq O (Bx O B.uB (ae (pv 6) aq)) (m5 O (et (bX (i:=7) gJ.nd O (aO O)) (et (bX (i:=8) gJ.nd O (aO O)) kX)))
  (aI (fA cq O (fU (oK Fs (pv 6) qV (qU (pv 7)))) (bX (i:=9) gJ.nd O (aO O))
  (aI (dt (kG bE bV bU fJ (pv 5) (ae (cK (ae (pv 9) (ae (pv 8) aq))) aq)))))))))
  (aI (cF (pv 5))))))),?_⟩
 try dsimp only[dR]
 have wz:=aV i7
 intro p φ hp A2
 dsimp only[bq]
 have Aj:=bo hp (.ext φ)
 generalize upd H p (.ext φ)=H0 at Aj A2 ⊢
 refine⟨_,O,T,O,⟨us,a9.of (Aj _ _ hT)⟩,?_⟩
 refine yU (xs:=us) (LqI P w H T L p ts ls) ⟨[],none,none,O,Aj,A2,mz.nil,fun r hr=>(nomatch hr),c6⟩ ?_ ?_ ?_
 ·rintro i Y H' _ ⟨rs,x3,x4,rfl,sm,_⟩
  exact a9.of (sm _ _ hT)
 ·rintro i x a0 Y H' hx ⟨rs,x3,x4,rfl,sm,dn,ag,Vq⟩ Ks
  obtain⟨t,ht,wu⟩:=DG i7 hx
  have hi:i < ts.length:=(ai.mp ht).1
  have s1:=bo Ks (.tup [.int (i:Int),x])
  refine⟨a0,_,O,bM.of aF,O,_,_,O,_,_,O,O,?_⟩
  generalize upd H' a0 (.tup [.int (i:Int),x])=H1 at s1 ⊢
  have Ai:=sm.trans s1
  have JN:oU H1 t x:=wu.keep fun c ys e=>Ai _ _ e
  have xZ:=dn.same s1
  have Zj:=Vq.same s1
  cases t with
  | num n =>
   obtain⟨a,rfl,h⟩:=id JN
   refine⟨_,O,a,_,0,_,O,O,bM.of h,aY (j:=0) rfl,O,_,O,iZ (fun z=>absurd (V.str.inj z) (by decide)) (fun _=>⟨rs,_,_,O,Ai,xZ,ag.skip fun m z =>?_,Zj⟩)⟩
   obtain⟨y,as,e,_⟩:=z
   rw[ht]at e;cases e
  | name n =>
   obtain⟨a,rfl,h⟩:=id JN
   refine⟨_,O,a,_,0,_,O,O,bM.of h,aY (j:=0) rfl,O,_,O,iZ (fun z=>absurd (V.str.inj z) (by decide)) (fun _=>⟨rs,_,_,O,Ai,xZ,ag.skip fun m z =>?_,Zj⟩)⟩
   obtain⟨y,as,e,_⟩:=z
   rw[ht]at e;cases e
  | of y as =>
   obtain⟨a,b,rfl,h,h2⟩:=id JN
   have mka:tL ts ls i (mk ls (.of y as)):=⟨y,as,ht,O⟩
   refine⟨_,O,a,_,0,_,O,O,bM.of h,aY (j:=0) rfl,O,_,O,iZ (fun _ =>?_) (fun z=>absurd rfl z)⟩
   refine⟨_,O,p,O,⟨_,xZ⟩,_,O,_,O,_,.of y as,L,ls,O,JN,a9.of (Ai _ _ hL),(fun x as' e=>by cases e;exact MR i y as ht),fun v' H2 jC hm =>?_⟩
   obtain⟨b',rfl,nk⟩:=hm.key
   have EC:=xZ.same jC
   have rw2:=Zj.same jC
   have Y7:=Ai.trans jC
   refine⟨(show 0<=sizeLine by decide),fun c hc =>?_⟩
   have s3:=bo hc (.lst [])
   have M5:=aF (H:=H2) (a:=c) (o := .lst [])
   have nk3:=nk.keep (H':=upd H2 c (.lst [])) fun d ys z=>s3 _ _ z
   have Q6:∀ r∈rs,r.2.1≠c:=fun r hr z=>by rw[<- z,(rw2.at_ r hr).1]at hc;cases hc
   have Q9:H c=none:=Y7.free hc
   have hpc:p≠c:=fun z=>by obtain⟨ψ,e⟩:=EC.ext;rw[z,hc]at e;cases e
   generalize upd H2 c (.lst [])=H3 at s3 M5 nk3 ⊢
   have qG:=EC.same s3
   have Mq:=rw2.same s3
   have Y6:=Y7.trans s3
   have hrl:(sC rs).length<=30:=by unfold sC;rw[az];have:=ag.dG;omega
   refine⟨sC rs,iY (mk ls (.of y as)),b',qG,O,nk3,cU (by omega),fun v hv =>?_,fun hn UZ WA =>?_⟩
   ·obtain⟨r0,vt,em,rfl⟩:=Fi.1 v hv
    obtain⟨g1,g2⟩:=Mq.at_ r0 vt
    have eD:r0.2.2.length<=30:=bf (XY (ag.inc r0 vt) fun k hk=>((ag.row r0 vt k).mp hk).1) (by omega)
    refine⟨.inl ⟨O,_,a9.of g1⟩,_,O,r0.2.1,_,_,O,O,g1,cU (by rw[az];omega),⟨rs.map (j7 (mk ls (.of y as)) i),_,_,O,Y6.put g2,?_,ag.old mka ⟨r0,vt,em⟩,?_⟩⟩
    ·rw[XT]
     exact qG.keep (fun ψ e=>by rw[aE (aZ e g1 nofun)];exact e) (fun d ys e=>by rw[aE (aZ e g1 nofun)];exact e)
    ·refine⟨fun r hr =>?_,?_⟩
     ·obtain⟨r1,hr1,rfl⟩:=bj.mp hr
      rw[Fz]
      by_cases e:r1.1=mk ls (.of y as)
      ·have:r1=r0:=BA ag.i6 hr1 vt (e.trans em.symm)
       subst this
       refine⟨?_,g2⟩
       rw[aF]
       unfold j7
       rw[if_pos e,dv];rfl
      ·obtain⟨k1,k2⟩:=Mq.at_ r1 hr1
       refine⟨?_,k2⟩
       rw[aE (fun z=>e (by rw[BA Mq.i6 hr1 vt z];exact em)),k1]
       unfold j7
       rw[if_neg e]
     ·rw[il]
      have:(fun r=>(j7 (mk ls (.of y as)) i r).2.1)=fun r:Rw=>r.2.1:=funext fun r=>Fz _ i r
      show (rs.map fun r=>(j7 (mk ls (.of y as)) i r).2.1).Nodup
      rw[this];exact Mq.i6
   ·have nx:=Fi.2 hn
    obtain⟨ψ,ep⟩:=qG.ext
    have hc4:(upd H3 p (.ext UZ)) c=some (.lst []):=by rw[aE (cm hpc)];exact M5
    refine⟨.inl ⟨O,_,a9.of hc4⟩,_,O,c,_,_,O,O,hc4,cU (bx _),⟨rs ++ [(mk ls (.of y as),c, [i])],_,_,O,(Y6.put hp).put Q9,?_,ag.new mka nx c,?_⟩⟩
    ·have:sC (rs ++ [(mk ls (.of y as),c, [i])])=sC rs ++ [(iY (mk ls (.of y as)),.ref c)]:=by unfold sC;rw[dv];rfl
     rw[this]
     exact WA.keep (fun ψ e=>by rw[aE hpc];exact e) (fun d ys e=>by rw[aE (aZ e hc4 nofun)];exact e)
    ·refine⟨fun r hr =>?_,?_⟩
     ·rcases au.mp hr with h1 | h1
      ·obtain⟨k1,k2⟩:=Mq.at_ r h1
       exact⟨by rw[aE (Q6 r h1),aE (aZ k1 ep nofun)];exact k1,k2⟩
      ·rw[ax.mp h1]
       exact⟨aF,Q9⟩
     ·rw[dv,eR]
      refine⟨Mq.i6,bI.mpr ⟨cM,c6⟩,fun x hx y hy e =>?_⟩
      obtain⟨r,hr,er⟩:=bj.mp hx
      have hy:y=c:=ax.mp hy
      exact Q6 r hr (er.trans (e.trans hy))
 ·rintro Y H' ⟨rs,x3,x4,rfl,sm,dn,ag,Vq⟩
  rw[wz]at ag
  have lpl:=aag ag dG
  have qD:=adE ag sF
  have lpd:=XQ ag
  -- ald adC
  refine⟨(show 0<=sizeLine by decide),fun Z hZ =>?_⟩
  dsimp only[bq]
  have s5:=bo hZ (.lst [])
  have Wg:=aF (H:=H') (a:=Z) (o := .lst [])
  generalize upd H' Z (.lst [])=H5 at s5 Wg ⊢
  have Qb:=sm.trans s5
  have RE:=dn.same s5
  have rw5:=Vq.same s5
  have hZ0:H Z=none:=sm.free hZ
  obtain⟨ψ,ep⟩:=RE.ext
  have hpZ:p≠Z:=aZ ep Wg nofun
  have hrZ:∀ r∈rs,r.2.1≠Z:=fun r hr z=>by have:=(Vq.at_ r hr).1;rw[z,hZ]at this;cases this
  refine⟨_,O,p,_,O,RE,fun ob Ez =>?_⟩
  refine Rr (fun i Y H'=>LrI H5 Z [aa T,aa L,aa p,x3,x4] (lU rs i) Y H') ⟨[], [none,none,none,none],O,O,dD.refl Z H5,Wg,.nil⟩ ?_ ?_ ?_
  ·rintro i Y H' _ ⟨zs, rZ,rfl,_,bt,_⟩
   exact Ez.keep (fun e=>bt _ _ hpZ e) (fun c ys e=>bt _ _ (aZ e Wg nofun) e)
  ·rintro i kv Y H' cR ⟨zs, rZ,rfl,AF,bt,zC,qE⟩
   obtain⟨r,hr,rfl⟩:∃ r,rs[i]? = some r∧(iY r.1,V.ref r.2.1)=kv:=by
    unfold sC at cR
    rw[aK]at cR
    exact cP.mp cR
   have Eg:=ak hr
   have vq:=bt _ _ (hrZ r Eg) (rw5.at_ r Eg).1
   obtain⟨y6,y7,y8,y9,rfl⟩:∃ y6 y7 y8 y9, rZ = [y6,y7,y8,y9]:=by
    match rZ,AF with
    | [a,b,c,d],_=>exact⟨a,b,c,d,O⟩
   have nxt:=UW hr
   have lle:=UX rs (i+1)
   rw[nxt,aG]at lle
   dsimp only[bq]
   refine⟨_,O,r.2.1,O,⟨_,a9.of vq⟩,?_⟩
   have VT:=(rw5.at_ r Eg).1
   refine yU (xs:=r.2.2.map nV) (fun j Y H'=>LsI H5 Z [aa T,aa L,aa p,x3,x4,some (.ref Z),some (.ref r.2.1)] (lU rs i ++ pO r.2.2 j) Y H') ⟨zs,y7,y8,y9,O,bt,zC,by show dZ H' zs (lU rs i ++ []);rw[dw];exact qE⟩ ?_ ?_ ?_
   ·rintro j Y gQ _ ⟨zs,x7,x8,x9,rfl,bt,_⟩
    exact a9.of (bt _ _ (hrZ r Eg) VT)
   ·rintro j x a0 Y gQ hx ⟨zs,x7,x8,x9,rfl,bt,zC,qE⟩ Ks
    obtain⟨b,hb,rfl⟩:∃ b,r.2.2[j]? = some b∧nV b=x:=by
     rw[aK]at hx
     exact cP.mp hx
    have hjl:=(ai.mp hb).1
    have s6:=bo Ks (.tup [.int (j:Int),nV b])
    refine⟨a0,_,O,bM.of aF,O,_,_,O,_,_,O,O,?_⟩
    generalize upd gQ a0 (.tup [.int (j:Int),nV b])=H6 at s6 ⊢
    have bt6:=bt.same s6
    have aaG:=s6 _ _ zC
    have ahd:=bC qE fun c ys e=>s6 _ _ e
    dsimp only
    refine⟨_,O,_,O,_,O,r.2.1,_,O,a9.of (bt6 _ _ (hrZ r Eg) VT),fun c hc =>?_⟩
    rw[Np]
    have s7:=bo hc (.lst ((r.2.2.take j).map nV))
    have hc7:=aF (H:=H6) (a:=c) (o := .lst ((r.2.2.take j).map nV))
    have hcZ:c≠Z:=fun z=>by rw[z,aaG]at hc;cases hc
    generalize upd H6 c (.lst ((r.2.2.take j).map nV))=H7 at s7 hc7 ⊢
    have V5:r.2.2.getD j 0=b:=by rw[bc,hb];rfl
    have pl:=Te r.2.2 (j:=j+1) (j':=r.2.2.length) (by omega)
    rw[CW,V5,aG,az,bW]at pl
    refine⟨c,O,⟨_,a9.of hc7⟩,?_⟩
    refine gR (xs:=(r.2.2.take j).map nV) (fun k Y H'=>LtI H7 Z [aa T,aa L,aa p,x3,x4,some (.ref Z),some (.ref r.2.1),some (nV j),some (nV b)] (lU rs i ++ pO r.2.2 j ++ ((r.2.2.take k).map fun a=>(a,b))) Y H') ⟨zs,x9,O,dD.refl Z H7,s7 _ _ aaG,by rw[lB,fE,dw];exact bC ahd fun c ys e=>s7 _ _ e⟩ ?_ ?_ ?_
    ·rintro k Y H8 _ ⟨zs,x9,rfl,RT,_⟩
     exact a9.of (RT _ _ hcZ hc7)
    ·rintro k x Y H8 hx ⟨zs,x9,rfl,RT,OO,J3⟩
     obtain⟨a,ha,rfl⟩:∃ a,(r.2.2.take j)[k]? = some a∧nV a=x:=by
      rw[aK]at hx
      exact cP.mp hx
     have V0:k < j:=by
      have:=(ai.mp ha).1
      rw[bW]at this;omega
     have Wf:r.2.2[k]? = some a:=by rw[nC,if_pos V0]at ha;exact ha
     dsimp only[bq]
     refine⟨_,O,.inl ⟨O,_,a9.of OO⟩,_,O,_,O,(show 2<=sizeLine by decide),fun t ht =>?_⟩
     obtain⟨H9,eH,s9,ht9⟩:=alloc ht (.tup [nV a,nV b])
     rw[eH]
     have hz9:=s9 _ _ OO
     have hl:=aV J3
     rw[aG,aG,az,bW]at hl
     have kt:∀ c ys,H9 c=some (.tup ys)->(upd H9 Z (.lst (zs ++ [.ref t]))) c=some (.tup ys):=fun c ys e=>by rw[aE (aZ e hz9 nofun)];exact e
     refine⟨Z,_,_,O,O,hz9,cU (by omega),⟨_,_,O,(RT.same s9).put,aF,?_⟩⟩
     rw[fO Wf,dv, <- kN]
     exact fQ (bC (bC J3 fun c ys e=>s9 _ _ e) kt) (.cons ⟨t,O,kt _ _ ht9⟩ .nil)
    ·rintro Y H8 ⟨zs,x9,rfl,RT,OO,J3⟩
     refine⟨zs,_,_,_,O,fun c u n e=>RT c u n (s7 c u (bt6 c u n e)),OO,?_⟩
     rw[CW,V5, <- kN]
     rw[az,bW,ik (by omega)]at J3
     exact J3
   ·rintro Y gQ ⟨zs,x7,x8,x9,rfl,bt,zC,qE⟩
    refine⟨zs, [_,_,_,_],O,O,bt,zC,?_⟩
    rw[nxt]
    rw[az]at qE
    exact qE
  ·rintro Y H' ⟨zs, rZ,rfl,_,bt,zC,qE⟩
   have kl:(sC rs).length=rs.length:=by unfold sC;rw[az]
   rw[kl]at qE
   refine⟨_,O,q _ Z zs H' (fun c u e=>bt c u (fun z=>by rw[z,hZ0]at e;cases e) (Qb c u e)) hZ0 zC qE lpl qD lpd⟩
abbrev qf(H:Hp):List V->List bY->Prop:=Paired fun v e=>∃ q c,v=V.ref q∧H q=some (.tup [nV e.1,nV e.2.1,nV e.2.2,c])
structure rX(ts:List Tm)(es:List bY)(ls:List Nat):Prop where
 dG:ts.length<=30
 i6:ts.Nodup
 arms:rJ ts
 oZ:∀ (i:Nat) x as,ts[i]? = some (.of x as)->as.length<=1000
 len:ls.length=ts.length
 wC:∀ e∈es,e.1 < ts.length∧e.2.1 < ts.length∧1<=e.2.2
 lead:∀ a b k,fS ts es a b k->a < ts.length->b < ts.length->ls.getD a 0=ls.getD b 0
theorem rX.mG{ts:List Tm}{es:List bY}{ls:List Nat}(ok:rX ts es ls){i:Nat}{x:Str}{as:List Nat}(e:ts[i]? = some (.of x as)){a:Nat}(ha:a∈as):a < ts.length:=Bc (ok.arms i x as e a ha) (ai.mp e).1
inductive Hy(vs:List V)(H:Hp)(Q:VK):Prop
 | mk (T L Ed:Addr) (us:List V) (ts:List Tm) (ls:List Nat) (ev:List V) (es:List bY) (z0:vs = [.ref T,.ref L,.ref Ed]) (z1:H T=some (.lst us)) (z2:lH H us ts) (z3:H L=some (.lst (ls.map nV))) (z4:H Ed=some (.lst ev)) (z5:qf H ev es) (z6:rX ts es ls)
  (z7:∀ (R:Addr) (rows:List Addr) (H':Hp),bJ H H'->H' R=some (.lst (rows.map V.ref))->rows.length=ts.length->(∀ (a:Nat) (c:Addr),rows[a]? = some c->H' c=some (.lst (ie (aL ts es) ts.length a))∧H c=none)->Q (.ref R) H'):Hy vs H Q
def Gx:Sp:=fun vs H Q _=>Hy vs H Q
theorem TR{s:SS}{es:List bY}{i:Nat}{e:bY}(h:es[i]? = some e):nK s (es.take (i+1))=je (nK s (es.take i)) e.1 e.2.1 e.2.2 true:=by
 unfold nK
 rw[fO h,og];rfl
theorem K9{n:Nat}:∀ {l:List bY}{s:SS},(∀ e∈l,e.1 < n)->nE n s->nE n (nK s l)
 | [],s,_,h=>h
 | e :: l,s,hl,h=>K9 (l:=l) (fun e he=>hl e (aR _ he)) (K8 h (hl e bb))
theorem P2:∀ (l:List bY) (s:SS),(nK s l).St=s.St
 | [],s=>rfl
 | e :: l,s=>(P2 l _).trans (P1 s e.1 e.2.1 e.2.2 true).1
def EM(ts:List Tm)(lp:List (Nat × Nat)):Nat × Nat->List (Nat × Nat):=fun q=>lp.filter fun p=>decide (q∈hX ts p)
theorem UT{ts:List Tm}{lp:List (Nat × Nat)}{i:Nat}{p:Nat × Nat}(h:lp[i]? = some p):qd (EM ts (lp.take i)) (hX ts p) p=EM ts (lp.take (i+1)):=by
 funext q
 unfold qd EM
 rw[fO h,Bd]
 by_cases e:q∈hX ts p
 ·rw[if_pos e,iJ (p:=fun p=>decide (q∈hX ts p)) (decide_eq_true e)];rfl
 ·rw[if_neg e,iK (p:=fun p=>decide (q∈hX ts p)) (by rw[decide_eq_false e];decide)];exact(dw _).symm
theorem T4{ts:List Tm}{lp:List (Nat × Nat)}{i:Nat}{p:Nat × Nat}(h:lp[i]? = some p):(fun r=>if r=p then some (hX ts p).length else sx (lp.take i) (fun p=>(hX ts p).length) r)=sx (lp.take (i+1)) (fun p=>(hX ts p).length):=by
 funext r
 unfold sx
 rw[fO h]
 by_cases e:r=p
 ·subst e;rw[if_pos rfl,if_pos (au.mpr (.inr (bg _)))]
 ·rw[if_neg e]
  by_cases hr:r∈lp.take i
  ·rw[if_pos hr,if_pos (au.mpr (.inl hr))]
  ·rw[if_neg hr,if_neg (fun z=>(au.mp z).elim hr fun z=>e (ax.mp z))]
inductive LaI(P:Program)(w:World)(CS o dx:Addr)(A:SA)(us:List V)(ts:List Tm)(H:Hp)(G:St)(es:List bY)(i:Nat)(Y:St)(H':Hp):Prop
 | mk (x4:Option V):(Y = G ++ [x4,none,none])->iS A H H'->de P w CS o dx A us ts (fun _ => []) H' (nK (mV ts.length) (es.take i)) (fun _=>none)->LaI P w CS o dx A us ts H G es i Y H'
inductive LbI(P:Program)(w:World)(A:SA)(ts:List Tm)(H:Hp)(G:St)(lp:List (Nat × Nat))(i:Nat)(Y:St)(H':Hp):Prop
 | mk (x5 x6:Option V):(Y = G ++ [x5,x6])->mO P w H A ts.length (EM ts (lp.take i)) (sx (lp.take i) fun p=>(hX ts p).length) H'->LbI P w A ts H G lp i Y H'
theorem Ot(B:lK mg)(Z:rP K mg CS)(Ku:Pj P w K mg base 1 "Search" CS wb7 (Ml P w CS))(ly:lY P w K mg base 2 CS "offer_step" ba (IF P w CS))(lz:dQ P w K mg base 2 "like_pairs" wa0 II)(vz:lY P w K mg base 2 CS "await_arms" wb5 (Mn P w CS))(vy:lY P w K mg base 4 CS "settle_all" ["self"] (P6 P w CS))(D:Def K mg "lengths" Ap wb1):dQ P w K mg base 5 "lengths" wb1 Gx:=by
 have cS:=Z.cS
 refine D.has pJ (fun vs H Q E h =>?_) (fun f cJ A outer s H vs Q E hr h =>?_)
 ·obtain⟨T,L,Ed,us,ts,ls,ev,es,rfl,_⟩:=h;rfl
 obtain⟨T,L,Ed,us,ts,ls,ev,es,rfl,hT,i7,hL,hE,jo,ok,q⟩:=h
 refine⟨_,(av (bz (i:=3) pJ.nd O (aO O) (Tu Ku hr (by omega) AB O (ae (pv 0) aq)))
  (av (fA cq O (fU (pv 2)) (bX (i:=4) pJ.nd O (aO O))
  (aI (dt (ux ly cS hr (by omega) AB (pv 3) (ae (aM bF (pv 4) aA) (ae (aM bF (pv 4) aA) (ae (aM bF (pv 4) aA) aq)))))))
  (av (fA cq O (fU (bp lz hr (by omega) O (ae (pv 0) (ae (pv 1) aq)))) (m5 O (et (bX (i:=5) pJ.nd O (aO O)) (et (bX (i:=6) pJ.nd O (aO O)) kX)))
  (aI (dt (ux vz cS hr (by omega) AB (pv 3) (ae (pv 5) (ae (pv 6) aq))))))
  (av (dt (ZJ vy cS hr (by omega) AB (pv 3)))
  (aI (cF (eC (pv 3) O))))))),?_⟩
 try dsimp only[dR]
 refine⟨_,O,fun o dx ho hdx gw =>?_⟩
 have Ai:bJ H (upd (upd H dx (.own o)) o (.ins CS dx [])):=fun c u e=>by rw[aE (bQ e ho),aE (bQ e hdx)];exact e
 have Kd:(upd (upd H dx (.own o)) o (.ins CS dx [])) o=some (.ins CS dx []):=aF
 generalize upd (upd H dx (.own o)) o (.ins CS dx [])=H1 at Ai Kd ⊢
 refine⟨o,dx,T,us,ts,O,Kd,Ai _ _ hT,gb Ai i7,ok.dG,fun A H2 eT b2 GC own dA2=>⟨O,?_⟩⟩
 have b2:bJ H H2:=fun c u e=>b2 c u (bQ e ho) (Ai c u e)
 have own:∀ c u,H c=some u->¬ uH A c∧c≠A.Aw:=fun c u e=>own c u (Ai c u e)
 dsimp only[bq]
 -- oY alo
 refine⟨_,O,Ed,O,⟨_,a9.of (b2 _ _ hE)⟩,?_⟩
 refine gR (xs:=ev) (LaI P w CS o dx A us ts H2 [aa T,aa L,aa Ed,aa o] es) ⟨none,O,fun c u _ e=>e,GC⟩ ?_ ?_ ?_
 ·rintro i Y H' _ ⟨x4,rfl,bt,_⟩
  exact a9.of (bt _ _ (own _ _ hE).1 (b2 _ _ hE))
 ·rintro i v Y H' hv ⟨x4,rfl,bt,se⟩
  obtain⟨e,he,qe,c,rfl,VV⟩:=Paired.at jo hv
  obtain⟨e1,e2,e3⟩:=ok.wC e (ak he)
  have AO:=bt _ _ (own _ _ VV).1 (b2 _ _ VV)
  have dg:nE ts.length (nK (mV ts.length) (es.take i)):=K9 (fun e he=>(ok.wC e (zi he)).1) (fun x hx=>if_pos ⟨O,hx⟩)
  have nx:=TR (s:=mV ts.length) he
  dsimp only[bq]
  refine⟨_,O,o,dx,_,O,se.ins,O,_,O,qe,_,0,_,O,O,bM.of AO,aY (j:=0) rfl,_,O,qe,_,1,_,O,O,bM.of AO,aY (j:=1) rfl,_,O,qe,_,2,_,O,O,bM.of AO,aY (j:=2) rfl,?_⟩
  refine⟨o,dx,A,us,ts,_,_,_,e.1,e.2.1,e.2.2,O,se,e1,e2,fun z=>by rw[<- z];exact A3 dg e1,fun H3 b3 h3=>⟨_,O,bt.trans (iS.of b3),?_⟩⟩
  rw[nx];exact h3
 ·rintro Y H3 ⟨x4,rfl,bt,se⟩
  have lv:ev.length=es.length:=aV jo
  rw[lv,bK]at se
  have k3:bJ H H3:=fun c u e=>bt c u (own c u e).1 (b2 c u e)
  -- oY gy adC
  refine⟨_,O,_,O,T,L,us,ts,ls,O,k3 _ _ hT,gb k3 i7,k3 _ _ hL,fun i x as e=>⟨ok.oZ i x as e,fun a ha=>by rw[ok.len];exact ok.mG e ha⟩,ok.dG,ok.i6,fun lp D1 r8 H4 s4 Wt KH GZ lpl qD _ =>?_⟩
  have GB:=se.same s4
  refine⟨D1,O,⟨_,a9.of KH⟩,?_⟩
  have VE:D1≠A.Aw∧D1≠A.Lk:=by
   obtain⟨ka,d0,_⟩:=GB.mF
   obtain⟨kl,l0⟩:=GB.me
   obtain⟨φ,e1⟩:=d0.ext
   obtain⟨ψ,e2⟩:=l0.dn.ext
   exact⟨aZ KH e1 nofun,aZ KH e2 nofun⟩
  have Yz:∀ {c ys},H4 c=some (.tup ys)->c≠A.Aw∧c≠A.Lk:=fun {c ys} e=>by
   obtain⟨ka,d0,_⟩:=GB.mF
   obtain⟨kl,l0⟩:=GB.me
   obtain⟨φ,e1⟩:=d0.ext
   obtain⟨ψ,e2⟩:=l0.dn.ext
   exact⟨aZ e e1 nofun,aZ e e2 nofun⟩
  refine gR (xs:=r8) (LbI P w A ts H4 [aa T,aa L,aa Ed,aa o,x4] lp) ⟨none,none,O,?_⟩ ?_ ?_ ?_
  ·obtain⟨kl,l0⟩:=GB.me
   refine⟨fun c u _ _ e=>e,⟨[],?_,(fun kv cR=>nomatch cR),fun q => .inl ⟨O,O⟩,(fun q q' c z=>nomatch z)⟩,kl,?_⟩
   ·obtain⟨φ,eA⟩:=dA2.ext
    have nA:¬ uH A A.Aw:=by
     rintro((z | z | z | z) | z | z)
     ·obtain⟨i,hi⟩:=aU z
      have:=GC.rL i _ hi
      rw[eA]at this;cases this
     ·obtain⟨i,hi⟩:=aU z
      obtain⟨_,this,_⟩:=GC.rW i _ hi
      rw[eA]at this;cases this
     ·obtain⟨_,this,_⟩:=GC.hH
      rw[<- z,eA]at this;cases this
     ·exact GC.sep.e1 z.symm
     ·obtain⟨i,hi⟩:=aU z
      obtain⟨_,this,_⟩:=GC.rS i _ hi
      rw[eA]at this;cases this
     ·exact GC.sep.e3 z
    exact dA2.keep (fun φ e=>s4 _ _ (bt _ _ nA e)) (fun c ys e=>s4 _ _ (bt _ _ (GC.PU e) e))
   ·exact⟨l0.dn,fun p=>by rw[l0.val];unfold sx;rw[lB,if_neg cM],l0.key⟩
  ·rintro i Y H' _ ⟨x5,x6,rfl,hx⟩
   exact a9.of (hx.fr _ _ VE.1 VE.2 KH)
  ·rintro i v Y H' hv ⟨x5,x6,rfl,hx⟩
   obtain⟨pq,GX,pa,rfl,qE⟩:=Paired.at GZ hv
   have Ui:=hx.fr _ _ (Yz qE).1 (Yz qE).2 qE
   have hm:=ak GX
   obtain⟨cW,x,as,bs,ta,tb,hl⟩:=qD.at_ pq hm
   have seX:=hx.se GB
   refine⟨pa,_,O,bM.of Ui,O,_,_,O,_,_,O,O,?_⟩
   dsimp only
   refine⟨_,O,o,dx,_,O,seX.ins,O,_,O,_,O,o,dx,A,us,ts,_,_,_,_,_,H4,pq.1,pq.2,x,x,as,bs,O,GB,hx,ta,tb,hl,ok.oZ _ _ _ ta,fun r hr =>?_,fun q =>?_,fun H' wu=>⟨_,_,O,?_⟩⟩
   ·have eu:cE ts pq.1 pq.2=gj as bs:=by unfold cE;rw[ta,tb];rfl
    rw[eu]at hr
    obtain⟨_,k,h1,h2⟩:=iu.mp hr
    exact⟨ok.mG ta (ak h1),ok.mG tb (ak h2)⟩
   ·unfold EM
    refine bf (jc ..) ?_
    rw[bW];omega
   ·rw[UT GX,T4 GX]at wu
    exact wu
  ·rintro Y H5 ⟨x5,x6,rfl,hx⟩
   have lv:r8.length=lp.length:=aV GZ
   rw[lv,bK]at hx
   have se5:=hx.se GB
   have rd:ND P w CS o dx A us ts es ls lp (hX ts) (EM ts lp) H5 (nK (mV ts.length) es) (fun p=>(hX ts p).length):=⟨se5,RZ qD ok.wC,fun x=>by rw[P2];exact bx _⟩
   have fx:Fix ts ls lp (hX ts) (EM ts lp):=⟨qD,fun q=>(zS).nodup qD.nodup,fun q p=>by unfold EM;rw[gC,decide_eq_true_iff],fun i x as e=>⟨ok.oZ i x as e,fun a ha=>ok.mG e ha⟩⟩
   refine⟨_,O,o,dx,_,O,se5.ins,O,o,dx,A,us,ts,es,ls,lp,hX ts,EM ts lp,_,_,O,rd,fx,fun s6 lk6 H6 b6 r6 agT =>?_⟩
   have Qf:=r6.at_
   have fin:∀ a b,a < ts.length->s6.L a b=aL ts es a b:=fun a b ha=>Yi r6.all qD ok.wC ok.arms ok.lead agT ha
   refine⟨_,O,o,CS,dx,_,_,O,Qf.ins,Z.cS,Z.sr,O,q A.L A.Lr H6 (fun c u e =>?_) Qf.hL Qf.lL (fun a c hc=>⟨?_,?_⟩)⟩
   ·obtain⟨n1,n2⟩:=own c u e
    exact b6 c u n1 (hx.fr c u n2 (fun z=>n1 (.inr (.inr z))) (s4 c u (k3 c u e)))
   ·rw[Qf.rL a c hc]
    have ha:a < ts.length:=by rw[<- Qf.lL];exact(ai.mp hc).1
    unfold ie
    congr 2
    exact iN fun b _=>by rw[fin a b ha]
   ·cases e:H c with
    | none=>rfl
    | some u=>exact absurd (.inl (.inl (ak hc))) (own c u e).1
def gL(c p m:Int):Int:=c % p * 48271 % p % m
theorem lT(c p:Int){m:Int}(h:0 < m):0<=gL c p m:=km _ (by omega)
theorem rg(c p:Int){m:Int}(h:0 < m):gL c p m < m:=sT _ h
inductive Sd(vs:List V)(H:Hp)(Q:VK):Prop
 | mk (c p m:Int) (z0:vs = [.int c,.int p,.int m]) (z1:0 < p) (z2:p < 20000) (z3:0 < m) (z4:Q (.int (gL c p m)) H):Sd vs H Q
def xE:Sp:=fun vs H Q _=>Sd vs H Q
theorem XB(D:Def K mg "_law_draw" IS ee):dQ P w K mg base 1 "_law_draw" ee xE:=by
 refine D.has Xf (fun vs H Q E h =>?_) (fun f cJ A outer s H vs Q E hr h =>?_)
 ·obtain⟨c,f,m,rfl,_⟩:=h;rfl
 obtain⟨c,p,m,rfl,h0,h1,h2,q⟩:=h
 refine⟨_,(aI (cF (eB pQ (eB pQ (eB ZR (eB pQ (pv 0) (pv 1)) aA) (pv 1)) (pv 2)))),?_⟩
 try dsimp only[dR]
 have a0:0<=c % p:=km _ (by omega)
 have a1:c % p < p:=sT _ h0
 exact⟨_,O,_,O,_,_,O,O,h0,_,_,O,O,.inl ⟨by omega,by omega⟩,_,O,_,_,O,O,h0,_,O,_,_,O,O,h2,q⟩
def su(c:Int):Str:=gg "mmmmmmm" none (some (gL c 10007 8))
def AE(c:Int):Int:=gL c 10009 ((su c).length+1)
def fN(c k:Int):Str:=gg (su c) none (some (AE c)) ++ C3 k ++ gg (su c) (some (AE c)) none
theorem slice_le(x:Str)(lo hi:Option Int):(gg x lo hi).length<=x.length:=by
 show (gg x lo hi).cps.size<=x.cps.size
 rw[<- dA,Qd,bW,oQ,dA]
 omega
theorem mm7(c:Int):(su c).length<=7:=bf (slice_le _ _ _) (by decide)
theorem WZ(c:Int):fN c 0≠fN c 1:=fun e=>by
 have e1:(fN c 0).cps.toList=(fN c 1).cps.toList:=by rw[e]
 unfold fN at e1
 generalize gg (su c) none (some (AE c))=a at e1
 generalize gg (su c) (some (AE c)) none=b at e1
 have ap:∀ x y:Str,(x ++ y).cps.toList=x.cps.toList ++ y.cps.toList:=fun x y=>by show (x.cps ++ y.cps).toList=_;exact zV
 rw[ap,ap,ap,ap]at e1
 have e2:=vT e1
 have e3:=wd e2
 exact absurd e3 (by decide +kernel)
inductive R1(vs:List V)(H:Hp)(Q:VK):Prop
 | mk (k c:Int) (z0:vs = [.int k,.int c]) (z4:Q (.str (fN c k)) H):R1 vs H Q
def DI:Sp:=fun vs H Q _=>R1 vs H Q
theorem Xx(B:lK mg)(ed:dQ P w K mg base 1 "_law_draw" ee xE)(D:Def K mg "_law_word" IQ wa7):dQ P w K mg base 2 "_law_word" wa7 DI:=by
 refine D.has Ft (fun vs H Q E h =>?_) (fun f cJ A outer s H vs Q E hr h =>?_)
 ·obtain⟨k,c,rfl,_⟩:=h;rfl
 obtain⟨k,c,rfl,q⟩:=h
 refine⟨_,(av (bz (i:=2) Ft.nd O (aO O) (oK IL fP qV (qU (bp ed hr (by omega) O (ae (pv 1) (ae aA (ae aA aq)))))))
  (av (bz (i:=3) Ft.nd O (aO O) (bp ed hr (by omega) O (ae (pv 1) (ae aA (ae (eB l6 (cL Lf O B.m7 cQ (ae (pv 2) aq)) aA) aq)))))
  (aI (cF (eB DV (eB DV (oK IL (pv 2) qV (qU (pv 3))) (aM aax fP (eB pQ (pv 0) aA))) (oK IL (pv 2) (qU (pv 3)) qV)))))),?_⟩
 try dsimp only[dR]
 have big:(1000:Nat)<=sizeLine:=by decide
 have l7:=mm7 c
 refine⟨_,O,c,10007,8,O,by decide,by decide,by decide,_,O,_,O,(by decide),?_⟩
 dsimp only[bq]
 refine⟨_,O,_,O,_,O,(show (su c).length<=sizeLine by omega),_,_,O,O,c,10009,_,O,by decide,by decide,(show (0:Int) < ((su c).length:Int)+1 by omega),?_⟩
 dsimp only[bq]
 have l1:=slice_le (su c) none (some (AE c))
 have l2:=slice_le (su c) (some (AE c)) none
 have hz:("abcdefghijklmnopqrstuvwxyz" : Str).length<=sizeLine:=by decide +kernel
 refine⟨_,O,_,O,_,O,_,O,(show (su c).length<=sizeLine by omega),_,O,_,_,O,O,n6,_,_,_,O,O,hz,Yj k,_,_,O,O,?_,?_⟩
 ·show (gg (su c) none (some (AE c))).length+(C3 k).length<=sizeLine
  have:(C3 k).length=1:=rfl
  omega
 refine⟨_,O,_,O,_,O,_,O,(show (su c).length<=sizeLine by omega),_,_,O,O,?_,q⟩
 show (gg (su c) none (some (AE c)) ++ C3 k).length+(gg (su c) (some (AE c)) none).length<=sizeLine
 have:(C3 k).length=1:=rfl
 rw[BN]
 omega
def Pg(s:Int)(t:Tm):Prop := ∀ z,t = .name z->∃ k:Int,0<=k∧k < 20∧z=fN s k
inductive R3(vs:List V)(H:Hp)(Q:VK):Prop
 | mk (c s:Int) (fB:Nat) (z0:vs = [.int c,.int s,nV fB]) (z1:0 < fB) (z4:∀ t v H',bJ H H'->oU H' t v->(∀ x as,t = .of x as->as.length<=4∧∀ a∈as,a < fB)->Pg s t->Q v H'):R3 vs H Q
def P5:Sp:=fun vs H Q _=>R3 vs H Q
theorem Xy(B:lK mg)(ed:dQ P w K mg base 1 "_law_draw" ee xE)(ng:dQ P w K mg base 2 "_law_word" wa7 DI)(D:Def K mg "_law_term" DL wa1):dQ P w K mg base 3 "_law_term" wa1 P5:=by
 refine D.has xG (fun vs H Q E h =>?_) (fun f cJ A outer s H vs Q E hr h =>?_)
 ·obtain⟨c,s,fB,rfl,_⟩:=h;rfl
 obtain⟨c,s,fB,rfl,hm,q⟩:=h
 refine⟨_,(av (bz (i:=3) xG.nd O (aO O) (bp ed hr (by omega) O (ae (pv 0) (ae aA (ae aA aq)))))
  (av (dE (cC gA (pv 3) aA (cz _)) (aI (cF (cK (ae fP (ae (bp ng hr (by omega) O (ae (eB l6 aA (bp ed hr (by omega) O (ae (pv 0) (ae aA (ae aA aq))))) (ae (pv 1) aq))) aq))))) cD)
  (av (dE (cC gA (pv 3) aA (cz _)) (av (bz (i:=4) xG.nd O (aO O) (eB pQ (eB xK (pv 0) aA) (eB Jk aA aA)))
  (aI (cF (cK (ae fP (ae (CY (cC gA (bp ed hr (by omega) O (ae (pv 0) (ae aA (ae aA aq)))) aA (cz _)) (pv 4) (DU Aa (pv 4))) aq)))))) cD)
  (av (bz (i:=5) xG.nd O (aO O) (aM bF (cK (ae aA (ae aA (ae aA (ae aA (ae aA (ae aA (ae aA (ae aA aq))))))))) (bp ed hr (by omega) O (ae (pv 0) (ae aA (ae aA aq))))))
  (av (DR (i:=6) xG.nd O O (te:=(Bs _ _ _ (uw _ (uw _ (uw _ yt))))) (own := ["_law_prime"]) (caps := [("_law_cell",0),("_law_many",2)]) (iW (aX DL) ["_law_cell", "_law_seed", "_law_many", "_law_kind", "_law_number", "_law_count", "_law_arms"] O O O (by decide +kernel)) (Jh (cK (ae aA (ae aA (ae aA (ae aA aq)))))) O (fun _ _ _=>bX (i:=0) (show (["_law_prime", "_law_cell", "_law_many"]:List Str).Nodup by decide +kernel) O (aO O)) (fun _ _ _=>(bp ed hr (by omega) O (ae (pv 1) (ae (pv 0) (ae (pv 2) aq))))) O)
  (aI (cF (cK (ae fP (ae (bp ng hr (by omega) O (ae (eB l6 aA (bp ed hr (by omega) O (ae (pv 0) (ae aA (ae aA aq))))) (ae (eB xK (pv 1) aA) aq))) (ae (eP zI O B.PR Cr (ae (oK Fs (pv 6) qV (qU (pv 5))) aq)) aq))))))))))),?_⟩
 try dsimp only[dR]
 refine⟨_,O,c,10067,6,O,by decide,by decide,by decide,?_⟩
 dsimp only[bq]
 refine⟨_,O,O,_,O,iZ (fun _ =>?_) (fun _ =>?_)⟩
 ·have d0:=lT c 10061 (m:=18) (by decide)
  have d1:=rg c 10061 (m:=18) (by decide)
  refine⟨_,O,c,10061,18,O,by decide,by decide,by decide,_,_,O,O,_,O,_,s,O,?_⟩
  exact⟨(show 2<=sizeLine by decide),fun t ht=>q (.name _) _ _ (bo ht _) ⟨t,O,aF⟩ (fun x as e=>nomatch e) fun z e=>⟨_,by omega,by omega,(TM.name.inj e).symm⟩⟩
 refine⟨_,O,O,_,O,iZ (fun _ =>?_) (fun _ =>?_)⟩
 ·refine⟨_,O,_,_,O,O,K6,10,60,O,O,⟨by decide,by decide,by decide⟩,_,_,O,O,(by show (0:Int) < 10 ^ 60;decide),?_⟩
  dsimp only[bq]
  refine⟨_,O,c,10039,2,O,by decide,by decide,by decide,O,_,O,iZ (fun _ =>?_) (fun _ =>?_)⟩
  ·exact⟨_,O,(show 2<=sizeLine by decide),fun t ht=>q (.num _) _ _ (bo ht _) ⟨t,O,aF⟩ (fun x as e=>nomatch e) fun z e=>nomatch e⟩
  ·exact⟨_,O,_,O,(show 2<=sizeLine by decide),fun t ht=>q (.num _) _ _ (bo ht _) ⟨t,O,aF⟩ (fun x as e=>nomatch e) fun z e=>nomatch e⟩
 -- how fB arms
 have r0:=lT c 10069 (m:=8) (by decide)
 have r1:=rg c 10069 (m:=8) (by decide)
 obtain⟨n,hn,n4⟩:∃ n:Nat,uh ([1,1,1,2,2,2,3,4].map V.int) (gL c 10069 8)=some (nV n)∧n<=4:=by
  obtain⟨r,hr,hr8⟩:∃ r:Nat,gL c 10069 8=(r:Int)∧r < 8:=⟨(gL c 10069 8).toNat,by omega,by omega⟩
  rw[hr]
  match r,hr8 with
  | 0,_=>exact⟨1,O,by decide⟩
  | 1,_=>exact⟨1,O,by decide⟩
  | 2,_=>exact⟨1,O,by decide⟩
  | 3,_=>exact⟨2,O,by decide⟩
  | 4,_=>exact⟨2,O,by decide⟩
  | 5,_=>exact⟨2,O,by decide⟩
  | 6,_=>exact⟨3,O,by decide⟩
  | 7,_=>exact⟨4,O,by decide⟩
 refine⟨(show 8<=sizeLine by decide),fun p hp =>?_⟩
 have s1:=bo hp (.tup ([1,1,1,2,2,2,3,4].map V.int))
 have uc:=aF (H:=H) (a:=p) (o := .tup ([1,1,1,2,2,2,3,4].map V.int))
 refine⟨_,O,c,10069,8,O,by decide,by decide,by decide,p,_,_,_,O,O,bM.of uc,hn,?_⟩
 clear hn r0 r1
 dsimp only[bq]
 have s1:bJ H (upd H p (.tup [.int 1,.int 1,.int 1,.int 2,.int 2,.int 2,.int 3,.int 4])):=s1
 clear uc
 generalize upd H p (.tup [.int 1,.int 1,.int 1,.int 2,.int 2,.int 2,.int 3,.int 4])=H1 at s1 ⊢
 -- oY arms
 refine⟨(show 4<=sizeLine by decide),fun p2 pw =>?_⟩
 have s2:=s1.trans (bo pw (.tup [.int 10079,.int 10091,.int 10093,.int 10099]))
 have ua:=aF (H:=H1) (a:=p2) (o := .tup [.int 10079,.int 10091,.int 10093,.int 10099])
 generalize upd H1 p2 (.tup [.int 10079,.int 10091,.int 10093,.int 10099])=H2 at s2 ua ⊢
 refine⟨p2,O,⟨_,bM.of ua⟩,?_⟩
 have dz:∀ pr:Int,((gL c pr fB).toNat:Int)=gL c pr fB:=fun pr=>by have:=lT c pr (m:=fB) (by omega);omega
 refine Hj (ys:=([10079,10091,10093,10099].map fun pr:Int=>(gL c pr fB).toNat).map nV) (bM.of ua) (by decide) (by rfl) (fun i y z hy hz H' sm Q' q' =>?_) (fun D1 H3 kF zw hD =>?_)
 ·obtain⟨pr,e1,e2,e3,e4⟩:∃ pr:Int,y = .int pr∧z=nV (gL c pr fB).toNat∧0 < pr∧pr < 20000:=by
   match i with
   | 0=>exact⟨10079,(aD hy).symm,(aD hz).symm,by decide,by decide⟩
   | 1=>exact⟨10091,(aD hy).symm,(aD hz).symm,by decide,by decide⟩
   | 2=>exact⟨10093,(aD hy).symm,(aD hz).symm,by decide,by decide⟩
   | 3=>exact⟨10099,(aD hy).symm,(aD hz).symm,by decide,by decide⟩
   | j+4=>cases hy
  subst e1 e2
  refine⟨_,O,_,O,_,O,c,pr,fB,O,e3,e4,by omega,?_⟩
  have:=q' _ (bJ.refl H')
  rw[show nV (gL c pr fB).toNat=V.int (gL c pr fB) from congrArg V.int (dz pr)]at this
  exact this
 have s3:=s2.trans zw
 generalize hks:([10079,10091,10093,10099].map fun pr:Int=>(gL c pr fB).toNat)=ks at hD
 have lks:ks.length=4:=by rw[<- hks];rfl
 have D6:∀ k∈ks,k < fB:=fun k hk=>by
  rw[<- hks]at hk
  obtain⟨pr,_,rfl⟩:=bj.mp hk
  have:=rg c pr (m:=fB) (by omega)
  have:=lT c pr (m:=fB) (by omega)
  omega
 dsimp only[bq]
 refine⟨_,O,c,10103,2,O,by decide,by decide,by decide,_,_,O,O,_,O,_,_,O,O,K6,_,_,O,?_⟩
 refine⟨_,O,_,O,_,O,D1,_,O,a9.of hD,fun l hl =>?_⟩
 rw[Np]
 have s4:=s3.trans (bo hl (.lst ((ks.take n).map nV)))
 have hl4:=aF (H:=H3) (a:=l) (o := .lst ((ks.take n).map nV))
 generalize upd H3 l (.lst ((ks.take n).map nV))=H4 at s4 hl4 ⊢
 refine⟨l,_,O,.inl ⟨a9.of hl4,fun tp xQ =>?_⟩⟩
 have s5:=s4.trans (bo xQ (.tup ((ks.take n).map nV)))
 have hl5:=aF (H:=H4) (a:=tp) (o := .tup ((ks.take n).map nV))
 generalize upd H4 tp (.tup ((ks.take n).map nV))=H5 at s5 hl5 ⊢
 refine⟨(show 3<=sizeLine by decide),fun t ht=>q (.of _ (ks.take n)) _ _ (s5.trans (bo ht _)) ⟨t,tp,O,aF,by rw[aE (bQ hl5 ht)];exact hl5⟩ (fun x as e =>?_) fun z e=>nomatch e⟩
 cases e
 exact⟨by rw[bW];omega,fun a ha=>D6 a (zi ha)⟩
def ahV(H:Hp)(v:V)(e:bY):Prop := ∃ q c,v=V.ref q∧H q=some (.tup [nV e.1,nV e.2.1,nV e.2.2,c])
def WI(n:Nat)(e:bY):Prop:=e.1 < n∧e.2.1 < n∧1<=e.2.2
inductive Sb(vs:List V)(H:Hp)(Q:VK):Prop
 | mk (c col:Int) (fB:Nat) (z0:vs = [.int c,nV fB,.int col]) (z1:0 < fB) (z2:fB<=1000) (z3:0 < col) (z4:∀ e v H',bJ H H'->ahV H' v e->WI fB e->Q v H'):Sb vs H Q
def P9:Sp:=fun vs H Q _=>Sb vs H Q
def DZ(a col:Int):Int->Option V:=fun k=>if (k - a) % col=0 then some (.int k) else none
def Bz(a col:Int)(n:Nat):List Nat:=(bA n).filter fun i=>decide (((i:Int) - a) % col=0)
theorem XH(a col:Int)(n:Nat):((bA n).filterMap fun i:Nat=>DZ a col (0+(i:Int)))=(Bz a col n).map nV:=by
 unfold Bz
 generalize bA n=l
 induction l with
 | nil=>rfl
 | cons i l ih =>
  unfold DZ at ih ⊢
  by_cases h:((i:Int) - a) % col=0
  ·rw[List.filterMap_cons_some (b:=V.int i) (by rw[vW,if_pos h]),iJ (p:=fun i:Nat=>decide (((i:Int) - a) % col=0)) (decide_eq_true h),aS,ih]
  ·rw[List.filterMap_cons_none (by rw[vW,if_neg h]),iK (p:=fun i:Nat=>decide (((i:Int) - a) % col=0)) (by rw[decide_eq_false h];decide),ih]
theorem XA(B:lK mg)(ed:dQ P w K mg base 1 "_law_draw" ee xE)(D:Def K mg "_law_edge" DO vc):dQ P w K mg base 2 "_law_edge" vc P9:=by
 refine D.has uL (fun vs H Q E h =>?_) (fun f cJ A outer s H vs Q E hr h =>?_)
 ·obtain⟨c,col,fB,rfl,_⟩:=h;rfl
 obtain⟨c,col,fB,rfl,hm,Kf,aht,q⟩:=h
 refine⟨_,(av (bz (i:=3) uL.nd O (vO O) (bp ed hr (by omega) O (ae (pv 0) (ae aA (ae (pv 1) aq)))))
  (av (B5 (i:=4) uL.nd O O (te:=_) (ct:=(HY (uX _ (uX _ (uX _ _ _) _) _))) (own := ["_law_k"]) (caps := [("_law_colours",2),("_law_a",3)]) (iW (aX DO) ["_law_cell", "_law_many", "_law_colours", "_law_a", "_law_near", "_law_b", "_law_weight"] O O O (by decide +kernel)) (Ay O B.As (ae (pv 1) aq)) O (fun _ _ _=>bX (i:=0) (show (["_law_k", "_law_colours", "_law_a"]:List Str).Nodup by decide +kernel) O (aO O)) (fun _ _ _=>(cC gA (eB pQ (eB ZO (pv 0) (pv 2)) (pv 1)) aA (cz _))) (fun _ _ _=>(pv 0)) O)
  (av (bz (i:=5) uL.nd O (aO O) (aM bG (pv 4) (bp ed hr (by omega) O (ae (pv 0) (ae aA (ae (cL dU O B.m7 cQ (ae (pv 4) aq)) aq))))))
  (av (bz (i:=6) uL.nd O (aO O) (eB l6 aA (bp ed hr (by omega) O (ae (pv 0) (ae aA (ae aA aq))))))
  (av (dE (cC gA (bp ed hr (by omega) O (ae (pv 0) (ae aA (ae aA aq)))) aA (cz _)) (aI (bz (i:=6) uL.nd O (aO O) (eB l6 aA (eB pQ (pv 0) (eB Jk aA aA))))) cD)
  (av (dE (cC gA (bp ed hr (by omega) O (ae (pv 0) (ae aA (ae aA aq)))) aA (cz _)) (aI (cF (cK (ae (pv 3) (ae (pv 5) (ae (pv 6) (ae (cK (ae fP aq)) aq))))))) cD)
  (aI (cF (cK (ae (pv 3) (ae (pv 5) (ae (pv 6) (ae (cK (ae fP (ae fP (ae (cK (ae (cK (ae fP (ae (pv 5) aq))) aq)) aq)))) aq))))))))))))),?_⟩
 try dsimp only[dR]
 have a0:=lT c 10111 (m:=fB) (by omega)
 have a1:=rg c 10111 (m:=fB) (by omega)
 refine⟨_,O,_,O,c,10111,fB,O,by decide,by decide,by omega,?_⟩
 dsimp only[bq]
 obtain⟨a,ea,AW⟩:∃ a:Nat,gL c 10111 fB=(a:Int)∧a < fB:=⟨(gL c 10111 fB).toNat,by omega,by omega⟩
 rw[ea]
 refine⟨_,O,_,O,by omega,by omega,?_⟩
 rw[cn]
 refine Cq (lo:=0) (DZ (a:Int) col) (by omega) (fun i hi H' sm R r =>?_) (fun i v hi hv H' sm Q' q' =>?_) fun D1 kF =>?_
 ·refine⟨_,O,_,O,_,_,O,O,_,O,_,_,O,O,aht,O,_,O,?_⟩
  unfold DZ at r
  by_cases h1:(0+(i:Int) - (a:Int)) % col=0
  ·rw[if_pos h1]at r
   rw[decide_eq_true (congrArg V.int h1)]
   exact r
  ·rw[if_neg h1]at r
   rw[decide_eq_false (fun z=>h1 (V.int.inj z))]
   exact r
 ·unfold DZ at hv
  split at hv
  ·cases hv
   exact⟨_,O,q'⟩
  ·cases hv
 rw[XH]
 obtain⟨H1,eH,s1,hD⟩:=alloc kF (.lst ((Bz (a:Int) col fB).map nV))
 rw[eH]
 have am:a∈Bz (a:Int) col fB:=gC.mpr ⟨cI.mpr AW,decide_eq_true (by rw[Int.sub_self];exact Int.zero_emod _)⟩
 have VA:∀ k∈Bz (a:Int) col fB,k < fB:=fun k hk=>cI.mp (gC.mp hk).1
 generalize Bz (a:Int) col fB=nl at hD am VA
 have alz:=oB am
 have b0:=lT c 10133 (m:=nl.length) (by omega)
 have b1:=rg c 10133 (m:=nl.length) (by omega)
 obtain⟨j,ej,hj⟩:∃ j:Nat,gL c 10133 nl.length=(j:Int)∧j < nl.length:=⟨(gL c 10133 nl.length).toNat,by omega,by omega⟩
 have hbj:nl[j]? = some nl[j]:=aj hj
 have AV:=VA nl[j] (jO hj)
 generalize nl[j]=b at hbj AV
 dsimp only[bq]
 have sM:uh (nl.map nV) (gL c 10133 ((nl.map nV).length:Int))=some (nV b):=by rw[az,ej];exact oG hbj
 refine⟨_,O,_,O,_,O,D1,_,O,.inl (a9.of hD),c,10133,_,O,by decide,by decide,(by rw[az];omega),D1,_,_,_,O,O,a9.of hD,sM,?_⟩
 dsimp only[bq]
 have w0:=lT c 10139 (m:=6) (by decide)
 refine⟨_,O,c,10139,6,O,by decide,by decide,by decide,_,_,O,O,?_⟩
 dsimp only[bq]
 refine mZ (fun bw H4=>∃ wt:Nat,1<=wt∧H4=H1 ∧ bw = [some (.int c),some (nV fB),some (.int col),some (nV a),some (.ref D1),some (nV b),some (nV wt)]) ?_ (fun key =>?_)
 rotate_left
 ·refine⟨_,O,c,10141,3,O,by decide,by decide,by decide,O,_,O,iZ (fun _ =>?_) (fun _ =>?_)⟩
  ·refine⟨_,O,10,12,O,O,⟨by decide,by decide,by decide⟩,_,_,O,O,(by show (0:Int) < 10 ^ 12;decide),_,_,O,O,key _ _ ⟨(1+c % 10 ^ 12).toNat,?_,O,?_⟩⟩
   ·have:0<=c % 10 ^ 12:=km _ (by decide)
    omega
   ·have z:0<=c % 10 ^ 12:=km _ (by decide)
    have:V.int (1+c % 10 ^ 12)=nV (1+c % 10 ^ 12).toNat:=congrArg V.int (by omega)
    rw[<- this];rfl
  ·refine key _ _ ⟨(1+gL c 10139 6).toNat,by omega,O,?_⟩
   have:V.int (1+gL c 10139 6)=nV (1+gL c 10139 6).toNat:=congrArg V.int (by omega)
   rw[<- this];rfl
 rintro bw H4 ⟨wt,hwt,rfl,rfl⟩
 refine⟨_,O,c,10151,2,O,by decide,by decide,by decide,O,_,O,iZ (fun _ =>?_) (fun _ =>?_)⟩
 ·refine⟨_,O,_,O,_,O,(show 1<=sizeLine by decide),fun q1 Eh=>⟨(show 4<=sizeLine by decide),fun t1 sD =>?_⟩⟩
  exact q (a,b,wt) _ _ (s1.trans ((bo Eh _).trans (bo sD _))) ⟨t1,.ref q1,O,aF⟩ ⟨AW,AV,hwt⟩
 ·refine⟨_,O,_,O,_,O,_,O,(show 2<=sizeLine by decide),fun q1 Eh=>⟨(show 1<=sizeLine by decide),fun q2 JZ=>⟨(show 3<=sizeLine by decide),fun q3 hq3=>⟨(show 4<=sizeLine by decide),fun t1 sD =>?_⟩⟩⟩⟩
  exact q (a,b,wt) _ _ (s1.trans ((bo Eh _).trans ((bo JZ _).trans ((bo hq3 _).trans (bo sD _))))) ⟨t1,.ref q3,O,aF⟩ ⟨AW,AV,hwt⟩
theorem Zn{t:TE}{Y:St}{H:Hp}{Q:VK}(R:V->Hp->Prop)(h1:∀ Q':VK,(∀ v H',R v H'->Q' v H')->t Y H Q')(h2:∀ v H',R v H'->Q v H'):t Y H Q:=h1 _ h2
structure lZ(ts:List Tm)(es:List bY):Prop where
 two:2<=ts.length
 dG:ts.length<=30
 i6:ts.Nodup
 arms:rJ ts
 oZ:∀ (i:Nat) x as,ts[i]? = some (.of x as)->as.length<=4
 wC:∀ e∈es,WI ts.length e
theorem lZ.dH{ts:List Tm}{es:List bY}(g:lZ ts es){e:bY}(h:WI ts.length e):lZ ts (es ++ [e]) :=
 ⟨g.two,g.dG,g.i6,g.arms,g.oZ,fun x hx=>by
  rcases au.mp hx with z | z
  ·exact g.wC x z
  ·rw[ax.mp z];exact h⟩
theorem Fq{α : Type}{l:List α}{x y : α}{i:Nat}(h:(l ++ [x])[i]? = some y):l[i]? = some y∨(i=l.length∧y=x):=by
 by_cases hi:i < l.length
 ·rw[eL hi]at h;exact .inl h
 ·have hl:=(ai.mp h).1
  rw[aG,cX]at hl
  have e:i=l.length:=by omega
  subst e
  rw[lJ]at h
  exact .inr ⟨O,(aD h).symm⟩
theorem lZ.term{ts:List Tm}{es:List bY}(g:lZ ts es){t:Tm}(hf:ts.length < 30)(hn:t ∉ ts)(ht:∀ x as,t = .of x as->as.length<=4∧∀ a∈as,a < ts.length):lZ (ts ++ [t]) es:=by
 have hl:(ts ++ [t]).length=ts.length+1:=by rw[aG];rfl
 refine⟨by rw[hl];have:=g.two;omega,by rw[hl];omega,?_,?_,?_,fun e he =>?_⟩
 ·rw[eR]
  exact⟨g.i6,bI.mpr ⟨cM,c6⟩,fun x hx y hy e=>hn (by rw[<- ax.mp hy, <- e];exact hx)⟩
 ·intro i x as e a ha
  rcases Fq e with e1 | ⟨e0,e1⟩
  ·exact g.arms i x as e1 a ha
  ·rw[e0];exact(ht x as e1.symm).2 a ha
 ·intro i x as e
  rcases Fq e with e1 | ⟨e0,e1⟩
  ·exact g.oZ i x as e1
  ·exact(ht x as e1.symm).1
 ·obtain⟨h1,h2,h3⟩:=g.wC e he
  exact⟨by rw[hl];omega,by rw[hl];omega,h3⟩
inductive Nx(K:ao)(vs:List V)(H:Hp)(Q:VK):Prop
 | mk (S:Addr) (ns:List Int) (most:Int) (z0:vs = [.ref S,.int most]) (z1:a9 K H S (ns.map V.int)) (z2:ns.length<=63) (z3:most<=30)
  (z4:∀ M T E us ev ts es H',bJ H H'->H' M=some (.tup [.ref T,.ref E])->H' T=some (.lst us)->lH H' us ts->H' E=some (.lst ev)->qf H' ev es->lZ ts es->es.length<=63->(∀ t∈ts,Pg (ns.headD 0) t)->(ts.length:Int)<=max 2 most->T≠E->Q (.ref M) H'):Nx K vs H Q
def Mj(K:ao):Sp:=fun vs H Q _=>Nx K vs H Q
inductive StI(H:Hp)(S T E sl:Addr)(most S6:Int)(cs:List V)(i:Nat)(Y:St)(H':Hp):Prop
 | mk (us ev:List V) (ts:List Tm) (es:List bY) (x5 x6:Option V):(Y = [some (.ref S),some (.int most),some (.int S6),some (.ref T),some (.ref E),x5,x6])->bJ H H'->H' sl=some (.lst cs)->H' T=some (.lst us)->H' E=some (.lst ev)->lH H' us ts->qf H' ev es->lZ ts es->es.length<=i->(∀ t∈ts,Pg S6 t)->(ts.length:Int)<=max 2 most->StI H S T E sl most S6 cs i Y H'
theorem fZ{H H':Hp}{vs:List V}{l:List bY}(h:qf H vs l)(k:∀ c ys,H c=some (.tup ys)->H' c=some (.tup ys)):qf H' vs l:=Paired.xj h fun _ _ ⟨q,c,e,hq⟩=>⟨q,c,e,k _ _ hq⟩
theorem TC(B:lK mg)(ed:dQ P w K mg base 1 "_law_draw" ee xE)(ng:dQ P w K mg base 2 "_law_word" wa7 DI)(Kt:dQ P w K mg base 3 "_law_term" wa1 P5)(Kv:dQ P w K mg base 2 "_law_edge" vc P9)(D:Def K mg "_law_stuff" Fw wa8):dQ P w K mg base 4 "_law_stuff" wa8 (Mj K):=by
 refine D.has qO (fun vs H Q E h =>?_) (fun f cJ A outer s H vs Q E hr h =>?_)
 ·obtain⟨S,ns,most,rfl,_⟩:=h;rfl
 obtain⟨S,ns,most,rfl,hS,h63,ali,q⟩:=h
 refine⟨_,(av (bz (i:=2) qO.nd O (aO O) (CY (cC Vu (cL dU O B.m7 cQ (ae (pv 0) aq)) aA (cz _)) (aM bG (pv 0) aA) aA))
  (av (bz (i:=3) qO.nd O (aO O) (j8 (ae (cK (ae fP (ae (bp ng hr (by omega) O (ae aA (ae (pv 2) aq))) aq))) (ae (cK (ae fP (ae (bp ng hr (by omega) O (ae aA (ae (pv 2) aq))) aq))) aq))))
  (av (bz (i:=4) qO.nd O (aO O) (j8 aq))
  (av (fA cq O (fU (oK Fs (pv 0) (qU aA) qV)) (bX (i:=5) qO.nd O (aO O))
  (aI (dE (cC gA (bp ed hr (by omega) O (ae (pv 5) (ae aA (ae aA aq)))) aA (cz _)) (aI (dt (kG bE bV bU fJ (pv 4) (ae (bp Kv hr (by omega) O (ae (pv 5) (ae (cL dU O B.m7 cQ (ae (pv 3) aq)) (ae (eB l6 aA (bp ed hr (by omega) O (ae (pv 2) (ae aA (ae aA aq))))) aq)))) aq)))) (aI (dE (cC By (cL dU O B.m7 cQ (ae (pv 3) aq)) (pv 1) (cz _)) (av (bz (i:=6) qO.nd O (aO O) (bp Kt hr (by omega) O (ae (pv 5) (ae (pv 2) (ae (cL dU O B.m7 cQ (ae (pv 3) aq)) aq)))))
  (aI (dE (cC (Qu (U9 hr)) (pv 6) (pv 3) (by with_unfolding_all rfl)) (aI (dt (kG bE bV bU fJ (pv 3) (ae (pv 6) aq)))) cD))) cD)))))
  (aI (cF (cK (ae (pv 3) (ae (pv 4) aq))))))))),?_⟩
 try dsimp only[dR]
 refine Zn (t:=YQ _ _ _) (fun v H'=>H'=H∧v = .int (ns.headD 0)) (fun Q' q' =>?_) ?_
 ·refine⟨_,O,S,_,O,.inl hS,_,_,O,O,_,O,iZ (fun h =>?_) (fun h =>?_)⟩
  rotate_left
  ·rw[az]at h
   have e0:ns = []:=iI.mp (by omega)
   subst e0
   exact q' _ _ ⟨O,O⟩
  rw[az]at h
  obtain⟨c,hc⟩:∃ c,ns[0]? = some c:=⟨_,aj (by omega)⟩
  exact⟨_,O,S,_,_,_,O,O,hS,aY (j:=0) (by rw[aK,hc];rfl),q' _ _ ⟨O,by cases ns with | nil=>cases hc | cons x l=>cases hc;rfl⟩⟩
 rintro v H' ⟨rfl,rfl⟩
 generalize ns.headD 0=sd at q ⊢
 dsimp only[bq]
 -- oY first two
 refine⟨_,O,0,sd,O,(show 2<=sizeLine by decide),fun p1 uc =>?_⟩
 have s1:=bo uc (.tup [.str "name",.str (fN sd 0)])
 have h1:=aF (H:=H') (a:=p1) (o := .tup [.str "name",.str (fN sd 0)])
 generalize upd H' p1 (.tup [.str "name",.str (fN sd 0)])=H1 at s1 h1 ⊢
 refine⟨_,O,1,sd,O,(show 2<=sizeLine by decide),fun p2 pw =>?_⟩
 obtain⟨H2,eH,s2,h2⟩:=alloc pw (.tup [.str "name",.str (fN sd 1)])
 rw[eH]
 refine⟨(show 2<=sizeLine by decide),fun T hT =>?_⟩
 obtain⟨H3,eH,s3,h3⟩:=alloc hT (.lst [.ref p1,.ref p2])
 rw[eH]
 dsimp only[bq]
 refine⟨(show 0<=sizeLine by decide),fun Ed hEd =>?_⟩
 have s4:=bo hEd (.lst [])
 have h4:=aF (H:=H3) (a:=Ed) (o := .lst [])
 have hTE:T≠Ed:=bQ h3 hEd
 generalize upd H3 Ed (.lst [])=H4 at s4 h4 ⊢
 dsimp only[bq]
 have hS4:=(s1.trans (s2.trans (s3.trans s4))).seq hS
 refine⟨_,O,_,O,S,_,O,hS4,fun sl QX =>?_⟩
 have ahy:T≠sl:=bQ (s4 _ _ h3) QX
 have ahK:Ed≠sl:=bQ h4 QX
 obtain⟨cs,ecs,lcs⟩:∃ cs:List Int,rj (ns.map V.int) (some 1) none=cs.map V.int∧cs.length<=63:=by
  refine⟨((ns.drop (HT.c7 ns.length 0 (some 1))).take (HT.c7 ns.length ns.length none - HT.c7 ns.length 0 (some 1))),?_,?_⟩
  ·unfold rj
   rw[az, <- List.map_drop, <- List.map_take]
  ·rw[bW,oQ];omega
 rw[ecs]
 obtain⟨H5,eH,s5,h5⟩:=alloc QX (.lst (cs.map V.int))
 rw[eH]
 have sm:bJ H' H5:=s1.trans (s2.trans (s3.trans (s4.trans s5)))
 have hT0:H' T=none:=(s1.trans s2).free hT
 have hE0:H' Ed=none:=(s1.trans (s2.trans s3)).free hEd
 have tw:lH H5 [.ref p1,.ref p2] [.name (fN sd 0),.name (fN sd 1)] := .cons ⟨p1,O,s5 _ _ (s4 _ _ (s3 _ _ (s2 _ _ h1)))⟩ (.cons ⟨p2,O,s5 _ _ (s4 _ _ (s3 _ _ h2))⟩ .nil)
 have g0:lZ [.name (fN sd 0),.name (fN sd 1)] []:=by
  refine⟨ar _,(show 2<=30 by decide),?_,?_,?_,fun e he=>nomatch he⟩
  ·refine bI.mpr ⟨fun z =>?_,bI.mpr ⟨cM,c6⟩⟩
   have:=ax.mp z
   injection this with z
   exact WZ sd z
  ·intro i x as e
   match i with
   | 0=>cases e
   | 1=>cases e
   | j+2=>cases e
  ·intro i x as e
   match i with
   | 0=>cases e
   | 1=>cases e
   | j+2=>cases e
 have n0:∀ t∈([.name (fN sd 0),.name (fN sd 1)]:List Tm),Pg sd t:=fun t ht z e=>by
  rcases aW.mp ht with y | y
  ·rw[y]at e;exact⟨0,by decide,by decide,(TM.name.inj e).symm⟩
  ·rw[ax.mp y]at e;exact⟨1,by decide,by decide,(TM.name.inj e).symm⟩
 refine⟨sl,O,⟨_,a9.of h5⟩,?_⟩
 refine gR (xs:=cs.map V.int) (StI H' S T Ed sl most sd (cs.map V.int)) ⟨_,_,_,_,none,none,O,sm,h5,s5 _ _ (s4 _ _ h3),s5 _ _ h4,tw,.nil,g0,ar _,n0,by show (2:Int)<=_;omega⟩ ?_ ?_ ?_
 ·rintro i Y Hc _ ⟨us,ev,ts,es,x5,x6,rfl,sm,h1,_⟩
  exact a9.of h1
 ·rintro i x Y Hc hx ⟨us,ev,ts,es,x5,x6,rfl,sm,JV,G6,KG,wA,xP,go,el,nm,mx⟩
  obtain⟨c,rfl⟩:∃ c,x = .int c:=by
   rw[aK]at hx
   obtain⟨c,_,e⟩:=cP.mp hx
   exact⟨c,e.symm⟩
  have hi:=(ai.mp hx).1
  rw[az]at hi
  have lu:=aV wA
  have le:=aV xP
  have tw:=go.two
  have fw:=go.dG
  dsimp only[bq]
  refine⟨_,O,c,10159,_,O,by decide,by decide,by decide,O,_,O,iZ (fun _ =>?_) (fun _ =>?_)⟩
  ·have c0:=lT sd 10163 (m:=3) (by decide)
   refine⟨_,O,.inl ⟨O,_,a9.of KG⟩,_,O,_,O,T,us,O,.inl (a9.of G6),_,O,sd,10163,3,O,by decide,by decide,by decide,_,_,O,O,c,_,us.length,O,by omega,by omega,by omega,fun e v H6 s6 he MQ =>?_⟩
   have hE6:=s6 _ _ KG
   have kt:∀ d ys,H6 d=some (.tup ys)->(upd H6 Ed (.lst (ev ++ [v]))) d=some (.tup ys):=fun d ys e=>by rw[aE (aZ e hE6 nofun)];exact e
   obtain⟨qe,ce,ev1,VV⟩:=he
   refine⟨Ed,_,_,O,O,hE6,cU (by omega),⟨us,ev ++ [v],ts,es ++ [e],_,_,O,(sm.trans s6).put hE0,by rw[aE (cm ahK)];exact s6 _ _ JV,by rw[aE hTE];exact s6 _ _ G6,aF,mR kt (gb s6 wA),?_,go.dH (by rw[<- lu];exact MQ),by rw[aG];exact Dl el,nm,mx⟩⟩
   exact fQ (fZ (fZ xP fun d ys e=>s6 _ _ e) kt) (.cons ⟨qe,ce,ev1,kt _ _ VV⟩ .nil)
  ·refine⟨_,O,T,us,O,.inl (a9.of G6),_,O,_,_,O,O,_,O,iZ (fun cW =>?_) (fun _ =>?_)⟩
   ·refine⟨_,O,_,O,_,O,T,us,O,.inl (a9.of G6),c,sd,us.length,O,by omega,fun t v H6 s6 hv hta hnm =>?_⟩
    dsimp only[bq]
    have Kx:=s6 _ _ G6
    have Ug:=gb s6 wA
    refine⟨_,O,_,O,_,_,hv.den,.inl (by rw[Den];exact⟨T,us,O,Kx,W2 Ug⟩),bf (Iu ts) (by decide),_,O,?_⟩
    by_cases hm:zu t∈ts.map zu
    ·rw[decide_eq_true hm]
     exact iF ⟨us,ev,ts,es,_,_,O,sm.trans s6,s6 _ _ JV,Kx,s6 _ _ KG,Ug,fZ xP fun d ys e=>s6 _ _ e,go,by omega,nm,mx⟩
    ·rw[decide_eq_false hm]
     have kt:∀ d ys,H6 d=some (.tup ys)->(upd H6 T (.lst (us ++ [v]))) d=some (.tup ys):=fun d ys e=>by rw[aE (aZ e Kx nofun)];exact e
     refine oM ⟨_,O,.inl ⟨O,_,a9.of Kx⟩,_,O,T,us,v,O,O,Kx,cU (by omega),⟨us ++ [v],ev,ts ++ [t],es,_,_,O,(sm.trans s6).put hT0,by rw[aE (cm ahy)];exact s6 _ _ JV,aF,by rw[aE (cm hTE)];exact s6 _ _ KG,Ir (mR kt Ug) (hv.keep kt),fZ (fZ xP fun d ys e=>s6 _ _ e) kt,go.term (by omega) (fun z=>hm (bj.mpr ⟨t,z,O⟩)) (by rw[<- lu];exact hta),by omega,fun t' Ef =>?_,?_⟩⟩
     ·rcases au.mp Ef with y | y
      ·exact nm t' y
      ·rw[ax.mp y];exact hnm
     ·rw[aG,cX];omega
   ·exact⟨us,ev,ts,es,_,_,O,sm,JV,G6,KG,wA,xP,go,by omega,nm,mx⟩
 ·rintro Y Hc ⟨us,ev,ts,es,x5,x6,rfl,sm,JV,G6,KG,wA,xP,go,el,nm,mx⟩
  rw[az]at el
  refine⟨_,O,_,O,(show 2<=sizeLine by decide),fun M hM =>?_⟩
  have s9:=bo hM (.tup [.ref T,.ref Ed])
  exact q M T Ed us ev ts es _ (sm.trans s9) aF (s9 _ _ G6) (gb s9 wA) (s9 _ _ KG) (fZ xP fun d ys e=>s9 _ _ e) go (by omega) nm mx hTE
theorem pH{n:Nat}(h:n<=100000):n < sizeLine:=gh h (by decide)
structure oA(H:Hp)(R:Addr)(rows:List Addr)(n:Nat)(M:Mx):Prop where
 at_:H R=some (.lst (rows.map V.ref))
 len:rows.length=n
 row:∀ (a:Nat) (c:Addr),rows[a]? = some c->H c=some (.lst (ie M n a))
theorem oA.same{H H':Hp}{R:Addr}{rows:List Addr}{n:Nat}{M:Mx}(h:oA H R rows n M)(sm:bJ H H'):oA H' R rows n M:=⟨sm _ _ h.at_,h.len,fun a c e=>sm _ _ (h.row a c e)⟩
theorem oA.ix{H:Hp}{R:Addr}{rows:List Addr}{n:Nat}{M:Mx}(r:oA H R rows n M){x:Nat}(hx:x < n):∃ c,rows[x]? = some c∧a9 K H c (ie M n x):=⟨_,aj (by rw[r.len];exact hx),a9.of (r.row x _ (aj (by rw[r.len];exact hx)))⟩
def SY:eg->List V
 | (a,b,some p) => [.str "edge",nV a,nV b,nV p]
 | (a,b,none) => [.str "like",nV a,nV b]
abbrev uE(H:Hp):List V->List eg->Prop:=Paired fun v s=>∃ q,v=V.ref q∧H q=some (.tup (SY s))
theorem jf{H H':Hp}{vs:List V}{l:List eg}(h:uE H vs l)(k:∀ c ys,H c=some (.tup ys)->H' c=some (.tup ys)):uE H' vs l:=Paired.xj h fun _ _ ⟨q,e,hq⟩=>⟨q,e,k _ _ hq⟩
structure LstAt(H:Hp)(S:Addr)(Sr:List Addr)(n:Nat)(F:Nat->List eg):Prop where
 at_:H S=some (.lst (Sr.map V.ref))
 len:Sr.length=n
 i6:Sr.Nodup
 nS:S ∉ Sr
 row:∀ (c:Nat) (r:Addr),Sr[c]? = some r->∃ vs,H r=some (.lst vs)∧uE H vs (F c)
section
variable {H H':Hp}{S:Addr}{Sr:List Addr}{n:Nat}{F:Nat->List eg}
theorem LstAt.same(h:LstAt H S Sr n F)(sm:bJ H H'):LstAt H' S Sr n F :=
 ⟨sm _ _ h.at_,h.len,h.i6,h.nS,fun c r e=>by obtain⟨vs,h1,h2⟩:=h.row c r e;exact⟨vs,sm _ _ h1,jf h2 fun c ys e=>sm _ _ e⟩⟩
theorem LstAt.add(h:LstAt H S Sr n F){c:Nat}{r:Addr}(hc:Sr[c]? = some r){vs:List V}(hr:H r=some (.lst vs)){q:Addr}{s:eg}(hq:H q=some (.tup (SY s))) :
  LstAt (upd H r (.lst (vs ++ [.ref q]))) S Sr n fun x=>if x=c then F c ++ [s] else F x:=by
 have hm:=ak hc
 have nS:S≠r:=fun z=>h.nS (by rw[z];exact hm)
 have kt:∀ d ys,H d=some (.tup ys)->(upd H r (.lst (vs ++ [.ref q]))) d=some (.tup ys):=fun d ys e=>by rw[aE (aZ e hr nofun)];exact e
 refine⟨by rw[aE nS];exact h.at_,h.len,h.i6,h.nS,fun d r' hd =>?_⟩
 by_cases e:d=c
 ·subst e
  rw[hc]at hd
  cases hd
  obtain⟨jk,h1,h2⟩:=h.row d r hc
  rw[hr]at h1
  cases h1
  exact⟨_,aF,by rw[if_pos rfl];exact fQ (jf h2 kt) (.cons ⟨q,O,kt _ _ hq⟩ .nil)⟩
 ·obtain⟨jk,h1,h2⟩:=h.row d r' hd
  exact⟨jk,by rw[aE (EN h.i6 hd hc e)];exact h1,by rw[if_neg e];exact jf h2 kt⟩
end
theorem Hs(l:List eg)(t:eg):(fun x=>if x=t.2.1 then (if t.2.1=t.1 then both l t.1 ++ [t] else both l t.2.1) ++ [(t.2.1,t.1,t.2.2)] else if x=t.1 then both l t.1 ++ [t] else both l x)=both (l ++ [t]):=by
 funext x
 have e:both (l ++ [t]) x=both l x ++ ((if t.1=x then [t] else []) ++ (if t.2.1=x then [(t.2.1,t.1,t.2.2)] else [])):=by
  unfold both
  rw[dY,iX]
 rw[e]
 by_cases h1:x=t.2.1
 ·have k1:t.2.1=x:=h1.symm
  rw[if_pos h1,if_pos k1]
  by_cases h2:t.2.1=t.1
  ·have k2:t.1=x:=h2.symm.trans k1
   rw[if_pos h2,if_pos k2,h1,h2,kN]
  ·have k2:¬ t.1=x:=fun z=>h2 (k1.trans z.symm)
   rw[if_neg h2,if_neg k2,h1,qo]
 ·have k1:¬ t.2.1=x:=fun z=>h1 z.symm
  rw[if_neg h1,if_neg k1]
  by_cases h2:x=t.1
  ·have k2:t.1=x:=h2.symm
   rw[if_pos h2,if_pos k2,h2,dw]
  ·have k2:¬ t.1=x:=fun z=>h2 z.symm
   rw[if_neg h2,if_neg k2,dw,dw]
theorem zd(l:List eg)(c:Nat):(both l c).length<=2 * l.length:=by
 unfold both
 induction l with
 | nil=>exact ar _
 | cons t l ih =>
  rw[uq,aG,aG,bO]
  have a1:(if t.1=c then [t] else []).length<=1:=by split;exact ar _;exact bx _
  have a2:(if t.2.1=c then [(t.2.1,t.1,t.2.2)] else []).length<=1:=by split;exact ar _;exact bx _
  omega
theorem UG{M:Mx}{es:List bY}{i:Nat}{e:bY}(h:es[i]? = some e):sP M es (i+1)=sP M es i ++ (if M e.1 e.2.1=some e.2.2 then [(e.1,e.2.1,some i)] else []):=by
 unfold sP
 rw[kf,dY,iX]
 congr 1
 unfold BI
 rw[h]
theorem F6{M:Mx}{es:List bY}:∀ i,(sP M es i).length<=i
 | 0=>ar _
 | i+1=>by
  have ih:=F6 (M:=M) (es:=es) i
  unfold sP at ih ⊢
  rw[kf,dY,iX,aG]
  have:(BI M es i).length<=1:=by
   unfold BI
   split
   ·split
    ·exact ar _
    ·exact bx _
   ·exact bx _
  omega
theorem T5{ts:List Tm}{M:Mx}{l:List (Nat × Nat)}{p:Nat × Nat}:zB ts M (l ++ [p])=zB ts M l ++ (if M p.1 p.2=some (cx ts M p.1 p.2) then [(p.1,p.2,none)] else []):=by
 unfold zB
 rw[dY,iX]
theorem MK{ts:List Tm}{M:Mx}:∀ l:List (Nat × Nat),(zB ts M l).length<=l.length
 | []=>ar _
 | p :: l=>by
  have ih:=MK (ts:=ts) (M:=M) l
  unfold zB at ih ⊢
  rw[uq,aG,bO]
  have:(if M p.1 p.2=some (cx ts M p.1 p.2) then [((p.1,p.2,none):eg)] else []).length<=1:=by split;exact ar _;exact bx _
  omega
def Il(ts:List Tm)(es:List bY)(ls:List Nat):Prop := ∀ a b,a < ts.length->b < ts.length->ls.getD a 0=ls.getD b 0->∃ k,aL ts es a b=some k
inductive acM(vs:List V)(H:Hp)(Q:VK):Prop
 | mk (T L Ed R:Addr) (us:List V) (ts:List Tm) (ls:List Nat) (ev:List V) (es:List bY) (rows:List Addr) (z0:vs = [.ref T,.ref L,.ref Ed,.ref R]) (z1:H T=some (.lst us)) (z2:lH H us ts) (z3:H L=some (.lst (ls.map nV))) (z4:H Ed=some (.lst ev)) (z5:qf H ev es) (z6:rX ts es ls) (z7:Il ts es ls) (z8:es.length<=1000) (z9:oA H R rows ts.length (aL ts es))
  (BZ:∀ (S:Addr) (Sr:List Addr) (lp:List (Nat × Nat)) (H':Hp),bJ H H'->LstAt H' S Sr ts.length (both (xD ts es lp))->LP ts ls lp (hX ts)->LN ts es lp->(∀ c∈Sr,H c=none)->Q (.ref S) H'):acM vs H Q
def Y3:Sp:=fun vs H Q _=>acM vs H Q
inductive LsA(H:Hp)(G:St)(S:Addr)(Sr:List Addr)(ts:List Tm)(es:List bY)(i:Nat)(Y:St)(H':Hp):Prop
 | mk (x5 x6 x7 x8:Option V):(Y = G ++ [x5,x6,x7,x8])->bJ H H'->LstAt H' S Sr ts.length (both (sP (aL ts es) es i))->LsA H G S Sr ts es i Y H'
inductive LsB(H:Hp)(G:St)(S:Addr)(Sr:List Addr)(ts:List Tm)(es:List bY)(lp:List (Nat × Nat))(i:Nat)(Y:St)(H':Hp):Prop
 | mk (x5 x6 x7 x8:Option V):(Y = G ++ [x5,x6,x7,x8])->bJ H H'->LstAt H' S Sr ts.length (both (sP (aL ts es) es es.length ++ zB ts (aL ts es) (lp.take i)))->LsB H G S Sr ts es lp i Y H'
theorem FL(B:lK mg)(lz:dQ P w K mg base 2 "like_pairs" wa0 II)(j0:dQ P w K mg base 2 "like_length" wa6 S3)(D:Def K mg "least_steps" oF wa2):dQ P w K mg base 3 "least_steps" wa2 Y3:=by
 refine D.has gX (fun vs H Q E h =>?_) (fun f cJ A outer s H vs Q E hr h =>?_)
 ·obtain⟨T,L,Ed,R,us,ts,ls,ev,es,rows,rfl,_⟩:=h;rfl
 obtain⟨T,L,Ed,R,us,ts,ls,ev,es,rows,rfl,hT,i7,hL,hE,jo,ok,ld,dG,rB,q⟩:=h
 refine⟨_,(av (DR (i:=4) gX.nd O O (te:=_) (own := ["term"]) (caps := []) (iW (aX oF) ["terms", "leads", "edges", "least", "steps", "place", "edge", "a", "b"] O O O (by decide +kernel)) (fU (pv 0)) O (fun _ _ _=>bX (i:=0) (show (["term"]:List Str).Nodup by decide +kernel) O (aO O)) (fun _ _ _=>(j8 aq)) O)
  (av (fA cq O (Bx O B.uB (ae (pv 2) aq)) (m5 O (et (bX (i:=5) gX.nd O (aO O)) (et (bX (i:=6) gX.nd O (aO O)) kX)))
  (av (bz (i:=7) gX.nd O (aO O) (aM bF (pv 6) aA))
  (av (bz (i:=8) gX.nd O (aO O) (aM bF (pv 6) aA))
  (aI (dE (cC gA (aM bF (pv 6) aA) (aM bG (aM bG (pv 3) (pv 7)) (pv 8)) (cz _)) (av (dt (kG bE bV bU fJ (aM bG (pv 4) (pv 7)) (ae (cK (ae fP (ae (pv 7) (ae (pv 8) (ae (pv 5) aq))))) aq)))
  (aI (dt (kG bE bV bU fJ (aM bG (pv 4) (pv 8)) (ae (cK (ae fP (ae (pv 8) (ae (pv 7) (ae (pv 5) aq))))) aq))))) cD)))))
  (av (fA cq O (fU (bp lz hr (by omega) O (ae (pv 0) (ae (pv 1) aq)))) (m5 O (et (bX (i:=7) gX.nd O (aO O)) (et (bX (i:=8) gX.nd O (aO O)) kX)))
  (aI (dE (cC gA (bp j0 hr (by omega) O (ae (pv 0) (ae (pv 3) (ae (pv 7) (ae (pv 8) aq))))) (aM bG (aM bG (pv 3) (pv 7)) (pv 8)) (cz _)) (av (dt (kG bE bV bU fJ (aM bG (pv 4) (pv 7)) (ae (cK (ae fP (ae (pv 7) (ae (pv 8) aq)))) aq)))
  (aI (dt (kG bE bV bU fJ (aM bG (pv 4) (pv 8)) (ae (cK (ae fP (ae (pv 8) (ae (pv 7) aq)))) aq))))) cD)))
  (aI (cF (pv 4)))))),?_⟩
 try dsimp only[dR]
 have wz:=aV i7
 have alm:=ok.dG
 have evl:ev.length=es.length:=aV jo
 refine⟨_,O,T,O,⟨_,a9.of hT⟩,?_⟩
 refine zc (K:=K) (xs:=us) (.lst []) (a9.of hT) (by omega) (fun x hx H' sm Q' q'=>⟨(show 0<=sizeLine by decide),fun p hp=>q' p _ hp (bo hp _) aF⟩) (fun S H1 Sr hS0 s1 hS1 lSr Z8 zE =>?_)
 dsimp only[bq]
 have Kz:∀ c∈Sr,H c=none:=fun c hc=>(zE c hc).1
 have L1:LstAt H1 S Sr ts.length (both (sP (aL ts es) es 0)):=⟨hS1,by rw[lSr];exact wz,Z8,fun z=>(zE S z).2.2 rfl,fun c r e=>⟨[],(zE r (ak e)).2.1,.nil⟩⟩
 refine mZ (LsA H [aa T,aa L,aa Ed,aa R,aa S] S Sr ts es es.length) ?_ (fun key =>?_)
 rotate_left
 ·refine⟨_,O,Ed,O,⟨ev,a9.of (s1 _ _ hE)⟩,?_⟩
  refine yU (xs:=ev) (LsA H [aa T,aa L,aa Ed,aa R,aa S] S Sr ts es) ⟨none,none,none,none,O,s1,L1⟩ ?_ ?_ ?_
  ·rintro i Y H' _ ⟨x5,x6,x7,x8,rfl,sm,_⟩
   exact a9.of (sm _ _ hE)
  ·rintro i x a0 Y H' hx ⟨x5,x6,x7,x8,rfl,sm,LA⟩ Ks
   obtain⟨⟨a,b,wt⟩,he,p,c,rfl,hp⟩:=Paired.at jo hx
   obtain⟨AW,AV,_⟩:=ok.wC _ (ak he)
   have AW:a < ts.length:=AW
   have AV:b < ts.length:=AV
   have s2:=bo Ks (.tup [.int (i:Int),.ref p])
   refine⟨a0,_,O,bM.of aF,O,_,_,O,_,_,O,O,?_⟩
   generalize upd H' a0 (.tup [.int (i:Int),.ref p])=H2 at s2 ⊢
   have jC:=sm.trans s2
   have WX:=LA.same s2
   have pw:=jC _ _ hp
   have pw:H2 p=some (.tup [nV a,nV b,nV wt,c]):=pw
   refine⟨_,O,p,_,0,_,O,O,bM.of pw,aY (j:=0) rfl,?_⟩
   dsimp only[bq]
   refine⟨_,O,p,_,1,_,O,O,bM.of pw,aY (j:=1) rfl,?_⟩
   dsimp only[bq]
   have Av:=rB.same jC
   obtain⟨cA,G4,IW⟩:=Av.ix (K:=K) AW
   have jA:=aY (oo (L:=aL ts es) (a:=a) AV)
   obtain⟨k,hk,_⟩:=RG (ak he)
   rw[hk]at jA
   have sn:=UG (M:=aL ts es) he
   dsimp only at sn
   refine⟨_,O,p,_,2,_,O,O,bM.of pw,aY (j:=2) rfl,_,O,_,O,R,_,_,_,O,O,a9.of Av.at_,gf G4,_,O,cA,_,_,_,O,O,IW,jA,O,_,O,iZ (fun eq =>?_) (fun ne =>?_)⟩
   ·have eq:wt=k:=by have:=V.int.inj eq;omega
    subst eq
    rw[if_pos hk]at sn
    have ag0:=F6 (M:=aL ts es) (es:=es) i
    have hi:i < es.length:=(ai.mp he).1
    obtain⟨ca,i0⟩:∃ c,Sr[a]? = some c:=⟨_,aj (by rw[LA.len];exact AW)⟩
    obtain⟨cb,lh⟩:∃ c,Sr[b]? = some c:=⟨_,aj (by rw[LA.len];exact AV)⟩
    obtain⟨va,sE,jW⟩:=WX.row a ca i0
    have la:=aV jW
    have l1:=zd (sP (aL ts es) es i) a
    refine⟨_,O,_,O,S,_,_,_,O,O,a9.of WX.at_,gf i0,.inl ⟨O,_,a9.of sE⟩,_,O,_,O,_,O,(show 4<=sizeLine by decide),fun q1 Eh =>?_⟩
    obtain⟨H4,eH,s4,JY⟩:=alloc Eh (.tup [.str "edge",nV a,nV b,nV i])
    rw[eH]
    refine⟨ca,_,_,O,O,s4 _ _ sE,pH (by omega),?_⟩
    have E6:=(WX.same s4).add i0 (s4 _ _ sE) (s:=(a,b,some i)) JY
    have Qb:=(jC.trans s4).put (Kz ca (ak i0)) (o := .lst (va ++ [.ref q1]))
    generalize upd H4 ca (.lst (va ++ [.ref q1]))=H5 at E6 Qb ⊢
    obtain⟨vb,sD,t6⟩:=E6.row b cb lh
    have lb:=aV t6
    have l2:=zd (sP (aL ts es) es i) b
    have lb:vb.length<=2 * (sP (aL ts es) es i).length+1:=by
     rw[lb]
     split
     ·rw[aG];exact lX l1 1
     ·omega
    refine⟨_,O,_,O,S,_,_,_,O,O,a9.of E6.at_,gf lh,.inl ⟨O,_,a9.of sD⟩,_,O,_,O,_,O,(show 4<=sizeLine by decide),fun q2 JZ =>?_⟩
    obtain⟨H6,eH,s6,hq6⟩:=alloc JZ (.tup [.str "edge",nV b,nV a,nV i])
    rw[eH]
    refine⟨cb,_,_,O,O,s6 _ _ sD,pH (by omega),?_⟩
    have LA6:=(E6.same s6).add lh (s6 _ _ sD) (s:=(b,a,some i)) hq6
    have B3:=(Qb.trans s6).put (Kz cb (ak lh)) (o := .lst (vb ++ [.ref q2]))
    refine⟨_,_,_,_,O,B3,?_⟩
    rw[sn, <- Hs]
    exact LA6
   ·have ne:¬ aL ts es a b=some wt:=fun z=>ne (by rw[hk]at z;cases z;rfl)
    rw[if_neg ne,dw]at sn
    exact⟨_,_,_,_,O,jC,by rw[sn];exact WX⟩
  ·rintro Y H' ⟨x5,x6,x7,x8,rfl,sm,LA⟩
   exact key _ _ ⟨_,_,_,_,O,sm,by rw[<- evl];exact LA⟩
 rintro bw H2 ⟨x5,x6,x7,x8,rfl,jC,LA⟩
 refine mZ (fun bw H'=>∃ lp,LsB H [aa T,aa L,aa Ed,aa R,aa S] S Sr ts es lp lp.length bw H'∧LP ts ls lp (hX ts)∧LN ts es lp) ?_ (fun key =>?_)
 rotate_left
 ·refine⟨_,O,_,O,T,L,us,ts,ls,O,jC _ _ hT,gb jC i7,jC _ _ hL,fun i x as e=>⟨ok.oZ i x as e,fun a ha=>by rw[ok.len];exact ok.mG e ha⟩,ok.dG,ok.i6,fun lp D1 r8 H3 s3 Wt Ws ua lpl qD lpd =>?_⟩
  have arm:LN ts es lp:=fun p hp r hr=>by
   obtain⟨_,x,as,bs,ha,hb,hl⟩:=qD.at_ p hp
   have e:=lpd p hp r hr
   have ea:cE ts p.1 p.2=gj as bs:=by unfold cE;rw[ha,hb];rfl
   rw[ea]at hr
   obtain⟨_,k,e1,e2⟩:=iu.mp hr
   exact ld _ _ (ok.mG ha (ak e1)) (ok.mG hb (ak e2)) e
  have zw:=jC.trans s3
  have WW:=LA.same s3
  have lv:r8.length=lp.length:=aV ua
  refine⟨D1,O,⟨_,a9.of Ws⟩,?_⟩
  have nD:∀ c∈Sr,c≠D1:=fun c hc z=>by
   obtain⟨j,hj⟩:=aU hc
   obtain⟨vs,h1,_⟩:=LA.row j c hj
   rw[z,Wt]at h1;cases h1
  refine gR (xs:=r8) (fun i Y H'=>LsB H [aa T,aa L,aa Ed,aa R,aa S] S Sr ts es lp i Y H'∧H' D1=some (.lst r8)∧dZ H' r8 lp) ⟨⟨_,_,_,_,O,zw,by rw[lB];show LstAt H3 S Sr ts.length (both (_ ++ []));rw[dw];exact WW⟩,Ws,ua⟩ ?_ ?_ ?_
  ·rintro i Y H' _ ⟨_,h,_⟩
   exact a9.of h
  ·rintro i v Y H' hv ⟨⟨x5,x6,x7,x8,rfl,sm,LA⟩,G8,ud⟩
   obtain⟨⟨a,b⟩,ia,p,rfl,hp⟩:=Paired.at ud hv
   have hm:=ak ia
   obtain⟨lt,x,as,bs,ha,hb,hl⟩:=qD.at_ _ hm
   have ha:ts[a]? = some (.of x as):=ha
   have hb:ts[b]? = some (.of x bs):=hb
   have AW:=(ai.mp ha).1
   have AV:=(ai.mp hb).1
   have Av:=rB.same sm
   refine⟨p,_,O,bM.of hp,O,_,_,O,_,_,O,O,?_⟩
   dsimp only[bq]
   refine⟨_,O,_,O,_,O,_,O,T,R,rows,us,ts,aL ts es,a,b,x,x,as,bs,O,sm _ _ hT,gb sm i7,ha,hb,hl,ok.oZ a x as ha,Av.at_,Av.len,Av.row,fun r hr =>?_,fun H4 s4 =>?_⟩
   ·have ea:cE ts a b=gj as bs:=by unfold cE;rw[ha,hb];rfl
    obtain⟨k,hk⟩:=arm _ hm r hr
    rw[ea]at hr
    obtain⟨_,k',e1,e2⟩:=iu.mp hr
    exact⟨ok.mG ha (ak e1),ok.mG hb (ak e2),k,hk⟩
   have Mp:=sm.trans s4
   have E6:=LA.same s4
   have rB4:=rB.same Mp
   obtain⟨cA,G4,IW⟩:=rB4.ix (K:=K) AW
   have jA:=aY (oo (L:=aL ts es) (a:=a) AV)
   have dk:∃ k,aL ts es a b=some k:=by
    obtain⟨k,hk,_⟩:=RF (ts:=ts) (es:=es) (rk (fun p=>(aL ts es p.1 p.2).getD 0) as bs) ha hb hl fun k u v hu hv=>by
     unfold rk
     rw[hu,hv]
     dsimp only
     by_cases e:u=v
     ·rw[if_pos e,e];exact wG v
     ·rw[if_neg e]
      have ea:cE ts a b=gj as bs:=by unfold cE;rw[ha,hb];rfl
      have hu2:(u,v)∈cE ts a b:=by rw[ea];exact iu.mpr ⟨e,k,hu,hv⟩
      obtain⟨m,em⟩:=arm _ hm (u,v) hu2
      have em:aL ts es u v=some m:=em
      rw[em];rfl
    exact⟨k,hk⟩
   obtain⟨k,hk⟩:=dk
   rw[hk]at jA
   have sn:=T5 (ts:=ts) (M:=aL ts es) (l:=lp.take i) (p:=(a,b))
   rw[<- fO ia]at sn
   dsimp only at sn
   refine⟨_,O,_,O,R,_,_,_,O,O,a9.of rB4.at_,gf G4,_,O,cA,_,_,_,O,O,IW,jA,O,_,O,iZ (fun eq =>?_) (fun ne =>?_)⟩
   ·have eq:cx ts (aL ts es) a b=k:=by have:=V.int.inj eq;omega
    rw[if_pos (by rw[hk,eq])]at sn
    have ag0:=F6 (M:=aL ts es) (es:=es) es.length
    have agZ:=MK (ts:=ts) (M:=aL ts es) (lp.take i)
    have alA:=qK i lp
    have ag1:(sP (aL ts es) es es.length ++ zB ts (aL ts es) (lp.take i)).length<=es.length+lp.length:=by
     rw[aG];rw[bW]at agZ;omega
    obtain⟨ca,i0⟩:∃ c,Sr[a]? = some c:=⟨_,aj (by rw[LA.len];exact AW)⟩
    obtain⟨cb,lh⟩:∃ c,Sr[b]? = some c:=⟨_,aj (by rw[LA.len];exact AV)⟩
    obtain⟨va,sE,jW⟩:=E6.row a ca i0
    have la:=aV jW
    have l1:=zd (sP (aL ts es) es es.length ++ zB ts (aL ts es) (lp.take i)) a
    have nda:=nD ca (ak i0)
    have ndb:=nD cb (ak lh)
    refine⟨_,O,_,O,S,_,_,_,O,O,a9.of E6.at_,gf i0,.inl ⟨O,_,a9.of sE⟩,_,O,_,O,(show 3<=sizeLine by decide),fun q1 Eh =>?_⟩
    obtain⟨H5,eH,s5,hq5⟩:=alloc Eh (.tup [.str "like",nV a,nV b])
    rw[eH]
    refine⟨ca,_,_,O,O,s5 _ _ sE,pH (by omega),?_⟩
    have WV:=(E6.same s5).add i0 (s5 _ _ sE) (s:=(a,b,none)) hq5
    have Gz:=(Mp.trans s5).put (Kz ca (ak i0)) (o := .lst (va ++ [.ref q1]))
    have hD6:(upd H5 ca (.lst (va ++ [.ref q1]))) D1=some (.lst r8):=by rw[aE nda.symm];exact s5 _ _ (s4 _ _ G8)
    have hp6:dZ (upd H5 ca (.lst (va ++ [.ref q1]))) r8 lp:=bC ud fun d ys e=>by
     have e:=s5 _ _ (s4 _ _ e)
     rw[aE (aZ e (s5 _ _ sE) nofun)];exact e
    generalize upd H5 ca (.lst (va ++ [.ref q1]))=H6 at WV Gz hD6 hp6 ⊢
    obtain⟨vb,sD,t6⟩:=WV.row b cb lh
    have lb:=aV t6
    have l2:=zd (sP (aL ts es) es es.length ++ zB ts (aL ts es) (lp.take i)) b
    have lb:vb.length<=2 * (es.length+lp.length)+1:=by
     rw[lb]
     split
     ·rw[aG];exact lX (bf l1 (Nat.mul_le_mul_left 2 ag1)) 1
     ·omega
    refine⟨_,O,_,O,S,_,_,_,O,O,a9.of WV.at_,gf lh,.inl ⟨O,_,a9.of sD⟩,_,O,_,O,(show 3<=sizeLine by decide),fun q2 JZ =>?_⟩
    obtain⟨H7,eH,s7,JX⟩:=alloc JZ (.tup [.str "like",nV b,nV a])
    rw[eH]
    refine⟨cb,_,_,O,O,s7 _ _ sD,pH (by omega),?_⟩
    have LA7:=(WV.same s7).add lh (s7 _ _ sD) (s:=(b,a,none)) JX
    have Y8:=(Gz.trans s7).put (Kz cb (ak lh)) (o := .lst (vb ++ [.ref q2]))
    refine⟨⟨_,_,_,_,O,Y8,?_⟩,?_,?_⟩
    ·rw[sn, <- kN, <- Hs]
     exact LA7
    ·rw[aE ndb.symm];exact s7 _ _ hD6
    ·exact bC hp6 fun d ys e=>by
      have e:=s7 _ _ e
      rw[aE (aZ e (s7 _ _ sD) nofun)];exact e
   ·have ne:¬ aL ts es a b=some (cx ts (aL ts es) a b):=fun z=>ne (congrArg nV (aD (hk.symm.trans z)).symm)
    rw[if_neg ne,dw]at sn
    exact⟨⟨_,_,_,_,O,Mp,by rw[sn];exact E6⟩,s4 _ _ G8,bC ud fun d ys e=>s4 _ _ e⟩
  ·rintro Y H' ⟨h,_⟩
   exact key _ _ ⟨lp,by rw[<- lv];exact h,qD,arm⟩
 rintro bw H3 ⟨lp,⟨x5,x6,x7,x8,rfl,zw,WW⟩,qD,arm⟩
 rw[bK]at WW
 exact⟨_,O,q S Sr lp H3 zw WW qD arm Kz⟩
end
section
variable {P:Program}{w:World}{K:ao}{mg:Str->Option Value}{base:Heap}{CB CF CH CS CN CE CM tB:Addr}
theorem ado(s:eg):(SY s)[2]? = some (nV s.2.1):=by
 obtain⟨a,b,p⟩:=s
 cases p <;> rfl
inductive acK(vs:List V)(H:Hp)(Q:VK):Prop
 | mk (S R:Addr) (Sr rows:List Addr) (ts:List Tm) (es:List bY) (ls:List Nat) (lp:List (Nat × Nat)) (a b d:Nat) (z0:vs = [.ref S,.ref R,nV a,nV b]) (z1:LstAt H S Sr ts.length (both (xD ts es lp))) (z2:oA H R rows ts.length (aL ts es)) (z3:rX ts es ls) (z4:LP ts ls lp (hX ts)) (z5:LN ts es lp) (z6:a < ts.length) (z7:b < ts.length) (z8:aL ts es a b=some d)
  (z9:∀ D l jk H',bJ H H'->H D=none->H' D=some (.lst jk)->uE H' jk l->uF ts es a b l->Q (.ref D) H'):acK vs H Q
def Y1:Sp:=fun vs H Q _=>acK vs H Q
structure NC(ts:List Tm)(es:List bY)(a b d:Nat)(l:List eg)(here m:Nat):Prop where
 lt:here < ts.length
 ch:Chain ts es a l here
 dh:aL ts es here b=some m
 tot:iU (aL ts es) l+m=d
 i6:(l.map fun s=>s.1).Nodup
 oy:∀ s∈l,s.1 < ts.length∧∃ k,aL ts es s.1 b=some k∧m < k
theorem NC.dG{ts:List Tm}{es:List bY}{a b d:Nat}{l:List eg}{here m:Nat}(h:NC ts es a b d l here m):l.length<=ts.length:=by
 have:=lE (U:=bA ts.length) h.i6 fun x hx=>by
  obtain⟨s,hs,rfl⟩:=bj.mp hx
  exact cI.mpr (h.oy s hs).1
 rw[az,cN]at this
 exact this
theorem NC.next{ts:List Tm}{es:List bY}(he:∀ e∈es,1<=e.2.2){a b d:Nat}{l:List eg}{here m:Nat}(h:NC ts es a b d l here m){s:eg}(ok:iM ts es s)(e1:s.1=here)(lt:s.2.1 < ts.length){u v:Nat}(hu:aL ts es here s.2.1=some u)(hv:aL ts es s.2.1 b=some v)(e:u+v=m)(ne:here≠s.2.1):NC ts es a b d (l ++ [s]) s.2.1 v∧v < m:=by
 have up:=UK he hu ne
 refine⟨⟨lt,EI ok h.ch e1,hv,?_,?_,fun t ht =>?_⟩,by omega⟩
 ·have t:=h.tot
  rw[DF,e1,hu]
  show iU (aL ts es) l+u+v=d
  omega
 ·rw[dv]
  refine eR.mpr ⟨h.i6,bI.mpr ⟨nofun,.nil⟩,fun x hx y hy z =>?_⟩
  obtain⟨t,ht,rfl⟩:=bj.mp hx
  have hy:y=s.1:=ax.mp hy
  obtain⟨_,k,hk,lk⟩:=h.oy t ht
  rw[z,hy,e1,h.dh]at hk
  cases hk
  omega
 ·rcases au.mp ht with z | z
  ·obtain⟨l1,k,hk,lk⟩:=h.oy t z
   exact⟨l1,k,hk,by omega⟩
  ·rw[ax.mp z,e1]
   exact⟨h.lt,m,h.dh,by omega⟩
inductive WO(H:Hp)(S R D:Addr)(ts:List Tm)(es:List bY)(a b d m:Nat)(Y:St)(H':Hp):Prop
 | mk (here:Nat) (l:List eg) (vs:List V) (x6 x7:Option V):(Y = [aa S,aa R,aN a,aN b,aa D,aN here,x6,x7])->bJ H H'->H' D=some (.lst vs)->uE H' vs l->NC ts es a b d l here m->WO H S R D ts es a b d m Y H'
inductive SbF(Hc:Hp)(G:St)(ts:List Tm)(es:List bY)(here b m:Nat)(F:List eg)(i:Nat)(Y:St)(H':Hp):Prop
 | mk (x6 x7:Option V):(Y = G ++ [x6,x7])->H'=Hc->(∀ j s u v,j < i->F[j]? = some s->aL ts es here s.2.1=some u->aL ts es s.2.1 b=some v->u+v≠m)->SbF Hc G ts es here b m F i Y H'
theorem Xa{ts:List Tm}{es:List bY}{ls:List Nat}(ok:rX ts es ls){s:eg}(h:iM ts es s):s.2.1 < ts.length:=by
 cases h with
 | dH a b p e h1 h2 h3 =>
  obtain⟨l1,l2,_⟩:=ok.wC _ (ak h1)
  show b < _
  rcases h2 with⟨_,z⟩ | ⟨z,_⟩
  ·rw[<- z];exact l2
  ·rw[<- z];exact l1
 | gy a b x as bs h0 h1 h2 h3 h4 h5=>exact(ai.mp h2).1
theorem W9{ts:List Tm}{es:List bY}(he:∀ e∈es,1<=e.2.2){s:eg}(h:iM ts es s):s.1≠s.2.1:=by
 cases h with
 | dH a b p e h1 h2 h3 =>
  intro z
  have z:a=b:=z
  rw[z,wG]at h3
  have:=he _ (ak h1)
  have:=aD h3
  omega
 | gy a b x as bs h0 h1 h2 h3 h4 h5=>exact h0
theorem CZ(B:lK mg)(D:Def K mg "steps_between" pL wa9):dQ P w K mg base 1 "steps_between" wa9 Y1:=by
 refine D.has iP (fun vs H Q E h =>?_) (fun f cJ A outer s H vs Q E hr h =>?_)
 ·obtain⟨S,R,Sr,rows,ts,es,ls,lp,a,b,d,rfl,_⟩:=h;rfl
 obtain⟨S,R,Sr,rows,ts,es,ls,lp,a,b,d,rfl,hS,rB,ok,qD,arm,ha,hb,hd,q⟩:=h
 refine⟨_,(av (bz (i:=4) iP.nd O (aO O) (j8 aq))
  (av (bz (i:=5) iP.nd O (aO O) (pv 2))
  (av (yG cq (cC wm (pv 5) (pv 3) (cz _))
  (aI (fA cq O (fU (aM bG (pv 0) (pv 5))) (bX (i:=6) iP.nd O (aO O))
  (av (bz (i:=7) iP.nd O (aO O) (aM bF (pv 6) aA))
  (aI (dE (cC gA (eB l6 (aM bG (aM bG (pv 1) (pv 5)) (pv 7)) (aM bG (aM bG (pv 1) (pv 7)) (pv 3))) (aM bG (aM bG (pv 1) (pv 5)) (pv 3)) (cz _)) (av (dt (kG bE bV bU fJ (pv 4) (ae (pv 6) aq)))
  (av (bz (i:=5) iP.nd O (aO O) (pv 7))
  (aI Jg))) cD))))))
  (aI (cF (pv 4)))))),?_⟩
 try dsimp only[dR]
 have he:∀ e∈es,1<=e.2.2:=fun e h=>(ok.wC e h).2.2
 have dG:=ok.dG
 refine⟨(show 0<=sizeLine by decide),fun D1 kF =>?_⟩
 dsimp only[bq]
 obtain⟨H1,eH,s1,xY⟩:=alloc kF (.lst [])
 rw[eH]
 refine⟨_,O,?_⟩
 dsimp only[bq]
 refine mZ (WO H S R D1 ts es a b d 0) ?_ (fun key =>?_)
 rotate_left
 ·refine⟨WO H S R D1 ts es a b d,⟨d,a, [], [],none,none,O,s1,xY,.nil,⟨ha,O,hd,ql _,.nil,fun s hs=>nomatch hs⟩⟩,?_⟩
  rintro m Y Hc ⟨here,l,vs,x6,x7,rfl,sm,M9,wy,I⟩
  refine⟨_,O,_,O,O,_,O,rM (fun ne =>?_) (fun eq =>?_)⟩
  ·have ne:here≠b:=fun z=>ne (by rw[z])
   refine⟨fun bw H'=>∃ m',m' < m∧WO H S R D1 ts es a b d m' bw H',fun _ _ h=>h,?_⟩
   have LA:=hS.same sm
   have rC:=rB.same sm
   obtain⟨cS,hcS⟩:∃ c,Sr[here]? = some c:=⟨_,aj (by rw[LA.len];exact I.lt)⟩
   obtain⟨vS,VQ,VP⟩:=LA.row here cS hcS
   obtain⟨cH,Q9,Zk⟩:=rC.ix (K:=K) I.lt
   refine⟨_,O,_,O,S,_,_,_,O,O,a9.of LA.at_,gf hcS,cS,O,⟨_,a9.of VQ⟩,?_⟩
   refine gR (xs:=vS) (SbF Hc [aa S,aa R,aN a,aN b,aa D1,aN here] ts es here b m (both (xD ts es lp) here)) ⟨x6,x7,O,O,fun j s u v hj=>absurd hj (jb j)⟩ ?_ ?_ ?_
   ·rintro i Y H' _ ⟨x6,x7,rfl,rfl,_⟩
    exact a9.of VQ
   ·rintro i v Y H' hv ⟨x6,x7,rfl,rfl,no⟩
    obtain⟨st,jV,p,rfl,hp⟩:=Paired.at VP hv
    obtain⟨so,sf⟩:=S0 qD arm (ak jV)
    have tl:=Xa ok so
    have tn:=W9 he so
    obtain⟨u,hu⟩:=so.dist
    rw[sf]at hu tn
    obtain⟨t,ht,_⟩:=K7 (ts:=ts) (es:=es) (a:=st.2.1) (c:=here) (b:=b) (by rw[lG];exact hu) I.dh
    dsimp only[bq]
    refine⟨_,O,p,_,2,_,O,O,bM.of hp,aY (j:=2) (ado st),?_⟩
    dsimp only[bq]
    obtain⟨cT,hcT,agv⟩:=rC.ix (K:=K) tl
    have j1:=aY (oo (L:=aL ts es) (a:=here) tl)
    have j2:=aY (oo (L:=aL ts es) (a:=st.2.1) hb)
    have j3:=aY (oo (L:=aL ts es) (a:=here) hb)
    rw[hu]at j1
    rw[ht]at j2
    rw[I.dh]at j3
    have sR:=a9.of (K:=K) rC.at_
    refine⟨_,O,_,O,R,_,_,_,O,O,sR,gf Q9,_,O,cH,_,_,_,O,O,Zk,j1,_,O,_,O,R,_,_,_,O,O,sR,gf hcT,_,O,cT,_,_,_,O,O,agv,j2,_,_,O,O,_,O,_,O,R,_,_,_,O,O,sR,gf Q9,_,O,cH,_,_,_,O,O,Zk,j3,O,_,O,iZ (fun eq =>?_) (fun ne =>?_)⟩
    ·have eq:u+t=m:=by have:=V.int.inj eq;omega
     obtain⟨I',lt⟩:=I.next he so sf tl hu ht eq tn
     have fw:=I.dG
     have lv:=aV wy
     refine⟨_,O,.inl ⟨O,_,a9.of M9⟩,_,O,D1,_,_,O,O,M9,pH (by omega),?_⟩
     have kt:∀ c ys,H' c=some (.tup ys)->(upd H' D1 (.lst (vs ++ [.ref p]))) c=some (.tup ys):=fun c ys e=>by rw[aE (aZ e M9 nofun)];exact e
     refine⟨_,O,?_⟩
     exact⟨t,lt,st.2.1,l ++ [st],_,_,_,O,sm.put kF,aF,fQ (jf wy kt) (.cons ⟨p,O,kt _ _ hp⟩ .nil),I'⟩
    ·have ne:u+t≠m:=fun z=>ne (by rw[<- z];exact congrArg V.int (Int.natCast_add u t).symm)
     refine⟨_,_,O,O,fun j s u' v' hj hs JU JR =>?_⟩
     rcases gI j i with z | z
     ·exact no j s u' v' z hs JU JR
     ·have:j=i:=by omega
      subst this
      rw[jV]at hs
      cases hs
      rw[hu]at JU
      rw[ht]at JR
      cases JU
      cases JR
      exact ne
   ·rintro Y H' ⟨x6,x7,rfl,rfl,no⟩
    exfalso
    obtain⟨st,jV,u,v,hu,hv,e⟩:=S1 qD he ok.arms ok.lead I.dh ne
    obtain⟨j,hj⟩:=aU jV
    have lj:=(ai.mp hj).1
    rw[<- aV VP]at lj
    exact no j st u v lj hj hu hv e
  ·have eq:here=b:=by have:=V.int.inj eq;omega
   subst eq
   have z:=I.dh
   rw[wG]at z
   cases z
   exact key _ _ ⟨here,l,vs,x6,x7,O,sm,M9,wy,I⟩
 rintro bw H2 ⟨here,l,vs,x6,x7,rfl,sm,M9,wy,I⟩
 have e:here=b:=Ni he (dM I.dh).1 rfl
 subst e
 exact⟨_,O,q D1 l vs H2 sm kF M9 wy ⟨⟨ha,hb⟩,I.ch,by rw[hd, <- I.tot];rfl,I.dG⟩⟩
inductive acO(vs:List V)(H:Hp)(Q:VK):Prop
 | mk (T Rw:Addr) (us vr:List V) (ts:List Tm) (es:List bY) (ls:List Nat) (a b:Nat) (l:List eg) (z0:vs = [.ref T,.ref Rw]) (z1:H T=some (.lst us)) (z2:lH H us ts) (z3:rX ts es ls) (z4:H Rw=some (.lst vr)) (z5:uE H vr l) (z6:uF ts es a b l) (z7:∀ (i:Nat) x as,ts[i]? = some (.of x as)->as.length<=4)
  (z8:∀ D jk H',bJ H H'->H D=none->H' D=some (.lst jk)->dZ H' jk (fh ts l)->(fh ts l).length<=4 * l.length->Q (.ref D) H'):acO vs H Q
def Y4:Sp:=fun vs H Q _=>acO vs H Q
theorem LO{ts:List Tm}{l:List eg}{s:eg}:fh ts (l ++ [s])=fh ts l ++ (if s.2.2=none then cE ts s.1 s.2.1 else []):=by
 unfold fh
 rw[dY,iX]
theorem Mc{ts:List Tm}(h4:∀ (i:Nat) x as,ts[i]? = some (.of x as)->as.length<=4)(a b:Nat):(cE ts a b).length<=4:=by
 unfold cE gj
 refine bf (jc ..) ?_
 rw[wV]
 refine bf (Nat.min_le_left ..) ?_
 cases e:ts[a]? with
 | none=>exact bx _
 | some t =>
  cases t with
  | of x as=>exact h4 a x as e
  | _=>exact bx _
theorem yo{ts:List Tm}(h4:∀ (i:Nat) x as,ts[i]? = some (.of x as)->as.length<=4):∀ l:List eg,(fh ts l).length<=4 * l.length
 | []=>ar _
 | s :: l=>by
  have ih:=yo h4 l
  have e:fh ts (s :: l)=(if s.2.2=none then cE ts s.1 s.2.1 else []) ++ fh ts l:=by unfold fh;rw[uq]
  rw[e,aG,bO]
  have:(if s.2.2=none then cE ts s.1 s.2.1 else []).length<=4:=by split;exact Mc h4 _ _;exact bx _
  omega
inductive EwI(H:Hp)(T Rw D:Addr)(ts:List Tm)(l:List eg)(i:Nat)(Y:St)(H':Hp):Prop
 | mk (x3:Option V) (vs:List V):(Y = [aa T,aa Rw,aa D,x3])->bJ H H'->H' D=some (.lst vs)->dZ H' vs (fh ts (l.take i))->EwI H T Rw D ts l i Y H'
theorem FN(gK:dQ P w K mg base 1 "unlike_arms" wa4 Ia)(D:Def K mg "ends_within" tm wc0):dQ P w K mg base 2 "ends_within" wc0 Y4:=by
 refine D.has qP (fun vs H Q E h =>?_) (fun f cJ A outer s H vs Q E hr h =>?_)
 ·obtain⟨T,Rw,us,vr,ts,es,ls,a,b,l,rfl,_⟩:=h;rfl
 obtain⟨T,Rw,us,vr,ts,es,ls,a,b,l,rfl,hT,i7,ok,hR,hvr,row,h4,q⟩:=h
 refine⟨_,(av (bz (i:=2) qP.nd O (aO O) (j8 aq))
  (av (fA cq O (fU (pv 1)) (bX (i:=3) qP.nd O (aO O))
  (aI (dE (cC gA (aM bF (pv 3) aA) fP (cz _)) (aI (dt (kG bE vM vK GO (pv 2) (ae (bp gK hr (by omega) O (ae (pv 0) (ae (aM bF (pv 3) aA) (ae (aM bF (pv 3) aA) aq)))) aq)))) cD)))
  (aI (cF (pv 2))))),?_⟩
 try dsimp only[dR]
 have lv:=aV hvr
 have fw:=row.len
 have f30:=ok.dG
 refine⟨(show 0<=sizeLine by decide),fun D1 kF =>?_⟩
 dsimp only[bq]
 obtain⟨H1,eH,s1,xY⟩:=alloc kF (.lst [])
 rw[eH]
 refine mZ (EwI H T Rw D1 ts l l.length) ?_ (fun key =>?_)
 rotate_left
 ·refine⟨_,O,Rw,O,⟨_,a9.of (s1 _ _ hR)⟩,?_⟩
  refine gR (xs:=vr) (EwI H T Rw D1 ts l) ⟨none, [],O,s1,xY,.nil⟩ ?_ ?_ ?_
  ·rintro i Y H' _ ⟨x3,vs,rfl,sm,_⟩
   exact a9.of (sm _ _ hR)
  ·rintro i v Y H' hv ⟨x3,vs,rfl,sm,G8,wy⟩
   obtain⟨st,jV,p,rfl,hp⟩:=Paired.at hvr hv
   have so:=Ho row.ch (ak jV)
   have sn:=LO (ts:=ts) (l:=l.take i) (s:=st)
   rw[<- fO jV]at sn
   have ud:=sm _ _ hp
   dsimp only[bq]
   cases so with
   | dH a b pl e h1 h2 h3 =>
    have ud:H' p=some (.tup [.str "edge",nV a,nV b,nV pl]):=ud
    refine⟨_,O,p,_,0,_,O,O,bM.of ud,aY (j:=0) rfl,O,_,O,iZ (fun z=>absurd (V.str.inj z) (by decide)) (fun _=>⟨_,vs,O,sm,G8,?_⟩)⟩
    rw[if_neg (by intro z;cases z),dw]at sn
    rw[sn];exact wy
   | gy a b x as bs h0 h1 h2 h3 h4' h5 =>
    have ud:H' p=some (.tup [.str "like",nV a,nV b]):=ud
    rw[if_pos rfl]at sn
    refine⟨_,O,p,_,0,_,O,O,bM.of ud,aY (j:=0) rfl,O,_,O,iZ (fun _ =>?_) (fun z=>absurd rfl z)⟩
    refine⟨_,O,.inl ⟨O,_,a9.of G8⟩,_,O,_,O,p,_,1,_,O,O,bM.of ud,aY (j:=1) rfl,_,O,p,_,2,_,O,O,bM.of ud,aY (j:=2) rfl,T,us,ts,a,b,x,x,as,bs,O,sm _ _ hT,gb sm i7,h1,h2,h3,ok.oZ a x as h1,fun D3 vs3 H3 s3 alE Ws ua =>?_⟩
    have wl:=yo h4 (l.take i)
    have tl:=qK i l
    have l1:=aV wy
    have l2:=aV ua
    have u4:=Mc h4 a b
    have hi:=(ai.mp jV).1
    rw[bW]at wl tl
    have ab2:=s3 _ _ G8
    refine⟨D1,D3,_,_,O,O,ab2,Ws,jM (pH (by omega)),?_⟩
    have kt:∀ c ys,H3 c=some (.tup ys)->(upd H3 D1 (.lst (vs ++ vs3))) c=some (.tup ys):=fun c ys e=>by rw[aE (aZ e ab2 nofun)];exact e
    refine⟨_,_,O,(sm.trans s3).put kF,aF,?_⟩
    rw[sn]
    exact fQ (bC (bC wy fun c ys e=>s3 _ _ e) kt) (bC ua kt)
  ·rintro Y H' h
   rw[lv]at h
   exact key _ _ h
 rintro bw H2 ⟨x3,vs,rfl,sm,G8,wy⟩
 rw[bK]at wy
 exact⟨_,O,q D1 vs H2 sm kF G8 wy (yo h4 l)⟩
abbrev sA:Pos:=⟨161,33,161,69⟩
abbrev o9:Str:=("paper" : Str) ++ ".<locals>." ++ "<lambda>"
theorem MB:∀ a:Fin 30,(toString ((a.val:Nat):Int):Str).length<=1000:=by decide +kernel
theorem Qy{a:Nat}(h:a < 30):((a:Int)).natAbs.log2 < 1920:=by
 rw[Int.natAbs_natCast]
 exact gh (Nat.log2_le_self a) (by omega)
abbrev ze(H:Hp)(Nd:Addr):List (NK × V)->List ky->Prop:=Paired fun kv r=>kv.1=cg r.1∧∃ c vs,kv.2=V.ref c∧H c=some (.lst vs)∧uE H vs r.2∧c≠Nd
theorem qS{H H':Hp}{Nd:Addr}{kvs:List (NK × V)}{rs:List ky}(h:ze H Nd kvs rs)(kt:∀ c ys,H c=some (.tup ys)->H' c=some (.tup ys))(kl:∀ c ys,c≠Nd->H c=some (.lst ys)->H' c=some (.lst ys)):ze H' Nd kvs rs :=
 Paired.xj h fun _ _ ⟨e,c,vs,e2,h1,h2,h3⟩=>⟨e,c,vs,e2,kl _ _ h3 h1,jf h2 kt,h3⟩
theorem IZ{H:Hp}{Nd:Addr}(q:Nat × Nat):∀ {kvs:List (NK × V)}{rs:List ky},ze H Nd kvs rs->(bL kvs (cg q)=none∧q ∉ rs.map dB)∨∃ r∈rs,r.1=q∧∃ c vs,bL kvs (cg q)=some (.ref c)∧H c=some (.lst vs)∧uE H vs r.2
 | _,_,.nil => .inl ⟨O,fun z=>nomatch z⟩
 | _,_, @Paired.cons _ _ _ kv r kvs rs ⟨e,c,vs,e2,h1,h2,_⟩ t=>by
  obtain⟨k,v⟩:=kv
  have e:k=cg r.1:=e
  have e2:v = .ref c:=e2
  subst e e2
  by_cases z:r.1=q
  ·refine .inr ⟨r,bb,z,c,vs,?_,h1,h2⟩
   rw[eV (by rw[z])]
  ·rw[eI (fun y=>z (yH y))]
   rcases IZ q t with⟨g1,g2⟩ | ⟨r',g0,g⟩
   ·exact .inl ⟨g1,fun y=>by rw[aS]at y;rcases aW.mp y with y | y;exact z y.symm;exact g2 y⟩
   ·exact .inr ⟨r',aR _ g0,g⟩
abbrev LL(H:Hp)(M:Mx):List V->List ky->Prop:=Paired fun v r=>∃ q c vs d,v=V.ref q∧H q=some (.tup [nV r.1.1,nV r.1.2,nV d,.ref c])∧M r.1.1 r.1.2=some d∧H c=some (.lst vs)∧uE H vs r.2
inductive yb(CA Pt:Addr)(vs:List V)(H:Hp)(Q:VK)(E:XK):Prop
 | mk (T L Ed:Addr) (us:List V) (ts:List Tm) (ls:List Nat) (ev:List V) (es:List bY) (a b:Nat) (z0:vs = [.ref T,.ref L,.ref Ed,nV a,nV b]) (z1:H T=some (.lst us)) (z2:lH H us ts) (z3:H L=some (.lst (ls.map nV))) (z4:H Ed=some (.lst ev)) (z5:qf H ev es) (z6:rX ts es ls) (z7:Il ts es ls) (z8:es.length<=1000) (z9:∀ (i:Nat) x as,ts[i]? = some (.of x as)->as.length<=4) (BZ:a < ts.length) (Dz:b < ts.length) (U8:ju H Pt sA o9) (Z:Nat × Nat->Prop) (U5:ls.getD a 0=ls.getD b 0->R0 ts es a b Z)
  (U7:ls.getD a 0=ls.getD b 0->∀ D rs jk H',jv Pt H H'->ju H' Pt sA o9->H D=none->H' D=some (.lst jk)->LL H' (aL ts es) jk rs->LK ts es a b rs->(∀ r∈rs,Z r.1)->Q (.ref D) H') (U6:ls.getD a 0≠ls.getD b 0->E (.ref CA) none H):yb CA Pt vs H Q E
def Fo(CA Pt:Addr):Sp:=fun vs H Q E=>yb CA Pt vs H Q E
inductive WS(P:Program)(w:World)(H:Hp)(G:St)(M Nd:Addr)(ts:List Tm)(es:List bY)(a b d:Nat)(Z:Nat × Nat->Prop)(m:Nat)(Y:St)(H':Hp):Prop
 | mk (kvs:List (NK × V)) (rs:List ky) (iE:List (Nat × Nat)) (vn:List V) (x9 t4:Option V):(Y = G ++ [x9,t4,none])->bJ H H'->DN P w H' M kvs->ze H' Nd kvs rs->H' Nd=some (.lst vn)->dZ H' vn iE->PZ ts es a b d Z rs iE->m=121 * (900 - rs.length)+iE.length->iE.length+120 * (900 - rs.length)<=120000->WS P w H G M Nd ts es a b d Z m Y H'
theorem xh{α β : Type}{R : α -> β -> Prop}:∀ {l:List α}{m:List β} (n:Nat),Paired R l m->Paired R (l.take n) (m.take n)∧Paired R (l.drop n) (m.drop n)
 | _,_,0,h=>⟨.nil,h⟩
 | _,_,n+1,.nil=>⟨.nil,.nil⟩
 | _,_,n+1,.cons h t=>⟨.cons h (xh n t).1,(xh n t).2⟩
def yW(es:List bY):List (Nat × Nat):=es.map fun e=>(e.1,e.2.1)
theorem Oo{H:Hp}{l:List V}{m:List (Nat × Nat)}(h:dZ H l m)(hp:0 < l.length):∃ l' m' p q,l=l' ++ [.ref q]∧m=m' ++ [p]∧dZ H l' m'∧H q=some (.tup [nV p.1,nV p.2]):=by
 have hl:=aV h
 have e1:l=l.take (l.length - 1) ++ l.drop (l.length - 1):=(yf ..).symm
 obtain⟨v,hv⟩:∃ v,l[l.length - 1]? = some v:=⟨_,aj (by omega)⟩
 obtain⟨p,hm,q,rfl,hq⟩:=Paired.at h hv
 refine⟨l.take (l.length - 1),m.take (l.length - 1),p,q,?_,?_,?_,hq⟩
 ·conv=>lhs;rw[<- bK (l:=l),show l.length=l.length - 1+1 by omega]
  exact fO hv
 ·conv=>lhs;rw[<- bK (l:=m),show m.length=l.length - 1+1 by omega]
  exact fO hm
 ·exact(xh _ h).1
theorem Mb{k:NK}{v:V}:∀ {kvs:List (NK × V)},bL kvs k=some v->∃ kv∈kvs,kv.2=v
 | (k',v') :: kvs,h=>by
  by_cases e:k'=k
  ·rw[eV e]at h
   exact⟨_,bb,aD h⟩
  ·rw[eI e]at h
   obtain⟨kv,h1,h2⟩:=Mb h
   exact⟨kv,aR _ h1,h2⟩
theorem aaq{H:Hp}{p:Nat × Nat}{c:Addr}(h:fD H (cg p) c):H c=some (.tup [nV p.1,nV p.2]):=by
 obtain⟨ys,h,ks⟩:=h
 unfold cg at ks
 rw[nY]at ks
 obtain⟨y2,e,ks⟩:=ks
 rw[nY]at ks
 obtain⟨y3,e2,ks⟩:=ks
 rw[nY]at ks
 rw[h,e,e2,ks];rfl
theorem Xr{α β : Type}(f : α -> β){l m:List β}(h:l.Perm m):∀ {r:List α},m=r.map f->∃ r':List α,r'.Perm r∧l=r'.map f:=by
 induction h with
 | nil=>intro r e;exact⟨[],(by cases r with | nil=>exact .nil | cons=>cases e),O⟩
 | @cons x l m _ ih =>
  intro r e
  cases r with
  | nil=>cases e
  | cons y r =>
   rw[aS]at e
   injection e with e1 e2
   obtain⟨r',p,e3⟩:=ih e2
   exact⟨y :: r',p.cons y,by rw[aS,e1,e3]⟩
 | @swap x y l =>
  intro r e
  cases r with
  | nil=>cases e
  | cons a r =>
   cases r with
   | nil=>cases e
   | cons b r =>
    rw[aS,aS]at e
    injection e with e1 e2
    injection e2 with e2 e3
    exact⟨b :: a :: r,.swap a b r,by rw[aS,aS,e1,e2,e3]⟩
 | trans _ _ i1 i2 =>
  intro r e
  obtain⟨r1,p1,e1⟩:=i2 e
  obtain⟨r2,p2,e2⟩:=i1 e1
  exact⟨r2,p2.trans p1,e2⟩
def gD(M:Mx)(k:NK):Int:=match k with
 | [.inl (.inl a),.inl (.inl b)]=>((M a.toNat b.toNat).getD 0:Nat)
 | _=>0
theorem O2(M:Mx)(p:Nat × Nat):gD M (cg p)=(((M p.1 p.2).getD 0:Nat):Int):=by
 unfold cg gD
 dsimp only
 rw[cn,cn]
inductive PpB(P:Program)(w:World)(H7:Hp)(G:St)(Bk:Addr)(M:Mx)(rs:List ky)(i:Nat)(Y:St)(H':Hp):Prop
 | mk (x9 t4:Option V) (vb:List V):(Y = G ++ [x9,t4,some (.ref Bk)])->dD Bk H7 H'->H' Bk=some (.lst vb)->LL H' M vb (rs.take i)->PpB P w H7 G Bk M rs i Y H'
theorem Yd{H H':Hp}{M:Mx}{vb:List V}{rs:List ky}(h:LL H M vb rs){Bk:Addr}(bt:dD Bk H H'){ub:List V}(hB:H Bk=some (.lst ub))(nb:∀ v∈vb,∀ q,v=V.ref q->∀ c x y z,H q=some (.tup [x,y,z,.ref c])->c≠Bk):LL H' M vb rs:=by
 induction h with
 | nil=>exact .nil
 | @cons v r l m hh _ ih =>
  obtain⟨q,c,vs,d,e,h1,h2,h3,h4⟩:=hh
  have kt:∀ d ys,H d=some (.tup ys)->H' d=some (.tup ys):=fun d ys e=>bt _ _ (aZ e hB nofun) e
  exact .cons ⟨q,c,vs,d,e,kt _ _ h1,h2,bt _ _ (nb v bb q e c _ _ _ h1) h3,jf h4 kt⟩ (ih fun v hv=>nb v (aR _ hv))
theorem TH{c Pt CA:Addr}(TB:TabAt base mg c Pt)(B:lK mg)(Dh:mg "sorted" = none)(oq:Exc K mg "Apart" CA)(AX:dQ P w K mg base 5 "lengths" wb1 Gx)(tG:dQ P w K mg base 3 "least_steps" wa2 Y3)(pX:dQ P w K mg base 1 "steps_between" wa9 Y1)(tH:dQ P w K mg base 2 "ends_within" wc0 Y4)(D:Pm K mg "paper" qQ ue c):Gh P w K mg base 6 "paper" ue (Fo CA Pt):=by
 refine D.ahw lN (fun vs H Q E h =>?_) (fun f A outer s H vs Q E hr h =>?_)
 ·obtain⟨T,L,Ed,us,ts,ls,ev,es,a,b,rfl,_⟩:=h;rfl
 obtain⟨T,L,Ed,us,ts,ls,ev,es,a,b,rfl,hT,i7,hL,hE,jo,ok,ld,fe,h4,ha,hb,tb,Z,f9,q,qe⟩:=h
 refine⟨_,(av (dE (cC wm (aM bG (pv 1) (pv 3)) (aM bG (pv 1) (pv 4)) (cz _)) (aI (Td oq O (fun _ _ _ _ _ _ _ I hx q=>ad0 I hx q) (ae (Qr (Bw (Mv (pv 3)) (Bw fP (Bw (Mv (pv 4)) (Bw fP ZE))))) aq) O)) cD)
  (av (bz (i:=5) lN.nd O (vO O) (bp AX hr (by omega) O (ae (pv 0) (ae (pv 1) (ae (pv 2) aq)))))
  (av (bz (i:=6) lN.nd O (aO O) (bp tG hr (by omega) O (ae (pv 0) (ae (pv 1) (ae (pv 2) (ae (pv 5) aq))))))
  (av (bz (i:=7) lN.nd O (aO O) m6)
  (av (bz (i:=8) lN.nd O (aO O) (j8 (ae (cK (ae (pv 3) (ae (pv 4) aq))) aq)))
  (av (yG fM (yF (pv 8) (fun _=>O))
  (av (bz (i:=9) lN.nd O (aO O) (ZL bE PySem.F.slot_list_pop PySem.F.type_list_pop aac (pv 8)))
  (aI (dE (Je (Qs (n5 hr) (pv 9) (pv 7)) (by with_unfolding_all rfl)) (av (bz (i:=10) lN.nd O (aO O) (bp pX hr (by omega) O (ae (pv 6) (ae (pv 5) (ae (aM bF (pv 9) aA) (ae (aM bF (pv 9) aA) aq))))))
  (av (xI (n5 hr) (pv 7) (pv 9) (pv 10) O)
  (aI (dt (kG bE vM vK GO (pv 8) (ae (bp tH hr (by omega) O (ae (pv 0) (ae (pv 10) aq))) aq)))))) cD))))
  (av (bz (i:=11) lN.nd O (aO O) (j8 aq))
  (av (fA fM O (fU (Tn (i:=5) TB hr.depth O O Dh O O (vO (aO O)) O O O (pv 7) O (fun _ _ _ _ _=>O) O O O (by decide +kernel) O O)) (bX (i:=9) lN.nd O (aO O))
  (aI (dt (kG bE bV bU fJ (pv 11) (ae (cK (ae (aM bF (pv 9) aA) (ae (aM bF (pv 9) aA) (ae (aM bG (aM bG (pv 5) (aM bF (pv 9) aA)) (aM bF (pv 9) aA)) (ae (Mu (n5 hr) (pv 7) (pv 9) (fun _ _=>O)) aq))))) aq)))))
  (aI (cF (pv 11))))))))))),?_⟩
 try dsimp only[dR]
 have dG:=ok.dG
 have gd:∀ {i:Nat},i < ts.length->ls[i]? = some (ls.getD i 0):=fun {i} hi=>by rw[bc,aj (by rw[ok.len];exact hi)];rfl
 refine⟨_,O,_,O,L,_,_,_,O,O,a9.of hL,oG (gd ha),_,O,_,O,L,_,_,_,O,O,a9.of hL,oG (gd hb),O,_,O,rM (fun ne =>?_) (fun eq =>?_)⟩
 ·have ne:ls.getD a 0≠ls.getD b 0:=fun z=>ne (by rw[z])
  exact⟨by decide,_,O,_,O,Qy (by omega),_,O,MB ⟨a,by omega⟩,_,O,by decide,_,O,_,O,Qy (by omega),_,O,MB ⟨b,by omega⟩,_,O,by decide,fun z=>⟨(show 1<=sizeLine by decide),qe ne⟩⟩
 have eq:ls.getD a 0=ls.getD b 0:=by have:=V.int.inj eq;omega
 have q:=q eq
 have zo:=f9 eq
 clear f9
 obtain⟨d,hd⟩:=ld a b ha hb eq
 clear qe
 refine⟨_,O,_,O,_,O,T,L,Ed,us,ts,ls,ev,es,O,hT,i7,hL,hE,jo,ok,fun R rows H1 s1 hR lR VS =>?_⟩
 dsimp only[bq]
 have rB:oA H1 R rows ts.length (aL ts es):=⟨hR,lR,fun a c e=>(VS a c e).1⟩
 clear hR VS
 refine⟨_,O,_,O,_,O,_,O,T,L,Ed,R,us,ts,ls,ev,es,rows,O,s1 _ _ hT,gb s1 i7,s1 _ _ hL,s1 _ _ hE,fZ jo (fun d ys e=>s1 _ _ e),ok,ld,fe,rB,fun S Sr lp H2 s2 LS qD arm zE =>?_⟩
 dsimp only[bq]
 have Av:=rB.same s2
 have jC:=s1.trans s2
 intro M Pp hM A2
 dsimp only[bq]
 have s3:=bo hM (.ext Pp)
 generalize upd H2 M (.ext Pp)=H3 at s3 A2 ⊢
 have zw:=jC.trans s3
 refine⟨_,O,_,O,(show 2<=sizeLine by decide),fun q0 hq0 =>?_⟩
 obtain⟨H4,eH,s4,JY⟩:=alloc hq0 (.tup [nV a,nV b])
 rw[eH]
 refine⟨(show 1<=sizeLine by decide),fun Nd Wk =>?_⟩
 obtain⟨H5,eH,s5,hN5⟩:=alloc Wk (.lst [.ref q0])
 rw[eH]
 dsimp only[bq]
 have Qb:=zw.trans (s4.trans s5)
 have hM0:H M=none:=jC.free hM
 have Ck:H Nd=none:=(zw.trans s4).free Wk
 have abU:H2 Nd=none:=(s3.trans s4).free Wk
 have nMN:M≠Nd:=fun z=>by obtain⟨φ,e⟩:=A2.ext;rw[z]at e;have:=s4 _ _ e;rw[Wk]at this;cases this
 have sq4:bJ H2 H5:=s3.trans (s4.trans s5)
 have YZ:WS P w H2 [aa T,aa L,aa Ed,aN a,aN b,aa R,aa S,aa M,aa Nd] M Nd ts es a b d Z (121 * 900+1) ([aa T,aa L,aa Ed,aN a,aN b,aa R,aa S,aa M,aa Nd] ++ [none,none,none]) H5 :=
  ⟨[], [], [(a,b)],_,none,none,O,sq4,(A2.same s4).same s5,.nil,hN5,.cons ⟨q0,O,s5 _ _ JY⟩ .nil,PZ.start zo ha hb hd,O,(by show 1+120 * (900 - 0)<=120000;omega)⟩
 refine mZ (fun bw H'=>∃ (kvs:List (NK × V)) (rs:List ky) (x9 t4:Option V), bw = [aa T,aa L,aa Ed,aN a,aN b,aa R,aa S,aa M,aa Nd,x9,t4,none]∧bJ H2 H'∧DN P w H' M kvs∧ze H' Nd kvs rs∧PZ ts es a b d Z rs []) ?_ (fun key =>?_)
 rotate_left
 ·refine⟨WS P w H2 [aa T,aa L,aa Ed,aN a,aN b,aa R,aa S,aa M,aa Nd] M Nd ts es a b d Z,⟨_,YZ⟩,?_⟩
  rintro m Y H6 ⟨kvs,rs,iE,vn,x9,t4,rfl,sm,dn,rd,Ri,hvn,I,em,bd⟩
  refine⟨_,O, !vn.isEmpty,.inl ⟨_,a9.of Ri,O⟩,?_⟩
  by_cases hz:0 < vn.length
  rotate_left
  ·have e0:vn = []:=iI.mp (by omega)
   subst e0
   cases hvn
   exact iF (key _ _ ⟨kvs,rs,x9,t4,O,sm,dn,rd,I⟩)
  obtain⟨B2,Ov,p,qa,rfl,rfl,aaL,hqa⟩:=Oo hvn hz
  have gw:(!(B2 ++ [V.ref qa]).isEmpty)=true:=by simp
  rw[gw]
  refine oM ⟨fun bw H'=>∃ m',m' < m∧WS P w H2 [aa T,aa L,aa Ed,aN a,aN b,aa R,aa S,aa M,aa Nd] M Nd ts es a b d Z m' bw H',fun _ _ h=>h,?_⟩
  refine⟨_,O,.inl ⟨O,_,a9.of Ri⟩,Nd,_,.ref qa,O,O,Ri,(by simp),?_⟩
  dsimp only[bq]
  rw[List.dropLast_concat]
  have VJ:∀ c ys,H6 c=some (.tup ys)->(upd H6 Nd (.lst B2)) c=some (.tup ys):=fun c ys e=>by rw[aE (aZ e Ri nofun)];exact e
  have B3:=sm.put abU (o := .lst B2)
  have Wl:=aF (H:=H6) (a:=Nd) (o := .lst B2)
  have Hg:DN P w (upd H6 Nd (.lst B2)) M kvs:=dn.keep (fun φ e=>by rw[aE nMN];exact e) VJ
  have B4:ze (upd H6 Nd (.lst B2)) Nd kvs rs:=qS rd VJ fun c ys n e=>by rw[aE n];exact e
  have Ee:=bC aaL VJ
  have JX:=VJ _ _ hqa
  clear dn rd hvn aaL Ri hqa
  generalize upd H6 Nd (.lst B2)=H7 at B3 Wl Hg B4 Ee JX ⊢
  rw[aG,cX]at em bd
  obtain⟨lp1,lp2,k,hk,_⟩:=I.top p (.inl (au.mpr (.inr (bg _))))
  refine⟨_,O,_,O,M,qa,kvs,cg p,O,O,Hg,kW JX,_,O,?_⟩
  rcases IZ p B4 with⟨hn,hp⟩ | ⟨r,hr,e,c,vs,hv,_⟩
  rotate_left
  ·rw[hv]
   have sH:p∈rs.map dB:=bj.mpr ⟨r,hr,e⟩
   exact iF ⟨_,by omega,kvs,rs,Ov,B2,_,_,O,B3,Hg,B4,Wl,Ee,I.skip sH,O,by omega⟩
  rw[hn]
  refine oM ?_
  have LS7:=LS.same B3
  have DQ:=Av.same B3
  refine⟨_,O,_,O,_,O,qa,_,0,_,O,O,bM.of JX,aY (j:=0) rfl,_,O,qa,_,1,_,O,O,bM.of JX,aY (j:=1) rfl,S,R,Sr,rows,ts,es,ls,lp,p.1,p.2,k,O,LS7,DQ,ok,qD,arm,lp1,lp2,hk,fun D1 l r8 H8 s8 ab3 kF wy row =>?_⟩
  dsimp only[bq]
  have Y8:=B3.trans s8
  have Wz:=Hg.same s8
  have lk:kvs.length=rs.length:=aV B4
  have Zw:=I.dG zo
  refine⟨_,O,_,O,_,O,M,qa,kvs,cg p,O,O,Wz,kW (s8 _ _ JX),pH (by omega),fun L5 Wy =>?_⟩
  rw[qT _ hn]at Wy
  obtain⟨φ8,e8⟩:=Wz.ext
  have kx:∀ c o,H8 c=some o->(∀ φ,o ≠ .ext φ)->(upd H8 M (.ext L5)) c=some o:=fun c o e n=>by rw[aE (fun z=>by rw[z,e8]at e;cases e;exact n _ rfl)];exact e
  have nDN:D1≠Nd:=fun z=>by rw[z,Wl]at ab3;cases ab3
  have Vp:=Y8.put hM (o := .ext L5)
  have hN9:=kx _ _ (s8 _ _ Wl) (fun _ z=>nomatch z)
  have hD9:=kx _ _ kF (fun _ z=>nomatch z)
  have VI:∀ c ys,H8 c=some (.tup ys)->(upd H8 M (.ext L5)) c=some (.tup ys):=fun c ys e=>kx _ _ e (fun _ z=>nomatch z)
  have hv9:=bC (bC Ee fun c ys e=>s8 _ _ e) VI
  have rd9:ze (upd H8 M (.ext L5)) Nd kvs rs:=qS (qS B4 (fun c ys e=>s8 _ _ e) fun c ys _ e=>s8 _ _ e) VI fun c ys _ e=>kx _ _ e (fun _ z=>nomatch z)
  have Ud:=jf wy VI
  clear kx VI
  generalize upd H8 M (.ext L5)=H9 at Vp hN9 hD9 hv9 rd9 Ud Wy ⊢
  refine⟨_,O,.inl ⟨O,_,a9.of hN9⟩,_,O,_,O,T,D1,us,r8,ts,es,ls,p.1,p.2,l,O,(jC.trans Vp) _ _ hT,gb (jC.trans Vp) i7,ok,hD9,Ud,row,h4,fun D2 Yv zP sk alF xY pw fw =>?_⟩
  have abV:=sk _ _ hN9
  have rl:=row.len
  have l1:=aV hv9
  have l2:=aV pw
  have I2:=PZ.add zo ok.arms hd I hp row
  have ag2:=I2.dG zo
  rw[aG,cX]at ag2
  refine⟨Nd,D2,_,_,O,O,abV,xY,jM (gh (show _<=200000 by omega) (by decide)),?_⟩
  have JH:∀ c ys,zP c=some (.tup ys)->(upd zP Nd (.lst (B2 ++ Yv))) c=some (.tup ys):=fun c ys e=>by rw[aE (aZ e abV nofun)];exact e
  refine⟨121 * (900 - (rs ++ [(p,l)]).length)+(Ov ++ fh ts l).length,?_,kvs ++ [(cg p,.ref D1)],rs ++ [(p,l)],Ov ++ fh ts l,B2 ++ Yv,_,_,O,(Vp.trans sk).put abU,(Wy.same sk).keep (fun φ e=>by rw[aE nMN];exact e) JH,?_,aF,fQ (bC (bC hv9 fun c ys e=>sk _ _ e) JH) (bC pw JH),I2,O,?_⟩
  ·rw[aG,aG,cX];omega
  ·refine fQ (qS (qS rd9 (fun c ys e=>sk _ _ e) fun c ys _ e=>sk _ _ e) JH fun c ys n e=>by rw[aE n];exact e) (.cons ⟨O,D1,r8,O,?_,jf (jf Ud fun c ys e=>sk _ _ e) JH,nDN⟩ .nil)
   rw[aE nDN];exact sk _ _ hD9
  ·rw[aG,aG,cX];omega
 rintro bw H6 ⟨kvs,rs,x9,t4,rfl,Gz,dn6,Zo,I⟩
 refine⟨(show 0<=sizeLine by decide),fun Bk Na =>?_⟩
 dsimp only[bq]
 obtain⟨H7,eH,s7,hB7⟩:=alloc Na (.lst [])
 rw[eH]
 have B3:=Gz.trans s7
 have Hg:=dn6.same s7
 have B4:ze H7 Nd kvs rs:=qS Zo (fun c ys e=>s7 _ _ e) fun c ys _ e=>s7 _ _ e
 have DQ:=Av.same B3
 have PY:=tb.same (jC.trans B3)
 have lk:kvs.length=rs.length:=aV B4
 have Zw:=I.dG zo
 have keys:kvs.map (·.1)=rs.map fun r=>cg r.1:=by
  clear dn6 Zo Hg lk Zw I
  induction B4 with
  | nil=>rfl
  | @cons kv r l m h _ ih=>rw[aS,aS,h.1,ih]
 refine mZ (fun bw H'=>∃ (x9 t4:Option V) (vb:List V) (kU:List ky), bw = [aa T,aa L,aa Ed,aN a,aN b,aa R,aa S,aa M,aa Nd,x9,t4,some (.ref Bk)]∧jv Pt H6 H'∧ju H' Pt sA o9∧H' Bk=some (.lst vb)∧LL H' (aL ts es) vb kU∧LK ts es a b kU∧∀ r∈kU,Z r.1) ?_ (fun key =>?_)
 rotate_left
 ·refine⟨_,O,M,R,kvs,rows,gD (aL ts es),O,Hg,O,DQ.at_,by rw[lk];exact I.dG zo,by rw[DQ.len];omega,fun kv cR =>?_,PY,fun N H8 vo gY kb PX abW hN8 hvo perm ID =>?_⟩
  ·obtain⟨i,hi⟩:=aU cR
   obtain⟨r,hr,e,_⟩:=Paired.at B4 hi
   obtain⟨l1,l2,k,hk,_⟩:=I.top r.1 (.inr (bj.mpr ⟨r,ak hr,O⟩))
   obtain⟨cA,G4,_⟩:=DQ.ix (K:=K) l1
   refine⟨r.1.1,r.1.2,cA,_,e,G4,DQ.row _ _ G4,by unfold ie;rw[az,cN];omega,?_⟩
   rw[oo l2,hk,e,O2,hk];rfl
  obtain⟨kU,pm,eo⟩:=Xr (fun r:ky=>cg r.1) perm keys
  subst eo
  have bk:LK ts es a b kU:=Yc ok.arms hd I.tovN pm (by
   rw[jq]at ID ⊢
   refine ID.imp fun {x y} z =>?_
   rw[O2,O2]at z
   omega)
  have kg:∀ {c:Addr}{o:HO},H7 c=some o->(∀ ps,o ≠ .nU ps)->H8 c=some o:=fun {c o} e n=>kb.get PY e n
  have zF:=kg hB7 (fun _ z=>nomatch z)
  have kt8:∀ c ys,H7 c=some (.tup ys)->H8 c=some (.tup ys):=fun c ys e=>kg e (fun _ z=>nomatch z)
  have Wz:DN P w H8 M kvs:=Hg.keep (fun φ e=>kg e (fun _ z=>nomatch z)) kt8
  have rd8:ze H8 Nd kvs rs:=qS B4 kt8 fun c ys _ e=>kg e (fun _ z=>nomatch z)
  have Zv:oA H8 R rows ts.length (aL ts es):=⟨kg DQ.at_ (fun _ z=>nomatch z),DQ.len,fun a c e=>kg (DQ.row a c e) (fun _ z=>nomatch z)⟩
  have nNB:N≠Bk:=fun z=>by rw[z,hB7]at abW;cases abW
  -- no alf list is oY ak3
  have agS:∀ kv∈kvs,∀ c,kv.2=V.ref c->c≠Bk:=fun kv cR c e z=>by
   obtain⟨i,hi⟩:=aU cR
   obtain⟨r,_,_,c',vs,e2,h1,_⟩:=Paired.at Zo hi
   rw[e]at e2
   cases e2
   rw[z,Na]at h1;cases h1
  refine⟨N,O,⟨_,a9.of hN8⟩,?_⟩
  have lvo:vo.length=kU.length:=by rw[aV hvo,az]
  have lrs:kU.length=rs.length:=pm.length_eq
  refine gR (xs:=vo) (fun i Y H'=>PpB P w H8 [aa T,aa L,aa Ed,aN a,aN b,aa R,aa S,aa M,aa Nd] Bk (aL ts es) kU i Y H'∧∀ (v:V) (q:Addr) (vb:List V),H' Bk=some (.lst vb)->v∈vb->v=V.ref q->∀ c x y z,H' q=some (.tup [x,y,z,.ref c])->c≠Bk) ⟨⟨x9,t4, [],O,dD.refl _ _,zF,.nil⟩,fun v q vb e hv=>by rw[zF]at e;cases e;exact nomatch hv⟩ ?_ ?_ ?_
  ·rintro i Y H' _ ⟨⟨x9,t4,vb,rfl,bt,_⟩,_⟩
   exact a9.of (bt _ _ nNB hN8)
  ·rintro i v Y H' hv ⟨⟨x9,t4,vb,rfl,bt,KI,Cg⟩,nb⟩
   obtain⟨k,hk,cc,rfl,nk⟩:=Paired.at hvo hv
   rw[aK]at hk
   obtain⟨r,hr,rfl⟩:=cP.mp hk
   have G3:H' cc=some (.tup [nV r.1.1,nV r.1.2]):=by
    have e:=aaq nk
    exact bt _ _ (aZ e zF nofun) e
   have Eg:=pm.mem_iff.mp (ak hr)
   obtain⟨l1,l2,dd,gP,_⟩:=I.top r.1 (.inr (bj.mpr ⟨r,Eg,O⟩))
   have Lg:∀ {c:Addr}{o:HO},c≠Bk->H8 c=some o->H' c=some o:=fun {c o} n e=>bt _ _ n e
   have kt':∀ c ys,H8 c=some (.tup ys)->H' c=some (.tup ys):=fun c ys e=>bt _ _ (aZ e zF nofun) e
   have dn':DN P w H' M kvs:=Wz.keep (fun φ e=>bt _ _ (aZ e zF nofun) e) kt'
   have rR:R≠Bk:=fun z=>by have:=Gz _ _ Av.at_;rw[z,Na]at this;cases this
   have agB:∀ (x:Nat) (c:Addr),rows[x]? = some c->H' c=some (.lst (ie (aL ts es) ts.length x)):=fun x c e=>Lg (fun z=>by have:=Gz _ _ (Av.row x c e);rw[z,Na]at this;cases this) (Zv.row x c e)
   have rB':oA H' R rows ts.length (aL ts es):=⟨Lg rR Zv.at_,Zv.len,agB⟩
   obtain⟨cA,G4,IW⟩:=rB'.ix (K:=K) l1
   have jA:uh (ie (aL ts es) ts.length r.1.1) (r.1.2:Int)=some (nV dd):=by
    have z:=aY (oo (L:=aL ts es) (n:=ts.length) (a:=r.1.1) l2)
    rw[gP]at z;exact z
   rcases IZ r.1 rd8 with⟨_,qF⟩ | ⟨r2,hr2,e2,c,vs,hvv,hc8,hs8⟩
   ·exact absurd (bj.mpr ⟨r,Eg,O⟩) qF
   have e3:r2=r:=BA I.key hr2 Eg e2
   subst e3
   have cB:c≠Bk:=by
    obtain⟨kv,cR,ev⟩:=Mb hvv
    exact agS kv cR c ev
   dsimp only[bq]
   refine⟨_,O,.inl ⟨O,_,a9.of KI⟩,_,O,cc,_,0,_,O,O,bM.of G3,aY (j:=0) rfl,_,O,cc,_,1,_,O,O,bM.of G3,aY (j:=1) rfl,_,O,_,O,cc,_,0,_,O,O,bM.of G3,aY (j:=0) rfl,R,_,_,_,O,O,a9.of rB'.at_,gf G4,_,O,cc,_,1,_,O,O,bM.of G3,aY (j:=1) rfl,cA,_,_,_,O,O,IW,jA,_,O,_,O,M,cc,kvs,cg r2.1,_,O,O,dn',kW G3,hvv,(show 4<=sizeLine by decide),fun p hp =>?_⟩
   have s9:=bo hp (.tup [nV r2.1.1,nV r2.1.2,nV dd,.ref c])
   have Ka:=aF (H:=H') (a:=p) (o := .tup [nV r2.1.1,nV r2.1.2,nV dd,.ref c])
   generalize upd H' p (.tup [nV r2.1.1,nV r2.1.2,nV dd,.ref c])=H9 at s9 Ka ⊢
   have hB9:=s9 _ _ KI
   have lb:=aV Cg
   have lt:=qK i kU
   refine⟨Bk,_,_,O,O,hB9,pH (by rw[lb,bW];omega),?_⟩
   have OG:∀ d ys,H9 d=some (.tup ys)->(upd H9 Bk (.lst (vb ++ [.ref p]))) d=some (.tup ys):=fun d ys e=>by rw[aE (aZ e hB9 nofun)];exact e
   have acy:dD Bk H' (upd H9 Bk (.lst (vb ++ [.ref p]))):=fun d o n e=>by rw[aE n];exact s9 _ _ e
   have adX:=Yd Cg acy KI fun v hv q e=>nb v q vb KI hv e
   refine⟨⟨_,_,vb ++ [.ref p],O,bt.trans acy,aF,?_⟩,fun v q vb2 e hv ev c2 x y z hq =>?_⟩
   ·rw[fO hr]
    refine fQ adX (.cons ⟨p,c,vs,dd,O,OG _ _ Ka,gP,?_,jf (jf (jf hs8 kt') fun d ys e=>s9 _ _ e) OG⟩ .nil)
    rw[aE cB];exact s9 _ _ (Lg cB hc8)
   ·rw[aF]at e
    cases e
    rcases au.mp hv with hv | hv
    ·have AO:H' q=some (.tup [x,y,z,.ref c2]):=by
      obtain⟨j,hj⟩:=aU hv
      obtain⟨r3,_,q3,c3,vs3,d3,e3,h3,_⟩:=Paired.at Cg hj
      rw[ev]at e3
      cases e3
      rw[OG _ _ (s9 _ _ h3)]at hq
      cases hq
      exact h3
     exact nb v q vb KI hv ev c2 x y z AO
    ·have hv:=ax.mp hv
     rw[ev]at hv
     cases hv
     rw[OG _ _ Ka]at hq
     cases hq
     exact cB
  ·rintro Y H' ⟨⟨x9,t4,vb,rfl,bt,KI,Cg⟩,_⟩
   rw[lvo,bK]at Cg
   refine key _ _ ⟨x9,t4,vb,kU,O,fun d o n e =>?_,?_,KI,Cg,bk,fun r AN=>I.Eb r.1 (.inr (bj.mpr ⟨r,pm.mem_iff.mp AN,O⟩))⟩
   ·exact bt _ _ (bQ e Na) (kb _ _ n (s7 _ _ e))
   ·rcases PX with z | ⟨c',oc,vs,t,z1,z2,z3⟩
    ·exact .inl (bt _ _ (aZ z zF nofun) z)
    ·exact .inr ⟨c',oc,vs,t,bt _ _ (aZ z1 zF nofun) z1,bt _ _ (aZ z2 zF nofun) z2,z3⟩
 rintro bw H8 ⟨x9,t4,vb,kU,rfl,kb,PX,zF,Cg,bk,r64⟩
 exact⟨_,O,q Bk kU vb H8 (An (jC.trans Gz) kb) PX ((jC.trans Gz).free Na) zF Cg bk r64⟩
inductive Nz(vs:List V)(H:Hp)(Q:VK):Prop
 | mk (L:Addr) (xs:List V) (j:Nat) (z0:vs = [.ref L,nV j]) (z1:H L=some (.lst xs)) (z2:j < xs.length) (z3:Q (.bl true) H):Nz vs H Q
def Fn:Sp:=fun vs H Q _=>Nz vs H Q
theorem LW(B:lK mg)(D:Def K mg "is_place" yA wb9):dQ P w K mg base 1 "is_place" wb9 Fn:=by
 refine D.has LU (fun vs H Q E h =>?_) (fun f cJ A outer s H vs Q E hr h =>?_)
 ·obtain⟨L,xs,j,rfl,_⟩:=h;rfl
 obtain⟨L,xs,j,rfl,hL,hj,q⟩:=h
 refine⟨_,(aI (cF (AA (nJ Vt aA (pv 1) (cz _)) (Az (nJ By (pv 1) (cL dU rfl B.m7 cQ (ae (pv 0) aq)) (cz _)))))),?_⟩
 try dsimp only[dR]
 refine⟨_,O,_,_,O,O,true,by rw[decide_eq_true (show (0:Int)<=(j:Int) by omega)],oM ?_⟩
 refine⟨_,O,_,O,L,_,O,.inl (a9.of hL),_,_,O,O,?_⟩
 rw[decide_eq_true (show (j:Int) < (xs.length:Int) by omega)]
 exact q
inductive acP(vs:List V)(H:Hp)(Q:VK):Prop
 | mk (Ed s q:Addr) (ev:List V) (a b p l:Nat) (c:V) (z0:vs = [.ref Ed,.ref s]) (z1:H Ed=some (.lst ev)) (z2:H s=some (.tup [.str "edge",nV a,nV b,nV p])) (z3:ev[p]? = some (.ref q)) (z4:H q=some (.tup [nV a,nV b,nV l,c])) (z5:a≠b) (z6:Q (nV l) H):acP vs H Q
def Y5:Sp:=fun vs H Q _=>acP vs H Q
theorem FO(lP:dQ P w K mg base 1 "is_place" wb9 Fn)(D:Def K mg "edge_length" tq wb8):dQ P w K mg base 2 "edge_length" wb8 Y5:=by
 refine D.has nI (fun vs H Q E h =>?_) (fun f cJ A outer s H vs Q E hr h =>?_)
 ·obtain⟨Ed,s,q,ev,a,b,p,l,c,rfl,_⟩:=h;rfl
 obtain⟨Ed,s,qe,ev,a,b,p,l,c,rfl,hE,hs,hp,hq,ia,q⟩:=h
 refine⟨_,(av (dE (jF (jm (bp lP hr (by omega) O (ae (pv 0) (ae (aM bF (pv 1) aA) aq))))) (aI (cF vg)) cD)
  (av (bz (i:=2) nI.nd O (aO O) (aM bG (pv 0) (aM bF (pv 1) aA)))
  (av (bz (i:=3) nI.nd O (aO O) (AA (nJ gA (aM bF (pv 1) aA) (aM bF (pv 2) aA) (cz _)) (Az (nJ gA (aM bF (pv 1) aA) (aM bF (pv 2) aA) (cz _)))))
  (av (bz (i:=4) nI.nd O (aO O) (AA (nJ gA (aM bF (pv 1) aA) (aM bF (pv 2) aA) (cz _)) (Az (nJ gA (aM bF (pv 1) aA) (aM bF (pv 2) aA) (cz _)))))
  (av (dE (PW.pt (pw_and (jF (jm (pv 3))) (pw_and1 (jF (jm (pv 4)))))) (aI (cF vg)) cD)
  (aI (cF (aM bF (pv 2) aA)))))))),?_⟩
 try dsimp only[dR]
 have s3:=aY (j:=3) (xs := [V.str "edge",nV a,nV b,nV p]) rfl
 refine⟨_,O,_,O,s,_,3,_,O,O,bM.of hs,aY (j:=3) rfl,Ed,ev,p,O,hE,(ai.mp hp).1,_,O,iF ?_⟩
 refine⟨_,O,_,O,s,_,3,_,O,O,bM.of hs,aY (j:=3) rfl,Ed,_,_,_,O,O,a9.of hE,aY hp,?_⟩
 dsimp only[bq]
 refine⟨_,O,s,_,1,_,O,O,bM.of hs,aY (j:=1) rfl,_,O,qe,_,0,_,O,O,bM.of hq,aY (j:=0) rfl,O,true,by rw[decide_eq_true rfl],oM ?_⟩
 refine⟨_,O,s,_,2,_,O,O,bM.of hs,aY (j:=2) rfl,_,O,qe,_,1,_,O,O,bM.of hq,aY (j:=1) rfl,O,?_⟩
 dsimp only[bq]
 refine⟨_,O,s,_,1,_,O,O,bM.of hs,aY (j:=1) rfl,_,O,qe,_,1,_,O,O,bM.of hq,aY (j:=1) rfl,O,false,by rw[decide_eq_false (fun z=>ia (by have:=V.int.inj z;omega))],iF ?_⟩
 dsimp only[bq]
 refine⟨_,O,true,by rw[decide_eq_true rfl],iF ?_⟩
 exact⟨_,O,qe,_,2,_,O,O,bM.of hq,aY (j:=2) rfl,q⟩
theorem FI(D:Def K mg "told_length" zz wb4):dQ P w K mg base 1 "told_length" wb4 (fun _ _ _ _=>False):=by
 obtain⟨f,fd,F,hm,hb⟩:=D.ex
 exact⟨f,fd,⟨fun _ _ _ _ h=>h.elim,fun _ _ _ _ _ _ _ _ _ _ _ _ _ h=>h.elim⟩,hm,F.kp,hb⟩
inductive acJ(vs:List V)(H:Hp)(Q:VK):Prop
 | mk (T Ed s q:Addr) (u:V) (ev:List V) (a b p l:Nat) (c:V) (z0:vs = [.ref T,.ref Ed,.ref s,u]) (z1:H Ed=some (.lst ev)) (z2:H s=some (.tup [.str "edge",nV a,nV b,nV p])) (z3:ev[p]? = some (.ref q)) (z4:H q=some (.tup [nV a,nV b,nV l,c])) (z5:a≠b) (z6:Q (nV l) H):acJ vs H Q
def Y0:Sp:=fun vs H Q _=>acJ vs H Q
theorem FJ(tI:dQ P w K mg base 2 "edge_length" wb8 Y5)(tE:dQ P w K mg base 1 "told_length" wb4 fun _ _ _ _=>False)(D:Def K mg "step_length" sZ HA):dQ P w K mg base 3 "step_length" HA Y0:=by
 refine D.has Fv (fun vs H Q E h =>?_) (fun f cJ A outer s H vs Q E hr h =>?_)
 ·obtain⟨T,Ed,s,q,u,ev,a,b,p,l,c,rfl,_⟩:=h;rfl
 obtain⟨T,Ed,s,qe,u,ev,a,b,p,l,c,rfl,hE,hs,hp,hq,ia,q⟩:=h
 refine⟨_,(av (dE (cC gA (aM bF (pv 2) aA) fP (cz _)) (aI (cF (bp tI hr (by omega) O (ae (pv 1) (ae (pv 2) aq))))) cD)
  (aI (cF (bp tE hr (by omega) O (ae (pv 0) (ae (pv 2) (ae (pv 3) aq))))))),?_⟩
 try dsimp only[dR]
 refine⟨_,O,s,_,0,_,O,O,bM.of hs,aY (j:=0) rfl,O,_,O,iZ (fun _ =>?_) (fun z=>absurd rfl z)⟩
 exact⟨_,O,_,O,Ed,s,qe,ev,a,b,p,l,c,O,hE,hs,hp,hq,ia,q⟩
inductive acL(vs:List V)(H:Hp)(Q:VK):Prop
 | mk (T Ed r ls s q:Addr) (u:V) (us ev:List V) (a b p l:Nat) (c:V) (z0:vs = [.ref T,.ref Ed,.ref r,u]) (z1:H T=some (.lst us)) (z2:a < us.length) (z3:b < us.length) (z4:H Ed=some (.lst ev)) (z5:H r=some (.tup [nV a,nV b,nV l,.ref ls])) (z6:H ls=some (.lst [.ref s])) (z7:H s=some (.tup [.str "edge",nV a,nV b,nV p])) (z8:ev[p]? = some (.ref q)) (z9:H q=some (.tup [nV a,nV b,nV l,c])) (BZ:a≠b)
  (Dz:Q (.bl true) H):acL vs H Q
def Y2:Sp:=fun vs H Q _=>acL vs H Q
theorem Jm(lP:dQ P w K mg base 1 "is_place" wb9 Fn)(tF:dQ P w K mg base 3 "step_length" HA Y0)(D:Def K mg "row_holds" w8 wa5):dQ P w K mg base 4 "row_holds" wa5 Y2:=by
 refine D.has jD (fun vs H Q E h =>?_) (fun f cJ A outer s H vs Q E hr h =>?_)
 ·obtain⟨T,Ed,r,ls,s,q,u,us,ev,a,b,p,l,c,rfl,_⟩:=h;rfl
 obtain⟨T,Ed,r,ls,s,qe,u,us,ev,a,b,p,l,c,rfl,hT,ha,hb,hE,QY,MX,hs,hp,hq,ia,q⟩:=h
 refine⟨_,(av (dE (jF (jm (bp lP hr (by omega) O (ae (pv 0) (ae (aM bF (pv 2) aA) aq))))) (aI (cF js)) cD)
  (av (bz (i:=4) jD.nd O (aO O) (aM bF (pv 2) aA))
  (av (bz (i:=5) jD.nd O (aO O) aA)
  (av (fA cq O (fU (aM bF (pv 2) aA)) (bX (i:=6) jD.nd O (aO O))
  (av (dE (PW.pt (pw_or (cC wm (aM bF (pv 6) aA) (pv 4) (cz _)) (pw_or1 (jF (jm (bp lP hr (by omega) O (ae (pv 0) (ae (aM bF (pv 6) aA) aq)))))))) (aI (cF js)) cD)
  (av (bz (i:=7) jD.nd O (aO O) (bp tF hr (by omega) O (ae (pv 0) (ae (pv 1) (ae (pv 6) (ae (pv 3) aq))))))
  (av (dE (cC Jl (pv 7) vg (cz _)) (aI (cF js)) cD)
  (av (Qm (i:=5) jD.nd O (aO O) (pv 7) QU)
  (aI (bz (i:=4) jD.nd O (aO O) (aM bF (pv 6) aA))))))))
  (aI (cF (AA (nJ gA (pv 4) (aM bF (pv 2) aA) (cz _)) (Az (nJ gA (pv 5) (aM bF (pv 2) aA) (cz _)))))))))),?_⟩
 try dsimp only[dR]
 refine⟨_,O,_,O,r,_,0,_,O,O,bM.of QY,aY (j:=0) rfl,T,us,a,O,hT,ha,_,O,iF ?_⟩
 refine⟨_,O,r,_,0,_,O,O,bM.of QY,aY (j:=0) rfl,?_⟩
 dsimp only[bq]
 refine⟨_,O,r,_,3,_,O,O,bM.of QY,aY (j:=3) rfl,ls,O,⟨_,a9.of MX⟩,?_⟩
 refine gR (xs := [.ref s]) (fun i Y H'=>H'=H∧((i=0 ∧ Y = [aa T,aa Ed,aa r,some u,some (nV a),some (.int 0),none,none])∨(i=1 ∧ Y = [aa T,aa Ed,aa r,some u,some (nV b),some (.int (0+(l:Int))),some (.ref s),some (nV l)]))) ⟨O,.inl ⟨O,O⟩⟩ ?_ ?_ ?_
 ·rintro i Y H' _ ⟨rfl,_⟩
  exact a9.of MX
 ·rintro i v Y H' hv ⟨rfl,⟨rfl,rfl⟩ | ⟨rfl,_⟩⟩
  ·cases hv
   dsimp only[bq]
   refine⟨_,O,s,_,1,_,O,O,bM.of hs,aY (j:=1) rfl,_,O,O,_,O,rM (fun z=>absurd rfl z) (fun _ =>?_)⟩
   refine⟨_,O,_,O,s,_,2,_,O,O,bM.of hs,aY (j:=2) rfl,T,us,b,O,hT,hb,_,O,iF ?_⟩
   refine⟨_,O,_,O,_,O,_,O,T,Ed,s,qe,u,ev,a,b,p,l,c,O,hE,hs,hp,hq,ia,?_⟩
   dsimp only[bq]
   refine⟨_,O,O,_,O,iF ?_⟩
   refine⟨_,O,_,O,_,_,O,O,?_⟩
   dsimp only[bq]
   exact⟨_,O,s,_,2,_,O,O,bM.of hs,aY (j:=2) rfl,O,.inr ⟨O,O⟩⟩
  ·cases hv
 ·rintro Y H' ⟨rfl,⟨z,_⟩ | ⟨_,rfl⟩⟩
  ·cases z
  ·refine⟨_,O,_,O,r,_,1,_,O,O,bM.of QY,aY (j:=1) rfl,O,true,by rw[decide_eq_true rfl],oM ?_⟩
   refine⟨_,O,_,O,r,_,2,_,O,O,bM.of QY,aY (j:=2) rfl,O,?_⟩
   rw[decide_eq_true (by rw[vW])]
   exact q
structure E1(H:Hp)(Bk r ls s:Addr)(a b p l:Nat):Prop where
 hB:H Bk=some (.lst [.ref r])
 hr:H r=some (.tup [nV a,nV b,nV l,.ref ls])
 hl:H ls=some (.lst [.ref s])
 hs:H s=some (.tup [.str "edge",nV a,nV b,nV p])
theorem E1.same{H H':Hp}{Bk r ls s:Addr}{a b p l:Nat}(h:E1 H Bk r ls s a b p l)(sm:bJ H H'):E1 H' Bk r ls s a b p l:=⟨sm _ _ h.hB,sm _ _ h.hr,sm _ _ h.hl,sm _ _ h.hs⟩
inductive NA(vs:List V)(H:Hp)(Q:VK):Prop
 | mk (T Ed Bk r ls s q:Addr) (us ev:List V) (a b p l:Nat) (c:V) (z0:vs = [.ref T,.ref Ed,.ref Bk,nV a,nV b]) (z1:H T=some (.lst us)) (z2:a < us.length) (z3:b < us.length) (z4:H Ed=some (.lst ev)) (z5:E1 H Bk r ls s a b p l) (z8:ev[p]? = some (.ref q)) (z9:H q=some (.tup [nV a,nV b,nV l,c])) (BZ:a≠b)
  (Dz:∀ H',bJ H H'->Q (.bl true) H'):NA vs H Q
def Mm:Sp:=fun vs H Q _=>NA vs H Q
theorem TN(xm:dQ P w K mg base 4 "row_holds" wa5 Y2)(D:Def K mg "holds" Fy wa3):dQ P w K mg base 5 "holds" wa3 Mm:=by
 refine D.has yy (fun vs H Q E h =>?_) (fun f cJ A outer s H vs Q E hr h =>?_)
 ·obtain⟨T,Ed,Bk,r,ls,s,q,us,ev,a,b,p,l,c,rfl,_⟩:=h;rfl
 obtain⟨T,Ed,Bk,r,ls,s,qe,us,ev,a,b,p,l,c,rfl,hT,ha,hb,hE,ob,hp,hq,ia,q⟩:=h
 refine⟨_,(av (dE (PW.pt (pw_or (jF (yF (pv 2) (fun _=>O))) (pw_or (cC wm (aM bF (aM bG (pv 2) (DU Aa aA)) aA) (pv 3) (cz _)) (pw_or1 (cC wm (aM bF (aM bG (pv 2) (DU Aa aA)) aA) (pv 4) (cz _)))))) (aI (cF js)) cD)
  (av (bz (i:=5) yy.nd O (aO O) m6)
  (av (fA cq O (fU (pv 2)) (bX (i:=6) yy.nd O (aO O))
  (av (bz (i:=7) yy.nd O (aO O) (cK (ae (aM bF (pv 6) aA) (ae (aM bF (pv 6) aA) aq))))
  (av (dE (PW.pt (pw_or (Je (ZM (n5 hr) (pv 7) (pv 5)) (by with_unfolding_all rfl)) (pw_or1 (jF (jm (bp xm hr (by omega) O (ae (pv 0) (ae (pv 1) (ae (pv 6) (ae (pv 5) aq)))))))))) (aI (cF js)) cD)
  (aI (xI (n5 hr) (pv 5) (pv 7) (aM bF (pv 6) aA) O)))))
  (aI (cF js))))),?_⟩
 try dsimp only[dR]
 have la:uh [V.ref r] (-1)=some (.ref r):=rfl
 refine⟨_,O,true,.inl ⟨_,a9.of ob.hB,O⟩,iF ?_⟩
 refine⟨_,O,_,O,Bk,_,_,_,O,O,a9.of ob.hB,la,r,_,0,_,O,O,bM.of ob.hr,aY (j:=0) rfl,_,O,O,_,O,rM (fun z=>absurd rfl z) (fun _ =>?_)⟩
 refine⟨_,O,_,O,Bk,_,_,_,O,O,a9.of ob.hB,la,r,_,1,_,O,O,bM.of ob.hr,aY (j:=1) rfl,_,O,O,_,O,rM (fun z=>absurd rfl z) (fun _ =>?_)⟩
 intro M Pp hM A2
 dsimp only[bq]
 obtain⟨H1,eH,s1,_⟩:=alloc hM (.ext Pp)
 rw[eH]at A2 ⊢
 have Vx:=ob.same s1
 refine⟨_,O,Bk,O,⟨_,a9.of Vx.hB⟩,?_⟩
 refine gR (xs := [.ref r]) (fun i Y H'=>bJ H H'∧(i=0->H'=H1 ∧ Y = [aa T,aa Ed,aa Bk,aN a,aN b,aa M,none,none])) ⟨s1,fun _=>⟨O,O⟩⟩ ?_ ?_ ?_
 ·rintro i Y H' _ ⟨sm,_⟩
  exact a9.of (sm _ _ ob.hB)
 ·rintro i v Y H' hv ⟨sm,h0⟩
  cases i with
  | succ i=>cases hv
  | zero =>
   cases hv
   obtain⟨rfl,rfl⟩:=h0 rfl
   dsimp only[bq]
   refine⟨_,O,r,_,0,_,O,O,bM.of Vx.hr,aY (j:=0) rfl,_,O,r,_,1,_,O,O,bM.of Vx.hr,aY (j:=1) rfl,(show 2<=sizeLine by decide),fun t ht =>?_⟩
   dsimp only[bq]
   obtain⟨H2,eH,s2,t6⟩:=alloc ht (.tup [nV a,nV b])
   rw[eH]
   have Vw:=Vx.same s2
   have EC:=A2.same s2
   refine⟨_,O,_,O,M,t, [],cg (a,b),O,O,EC,kW t6,_,O,iF ?_⟩
   refine⟨_,O,_,O,_,O,_,O,T,Ed,r,ls,s,qe,_,us,ev,a,b,p,l,c,O,(s1.trans s2) _ _ hT,ha,hb,(s1.trans s2) _ _ hE,Vw.hr,Vw.hl,Vw.hs,hp,(s1.trans s2) _ _ hq,ia,_,O,iF ?_⟩
   refine⟨_,O,r,_,2,_,O,O,bM.of Vw.hr,aY (j:=2) rfl,_,O,_,O,M,t, [],cg (a,b),O,O,EC,kW t6,pH (by decide),fun L5 Wy =>?_⟩
   exact⟨(s1.trans s2).put hM,fun z=>nomatch z⟩
 ·rintro Y H' ⟨sm,_⟩
  exact q _ sm
theorem Xi{v:V}{i:Nat}{rest:TS}{D:Ends}{Y:St}{H:Hp}(h:rest D (Y.set i (some v)) H):SW (Iz (tC v) (bq i)) rest D Y H:=h
structure WY(K:ao)(mg:Str->Option Value)(jh ji j4 mh cj jg iz ib:Addr):Prop where
 yY:mg "NoTree" = some (.ref jh)
 yZ:mg "NoRule" = some (.ref ji)
 BJ:mg "NoRow" = some (.ref j4)
 Ex:mg "Full" = some (.ref mh)
 BK:mg "Apart" = some (.ref cj)
 yX:mg "TooBig" = some (.ref jg)
 wD:mg "TooWide" = some (.ref iz)
 oz:mg "SameError" = some (.ref ib)
 qb:mg "ValueError" = none
 uV:LD K cj
 uP:bS K (.ref cj) (.ref cj)=some true
 mr:bS K (.ref cj) (.ref ib)=some true
 kZ:bS K (.ref cj) (.type "ValueError")=some true
 qX:bS K (.ref cj) (.ref jh)=some false
 qY:bS K (.ref cj) (.ref ji)=some false
 uO:bS K (.ref cj) (.ref j4)=some false
 xM:bS K (.ref cj) (.ref mh)=some false
 qW:bS K (.ref cj) (.ref jg)=some false
 pj:bS K (.ref cj) (.ref iz)=some false
 uM:nQ K (.ref cj) (.ref cj)=some true
 mq:nQ K (.ref cj) (.ref ib)=some true
theorem Ms{a:Addr}:∀ u v,RelV (.ref a) u->RelV (.ref a) v->u=v:=fun u v h1 h2=>(show u=aH a from h1).trans (show v=aH a from h2).symm
theorem Yx{T:String}:∀ u v,RelV (.ty T) u->RelV (.ty T) v->u=v:=fun u v h1 h2=>(show u=gM T from h1).trans (show v=gM T from h2).symm
theorem Gn:∀ (cs:List Addr) (us:List Value),Vals (cs.map V.ref) us->us=cs.map aH
 | [],us,h=>by cases h;rfl
 | c :: cs,us,h=>by
  cases h with
  | cons h1 h2=>rw[Gn cs _ h2,show _=aH c from h1];rfl
theorem JJ{K:ao}{t:Value}:∀ (cs:List Addr),(∀ c∈cs,bS K t (.ref c)=some false)->nP K t (cs.map aH)=some false
 | [],_=>rfl
 | c :: cs,h=>by
  rw[aS,nP,h c bb]
  exact JJ cs fun d hd=>h d (aR _ hd)
structure wQ(Pt T L Ed:Addr)(us:List V)(ts:List Tm)(ls:List Nat)(ev:List V)(es:List bY)(H:Hp):Prop where
 hT:H T=some (.lst us)
 i7:lH H us ts
 hL:H L=some (.lst (ls.map nV))
 hE:H Ed=some (.lst ev)
 jo:qf H ev es
 ok:rX ts es ls
 ld:Il ts es ls
 fe:es.length<=900
 h4:∀ (i:Nat) x as,ts[i]? = some (.of x as)->as.length<=4
 tb:ju H Pt sA o9
section
variable {Pt T L Ed:Addr}{us:List V}{ts:List Tm}{ls:List Nat}{ev:List V}{es:List bY} {H H':Hp}
theorem wQ.keep(h:wQ Pt T L Ed us ts ls ev es H)(kb:jv Pt H H')(tb:ju H' Pt sA o9):wQ Pt T L Ed us ts ls ev es H' :=
 ⟨kb.get h.tb h.hT (fun _ z=>nomatch z),mR (fun c ys e=>kb.get h.tb e (fun _ z=>nomatch z)) h.i7,kb.get h.tb h.hL (fun _ z=>nomatch z),kb.get h.tb h.hE (fun _ z=>nomatch z),fZ h.jo (fun d ys e=>kb.get h.tb e (fun _ z=>nomatch z)),h.ok,h.ld,h.fe,h.h4,tb⟩
theorem wQ.same(h:wQ Pt T L Ed us ts ls ev es H)(sm:bJ H H'):wQ Pt T L Ed us ts ls ev es H':=h.keep (fun c o _ e=>sm _ _ e) (h.tb.same sm)
end
inductive WK(Pt:Addr)(vs:List V)(H:Hp)(Q:VK):Prop
 | mk (T L Ed:Addr) (us:List V) (ts:List Tm) (ls:List Nat) (ev:List V) (es:List bY) (a b:Nat) (k:Int) (z0:vs = [.ref T,.ref L,.ref Ed,nV a,nV b,.int k]) (z1:wQ Pt T L Ed us ts ls ev es H) (z2:a < ts.length) (z3:b < ts.length) (z4:ls.getD a 0≠ls.getD b 0)
  (z5:∀ H',bJ H H'->Q (.bl true) H'):WK Pt vs H Q
def Vl(Pt:Addr):Sp:=fun vs H Q _=>WK Pt vs H Q
inductive WQ(CA:Addr)(H:Hp)(pre:V->St)(Y:St)(H':Hp):Prop
 | mk (ea:Addr) (x7:Option V) (e : Y = pre (.ref ea) ++ [x7]) (sm:bJ H H') (hx:H' ea=some (XO ea CA)):WQ CA H pre Y H'
theorem Oq{Pt:Addr}(B:lK mg)(oq:Exc K mg "Apart" cj)(Yq0:WY K mg jh ji j4 mh cj jg iz ib)(qZ:Gh P w K mg base 6 "paper" ue (Fo cj Pt))(D:Def K mg "_law_refused" Ao gr):dQ P w K mg base 7 "_law_refused" gr (Vl Pt):=by
 have uV:=Yq0.uV
 have BK:=oq.glob
 have yY:=Yq0.yY
 have yZ:=Yq0.yZ
 have BJ:=Yq0.BJ
 have Ex:=Yq0.Ex
 have yX:=Yq0.yX
 have wD:=Yq0.wD
 have oz:=Yq0.oz
 have qb:=Yq0.qb
 refine D.has nH (fun vs H Q E h =>?_) (fun f cJ A outer s H vs Q E hr h =>?_)
 ·obtain⟨T,L,Ed,us,ts,ls,ev,es,a,b,k,rfl,_⟩:=h;rfl
 obtain⟨T,L,Ed,us,ts,ls,ev,es,a,b,k,rfl,pi,ha,hb,ne,q⟩:=h
 refine⟨_,(av (bz (i:=6) nH.nd O (aO O) vg)
  (av (dE (cC gA (pv 5) aA (cz _)) (aI (Ql (i:=7) ⟨O,O⟩ nH.nd O O O BK (Jf (GH qZ hr (by omega) O (ae (eP eE O B.kH eQ (ae (pv 0) aq)) (ae (eP eE O B.kH eQ (ae (pv 1) aq)) (ae (eP eE O B.kH eQ (ae (pv 2) aq)) (ae (pv 3) (ae (pv 4) aq))))))) (fun ea=>(aI (bz (i:=6) nH.nd O (aO O) (pv 7)))))) (aI (Ql (i:=7) ⟨O,O⟩ nH.nd O O O oz (Jf (GH qZ hr (by omega) O (ae (eP eE O B.kH eQ (ae (pv 0) aq)) (ae (eP eE O B.kH eQ (ae (pv 1) aq)) (ae (eP eE O B.kH eQ (ae (pv 2) aq)) (ae (pv 3) (ae (pv 4) aq))))))) (fun ea=>(aI (bz (i:=6) nH.nd O (aO O) (pv 7)))))))
  (av (dE (PW.pt (pw_or (jF (jm (cL (A7 (K:=K) O oq uV) O B.ow jH (ae (pv 6) (ae (o7 (v := .ref cj) O BK O) aq))))) (pw_or (jF (jm (cL (A7 (K:=K) O oq uV) O B.ow jH (ae (pv 6) (ae (o7 (v := .ref ib) O oz O) aq))))) (pw_or1 (jF (jm (cL (A7 (K:=K) O oq uV) O B.ow jH (ae (pv 6) (ae (My (v := .ty "ValueError") O qb Dg O) aq))))))))) (aI (cF js)) cD)
  (aI (cF (ZI (cL (Pa (K:=K) O oq uV) O B.ow jH (ae (pv 6) (ae (cK (ae (o7 (v := .ref jh) O yY O) (ae (o7 (v := .ref ji) O yZ O) (ae (o7 (v := .ref j4) O BJ O) (ae (o7 (v := .ref mh) O Ex O) (ae (o7 (v := .ref jg) O yX O) (ae (o7 (v := .ref iz) O wD O) aq))))))) aq))))))))),?_⟩
 try dsimp only[dR]
 refine Xi ?_
 refine mZ (WQ cj H fun v => [aa T,aa L,aa Ed,aN a,aN b,some (.int k),some v]) ?_ (fun key =>?_)
 rotate_left
 ·refine⟨_,O,O,_,O,iZ (fun _ =>?_) (fun _ =>?_)⟩
  ·refine⟨_,O,T,us,O,.inl (a9.of pi.hT),fun c1 G5 =>?_⟩
   obtain⟨H1,eH,t1,k1⟩:=alloc G5 (.lst us)
   rw[eH]
   refine⟨_,O,L,_,O,.inl (a9.of (t1 _ _ pi.hL)),fun c2 AU =>?_⟩
   obtain⟨H2,eH,t2,k2⟩:=alloc AU (.lst (ls.map nV))
   rw[eH]
   refine⟨_,O,Ed,ev,O,.inl (a9.of (t2 _ _ (t1 _ _ pi.hE))),fun c3 M5 =>?_⟩
   obtain⟨H3,eH,t3,k3⟩:=alloc M5 (.lst ev)
   rw[eH]
   have u3:=t1.trans (t2.trans t3)
   have p3:=pi.same u3
   refine⟨_,O,_,O,yb.mk c1 c2 c3 us ts ls ev es a b rfl (t3 _ _ (t2 _ _ k1)) p3.i7 (t3 _ _ k2) k3 p3.jo p3.ok p3.ld (bf p3.fe (by decide)) p3.h4 ha hb p3.tb (fun _=>True) (fun z=>absurd z ne) (fun z=>absurd z ne) (fun _=>⟨cj,O,Yq0.uM,fun ea AS =>?_⟩)⟩
   exact⟨_,O,key _ _ (WQ.mk ea _ rfl (u3.trans (bo AS _)) aF)⟩
  ·refine⟨_,O,T,us,O,.inl (a9.of pi.hT),fun c1 G5 =>?_⟩
   obtain⟨H1,eH,t1,k1⟩:=alloc G5 (.lst us)
   rw[eH]
   refine⟨_,O,L,_,O,.inl (a9.of (t1 _ _ pi.hL)),fun c2 AU =>?_⟩
   obtain⟨H2,eH,t2,k2⟩:=alloc AU (.lst (ls.map nV))
   rw[eH]
   refine⟨_,O,Ed,ev,O,.inl (a9.of (t2 _ _ (t1 _ _ pi.hE))),fun c3 M5 =>?_⟩
   obtain⟨H3,eH,t3,k3⟩:=alloc M5 (.lst ev)
   rw[eH]
   have u3:=t1.trans (t2.trans t3)
   have p3:=pi.same u3
   refine⟨_,O,_,O,yb.mk c1 c2 c3 us ts ls ev es a b rfl (t3 _ _ (t2 _ _ k1)) p3.i7 (t3 _ _ k2) k3 p3.jo p3.ok p3.ld (bf p3.fe (by decide)) p3.h4 ha hb p3.tb (fun _=>True) (fun z=>absurd z ne) (fun z=>absurd z ne) (fun _=>⟨cj,O,Yq0.mq,fun ea AS =>?_⟩)⟩
   exact⟨_,O,key _ _ (WQ.mk ea _ rfl (u3.trans (bo AS _)) aF)⟩
 rintro bw H1 ⟨ea,x7,rfl,sm,hx⟩
 refine⟨_,O,ea,_,_,true,O,hx,O,Ms,Yq0.uP,_,O,iF ?_⟩
 refine⟨_,O,ea,_,_,true,O,hx,O,Ms,Yq0.mr,_,O,iF ?_⟩
 refine⟨_,O,ea,_,_,true,O,hx,O,Yx,Yq0.kZ,_,O,iF ?_⟩
 have kn:nP K (.ref cj) ([jh,ji,j4,mh,jg,iz].map aH)=some false:=JJ _ fun c hc=>by
  simp only[aW,cM,or_false]at hc
  rcases hc with rfl | rfl | rfl | rfl | rfl | rfl
  ·exact Yq0.qX
  ·exact Yq0.qY
  ·exact Yq0.uO
  ·exact Yq0.xM
  ·exact Yq0.qW
  ·exact Yq0.pj
 refine⟨_,O,(show 6<=sizeLine by decide),fun tp xQ =>?_⟩
 have s1:=bo xQ (.tup ([jh,ji,j4,mh,jg,iz].map V.ref))
 have ahb:(upd H1 tp (.tup ([jh,ji,j4,mh,jg,iz].map V.ref))) tp=some (.tup ([jh,ji,j4,mh,jg,iz].map V.ref)):=aF
 exact⟨ea,tp,_,_,false,O,s1 _ _ hx,ahb,Gn _,kn,_,O,q _ (sm.trans s1)⟩
end
section
variable {P:Program}{w:World}{K:ao}{mg:Str->Option Value}{base:Heap}{CB CF CH CS CN CE CM tB:Addr}
theorem Gm{H:Hp}{vs:List V}{es:List bY}(h:qf H vs es):Pl H vs (yW es):=by
 induction h with
 | nil=>exact .nil
 | cons h _ ih=>obtain⟨q,c,e,hq⟩:=h;exact .cons ⟨q,_,e,hq⟩ ih
theorem lZ.ends{ts:List Tm}{es:List bY}(g:lZ ts es):∀ a b:Nat,(a,b)∈yW es->a < ts.length∧b < ts.length:=fun a b h=>by
 obtain⟨e,he,heq⟩:=bj.mp h
 cases heq
 exact⟨(g.wC e he).1,(g.wC e he).2.1⟩
theorem lZ.len{ts:List Tm}{es:List bY}{ls:List Nat}(g:lZ ts es)(c:Bo ts (yW es) ls):rX ts es ls:=by
 refine⟨by have:=g.dG;omega,g.i6,g.arms,fun i x as e=>bf (g.oZ i x as e) (by decide),c.1,g.wC,fun a b k d ha hb =>?_⟩
 have:=c.2.2.2 a b ha hb (X7 d)
 rw[bc,bc,this]
theorem GR{ts:List Tm}{es:List bY}{ls:List Nat}(hn:ts.Nodup)(c:Bo ts (yW es) ls):Il ts es ls:=fun a b ha hb e=>by
 have hl:=c.1
 have e1:ls[a]? = some (ls.getD a 0):=by rw[bc,aj (by omega)];rfl
 have e2:ls[b]? = some (ls.getD a 0):=by rw[e,bc,aj (by omega)];rfl
 obtain⟨n,d⟩:=X3 hn (.trans (c.2.2.1 a _ e1) (.symm (c.2.2.1 b _ e2)))
 cases h:aL ts es a b with
 | none=>exact(pA h d).elim
 | some k=>exact⟨k,O⟩
theorem Nj{H:Hp}{t:Addr}{a b:Nat}(h:H t=some (.tup [nV a,nV b])):Den H (.tup [.int (a:Int),.int (b:Int)]) (.ref t):=by
 rw[Den]
 refine⟨t,_,O,h,?_⟩
 rw[oj]
 refine⟨_,_,O,by rw[Den];exact .inl rfl,?_⟩
 rw[oj]
 exact⟨_,_,O,by rw[Den];exact .inl rfl,by rw[oj]⟩
theorem UL(a b:Int):L2.D.dX [.int a,.int b]<=150:=by
 rw[L2.D.dX,L2.D.dX,L2.D.dX,L2.D.deep,L2.D.deep];omega
theorem aan{K:ao}:bS K (.type "list") (.type "list")=some true:=by rfl
inductive R7(Pt:Addr)(vs:List V)(H:Hp)(Q:VK):Prop
 | mk (T Ed eh:Addr) (us:List V) (ts:List Tm) (ev:List V) (es:List bY) (a b l:Nat) (c:V) (z0:vs = [.ref T,.ref Ed,.ref eh]) (z1:H T=some (.lst us)) (z2:lH H us ts) (z3:H Ed=some (.lst ev)) (z4:qf H ev es) (z5:lZ ts es) (z6:es.length<=800) (z7:H eh=some (.tup [nV a,nV b,nV l,c])) (z8:WI ts.length (a,b,l)) (z9:SF ts es a b) (BZ:ju H Pt sA o9)
  (Dz:∀ H',jv Pt H H'->ju H' Pt sA o9->Q (.bl true) H'):R7 Pt vs H Q
def P7(Pt:Addr):Sp:=fun vs H Q _=>R7 Pt vs H Q
theorem Jn{CA Pt:Addr}(B:lK mg)(rf:dQ P w K mg base 3 "closed" wb3 (CI K))(qZ:Gh P w K mg base 6 "paper" ue (Fo CA Pt))(F4:dQ P w K mg base 5 "holds" wa3 Mm)(D:Def K mg "_law_made_good" xb tO):dQ P w K mg base 7 "_law_made_good" tO (P7 Pt):=by
 refine D.has pI (fun vs H Q E h =>?_) (fun f cJ A outer s H vs Q E hr h =>?_)
 ·obtain⟨T,Ed,eh,us,ts,ev,es,a,b,l,c,rfl,_⟩:=h;rfl
 obtain⟨T,Ed,eh,us,ts,ev,es,a,b,l,c,rfl,hT,wA,hE,xP,go,el,V8,win,oy,tb,q⟩:=h
 refine⟨_,(av (bz (i:=3) pI.nd O (aO O) (eB ZU (pv 1) (j8 (ae (pv 2) aq))))
  (av (bz (i:=4) pI.nd O (aO O) (bp rf hr (by omega) O (ae (eP eE O B.kH eQ (ae (pv 0) aq)) (ae (eP eE O B.kH eQ (ae (pv 3) aq)) aq))))
  (av (bz (i:=5) pI.nd O (aO O) (Tx qZ hr (by omega) AB O (ae (eP eE O B.kH eQ (ae (pv 0) aq)) (ae (pv 4) (ae (eP eE O B.kH eQ (ae (pv 3) aq)) (ae (aM bF (pv 2) aA) (ae (aM bF (pv 2) aA) aq)))))))
  (av (dE (PW.pt (pw_or (jF (jm (cL UQ O B.ow jH (ae (pv 5) (ae (My (v := .ty "list") O B.kH eQ O) aq))))) (pw_or (cC gA (cL dU O B.m7 cQ (ae (pv 5) aq)) aA (cz _)) (pw_or1 (cC (ZQ (U9 hr)) (oK Y9 (aM bG (pv 5) (DU Aa aA)) qV (qU aA)) (cK (ae (aM bF (pv 2) aA) (ae (aM bF (pv 2) aA) aq))) (cz _)))))) (aI (cF js)) cD)
  (aI (cF (AA (Tw By Vt aA (aM bF (aM bG (pv 5) (DU Aa aA)) aA) (aM bF (pv 2) aA)) (Az (nJ ZS (bp F4 hr (by omega) O (ae (eP eE O B.kH eQ (ae (pv 0) aq)) (ae (eP eE O B.kH eQ (ae (pv 3) aq)) (ae (pv 5) (ae (aM bF (pv 2) aA) (ae (aM bF (pv 2) aA) aq)))))) js (cz _)))))))))),?_⟩
 try dsimp only[dR]
 have lu:us.length=ts.length:=aV wA
 have le:ev.length=es.length:=aV xP
 have fw:=go.dG
 have oZ:∀ (i:Nat) x as,ts[i]? = some (.of x as)->as.length<=1000:=fun i x as e=>bf (go.oZ i x as e) (by decide)
 have zG:=go.dH win
 have ia:a≠b:=fun z=>oy 0 (by rw[z];exact .refl b)
 obtain⟨wa,wb,wl⟩:a < ts.length∧b < ts.length∧1<=l:=win
 refine⟨_,O,_,O,(show 1<=sizeLine by decide),fun n1 hn1 =>?_⟩
 obtain⟨H1,eH,s1,k1⟩:=alloc hn1 (.lst [.ref eh])
 rw[eH]
 refine⟨Ed,n1,ev,_,O,O,s1 _ _ hE,k1,bf (show _<=1000 by rw[le];simp;omega) (by decide),fun Mo hMo =>?_⟩
 dsimp only[bq]
 obtain⟨H2,eH,s2,Uy⟩:=alloc hMo (.lst (ev ++ [.ref eh]))
 rw[eH]
 have u2:=s1.trans s2
 have aaK:qf H2 (ev ++ [.ref eh]) (es ++ [(a,b,l)]):=fQ (fZ xP fun d ys e=>u2 _ _ e) (.cons ⟨eh,c,O,u2 _ _ V8⟩ .nil)
 refine⟨_,O,T,us,O,.inl (a9.of (u2 _ _ hT)),fun c1 G5 =>?_⟩
 obtain⟨H3,eH,s3,k3⟩:=alloc G5 (.lst us)
 rw[eH]
 refine⟨_,O,Mo,_,O,.inl (a9.of (s3 _ _ Uy)),fun c2 AU =>?_⟩
 obtain⟨H4,eH,s4,k4⟩:=alloc AU (.lst (ev ++ [.ref eh]))
 rw[eH]
 have Yw:=s3.trans s4
 have u4:=u2.trans Yw
 refine⟨c1,c2,us,_,ts,yW (es ++ [(a,b,l)]),O,s4 _ _ k3,gb u4 wA,a9.of k4,Gm (fZ aaK fun d ys e=>Yw _ _ e),go.arms,by omega,oZ,zG.ends,fun L ls H5 s5 KD hL5 cl =>?_⟩
 dsimp only[bq]
 have ok:=zG.len cl
 have ld:=GR go.i6 cl
 have Vb:=Yw.trans s5
 have u5:=u2.trans Vb
 refine⟨_,O,T,us,O,.inl (a9.of (u5 _ _ hT)),fun d1 Kp =>?_⟩
 obtain⟨H6,eH,s6,k6⟩:=alloc Kp (.lst us)
 rw[eH]
 refine⟨_,O,_,O,Mo,_,O,.inl (a9.of (s6 _ _ (Vb _ _ Uy))),fun d2 Cf =>?_⟩
 obtain⟨H7,eH,s7,k7⟩:=alloc Cf (.lst (ev ++ [.ref eh]))
 rw[eH]
 have Va:=s6.trans s7
 have u7:=u5.trans Va
 have Ur:=u7 _ _ V8
 have PY:=tb.same u7
 have he:∀ e∈es ++ [(a,b,l)],1<=e.2.2:=fun e h=>(zG.wC e h).2.2
 have eql:ls.getD a 0=ls.getD b 0:=ok.lead a b l (.dH (au.mpr (.inr (bg _)))) wa wb
 refine⟨_,O,eh,_,0,_,O,O,bM.of Ur,aY (j:=0) rfl,_,O,eh,_,1,_,O,O,bM.of Ur,aY (j:=1) rfl,yb.mk d1 L d2 us ts ls _ (es ++ [(a,b,l)]) a b rfl (s7 _ _ k6) (gb u7 wA) (Va _ _ hL5) k7 (fZ aaK fun d ys e=>(Vb.trans Va) _ _ e) ok ld (by rw[aG,cX];omega) go.oZ wa wb PY (fun q=>q=(a,b)) (fun _=>UE he oy) (fun _ Bk rs vb H8 kb PX hB0 zF Cg bk hz =>?_) (fun z=>absurd eql z)⟩
 dsimp only[bq]
 have ers:=Rz he oy bk hz
 subst ers
 obtain⟨r,lr,s0,ob⟩:∃ r lr s0,vb = [.ref r]∧E1 H8 Bk r lr s0 a b es.length l:=by
  cases Cg with
  | cons h t =>
   cases t
   obtain⟨r,lr,vs,d,rfl,g1,g2,g3,g4⟩:=h
   have g2:aL ts (es ++ [(a,b,l)]) a b=some d:=g2
   rw[He oy]at g2
   cases g2
   cases g4 with
   | cons h t =>
    cases t
    obtain⟨s0,rfl,hs⟩:=h
    exact⟨r,lr,s0,O,zF,g1,g3,hs⟩
 obtain⟨rfl,ob⟩:=ob
 have kg:∀ {c:Addr}{o:HO},H7 c=some o->(∀ ps,o ≠ .nU ps)->H8 c=some o:=fun {c o} e n=>kb.get PY e n
 have abr:=kg Ur (fun _ z=>nomatch z)
 have hT8:=kg (u7 _ _ hT) (fun _ z=>nomatch z)
 have ahG:=kg ((Vb.trans Va) _ _ Uy) (fun _ z=>nomatch z)
 have la:uh [V.ref r] (-1)=some (.ref r):=rfl
 refine mZ (fun bw H' => bw = [aa T,aa Ed,aa eh,aa Mo,aa L,aa Bk]∧bJ H8 H') ?_ (fun key =>?_)
 rotate_left
 ·refine⟨_,O,_, "list",_,true,O,.lst ob.hB,aan,_,O,iF ?_⟩
  refine⟨_,O,Bk,_,O,.inl (a9.of ob.hB),O,_,O,iZ (fun z=>absurd (V.int.inj z) (show ¬ ((1:Nat):Int)=0 by decide)) (fun _ =>?_)⟩
  refine⟨_,O,_,O,Bk,_,_,_,O,O,a9.of ob.hB,la,_,O,r,_,O,bM.of ob.hr,(by show ¬ (HT.c7 4 0 none=0∧HT.c7 4 4 (some 2)=4);decide),fun t1 sD =>?_⟩
  have s9:=bo sD (.tup (rj [nV a,nV b,nV l,.ref lr] none (some 2)))
  have k9:(upd H8 t1 (.tup (rj [nV a,nV b,nV l,.ref lr] none (some 2)))) t1=some (.tup [nV a,nV b]):=aF
  generalize upd H8 t1 (.tup (rj [nV a,nV b,nV l,.ref lr] none (some 2)))=H9 at s9 k9 ⊢
  have Ko:=s9 _ _ abr
  refine⟨_,O,eh,_,0,_,O,O,bM.of Ko,aY (j:=0) rfl,_,O,eh,_,1,_,O,O,bM.of Ko,aY (j:=1) rfl,(show 2<=sizeLine by decide),fun t2 t6 =>?_⟩
  obtain⟨zP,eH,sk,MM⟩:=alloc t6 (.tup [nV a,nV b])
  rw[eH]
  refine⟨[.int (a:Int),.int (b:Int)], [.int (a:Int),.int (b:Int)],.inl ⟨Nj (sk _ _ k9),Nj MM⟩,UL _ _,_,O,rM (fun z=>absurd rfl z) (fun _ =>?_)⟩
  exact key _ _ ⟨O,s9.trans sk⟩
 rintro bw H9 ⟨rfl,s9⟩
 have ZZ:=ob.same s9
 have Ko:=s9 _ _ abr
 have hT9:=s9 _ _ hT8
 have ahF:=s9 _ _ ahG
 refine⟨_,O,_,O,Bk,_,_,_,O,O,a9.of ZZ.hB,la,r,_,2,_,O,O,bM.of ZZ.hr,aY (j:=2) rfl,_,_,O,O,true,by rw[decide_eq_true (show (0:Int) < (l:Int) by have:1<=l:=wl;omega)],oM ?_⟩
 refine⟨_,O,eh,_,2,_,O,O,bM.of Ko,aY (j:=2) rfl,_,_,O,O,true,by rw[decide_eq_true (Int.le_refl _)],oM ?_⟩
 refine⟨_,O,T,us,O,.inl (a9.of hT9),fun e1 he1 =>?_⟩
 obtain⟨zP,eH,sk,MM⟩:=alloc he1 (.lst us)
 rw[eH]
 refine⟨_,O,Mo,_,O,.inl (a9.of (sk _ _ ahF)),fun e2 M3 =>?_⟩
 obtain⟨Fb,eH,mY,k11⟩:=alloc M3 (.lst (ev ++ [.ref eh]))
 rw[eH]
 have Vc:=sk.trans mY
 have OW:=Vc _ _ Ko
 refine⟨_,O,_,O,eh,_,0,_,O,O,bM.of OW,aY (j:=0) rfl,_,O,eh,_,1,_,O,O,bM.of OW,aY (j:=1) rfl,e1,e2,Bk,r,lr,s0,eh,us,_,a,b,es.length,l,c,O,mY _ _ MM,by omega,by omega,k11,ZZ.same Vc,by rw[<- le];simp,OW,ia,fun SE IU=>⟨true,true,O,O,?_⟩⟩
 rw[decide_eq_true rfl]
 exact q _ (An u7 (kb.then (s9.trans (Vc.trans IU)))) (PX.same (s9.trans (Vc.trans IU)))
theorem aai:∀ k:Fin 20,(C3 ((k.val:Nat):Int)).cps.toList≠(C3 25).cps.toList:=by decide +kernel
theorem Pz(c:Int){k:Int}(h0:0<=k)(h1:k < 20):fN c k≠fN c 25:=fun e=>by
 have e1:(fN c k).cps.toList=(fN c 25).cps.toList:=by rw[e]
 unfold fN at e1
 generalize gg (su c) none (some (AE c))=a at e1
 generalize gg (su c) (some (AE c)) none=b at e1
 have ap:∀ x y:Str,(x ++ y).cps.toList=x.cps.toList ++ y.cps.toList:=fun x y=>by show (x.cps ++ y.cps).toList=_;exact zV
 rw[ap,ap,ap,ap]at e1
 have e3:=wd (vT e1)
 obtain⟨n,rfl⟩:∃ n:Nat,k=(n:Int):=⟨k.toNat,by omega⟩
 exact aai ⟨n,by omega⟩ e3
theorem UB{ts:List Tm}{es:List (Nat × Nat)}{z:Str}(he:∀ a b:Nat,(a,b)∈es->a < ts.length∧b < ts.length)(hn:(TM.name z:Tm) ∉ ts){i j:Nat}(h:Eqv (ts ++ [.name z]) es i j):i=ts.length↔j=ts.length:=by
 have at_:(ts ++ [(.name z:Tm)])[ts.length]? = some (.name z):=lJ
 induction h with
 | refl i=>exact Iff.rfl
 | symm _ ih=>exact ih.symm
 | trans _ _ i1 i2=>exact i1.trans i2
 | dH h =>
  have:=he _ _ h
  omega
 | @same i j t h1 h2 =>
  have one:∀ {i j:Nat},(ts ++ [(.name z:Tm)])[i]? = some t->(ts ++ [(.name z:Tm)])[j]? = some t->i=ts.length->j=ts.length:=fun {i j} h1 h2 e=>by
   rw[e,at_]at h1
   cases h1
   rcases Fq h2 with y | ⟨y,_⟩
   ·exact absurd (ak y) hn
   ·exact y
  exact⟨one h1 h2,one h2 h1⟩
 | La h1 h2 _ _ _ =>
  constructor
  ·intro e;rw[e,at_]at h1;cases h1
  ·intro e;rw[e,at_]at h2;cases h2
theorem ad4{ts:List Tm}{es:List (Nat × Nat)}{ls:List Nat}{z:Str}(he:∀ a b:Nat,(a,b)∈es->a < ts.length∧b < ts.length)(hn:(TM.name z:Tm) ∉ ts)(c:Bo (ts ++ [.name z]) es ls){k:Nat}(hk:k < ts.length):ls.getD k 0≠ls.getD ts.length 0:=fun e=>by
 have hl:=c.1
 rw[aG,cX]at hl
 have e1:ls[k]? = some (ls.getD k 0):=by rw[bc,aj (by omega)];rfl
 have e2:ls[ts.length]? = some (ls.getD k 0):=by rw[e,bc,aj (by omega)];rfl
 have:=(UB he hn (.trans (c.2.2.1 k _ e1) (.symm (c.2.2.1 ts.length _ e2)))).mpr rfl
 omega
inductive WM(Pt:Addr)(K:ao)(vs:List V)(H:Hp)(Q:VK):Prop
 | mk (a:Addr) (ns:List Int) (z0:vs = [.ref a]) (z1:a9 K H a (ns.map V.int)) (z2:ns.length<=63) (z3:H Pt=some (.nU #[])) (z4:∀ H',Q (.bl true) H'):WM Pt K vs H Q
def Ic(Pt:Addr)(K:ao):Sp:=fun vs H Q _=>WM Pt K vs H Q
def m3:V->V
 | .int c => .int (c % 1000003)
 | v=>v
inductive LwI(Pt:Addr)(H:Hp)(G:St)(i:Nat)(Y:St)(H':Hp):Prop
 | mk (x6 x7 x8 x9:Option V):(Y = G ++ [x6,x7,x8,x9])->jv Pt H H'->ju H' Pt sA o9->LwI Pt H G i Y H'
theorem K1(c p:Int){n:Nat}(h:0 < n):∃ k:Nat,gL c p (n:Int)=(k:Int)∧k < n:=by
 have h0:=lT c p (m:=(n:Int)) (by omega)
 have h1:=rg c p (m:=(n:Int)) (by omega)
 exact⟨(gL c p n).toNat,by omega,by omega⟩
theorem ZX{Pt:Addr}(B:lK mg)(ed:dQ P w K mg base 1 "_law_draw" ee xE)(ng:dQ P w K mg base 2 "_law_word" wa7 DI)(F3:dQ P w K mg base 4 "_law_stuff" wa8 (Mj K))(rf:dQ P w K mg base 3 "closed" wb3 (CI K))(sO:dQ P w K mg base 7 "_law_refused" gr (Vl Pt))(xn:dQ P w K mg base 7 "_law_made_good" tO (P7 Pt)){f:Addr}{fd:FuncData}(F:Bi K "law" "law" pM f fd):lC P w K mg base Fc 8 f fd ["_law_script"] (Ic Pt K):=by
 refine F.ok om (fun vs H Q E h =>?_) (fun cJ A outer s H vs Q E hr h =>?_)
 ·obtain⟨a,ns,rfl,_⟩:=h;rfl
 obtain⟨S,ns,rfl,hS,h63,hPt,q⟩:=h
 refine⟨_,(av (bz (i:=1) om.nd O (aO O) (bp F3 hr (by omega) O (ae (pv 0) (ae aA aq))))
  (av (bz (i:=2) om.nd O (aO O) (aM bF (pv 1) aA))
  (av (bz (i:=3) om.nd O (aO O) (aM bF (pv 1) aA))
  (av (bz (i:=4) om.nd O (aO O) (cL (RO O) O B.agr RV (ae (xJ (te:=(uX _ _ _)) (own := ["_law_cell"]) (caps := []) (iW (aX pM) fu O O O (by decide +kernel)) (fU (pv 0)) O (fun _ _ _=>bX (i:=0) (show (["_law_cell"]:List Str).Nodup by decide +kernel) O (aO O)) (fun _ _ _=>(eB pQ (pv 0) aA))) aq)))
  (av (dt (kG bE bV bU fJ (pv 2) (ae (cK (ae fP (ae (bp ng hr (by omega) O (ae aA (ae (CY (cC Vu (cL dU O B.m7 cQ (ae (pv 0) aq)) aA (cz _)) (aM bG (pv 0) aA) aA) aq))) aq))) aq)))
  (av (bz (i:=5) om.nd O (vO O) (bp rf hr (by omega) O (ae (eP eE O B.kH eQ (ae (pv 2) aq)) (ae (eP eE O B.kH eQ (ae (pv 3) aq)) aq))))
  (av (fA cq O (Jh (cK (ae aA (ae aA (ae aA aq))))) (bX (i:=6) om.nd O (aO O))
  (av (bz (i:=7) om.nd O (vO O) (bp ed hr (by omega) O (ae (pv 4) (ae (pv 6) (ae (cL dU O B.m7 cQ (ae (pv 2) aq)) aq)))))
  (av (B5 (i:=8) om.nd O O (te:=_) (ct:=(HY (uX _ (uX (Oj K) _ _) (uX (Oj K) _ _)))) (own := ["_law_k"]) (caps := [("_law_leads",5),("_law_a",7)]) (iW (aX pM) fu O O O (by decide +kernel)) (Ay O B.As (ae (cL dU O B.m7 cQ (ae (pv 2) aq)) aq)) O (fun _ _ _=>bX (i:=0) (show (["_law_k", "_law_leads", "_law_a"]:List Str).Nodup by decide +kernel) O (aO O)) (fun _ _ _=>(cC wm (aM bG (pv 1) (pv 0)) (aM bG (pv 1) (pv 2)) (cz _))) (fun _ _ _=>(pv 0)) O)
  (av (bz (i:=9) om.nd O (aO O) (aM bG (pv 8) (bp ed hr (by omega) O (ae (eB xK (pv 4) aA) (ae (eB l6 (pv 6) aA) (ae (cL dU O B.m7 cQ (ae (pv 8) aq)) aq))))))
  (av (dE (jF (jm (bp sO hr (by omega) O (ae (pv 2) (ae (pv 5) (ae (pv 3) (ae (pv 7) (ae (pv 9) (ae (bp ed hr (by omega) O (ae (pv 4) (ae (eB l6 (pv 6) aA) (ae aA aq)))) aq))))))))) (aI (cF js)) cD)
  (av (dE (jF (jm (bp xn hr (by omega) O (ae (pv 2) (ae (pv 3) (ae (cK (ae (pv 9) (ae (pv 7) (ae (eB l6 aA (eB pQ (pv 4) (eB Jk aA aA))) (ae (cK (ae fP aq)) aq))))) aq)))))) (aI (cF js)) cD)
  (av (dE (jF (jm (bp sO hr (by omega) O (ae (pv 2) (ae (pv 5) (ae (pv 3) (ae (pv 7) (ae (pv 9) (ae (bp ed hr (by omega) O (ae (eB xK (pv 4) aA) (ae (pv 6) (ae aA aq)))) aq))))))))) (aI (cF js)) cD)
  (aI (dE (jF (jm (bp sO hr (by omega) O (ae (pv 2) (ae (pv 5) (ae (pv 3) (ae (pv 9) (ae (pv 7) (ae (bp ed hr (by omega) O (ae (eB xK (pv 4) aA) (ae (pv 6) (ae aA aq)))) aq))))))))) (aI (cF js)) cD)))))))))
  (aI (cF js))))))))),?_⟩
 try dsimp only[dR]
 refine⟨_,O,S,ns,12,O,hS,h63,by decide,fun M T Ed us ev ts es H1 s1 hM hT wA hE xP go el nm mx nTE =>?_⟩
 dsimp only[bq]
 refine⟨_,O,M,_,0,_,O,O,bM.of hM,aY (j:=0) rfl,?_⟩
 dsimp only[bq]
 refine⟨_,O,M,_,1,_,O,O,bM.of hM,aY (j:=1) rfl,?_⟩
 dsimp only[bq]
 have lu:us.length=ts.length:=aV wA
 have tw:=go.two
 have m12:ts.length<=12:=by omega
 refine⟨_,O,S,O,⟨_,s1.seq hS⟩,?_⟩
 refine RN m3 (s1.seq hS) (by rw[az];omega) (fun x hx H' sm Q' q' =>?_) (fun D1 kF =>?_)
 ·obtain⟨n,_,rfl⟩:=bj.mp hx
  exact⟨_,O,_,_,O,O,n6,q'⟩
 rw[show (ns.map V.int).map m3=(ns.map fun c=>c % 1000003).map V.int by rw[il,il];rfl]
 obtain⟨H2,eH,s2,k2⟩:=alloc kF (.lst ((ns.map fun c=>c % 1000003).map V.int))
 rw[eH]
 refine⟨D1,_,O,a9.of k2,?_⟩
 dsimp only[bq]
 generalize (ns.map fun c=>c % 1000003).sum=md
 -- a name more
 have Rg:=s2 _ _ hT
 refine⟨_,O,.inl ⟨O,_,a9.of Rg⟩,?_⟩
 refine Zn (t:=YQ _ _ _) (fun v H'=>H'=H2∧v = .int (ns.headD 0)) (fun Q' q' =>?_) ?_
 ·refine⟨_,O,S,_,O,.inl (s2.seq (s1.seq hS)),_,_,O,O,_,O,iZ (fun h =>?_) (fun h =>?_)⟩
  ·rw[az]at h
   obtain⟨c,hc⟩:∃ c,ns[0]? = some c:=⟨_,aj (by omega)⟩
   exact⟨_,O,S,_,_,_,O,O,s2.seq (s1.seq hS),aY (j:=0) (by rw[aK,hc];rfl),q' _ _ ⟨O,by cases ns with | nil=>cases hc | cons x l=>cases hc;rfl⟩⟩
  ·rw[az]at h
   have e0:ns = []:=iI.mp (by omega)
   subst e0
   exact q' _ _ ⟨O,O⟩
 rintro v H' ⟨rfl,rfl⟩
 generalize ns.headD 0=sd at nm
 refine⟨25,sd,O,(show 2<=sizeLine by decide),fun p hp =>?_⟩
 obtain⟨H3,eH,s3,ua⟩:=alloc hp (.tup [.str "name",.str (fN sd 25)])
 rw[eH]
 have Ky:=s3 _ _ Rg
 refine⟨T,us,_,O,O,Ky,cU (by omega),?_⟩
 have hn:(TM.name (fN sd 25):Tm) ∉ ts:=fun z=>by
  obtain⟨k,k0,k1,e⟩:=nm _ z _ rfl
  exact Pz sd k0 k1 e.symm
 have zG:lZ (ts ++ [.name (fN sd 25)]) es:=go.term (by omega) hn fun x as e=>nomatch e
 have u3:=s2.trans s3
 have VL:∀ d ys,H3 d=some (.tup ys)->(upd H3 T (.lst (us ++ [.ref p]))) d=some (.tup ys):=fun d ys e=>by rw[aE (aZ e Ky nofun)];exact e
 have Eo:=aF (H:=H3) (a:=T) (o := .lst (us ++ [.ref p]))
 have FZ:lH (upd H3 T (.lst (us ++ [.ref p]))) (us ++ [.ref p]) (ts ++ [.name (fN sd 25)]):=Ir (mR VL (gb u3 wA)) ⟨p,O,VL _ _ ua⟩
 have Wq:(upd H3 T (.lst (us ++ [.ref p]))) Ed=some (.lst ev):=by rw[aE (cm nTE)];exact u3 _ _ hE
 have OP:=fZ (fZ xP fun d ys e=>u3 _ _ e) VL
 have Ux:(upd H3 T (.lst (us ++ [.ref p]))) Pt=some (.nU #[]):=by
  have e:=u3 _ _ (s1 _ _ hPt)
  rw[aE (aZ e Ky nofun)];exact e
 have lts:(ts ++ [(TM.name (fN sd 25):Tm)]).length=ts.length+1:=by rw[aG];rfl
 have Lh:∀ {ls:List Nat},Bo (ts ++ [.name (fN sd 25)]) (yW es) ls->∀ {k:Nat},k < ts.length->ls.getD k 0≠ls.getD ts.length 0:=fun {_} c {k} hk=>ad4 go.ends hn c hk
 have lu':(us ++ [V.ref p]).length=ts.length+1:=by rw[aG,lu];rfl
 clear hT hE wA xP Rg Ky ua VL u3 s3 s2 k2 kF go nm mx hn hM lu hPt hp
 generalize upd H3 T (.lst (us ++ [.ref p]))=H4 at Eo FZ Wq OP Ux ⊢
 generalize us ++ [V.ref p]=dj at Eo FZ lu' ⊢
 generalize ts ++ [.name (fN sd 25)]=Ac at FZ zG lts Lh
 have oZ:∀ (i:Nat) x as,Ac[i]? = some (.of x as)->as.length<=1000:=fun i x as e=>bf (zG.oZ i x as e) (by decide)
 refine⟨_,O,T,dj,O,.inl (a9.of Eo),fun c1 G5 =>?_⟩
 obtain⟨H5,eH,s5,k5⟩:=alloc G5 (.lst dj)
 rw[eH]
 refine⟨_,O,Ed,ev,O,.inl (a9.of (s5 _ _ Wq)),fun c2 AU =>?_⟩
 obtain⟨H6,eH,s6,k6⟩:=alloc AU (.lst ev)
 rw[eH]
 have u6:=s5.trans s6
 refine⟨c1,c2,dj,ev,Ac,yW es,O,s6 _ _ k5,gb u6 FZ,a9.of k6,Gm (fZ OP fun d ys e=>u6 _ _ e),zG.arms,by omega,oZ,zG.ends,fun L ls H7 s7 KD hL7 cl =>?_⟩
 dsimp only[bq]
 have u7:=u6.trans s7
 have ok:=zG.len cl
 have pi:wQ Pt T L Ed dj Ac ls ev es H7:=⟨u7 _ _ Eo,gb u7 FZ,hL7,u7 _ _ Wq,fZ OP (fun d ys e=>u7 _ _ e),ok,GR zG.i6 cl,by omega,zG.oZ,.inl (u7 _ _ Ux)⟩
 have al:=fun {k:Nat} (hk:k < ts.length)=>Lh cl hk
 have gd:∀ {i:Nat},i < Ac.length->ls[i]? = some (ls.getD i 0):=fun {i} hi=>by rw[bc,aj (by rw[ok.len];exact hi)];rfl
 clear Eo FZ Wq OP Ux k5 k6 hL7 KD cl Lh u6 u7 s5 s6 s7 G5 AU
 refine⟨(show 3<=sizeLine by decide),fun tp xQ =>?_⟩
 obtain⟨H8,eH,s8,k8⟩:=alloc xQ (.tup [.int 10007,.int 10037,.int 10061])
 rw[eH]
 have ZF:=pi.same s8
 refine⟨tp,O,⟨_,bM.of k8⟩,?_⟩
 refine X2 (xs := [.int 10007,.int 10037,.int 10061]) (LwI Pt H8 [aa S,aa M,aa T,aa Ed,some (.int md),some (.ref L)]) ⟨none,none,none,none,O,fun _ _ _ e=>e,ZF.tb⟩ ?_ ?_ ?_
 ·rintro i Y H' _ ⟨x6,x7,x8,x9,rfl,kb,tb⟩
  exact bM.of (kb.get ZF.tb k8 (fun _ z=>nomatch z))
 ·rintro i v Y H9 hv ⟨x6,x7,x8,x9,rfl,kb,tb⟩
  have p9:=ZF.keep kb tb
  obtain⟨pr,rfl,pr0,pr1⟩:∃ pr:Int,v = .int pr∧0 < pr∧pr < 15000:=by
   match i with
   | 0=>exact⟨10007,(aD hv).symm,by decide,by decide⟩
   | 1=>exact⟨10037,(aD hv).symm,by decide,by decide⟩
   | 2=>exact⟨10061,(aD hv).symm,by decide,by decide⟩
   | j+3=>cases hv
  dsimp only[bq]
  obtain⟨a,ea,ha⟩:=K1 md pr (n:=dj.length) (by omega)
  refine⟨_,O,_,O,_,O,T,_,O,.inl (a9.of p9.hT),md,pr,dj.length,O,pr0,by omega,by omega,?_⟩
  dsimp only[bq]
  rw[ea]
  have sM:a < Ac.length:=by omega
  refine⟨_,O,T,_,O,.inl (a9.of p9.hT),_,O,by omega,by omega,?_⟩
  rw[cn,lu']
  refine Cq (lo:=0) (fun i=>if ls.getD i.toNat 0=ls.getD a 0 then none else some (nV i.toNat)) (by omega) (fun i hi H' sm R r =>?_) (fun i v hi e H' sm Q' q' =>?_) (fun D1 kF =>?_)
  ·have ei:(0+(i:Int))=((i:Nat):Int):=by omega
   rw[ei,cn]at r
   rw[ei]
   refine⟨_,O,_,O,L,_,_,_,O,O,a9.of (sm _ _ p9.hL),oG (gd (show i < Ac.length by omega)),_,O,_,O,L,_,_,_,O,O,a9.of (sm _ _ p9.hL),oG (gd sM),O,_,O,?_⟩
   by_cases hk:ls.getD i 0=ls.getD a 0
   ·rw[if_pos hk]at r
    rw[hk,decide_eq_true rfl]
    exact r
   ·rw[if_neg hk]at r
    rw[decide_eq_false (fun z=>hk (by have:=V.int.inj z;omega))]
    exact r
  ·have ei:(0+(i:Int))=((i:Nat):Int):=by omega
   rw[ei]at e ⊢
   rw[cn]at e
   split at e
   ·cases e
   ·have:=aD e
    subst this
    exact⟨_,O,q'⟩
  have efm:((bA (ts.length+1)).filterMap fun i:Nat=>if ls.getD (0+(i:Int)).toNat 0=ls.getD a 0 then none else some (nV (0+(i:Int)).toNat))=((bA (ts.length+1)).filter fun k => !decide (ls.getD k 0=ls.getD a 0)).map nV:=by
   rw[<- List.filterMap_eq_map,List.filterMap_filter]
   congr 1
   funext i
   have ei:(0+(i:Int)).toNat=i:=by omega
   rw[ei]
   by_cases hk:ls.getD i 0=ls.getD a 0
   ·rw[if_pos hk,decide_eq_true hk];rfl
   ·rw[if_neg hk,decide_eq_false hk];rfl
  rw[efm]
  have WH:∀ k,k∈((bA (ts.length+1)).filter fun k => !decide (ls.getD k 0=ls.getD a 0))↔k < ts.length+1∧ls.getD k 0≠ls.getD a 0:=fun k=>by
   rw[gC,cI]
   refine and_congr_right fun _ =>?_
   by_cases hk:ls.getD k 0=ls.getD a 0
   ·rw[decide_eq_true hk];exact⟨nofun,fun z=>absurd hk z⟩
   ·rw[decide_eq_false hk];exact⟨fun _=>hk,fun _=>rfl⟩
  generalize ((bA (ts.length+1)).filter fun k => !decide (ls.getD k 0=ls.getD a 0))=ap at WH
  have c9:0 < ap.length:=by
   by_cases z:a=ts.length
   ·exact oB ((WH 0).mpr ⟨by omega,by rw[z];exact al (by omega)⟩)
   ·exact oB ((WH ts.length).mpr ⟨by omega,fun y=>al (show a < ts.length by omega) y.symm⟩)
  obtain⟨zP,eH,sk,MM⟩:=alloc kF (.lst (ap.map nV))
  rw[eH]
  have ZN:=p9.same sk
  dsimp only[bq]
  obtain⟨j,ej,hj⟩:=K1 (md / 3) (pr+2) (n:=(ap.map nV).length) (by rw[az];exact c9)
  rw[az]at hj
  obtain⟨b,hb⟩:∃ b,ap[j]? = some b:=⟨_,aj hj⟩
  obtain⟨bl,bne⟩:=(WH b).mp (ak hb)
  have Kq:b < Ac.length:=by omega
  refine⟨_,O,_,O,_,_,O,O,K6,_,O,_,_,O,O,_,O,D1,_,O,.inl (a9.of MM),md / 3,pr+2,(ap.map nV).length,O,by omega,by omega,by rw[az];omega,D1,_,_,_,O,O,a9.of MM,by rw[ej];exact oG hb,?_⟩
  dsimp only[bq]
  -- ah0
  refine⟨_,O,_,O,_,O,_,O,_,O,_,O,_,O,_,_,O,O,md,pr+2,2,O,by omega,by omega,by decide,T,L,Ed,dj,Ac,ls,ev,es,a,b,_,O,ZN,sM,Kq,cm bne,fun Fb mY=>⟨_,O,iF ?_⟩⟩
  have p11:=ZN.same mY
  -- made alG
  have w0:0<=md % 10 ^ 12:=km _ (by decide)
  obtain⟨wl,ewl,wl1⟩:∃ wl:Nat,1+md % 10 ^ 12=(wl:Int)∧1<=wl:=⟨(1+md % 10 ^ 12).toNat,by omega,by omega⟩
  refine⟨_,O,_,O,_,O,_,O,_,O,10,12,O,O,⟨by decide,by decide,by decide⟩,_,_,O,O,(by show (0:Int) < 10 ^ 12;decide),_,_,O,O,(show 1<=sizeLine by decide),fun tt htt =>?_⟩
  obtain⟨SE,eH,IU,_⟩:=alloc htt (.tup [.str "told"])
  rw[eH]
  refine⟨(show 4<=sizeLine by decide),fun eh V8 =>?_⟩
  rw[show V.int (1+md % 10 ^ Int.toNat 12)=nV wl from congrArg V.int ewl]
  obtain⟨LC,eH,DP,k13⟩:=alloc V8 (.tup [nV b,V.int (a:Int),nV wl,.ref tt])
  rw[eH]
  have u13:=mY.trans (IU.trans DP)
  have Mz:=ZN.same u13
  refine⟨T,Ed,eh,dj,Ac,ev,es,b,a,wl,_,O,Mz.hT,Mz.i7,Mz.hE,Mz.jo,zG,by omega,k13,⟨Kq,sM,wl1⟩,fun n d=>bne (ok.lead b a n d Kq sM),Mz.tb,fun H14 aat YF=>⟨_,O,iF ?_⟩⟩
  have p14:=Mz.keep aat YF
  refine⟨_,O,_,O,_,O,_,O,_,O,_,O,_,_,O,O,K6,_,O,md / 7,pr,2,O,by omega,by omega,by decide,T,L,Ed,dj,Ac,ls,ev,es,a,b,_,O,p14,sM,Kq,cm bne,fun NY GD=>⟨_,O,iF ?_⟩⟩
  have p15:=p14.same GD
  refine⟨_,O,_,O,_,O,_,O,_,O,_,O,_,_,O,O,K6,_,O,md / 11,pr,2,O,by omega,by omega,by decide,T,L,Ed,dj,Ac,ls,ev,es,b,a,_,O,p15,Kq,sM,bne,fun HG s16=>⟨_,O,iF ?_⟩⟩
  have u16:=GD.trans s16
  exact⟨_,_,_,_,O,kb.trans (An (sk.trans u13) (aat.then u16)),YF.same u16⟩
 ·rintro Y H' _
  exact q _
end
end aQ
namespace aQ
open PySem L2
theorem iV{n:Nat}{us:List Value}(h:us.length=n+1):∃ v vs,us=v :: vs∧vs.length=n:=by cases us with | nil=>cases h | cons v vs=>exact⟨v,vs,O,Ls h⟩
theorem fq{fd:FuncData}{ps:List Str}(h:∀ v0:Value,bindArgs fd ⟨[v0], []⟩=pure (ps.zip [v0])):∀ us:List Value,us.length=1->bindArgs fd ⟨us, []⟩=pure (ps.zip us):=fun us h0=>by obtain⟨v0,us,rfl,h1⟩:=iV h0;obtain rfl:=eO h1;exact h v0
open PySem L2 Sw
theorem fb{fd:FuncData}{ps:List Str}(h:∀ v0 v1:Value,bindArgs fd ⟨[v0,v1], []⟩=pure (ps.zip [v0,v1])):∀ us:List Value,us.length=2->bindArgs fd ⟨us, []⟩=pure (ps.zip us):=fun us h0=>by obtain⟨v0,us,rfl,h1⟩:=iV h0;obtain⟨v1,us,rfl,h2⟩:=iV h1;obtain rfl:=eO h2;exact h v0 v1
open PySem L2 Sw
theorem fk{fd:FuncData}{ps:List Str}(h:∀ v0 v1 v2:Value,bindArgs fd ⟨[v0,v1,v2], []⟩=pure (ps.zip [v0,v1,v2])):∀ us:List Value,us.length=3->bindArgs fd ⟨us, []⟩=pure (ps.zip us):=fun us h0=>by obtain⟨v0,us,rfl,h1⟩:=iV h0;obtain⟨v1,us,rfl,h2⟩:=iV h1;obtain⟨v2,us,rfl,h3⟩:=iV h2;obtain rfl:=eO h3;exact h v0 v1 v2
open PySem L2 Sw
theorem fj{fd:FuncData}{ps:List Str}(h:∀ v0 v1 v2 v3:Value,bindArgs fd ⟨[v0,v1,v2,v3], []⟩=pure (ps.zip [v0,v1,v2,v3])):∀ us:List Value,us.length=4->bindArgs fd ⟨us, []⟩=pure (ps.zip us):=fun us h0=>by obtain⟨v0,us,rfl,h1⟩:=iV h0;obtain⟨v1,us,rfl,h2⟩:=iV h1;obtain⟨v2,us,rfl,h3⟩:=iV h2;obtain⟨v3,us,rfl,h4⟩:=iV h3;obtain rfl:=eO h4;exact h v0 v1 v2 v3
open PySem L2 Sw
theorem eZ{fd:FuncData}{ps:List Str}(h:∀ v0 v1 v2 v3 v4:Value,bindArgs fd ⟨[v0,v1,v2,v3,v4], []⟩=pure (ps.zip [v0,v1,v2,v3,v4])):∀ us:List Value,us.length=5->bindArgs fd ⟨us, []⟩=pure (ps.zip us):=fun us h0=>by obtain⟨v0,us,rfl,h1⟩:=iV h0;obtain⟨v1,us,rfl,h2⟩:=iV h1;obtain⟨v2,us,rfl,h3⟩:=iV h2;obtain⟨v3,us,rfl,h4⟩:=iV h3;obtain⟨v4,us,rfl,h5⟩:=iV h4;obtain rfl:=eO h5;exact h v0 v1 v2 v3 v4
open PySem L2 Sw
theorem fi{fd:FuncData}{ps:List Str}(h:∀ v0 v1 v2 v3 v4 v5:Value,bindArgs fd ⟨[v0,v1,v2,v3,v4,v5], []⟩=pure (ps.zip [v0,v1,v2,v3,v4,v5])):∀ us:List Value,us.length=6->bindArgs fd ⟨us, []⟩=pure (ps.zip us):=fun us h0=>by obtain⟨v0,us,rfl,h1⟩:=iV h0;obtain⟨v1,us,rfl,h2⟩:=iV h1;obtain⟨v2,us,rfl,h3⟩:=iV h2;obtain⟨v3,us,rfl,h4⟩:=iV h3;obtain⟨v4,us,rfl,h5⟩:=iV h4;obtain⟨v5,us,rfl,h6⟩:=iV h5;obtain rfl:=eO h6;exact h v0 v1 v2 v3 v4 v5
open PySem L2 Sw
theorem dm{K:ao}{x:Str}{st:Stmt}{ps:List Str}{f:Addr}{oc kV dc pm cd ct:Value}{od an:Option Addr}{sl:Array (Option Value)}{h:Heap}{mg:Str->Option Value}(X:K.In h)(Yq1:h.Ns mainGlobals mg)(a:bN K mainGlobals x=some (some (.ref f)))(l:K.lookup f=some ⟨oc,od,.func (dW x x (i9 st) (fW st) (aX st) .none kV dc pm an cd ct),sl⟩)(c:hG K cd x=true)(k:du K (.ref f)=true)(b:∀ (kV dc pm:Value) (an:Option Addr) (cd ct:Value) (us:List Value),us.length=ps.length->bindArgs (dW x x (i9 st) (fW st) (aX st) .none kV dc pm an cd ct) ⟨us, []⟩=pure (ps.zip us)):Def K mg x st ps:=⟨_,_,vA l c k,eS X Yq1 a,(vA l c k).binds b⟩
theorem K4{K:ao}{x:Str}{st:Stmt}{ps:List Str}{f:Addr}{oc kV dc pm cd ct:Value}{od an:Option Addr}{sl:Array (Option Value)}{m:Str}{C:Addr}(a:bH K (.ref C) m=some (some (.ref f)))(l:K.lookup f=some ⟨oc,od,.func (dW m x (i9 st) (fW st) (aX st) .none kV dc pm an cd ct),sl⟩)(c:hG K cd x=true)(k:du K (.ref f)=true)(n:qh K (.ref f)=true)(b:∀ (kV dc pm:Value) (an:Option Addr) (cd ct:Value) (us:List Value),us.length=ps.length->bindArgs (dW m x (i9 st) (fW st) (aX st) .none kV dc pm an cd ct) ⟨us, []⟩=pure (ps.zip us)):nF K C m x st ps:=⟨_,_,vA l c k,⟨a,n,k⟩,(vA l c k).binds b⟩
theorem all_mk{l:EY}{w:World}{K:ao}{h:Heap}{mg:Str->Option Value}{fa CS f8 f21 f33 jh ji j4 mh cj jg iz ib:Addr}(X:K.In h)(Yq1:h.Ns mainGlobals mg)(hfa:mg "law" = some (.ref fa)){od8 an8 agN ahS agM acB:Option Addr}{sl8 agt ags:Array (Option Value)}{oc8 kV8 dc8 pm8 ct8 cd8 agP ag5 ahO agJ ahQ agO aau acr ZC acu UO:Value}{cT PT:Addr}(aC:bN K mainGlobals "Search" = some (some (.ref CS)))(LH:Def K mg "mark" DM wb0)(rH:Def K mg "join_classes" qR wb2)(xy:Def K mg "join_like" xc wa0)(Dw:Def K mg "closed" CO wb3)(Bm:Def K mg "lengths" Ap wb1)(v7:Def K mg "like_pairs" ve wa0)(tQ:Def K mg "unlike_arms" oE wa4)(tT:Def K mg "like_length" tj wa6)(a8:bH K (.ref CS) "__init__" = some (some (.ref f8)))(l8:K.lookup f8=some ⟨oc8,od8,.func (dW "__init__" "Search.__init__" (i9 ml) (fW ml) (aX ml) .none kV8 dc8 pm8 an8 cd8 ct8),sl8⟩)(c8:hG K cd8 "Search.__init__" = true)(k8:du K (.ref f8)=true)(n8:qh K (.ref f8)=true)(v8:nF K CS "await_arms" "Search.await_arms" vf wb5)(vZ:nF K CS "offer_step" "Search.offer_step" vd ba)(Gj:nF K CS "offer" "Search.offer" Fx ba)(vY:nF K CS "settle_all" "Search.settle_all" u9 ["self"])(Dv:nF K CS "settle" "Search.settle" CL ba)(xA:nF K CS "find_head" "Search.find_head" xf ["self", "a"])(zk:nF K CS "lengthen" "Search.lengthen" yz ba)(LJ:Def K mg "_law_draw" IS ee)(LF:Def K mg "_law_word" IQ wa7)(LG:Def K mg "_law_term" DL wa1)(LI:Def K mg "_law_edge" DO vc)(Gi:Def K mg "_law_stuff" Fw wa8)(a21:bN K mainGlobals "paper" = some (some (.ref f21)))(VG:K.lookup f21=some ⟨agP,agN,.func (dW "paper" "paper" (i9 qQ) (fW qQ) (aX qQ) .none ag5 ahO agJ ahS (.ref cT) ahQ),agt⟩)(WE:hG K (.ref cT) "paper" = true)(VN:du K (.ref f21)=true)(tU:Def K mg "least_steps" oF wa2)(qz:Def K mg "steps_between" pL wa9)(tV:Def K mg "ends_within" tm wc0)(Gk:Def K mg "holds" Fy wa3)(xw:Def K mg "row_holds" w8 wa5)(zm:Def K mg "is_place" yA wb9)(tS:Def K mg "step_length" sZ HA)(tW:Def K mg "edge_length" tq wb8)(tR:Def K mg "told_length" zz wb4)(Bl:Def K mg "_law_refused" Ao gr)(xx:Def K mg "_law_made_good" xb tO)(a33:bN K mainGlobals "law" = some (some (.ref f33)))(l33:K.lookup f33=some ⟨agO,agM,.func (dW "law" "law" (i9 pM) (fW pM) (aX pM) .none aau acr ZC acB UO acu),ags⟩)(c33:hG K UO "law" = true)(k33:du K (.ref f33)=true)(Zs:wO K CS=true)(Zt:du K (.ref CS)=true)(Zr:lV K CS Hx=true)(Zu:n9 K CS=true)(Zq:uk K CS=true)(Zp:bH K (.ref CS) "__setattr__" = some (some (.builtin "object.__setattr__")))(CQ:bH K (.ref CS) "terms" = some none)(CU:bH K (.ref CS) "least" = some none)(yC:bH K (.ref CS) "waiting" = some none)(CV:bH K (.ref CS) "heads" = some none)(Au:bH K (.ref CS) "single" = some none)(CT:bH K (.ref CS) "steps" = some none)(yE:bH K (.ref CS) "awaited" = some none)(yD:bH K (.ref CS) "lacking" = some none)(CC:bN K mainGlobals "NoTree" = some (some (.ref jh)))(CD:bN K mainGlobals "NoRule" = some (some (.ref ji)))(Fh:bN K mainGlobals "NoRow" = some (some (.ref j4)))(Io:bN K mainGlobals "Full" = some (some (.ref mh)))(Br:bN K mainGlobals "Apart" = some (some (.ref cj)))(Cz:bN K mainGlobals "TooBig" = some (some (.ref jg)))(zZ:bN K mainGlobals "TooWide" = some (some (.ref iz)))(w6:bN K mainGlobals "SameError" = some (some (.ref ib)))(Yt:zN K cj [.type "ValueError",.type "Exception",.type "BaseException",.type "object"] "ValueError.__new__" = true)(Yu:bH K (.ref cj) "__class__" = some (some (.builtin "object.__class__")))(Ys:bH K (.ref cj) "__getattribute__" = some (some (.builtin "BaseException.__getattribute__")))(Yr:bH K (.ref cj) "__getattr__" = some none)(iVE:bN K mainGlobals "ValueError" = some none)(uP:bS K (.ref cj) (.ref cj)=some true)(kZ:bS K (.ref cj) (.type "ValueError")=some true)(mr:bS K (.ref cj) (.ref ib)=some true)(qX:bS K (.ref cj) (.ref jh)=some false)(qY:bS K (.ref cj) (.ref ji)=some false)(uO:bS K (.ref cj) (.ref j4)=some false)(xM:bS K (.ref cj) (.ref mh)=some false)(qW:bS K (.ref cj) (.ref jg)=some false)(pj:bS K (.ref cj) (.ref iz)=some false)(uM:nQ K (.ref cj) (.ref cj)=some true)(mq:nQ K (.ref cj) (.ref ib)=some true)(z0:bN K mainGlobals "len" = some none)(z1:bN K mainGlobals "min" = some none)(z2:bN K mainGlobals "max" = some none)(z3:bN K mainGlobals "sum" = some none)(z4:bN K mainGlobals "range" = some none)(z5:bN K mainGlobals "enumerate" = some none)(z6:bN K mainGlobals "isinstance" = some none)(z7:bN K mainGlobals "tuple" = some none)(z8:bN K mainGlobals "int" = some none)(z9:bN K mainGlobals "bool" = some none)(BZ:bN K mainGlobals "str" = some none)(Dz:bN K mainGlobals "list" = some none)(U8:bN K mainGlobals "all" = some none)(U7:bN K mainGlobals "dict" = some none)(U6:bN K mainGlobals "sorted" = some none)(U5:bN K mainGlobals "sum" = some none)(Yp:bN K mainGlobals "zip" = some none) :
  ∃ fd:FuncData,(∀ (s:Shared) (v:Value),BindsTo s fd ⟨[v], []⟩ [("_law_script",v)])∧∀ base:Heap,K.In base->base.Ns mainGlobals mg->TabAt base mg cT PT->lC l.prog w K mg base Fc 8 fa fd ["_law_script"] (Ic PT K):=by
 have e:=hfa.symm.trans (eS X Yq1 a33)
 cases e
 have B:lK mg:=⟨bZ X Yq1 z0,bZ X Yq1 z1,bZ X Yq1 z2,bZ X Yq1 z3,bZ X Yq1 z4,bZ X Yq1 z5,bZ X Yq1 z6,bZ X Yq1 z7,bZ X Yq1 z8,bZ X Yq1 z9,bZ X Yq1 BZ,bZ X Yq1 Dz⟩
 have als:=bZ X Yq1 U8
 have ak4:=bZ X Yq1 U7
 have Dh:=bZ X Yq1 U6
 have alr:=bZ X Yq1 U5
 have Pb:=bZ X Yq1 Yp
 have oq:Exc K mg "Apart" cj:=⟨eS X Yq1 Br,Yt⟩
 have Z:rP K mg CS:=⟨⟨Zr,Zu,Zq,Zp⟩,CQ,CU,yC,CV,Au,CT,yE,yD⟩
 have Yq0:WY K mg jh ji j4 mh cj jg iz ib := { yY:=eS X Yq1 CC,yZ:=eS X Yq1 CD,BJ:=eS X Yq1 Fh,Ex:=eS X Yq1 Io,BK:=eS X Yq1 Br,yX:=eS X Yq1 Cz,wD:=eS X Yq1 zZ,oz:=eS X Yq1 w6,qb:=bZ X Yq1 iVE,uV:=⟨Yu,Ys,Yr⟩,kZ:=kZ,qX:=qX,qY:=qY,uO:=uO,xM:=xM,uP:=uP,qW:=qW,pj:=pj,mr:=mr,uM:=uM,mq:=mq }
 have NZ:=vA (st:=ml) l8 c8 k8
 have Ym:Pn K mg "Search" CS "Search.__init__" ml wb7:=⟨_,_,NZ,eS X Yq1 aC,⟨Zs,a8,n8,Zt⟩,NZ.binds fun _ _ _ _ _ _ us hl=>fb (fun _ _=>O) us hl⟩
 have Yl:=vA (st:=qQ) VG WE VN
 have Yn:Pm K mg "paper" qQ ue cT:=⟨_,_,_,_,_,_,_,_,_,VG,WE,VN,eS X Yq1 a21,Yl.binds fun _ _ _ _ _ _ us hl=>eZ (fun _ _ _ _ _=>O) us hl⟩
 have ad7:=vA (st:=pM) l33 c33 k33
 refine⟨dW "law" "law" (i9 pM) (fW pM) (aX pM) .none aau acr ZC acB UO acu,fun s v => .of_eq rfl,fun base _ _ TB =>?_⟩
 have xV:=Xz (P:=l.prog) (w:=w) (base:=base) B LH
 have jB:=DW (P:=l.prog) (w:=w) (base:=base) B rH
 have xo:=Jo B xV jB xy
 have rf:=Qw B jB xo Dw
 have uQ:=TK (P:=l.prog) (w:=w) (base:=base) B Z Gj
 have ly:=HM B Z uQ vZ
 have uA:=LV B Z uQ zk
 have xp:=Jp (P:=l.prog) (w:=w) (base:=base) B Z xA
 have gK:=FH (P:=l.prog) (w:=w) (base:=base) Pb tQ
 have j0:=FK gK tT
 have Dc:=Qv B Z xp uA ly j0 Dv
 have vy:=HL B Z Dc vY
 have vz:=HP B Z gK v8
 have Ku:=TF (P:=l.prog) (w:=w) (base:=base) B Z Ym
 have lz:=HN B xV v7
 have AX:=Ot B Z Ku ly lz vz vy Bm
 have ed:=XB (P:=l.prog) (w:=w) (base:=base) LJ
 have ng:=Xx B ed LF
 have Kt:=Xy B ed ng LG
 have Kv:=XA B ed LI
 have F3:=TC B ed ng Kt Kv Gi
 have tG:=FL B lz j0 tU
 have pX:=CZ (P:=l.prog) (w:=w) (base:=base) B qz
 have tH:=FN gK tV
 have qZ:=TH TB B Dh oq AX tG pX tH Yn
 have lP:=LW (P:=l.prog) (w:=w) (base:=base) B zm
 have tI:=FO lP tW
 have tE:=FI (P:=l.prog) (w:=w) (base:=base) tR
 have tF:=FJ tI tE tS
 have xm:=Jm lP tF xw
 have F4:=TN xm Gk
 have sO:=Oq B oq Yq0 qZ Bl
 have xn:=Jn B rf qZ F4 xx
 exact ZX B ed ng F3 rf sO xn ad7
theorem walk{l:EY}{q:Program}{loose:List Str}{XP:(Str->Option Value)->Heap->Prop}{YP:World->Heap->Prop}{d dC:DefRec}{K:Params->ao}{c P:Addr}(hn:l.most=some 63)(hdf:d.params.defaults = [])(hY:∀ (w:World) (h:Heap),YP w h->(K w.params).In h)(KA:(PyProof.Rows.recsOf q).find? (fun e=>e.name == ("paper" : Str))=some dC)(Kw:∀ w:World,PySem.W.tabIn (K w.params) "paper" = some (c,P))(qF:∀ w:World,PySem.W.noTabs (K w.params)=true)(F:∀ (w:World) (mg:Str->Option Value) (fa:Addr) (h:Heap),(K w.params).In h->h.Ns mainGlobals mg->mg d.name=some (.ref fa) ->
   ∃ fd:FuncData,(∀ (s:Shared) (u:Value),BindsTo s fd ⟨[u], []⟩ [("_law_script",u)])∧∀ base:Heap,(K w.params).In base->base.Ns mainGlobals mg->TabAt base mg c P->lC l.prog w (K w.params) mg base Fc 8 fa fd ["_law_script"] (Ic P (K w.params))) :
  PySem.W.WalkO q loose XP YP l.row.toRowW d [] (fun f vs=>PySem.call f vs) :=
 L2.SO (n:=63) (k:=8) (x := "_law_script") (xT := "paper") (CX:=fun _=>Fc) (sp:=fun w=>Ic P (K w.params)) hn (by decide) hdf ⟨O,by decide,by decide⟩ hY KA Kw qF F (fun _ _ a ns hl hb hS hP=>⟨a,ns,O,hS,hl,hP,fun _=>rfl⟩) fun _ _ _ _ _ z=>z
end aQ
end
open PySem PySem.W PyProof.Rows
set_option maxRecDepth 100000 in
set_option maxHeartbeats 0 in
theorem PySem.Challenge.cw_samewise_k26_apart_holds : PySem.Challenge.rw_samewise_k26_apart.Holds := by
 refine KHd.top ?_
 k_fill
 refine' aQ.walk (l:=PySem.Challenge.rw_samewise_k26_apart) (c:=244) (P:=240) rfl rfl (fun w h Yq0=>PySem.W.km_in_of Yq0) ?KA ?Kw ?hNo ?F
 case KA=>exact rfl
 case Kw=>intro w;kernel_rfl
 case hNo=>intro w;kernel_rfl
 case F =>
  intro w mg fa h KX Yq1 hmg
  refine' aQ.all_mk KX Yq1 hmg ?aC ?LH ?rH ?xy ?Dw ?Bm ?v7 ?tQ ?tT ?a8 ?l8 ?c8 ?k8 ?n8 ?v8 ?vZ ?Gj ?vY ?Dv ?xA ?zk ?LJ ?LF ?LG ?LI ?Gi ?a21 ?VG ?WE ?VN ?tU ?qz ?tV ?Gk ?xw ?zm ?tS ?tW ?tR ?Bl ?xx ?a33 ?l33 ?c33 ?k33 ?Zs ?Zt ?Zr ?Zu ?Zq ?Zp ?CQ ?CU ?yC ?CV ?Au ?CT ?yE ?yD ?CC ?CD ?Fh ?Io ?Br ?Cz ?zZ ?w6 ?Yt ?Yu ?Ys ?Yr ?iVE ?uP ?kZ ?mr ?qX ?qY ?uO ?xM ?qW ?pj ?uM ?mq ?z0 ?z1 ?z2 ?z3 ?z4 ?z5 ?z6 ?z7 ?z8 ?z9 ?BZ ?Dz ?U8 ?U7 ?U6 ?U5 ?Yp
  (case aC=>k_is)
  (case a8=>k_is)
  (case l8=>k_is)
  (case c8=>k_is)
  (case k8=>k_is)
  (case n8=>k_is)
  (case a21=>k_is)
  (case VG=>k_is)
  (case WE=>k_is)
  (case VN=>k_is)
  (case a33=>k_is)
  (case l33=>k_is)
  (case c33=>k_is)
  (case k33=>k_is)
  (case Zs=>k_is)
  (case Zt=>k_is)
  (case Zr=>k_is)
  (case Zu=>k_is)
  (case Zq=>k_is)
  (case Zp=>k_is)
  (case CQ=>k_is)
  (case CU=>k_is)
  (case yC=>k_is)
  (case CV=>k_is)
  (case Au=>k_is)
  (case CT=>k_is)
  (case yE=>k_is)
  (case yD=>k_is)
  (case CC=>k_is)
  (case CD=>k_is)
  (case Fh=>k_is)
  (case Io=>k_is)
  (case Br=>k_is)
  (case Cz=>k_is)
  (case zZ=>k_is)
  (case w6=>k_is)
  (case Yt=>k_exc)
  (case Yu=>k_is)
  (case Ys=>k_is)
  (case Yr=>k_is)
  (case iVE=>k_is)
  (case uP=>kit_is)
  (case kZ=>kit_is)
  (case mr=>kit_is)
  (case qX=>kit_is)
  (case qY=>kit_is)
  (case uO=>kit_is)
  (case xM=>kit_is)
  (case qW=>kit_is)
  (case pj=>kit_is)
  (case uM=>kts_exm)
  (case mq=>kts_exm)
  (case z0=>k_is)
  (case z1=>k_is)
  (case z2=>k_is)
  (case z3=>k_is)
  (case z4=>k_is)
  (case z5=>k_is)
  (case z6=>k_is)
  (case z7=>k_is)
  (case z8=>k_is)
  (case z9=>k_is)
  (case BZ=>k_is)
  (case Dz=>k_is)
  (case U8=>k_is)
  (case U7=>k_is)
  (case U6=>k_is)
  (case U5=>k_is)
  (case Yp=>k_is)
  all_goals first|(refine' aQ.dm KX Yq1 ?a ?l ?c ?k ?b; (case a=>k_is); (case l=>k_is); (case c=>k_is); (case k=>k_is); (case b=>(intro _ _ _ _ _ _ us hl;first | exact aQ.fq (fun _=>O) us hl | exact aQ.fb (fun _ _=>O) us hl | exact aQ.fk (fun _ _ _=>O) us hl | exact aQ.fj (fun _ _ _ _=>O) us hl | exact aQ.eZ (fun _ _ _ _ _=>O) us hl | exact aQ.fi (fun _ _ _ _ _ _=>O) us hl)))|(refine' aQ.K4 ?a ?l ?c ?k ?n ?b; (case a=>k_is); (case l=>k_is); (case c=>k_is); (case k=>k_is); (case n=>k_is); (case b=>(intro _ _ _ _ _ _ us hl;first | exact aQ.fq (fun _=>O) us hl | exact aQ.fb (fun _ _=>O) us hl | exact aQ.fk (fun _ _ _=>O) us hl | exact aQ.fj (fun _ _ _ _=>O) us hl | exact aQ.eZ (fun _ _ _ _ _=>O) us hl | exact aQ.fi (fun _ _ _ _ _ _=>O) us hl)))
#print axioms PySem.Challenge.cw_samewise_k26_apart_holds
