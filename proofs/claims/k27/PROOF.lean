import PyProof.Rows.All
import Wide.All
import OpenK.AllK
import Wide.FinOn
import Lean
import PyProof.EqAt
import PyProof.EqKinds
import PyProof.TupleCall
import KE.KTryMore
import KE.KIntText
import KE.RegKTryMore
import PySem.Challenge.RW_samewise_k27_whole_papers
set_option Elab.async false
set_option linter.all false
open Array renaming length_toList → dB, getElem?_toList → fV, getElem?_eq_some_iff → gN, getElem?_eq_getElem → hU, mk → iV, getElem?_eq_none → kH, getElem?_setIfInBounds_ne → pf, forIn_toList → sD, append_assoc → Am
open Array.Perm renaming refl → DU
open Bool renaming false_ne_true → bb, false_eq_true → dP, eq_iff_iff → fQ, and_eq_true_iff → gq, and_eq_true → gU, not_true → ou, or_eq_true → DS
open Classical renaming propDecidable → iM, choose_spec → xu
open False renaming elim → dA
open ForInStep renaming yield → qg
open Int renaming toNat_natCast → cx, natCast_nonneg → kq, zero_add → lB, emod_nonneg → mK, emod_lt_of_pos → su
open List renaming getElem?_eq_some_iff → ai, getElem?_eq_getElem → aj, mem_of_getElem? → ak, length_map → ar, mem_append → aA, mem_singleton → aB, getElem?_map → aG, length_append → aK, size_toArray → aN, map_cons → aS, getElem?_of_mem → aT, mem_cons_of_mem → aW, mem_cons → aY, getD_eq_getElem?_getD → bc, mem_cons_self → bg, mem_map → bj, mem_singleton_self → bx, take_length → bB, range → bN, nodup_cons → bQ, length_cons → bV, replicate → bY, length_take → cj, mem_append_right → cz, mem_range → cI, length_range → cR, not_mem_nil → cY, map_append → c9, append_nil → da, nodup_nil → df, flatMap_append → dX, ext_getElem? → d8, nodup_append → eK, getElem?_eq_none → eU, map_nil → fB, getElem?_append_left → fN, length_singleton → fU, eq_nil_of_length_eq_zero → fW, getElem_mem → gg, mem_filter → gB, replicate_succ → gE, map_map → gH, mem_flatMap → gR, lookup_cons → gS, find?_cons → ir, take_add_one → iz, pairwise_map → iC, filter_cons_of_pos → iK, filter_cons_of_neg → iL, map_congr_left → iO, getElem?_range → iP, all_eq_true → iS, flatMap_singleton → i3, length_filter_le → jh, getElem?_inj → jq, take_zero → jz, filterMap_cons → jS, range_succ → kf, getElem?_take → km, flatten_cons → kO, append_assoc → kQ, getElem?_append_right → l9, lookup → ml, pairwise_iff_getElem → mG, length_nil → mH, getElem?_zip_eq_some → mI, zip_cons_cons → nc, pairwise_singleton → nK, length_eq_zero_iff → nM, foldl_append → nP, length_drop → oI, filter_cons → oJ, nil_append → pZ, mem_append_left → qb, foldl_cons → qd, length_take_le → qA, mem_filterMap → sk, getElem?_concat_length → sr, sum_cons → sU, map_take → sV, any_cons → sW, flatMap_cons → tM, getElem?_eq_none_iff → t6, getElem?_take_of_lt → vk, cons_append → vm, getElem?_replicate → vA, of_mem_zip → wa, length_zip → wb, forIn_cons → wc, getElem?_set_self → wH, take_append_drop → xk, pairwise_flatMap → xm, mem_iff_getElem? → xn, length_replicate → xo, pairwise_append → yo, mem_of_mem_take → yp, getElem?_set_ne → yq, Nodup → yr, filter_sublist → yS, filter_append → Ad, take_sublist → AO, getElem?_set → AQ, zipIdx_cons → B2, getElem_inj → B3, any_toArray → B4, zipIdx_nil → DJ, foldl → DK, forIn_nil → ET, drop_zero → EU
open List.Pairwise renaming imp_of_mem → ng, nil → AR
open List.cons renaming injEq → wd
open Nat renaming le_refl → au, le_trans → bq, zero_le → bA, ne_of_lt → bH, lt_of_lt_of_le → bP, lt_irrefl → eM, lt_or_ge → gb, lt_of_le_of_lt → gf, min_eq_right → gQ, not_lt_zero → ip, min_eq_left → iq, le_total → jb, add_le_add_right → js, ne_of_gt → jH, max_eq_right → jI, le_of_lt → jJ, le_add_right → jK, add_assoc → jZ, max_eq_left → kd, lt_or_eq_of_le → ke, lt_succ_of_lt → kN, le_of_eq → m9, le_of_not_lt → oH, zero_add → pX, add_zero → pY, mul_le_mul → qS, le_succ → rn, le_succ_of_le → tL, succ_mul → vg, lt_succ_self → vh, strongRecOn → v9, add_le_add_left → yR, mul_comm → Aa, lt_trans → Ac, lt_trichotomy → AN, succ_le_succ → BY, min_le_right → BZ, div_eq_of_lt → B0, mul_add_div → DH, le_antisymm → DI
open Nat.succ renaming inj → JU
open Ne renaming symm → cM
open Option renaming map_eq_some_iff → ck, isSome_iff_exists → jG, isSome_map → kM, map_some → pW, getD_none → BW, map → DG
open Option.some renaming inj → aH
open Or renaming inl → aM, inr → zZ
open Prod renaming fst → cL, ext → oF, snd → ym
open Prod.mk renaming injEq → Gw
open PyProof.Rows renaming callWith_type1 → gA, slot_tuple_getitem → jU, callWith_builtin1 → pU
open PySem renaming boot_len → bM, mem_of_lookup → jR, evalArgs_none → qw, Within → u9, Fin → Ga
open PySem.Around renaming under_plainId → ql, under → An
open PySem.Builtin.Builtins renaming bindParams → sC
open PySem.Builtin.Dict renaming showsAll → lD
open PySem.Builtin.Dict_items renaming ownsTuple → gp, newIterator → DR, isOneOf → Gx, dictOf → GN
open PySem.Builtin.Int renaming intBits → yU
open PySem.Builtin.List renaming listTooLong → jN
open PySem.Builtin.Range renaming rangeSize → vC
open PySem.Builtin.Slice renaming slicePlaces → ju, sliceAdjust → mL, sliceApplied → tu
open PySem.Builtin.SmallTypes renaming nextOf → eI, ownedTupleIsFree → gn, ownedTupleHandOut → nj, stopIteration → Cb
open PySem.Builtin.Str renaming strSliceIndices → sA
open PySem.Builtin.Tuple renaming tupleHashOf → fP, tupleExact → jM, tupleItemsOf → tq
open PySem.Calls renaming callWith_builtin → eG, spliced_cons → gh, evalArgs_plain → iw, spliced_nil → jr, Name_function_global → tm
open PySem.Challenge renaming rw_samewise_k27_whole_papers → ay, pw_samewise_k27_whole_papers → kE
open PySem.Code renaming isFrame → Ak
open PySem.Data renaming cell → wj, fields → Bp
open PySem.EntryCells renaming newEntry → yT
open PySem.F renaming plainAttrs_list → bU, type_list_append → cC, slot_list_append → cD, slot_dict_valueiterator_next → fO, slot_dict_keyiterator_next → gm, plainAttrs_dict → gw, plain_min_loop → iT, slot_tuple_iterator_next → jj, slot_dict_values → jE, slot_dict_get → lA, slot_dict_getitem → mF, slot_tuple_hash → nR, args_dict_valueiterator_next_1 → oN, entry_dict_valueiterator_next → pe, slot_zip_next → qh, args_dict_keyiterator_next_1 → qi, entry_dict_keyiterator_next → qm, slot_dict_setdefault → qR, args_tuple_iterator_next_1 → qT, entry_tuple_iterator_next → sx, excBase_ValueError → sQ, args_dict_values_1 → sS, entry_dict_values → tZ, type_list_extend → vd, type_dict_values → ve, slot_list_extend → vf, entry_min_loop → vt, slot_dict_values_iter → vB, entry_dict_get → wG, type_dict_get → xi, slot_dict_pop → xj, args_zip_next_1 → AU
open PySem.Heap renaming get?_push_of_some → az, get?_push_size → aR, lt_size → aV, SameBut → cq, get?_update_other → dt, get?_update_self → dZ, size_push → fG, get?_none_of_le → iu, FlyingW → jL, ExtBut → rp, MadeExcOf → EV
open PySem.Heap.SameBut renaming update → cW, refl → AS
open PySem.NameKind renaming free → fz
open PySem.Obj renaming data_mapFields → dO, mapFields → gM, mapSeq → ik, isFreed_of_fields → jg, cls_mapFields → nO, data_mapDictKeys → yn
open PySem.Paired renaming length → aP, snoc → rm
open PySem.PassesOwn renaming never → bI, leaving → fJ
open PySem.SeqAt renaming EqAt → pS
open PySem.Str renaming ofString → eS, length_append → AK, empty → F8
open PySem.Txt renaming slice → g6, slice_le → u5
open PySem.Value renaming ref → aQ, none → di, bool → eJ, type → j9, int → m6, str → o9, float → Bi, isStrOf → Gv
open PySem.Value.type renaming inj → jy
open PySem.W renaming Frag → ao, mg_none_of → cE, findIn → cG, nsIn → cP, keepIn → dw, fnOf → dU, kia_one → eX, emptyDict → fI, codeIn → g9, instObj → ij, kitOne → lz, plainGet → lT, hideAll → mE, of_hideAll → m7, callWith_K → m8, hasDictIn → nN, mg_of → oo, isFn → pT, plainGet_of → qx, hideAll_get → qz, lookIn → qQ, plainOver → tJ, methodObj → tK, takerIn → v7, makesIn → v8, cellsFrom_some → wF, methodCall_KW → xg, exmOne → xh, excIn → yO, Looks → yP, kitx_list → AL, kitx_dict → AM, handedIn → BV, OpenLaw → DF
open PySem.W.RowW renaming records → u6
open PySem.W.SharedT renaming abs → Kx
open PySem.W.WData renaming int → v5, weight → zX, weightAll → Dy, list → Dz
open Sum renaming inl → fF, inr → mj
open Sum.inl renaming inj → gG, injEq → yN
open Sum.inr renaming injEq → yM
open True renaming intro → fq
noncomputable section
abbrev ba:List PySem.Str:=["_law_terms", "_law_leads", "_law_edges", "_law_a", "_law_b"]
abbrev ee:List PySem.Str:=["self", "a", "b", "length"]
abbrev fM:List PySem.Str:=["_law_cell", "_law_prime", "_law_many"]
abbrev gr:List PySem.Str:=["_law_terms", "_law_edges", "_law_above", "_law_step_here"]
abbrev oq:List PySem.Str:=["_law_terms", "_law_edges", "_law_above", "_law_row"]
abbrev ue:List PySem.Str:=["terms", "leads", "edges", "a", "b"]
abbrev vc:List PySem.Str:=["_law_cell", "_law_many", "_law_colours"]
abbrev Gb:List PySem.Str:=["_law_terms", "_law_leads", "_law_edges"]
abbrev wa0:List PySem.Str:=["_law_terms", "_law_edges", "_law_book"]
abbrev wa1:List PySem.Str:=["terms", "leads"]
abbrev wa2:List PySem.Str:=["_law_cell", "_law_seed", "_law_many"]
abbrev wa3:List PySem.Str:=["terms", "leads", "edges", "least"]
abbrev wa4:List PySem.Str:=["terms", "a", "b"]
abbrev wa5:List PySem.Str:=["terms", "least", "a", "b"]
abbrev wa6:List PySem.Str:=["_law_script", "_law_most"]
abbrev wa7:List PySem.Str:=["steps", "least", "a", "b"]
abbrev wa8:List PySem.Str:=["_law_k", "_law_cell"]
abbrev wa9:List PySem.Str:=["term", "leads"]
abbrev wb0:List PySem.Str:=["terms", "leads", "edges"]
abbrev wb1:List PySem.Str:=["_law_book", "_law_row", "_law_step_here"]
abbrev wb2:List PySem.Str:=["leads", "a", "b"]
abbrev wb3:List PySem.Str:=["_law_found"]
abbrev wb4:List PySem.Str:=["terms", "edges"]
abbrev wb5:List PySem.Str:=["self", "a", "b"]
abbrev wb6:List PySem.Str:=["self", "terms", "k"]
abbrev wb7:List PySem.Str:=["self", "terms"]
abbrev wb8:List PySem.Str:=["terms", "row"]
theorem O.{u} {α:Sort u}{a:α}:a=a:=rfl
namespace KHd
open PySem PySem.W PySem.Calls PyProof.Rows
theorem Pn {p q:Program}{loose:List Str}{Xt:Shared->Bool}{α : Type}{Yf:Shared -> α}{Ya:World -> α}{N:Nat} (e:opening p=plainProg p.main.scope.names) (hN:Nat.ble 600 N=true) (f:∀ s,fenceModules? p s=some s)
  (h:∀ (w:World) (os:OsState),(topFrom treeTable p w N ⟨boot_heap w.params,iV [],boot_drawn,boot_toks,os⟩).map (fun s=>(openSeen q loose (importedModules p.main.body) Xt true s,Yf s))=some (openGood q loose,Ya w)):LeftO p q loose Xt Yf Ya N:=fun w=>by
 obtain⟨⟨hp,gs,d,k,os⟩,e1,e2⟩:=ck.mp (boot_open e hN f w)
 have e3:hp=boot_heap w.params∧gs=iV []∧d=boot_drawn∧k=boot_toks:=by simpa only [Gw] using e2
 obtain⟨z1,z2,z3,z4⟩:=e3
 subst z1 z2 z3 z4
 unfold openEnds
 rw[e1]
 exact h w os
def abL {α : Type} (l:List α) (is:List Nat):List α := is.filterMap fun i=>l[i]?
def XW:Program:=kE
def view:Program := { XW with main := { XW.main with body:=abL XW.main.body [1,2,4,5,6,7,9,10,11,12,13,15,16,17,18,20,21,22,23,24,25,26,27,28,29,30,31,32,33] } }
theorem lN {α β γ : Type}{x:Option α}{f : α -> β}{g : α -> γ}{a : β}{b : γ} (h1:x.map f=some a) (h2:x.map g=some b):x.map (fun s=>(f s,g s))=some (a,b):=by
 cases x with
 | none=>cases h1
 | some s=>cases h1;cases h2;rfl
theorem Az {α β γ : Type}{x:Option α}{f : α -> β}{g : α -> γ}{a : β}{b : γ} (h:x.map (fun s=>(f s,g s))=some (a,b)):x.map f=some a:=by
 cases x with
 | none=>cases h
 | some s=>cases h;rfl
theorem mh {α β γ : Type}{x:Option α}{f : α -> β}{g : α -> γ}{a : β}{b : γ} (h:x.map (fun s=>(f s,g s))=some (a,b)):x.map g=some b:=by
 cases x with
 | none=>cases h
 | some s=>cases h;rfl
theorem Wg {α : Type}{x:Option α}{a b c d e f g : α -> Bool} (h1:x.map a=some true) (h2:x.map (fun s=>b s && c s && d s && e s && f s && g s)=some true):x.map (fun s=>a s && b s && c s && d s && e s && f s && g s)=some true:=by
 cases x with
 | none=>cases h1
 | some s =>
  have e1:a s=true:=aH h1
  have e2:(b s && c s && d s && e s && f s && g s)=true:=aH h2
  simp only[gU]at e2
  show some (a s && b s && c s && d s && e s && f s && g s)=some true
  simp only[e1,e2,Bool.and_self]
def T0 (P:Params):BT:=(((((((((((BT.nil.ins 0 (boot_o_0 P)).ins 1 (boot_o_1 P)).ins 2 (boot_o_2 P)).ins 3 (boot_o_3 P)).ins 4 (boot_o_4 P)).ins 5 (boot_o_5 P)).ins 6 (boot_o_6 P)).ins 7 (boot_o_7 P)).ins 8 (boot_o_8 P)).ins 9 (boot_o_9 P)).ins 10 (boot_o_10 P))
theorem Xj (P:Params):absHeap (T0 P) 11 (boot_heap P).life=boot_heap P:=by kernel_rfl
theorem VB (P:Params):((boot_heap P).isNs mainGlobals,(boot_heap P).objs.size,(boot_heap P).nsMap mainGlobals "__annotations__")=(true,11,some (.ref 6)):=by kernel_rfl
def M0 (tb:String->Option Builtin) (p:Program) (w:World) (xM : Nat) (Dw:Option Value) (N:Nat):SharedT->Thread->Option SharedT :=
 Nat.rec (motive:=fun _=>SharedT->Thread->Option SharedT) (fun _ _=>none) (fun _ ih s t=>match through t with
  | true=>some s
  | false=>match stepOk xM Dw t with
   | false=>none
   | true=>match stepT (denote tb) p w s t with
    | some (s',t')=>ih s' t'
    | none=>none) N
theorem OP {tb:String->Option Builtin}{p:Program}{w:World}{xM : Nat}{Dw:Option Value}{n:Nat}{s:SharedT}{t:Thread}:M0 tb p w xM Dw (n+1) s t=(match through t with
  | true=>some s
  | false=>match stepOk xM Dw t with
   | false=>none
   | true=>match stepT (denote tb) p w s t with
    | some (s',t')=>M0 tb p w xM Dw n s' t'
    | none=>none):=rfl
theorem K4 {tb:String->Option Builtin}{p:Program}{w:World}{xM : Nat}{Dw:Option Value}:∀ {n:Nat} {s s':SharedT}{t:Thread},M0 tb p w xM Dw n s t=some s'->topRun tb p w xM Dw n s.abs t=some s'.abs
 | 0,_,_,_,h=>by cases h
 | n+1,s,s',t,h=>by
  rw[OP]at h
  unfold topRun
  cases he:through t with
  | true=>rw[he]at h;cases h;rfl
  | false =>
   rw[he]at h
   cases hk:stepOk xM Dw t with
   | false=>rw[hk]at h;cases h
   | true =>
    rw[hk]at h
    cases hs:stepT (denote tb) p w s t with
    | none=>rw[hs]at h;cases h
    | some r=>obtain⟨hX,aj1⟩:=r;rw[hs]at h;rw[stepT_spec hs];exact K4 h
def wu (p:Program) (w:World) (N:Nat) (os:OsState):Option SharedT:=M0 treeTable p w 11 (some (.ref 6)) N ⟨T0 w.params,11,(boot_heap w.params).life,iV [],boot_drawn,boot_toks,os⟩ (topStub p)
theorem uV {p:Program}{w:World}{N:Nat}{os:OsState}{α : Type}{F:Shared -> α}{G : α} (hc:(wu p w N os).map (fun s=>staticsOk (importedModules p.main.body) (boot_heap w.params) s.abs.heap && namesBound p s.abs.heap && gensDone s.abs && laidKept (boot_heap w.params) s.abs.heap)=some true) (h:(wu p w N os).map (fun s=>F s.abs)=some G) :
  (topFrom treeTable p w N ⟨boot_heap w.params,iV [],boot_drawn,boot_toks,os⟩).map F=some G:=by
 cases hr:wu p w N os with
 | none=>rw[hr]at h;cases h
 | some s =>
  rw[hr]at h hc
  have e1:F s.abs=G:=aH h
  have e2:(staticsOk (importedModules p.main.body) (boot_heap w.params) s.abs.heap && namesBound p s.abs.heap && gensDone s.abs && laidKept (boot_heap w.params) s.abs.heap)=true:=aH hc
  have r:=K4 hr
  have ea:(Kx ⟨T0 w.params,11,(boot_heap w.params).life,iV [],boot_drawn,boot_toks,os⟩)=⟨boot_heap w.params,iV [],boot_drawn,boot_toks,os⟩:=by
   unfold Kx
   dsimp only
   rw[Xj]
  rw[ea]at r
  obtain⟨z1,z2,z3⟩:_∧_∧_:=by simpa only [Gw] using VB w.params
  have t:topFrom treeTable p w N ⟨boot_heap w.params,iV [],boot_drawn,boot_toks,os⟩=some s.abs:=by
   unfold topFrom
   dsimp only
   rw[z1,z2,z3,r]
   show (match staticsOk (importedModules p.main.body) (boot_heap w.params) s.abs.heap && namesBound p s.abs.heap && gensDone s.abs && laidKept (boot_heap w.params) s.abs.heap with | true=>_ | false=>_)=_
   rw[e2]
  rw[t]
  exact congrArg some e1
set_option maxRecDepth 100000 in
set_option maxHeartbeats 0 in
theorem JF (w:World) (os:OsState):(wu ay.prog w 3614 os).map (fun s=>staticsOk (importedModules ay.prog.main.body) (boot_heap w.params) s.abs.heap && namesBound ay.prog s.abs.heap && gensDone s.abs && laidKept (boot_heap w.params) s.abs.heap)=some true:=by kernel_rfl
set_option maxRecDepth 100000 in
set_option maxHeartbeats 0 in
theorem q0T (w:World) (os:OsState):(wu ay.prog w 3614 os).map (fun s=>seen ((recsOf view).map (·.name)) (ownsOf view) [] { s.abs with gens := #[] })=some (expectedOf view):=by kernel_rfl
set_option maxRecDepth 100000 in
set_option maxHeartbeats 0 in
theorem qaT (w:World) (os:OsState):(wu ay.prog w 3614 os).map (fun s=>(s.abs.heap.bltView,s.abs.heap.accountedOkI (importedModules ay.prog.main.body) && s.abs.heap.isNs mainGlobals && s.abs.heap.isNs builtinsNs && tablesOk view s.abs.heap && (xlAt view [] s.abs && recOk (u6 ay.row.toRowW) s.abs) && (if true then s.abs.gens.size == 0 else !leftWithCleanup s.abs.gens),pinSeenD view (drecsOf view) s.abs,plainSeenD view [] s.abs,clsSeenW view [] s.abs))=some ((bltViewBooted,true,pinGoodD (drecsOf view),plainGoodD view [],clsGoodW view [])):=by kernel_rfl
set_option maxRecDepth 100000 in
set_option maxHeartbeats 0 in
theorem q2T (w:World) (os:OsState):(wu ay.prog w 3614 os).map (fun s=>s.abs.heap.keysOk (looseW view []) ((recsOf view).map (·.name)) ((litsOf view).map (·.1)) ((clssOf view (looseW view [])).map (·.name)))=some (true):=by kernel_rfl
set_option maxRecDepth 100000 in
set_option maxHeartbeats 0 in
theorem q3T (w:World) (os:OsState):(wu ay.prog w 3614 os).map (fun s=>tabsOk view s.abs)=some (true):=by kernel_rfl
set_option maxRecDepth 100000 in
set_option maxHeartbeats 0 in
theorem q5T (w:World) (os:OsState):(wu ay.prog w 3614 os).map (fun s=>plainSeenE view (looseW view []) s.abs)=some (plainGoodE view (looseW view [])):=by kernel_rfl
set_option maxRecDepth 100000 in
set_option maxHeartbeats 0 in
theorem q7T (w:World) (os:OsState):(wu ay.prog w 3614 os).map (fun s=>wideSeen view s.abs)=some (wideGood view):=by kernel_rfl
theorem q0 (w:World) (os:OsState):(topFrom treeTable ay.prog w 3614 ⟨boot_heap w.params,iV [],boot_drawn,boot_toks,os⟩).map (fun s=>seen ((recsOf view).map (·.name)) (ownsOf view) [] { s with gens := #[] })=some (expectedOf view):=uV (JF w os) (q0T w os)
theorem qa (w:World) (os:OsState):(topFrom treeTable ay.prog w 3614 ⟨boot_heap w.params,iV [],boot_drawn,boot_toks,os⟩).map (fun s=>(s.heap.bltView,s.heap.accountedOkI (importedModules ay.prog.main.body) && s.heap.isNs mainGlobals && s.heap.isNs builtinsNs && tablesOk view s.heap && (xlAt view [] s && recOk (u6 ay.row.toRowW) s) && (if true then s.gens.size == 0 else !leftWithCleanup s.gens),pinSeenD view (drecsOf view) s,plainSeenD view [] s,clsSeenW view [] s))=some ((bltViewBooted,true,pinGoodD (drecsOf view),plainGoodD view [],clsGoodW view [])):=uV (JF w os) (qaT w os)
theorem q2 (w:World) (os:OsState):(topFrom treeTable ay.prog w 3614 ⟨boot_heap w.params,iV [],boot_drawn,boot_toks,os⟩).map (fun s=>s.heap.keysOk (looseW view []) ((recsOf view).map (·.name)) ((litsOf view).map (·.1)) ((clssOf view (looseW view [])).map (·.name)))=some (true):=uV (JF w os) (q2T w os)
theorem q3 (w:World) (os:OsState):(topFrom treeTable ay.prog w 3614 ⟨boot_heap w.params,iV [],boot_drawn,boot_toks,os⟩).map (fun s=>tabsOk view s)=some (true):=uV (JF w os) (q3T w os)
theorem q5 (w:World) (os:OsState):(topFrom treeTable ay.prog w 3614 ⟨boot_heap w.params,iV [],boot_drawn,boot_toks,os⟩).map (fun s=>plainSeenE view (looseW view []) s)=some (plainGoodE view (looseW view [])):=uV (JF w os) (q5T w os)
theorem q7 (w:World) (os:OsState):(topFrom treeTable ay.prog w 3614 ⟨boot_heap w.params,iV [],boot_drawn,boot_toks,os⟩).map (fun s=>wideSeen view s)=some (wideGood view):=uV (JF w os) (q7T w os)
theorem Xz (w:World) (os:OsState):(topFrom treeTable ay.prog w 3614 ⟨boot_heap w.params,iV [],boot_drawn,boot_toks,os⟩).map (fun s=>openSeen view [] (importedModules ay.prog.main.body) (fun s=>xlAt view [] s && recOk (u6 ay.row.toRowW) s) true s)=some (openGood view []) :=
 lN (q0 w os) (lN (Az (qa w os)) (lN (Wg (q2 w os) (Az (mh (qa w os)))) (lN (q3 w os) (lN (Az (mh (mh (qa w os)))) (lN (q5 w os) (lN (Az (mh (mh (mh (qa w os))))) (lN (q7 w os) (mh (mh (mh (mh (qa w os))))))))))))
local macro_rules | `(tactic| o_head $H) => `(tactic| (refine holds_open (q:=view) (loose := []) (Xt:=fun s=>xlAt view [] s && recOk (u6 ay.row.toRowW) s) (XP:=XL view []) (Yf:=Hook.obs $H) (Ya:=Hook.val $H) (YP:=Hook.says $H) (N:=3614) ?hl (Hook.of $H) (Hook.keeps $H) (fun s e=>xl_of s (gq.mp e).1) XL.keeps (by rfl) (by rfl) (by rfl) (fun s e=>recFacts_of (gq.mp e).2) (by rfl) (by first | assumption | decide +kernel) (by decide +kernel) ⟨O,O,O,O,O,by decide +kernel⟩ ?hw ?hc;case hl=>(refine Pn (by rfl) (by decide) (fun s=>by rfl) ?_;intro w os;refine lN (Xz w os) (uV (JF w os) ?_);kernel_rfl)))
set_option maxRecDepth 100000 in
set_option maxHeartbeats 0 in
open_top top for ay
end KHd
set_option Elab.async false
set_option linter.all false
set_option maxRecDepth 100000
set_option maxHeartbeats 4000000
namespace L2
open PySem PySem.Spec PyProof.Rows
abbrev Key:=Sum Int Str
def xR:Key->Value->Bool
 | .inl k,v=>Value.isInt k v
 | .inr x,v=>Gv x v
def afG (w:World):Key->Int
 | .inl k=>hashInt k
 | .inr x=>hashStr w x
theorem fE:∀ {k:Key}{v:Value},xR k v=true->(∃ i t,k=fF i∧v=m6 i t)∨(∃ x t,k=mj x∧v=o9 x t)
 | .inl i,v,h=>by
  obtain⟨t,e⟩:=Value.isInt_shape (k:=i) (v:=v) h
  exact .inl ⟨i,t,O,e⟩
 | .inr x,v,h=>by
  obtain⟨t,e⟩:=Value.isStrOf_shape (x:=x) (v:=v) h
  exact .inr ⟨x,t,O,e⟩
theorem Pz (i:Int) (t:Tok):xR (.inl i) (.int i t)=true:=by simp[xR,Value.isInt]
theorem Py (x:Str) (t:Tok):xR (.inr x) (.str x t)=true:=by simp[xR,Gv]
theorem YF (a b:Int):decide ((fF a:Key)=fF b)=(a == b):=by
 by_cases e:a=b
 ·subst e;simp
 ·have h:¬ (fF a:Key)=fF b:=fun q=>e (gG q)
  rw[decide_eq_false h]
  exact(beq_eq_false_iff_ne.mpr e).symm
theorem YB (a b:Str):decide ((mj a:Key)=mj b)=decide (a=b):=by
 by_cases e:a=b
 ·subst e;simp
 ·have h:¬ (mj a:Key)=mj b:=fun q=>e (mj.inj q)
  rw[decide_eq_false h,decide_eq_false e]
theorem YE (a:Int) (b:Str):decide ((fF a:Key)=mj b)=false:=decide_eq_false (fun q=>nomatch q)
theorem YC (a:Str) (b:Int):decide ((mj a:Key)=fF b)=false:=decide_eq_false (fun q=>nomatch q)
def du (prog:Program) (w:World):PySem.KeyKind prog w Key where
 is:=xR
 hash:=afG w
 inj:=fun v a b ha hb=>by
  rcases fE ha with⟨i,t,rfl,rfl⟩ | ⟨x,t,rfl,rfl⟩
  ·rcases fE hb with⟨j,u,rfl,e⟩ | ⟨y,u,rfl,e⟩
   ·injection e with e1 _;rw[e1]
   ·exact nomatch e
  ·rcases fE hb with⟨j,u,rfl,e⟩ | ⟨y,u,rfl,e⟩
   ·exact nomatch e
   ·injection e with e1 _;rw[e1]
 byValue:=fun k v h=>by
   rcases fE h with⟨i,t,rfl,rfl⟩ | ⟨x,t,rfl,rfl⟩ <;> rfl
 pyHash:=fun hv h=>by
  rcases fE hv with⟨i,t,rfl,rfl⟩ | ⟨x,t,rfl,rfl⟩
  ·exact wpAny_pyHash_int h
  ·exact wpAny_pyHash_str h
 eqBool:=fun hu hv h=>by
  rcases fE hu with⟨i,t,rfl,rfl⟩ | ⟨x,t,rfl,rfl⟩
  ·rcases fE hv with⟨j,u,rfl,rfl⟩ | ⟨y,u,rfl,rfl⟩
   ·rw[YF]at h;exact wpAny_eqBool_int h
   ·rw[YE]at h;exact pS.int_str i t y u _ _ _ _ h
  ·rcases fE hv with⟨j,u,rfl,rfl⟩ | ⟨y,u,rfl,rfl⟩
   ·rw[YC]at h;exact pS.str_int x t j u _ _ _ _ h
   ·rw[YB]at h;exact wpAny_eqBool_str h
 «strs» := fun k x t v h=>by
  rcases fE h with⟨i,u,rfl,e⟩ | ⟨y,u,rfl,e⟩
  ·exact nomatch e
  ·injection e with e1 _
   subst e1
   cases v <;> rfl
theorem Kt (prog:Program) (w:World) (i:Int) (t:Tok):(du prog w).is (.inl i) (.int i t)=true:=Pz i t
theorem Ks (prog:Program) (w:World) (x:Str) (t:Tok):(du prog w).is (.inr x) (.str x t)=true:=Py x t
inductive V where
 | cJ | bl (b:Bool) | int (i:Int) | str (x:Str) | vX (b:Array UInt8) | Jq (b:UInt64) | ref (a:Addr) | ty (n:String)
 deriving DecidableEq
def RelV:V->Value->Prop
 | .cJ,u=>u=di
 | .bl b,u=>u=eJ b
 | .int i,u=>∃ t,u=m6 i t
 | .str x,u=>∃ t,u=o9 x t
 | .vX b,u=>∃ t,u=Value.bytes b t
 | .Jq b,u=>∃ t,u=Bi b t
 | .ref a,u=>u=aQ a
 | .ty n,u=>u=j9 n
abbrev Vals:List V->List Value->Prop:=Paired RelV
theorem Vals.length {xs:List V}{us:List Value} (r:Vals xs us):xs.length=us.length:=aP r
theorem Vals.get:∀ {xs:List V}{us:List Value}{i:Nat}{x:V},Vals xs us->xs[i]? = some x->∃ u,us[i]? = some u∧RelV x u
 | _,_,_,_,.nil,e=>by simp at e
 | _,_,0,_,.cons r _,e=>by simp at e;subst e;exact⟨_,O,r⟩
 | _,_,i+1,x,.cons _ t,e=>by
  obtain⟨u,h1,h2⟩:=Vals.get (i:=i) (x:=x) t (by simpa using e)
  exact⟨u,by simpa using h1,h2⟩
theorem Vals.set {x:V}{u:Value} (r:RelV x u):∀ {xs:List V}{us:List Value} (i:Nat),Vals xs us->Vals (xs.set i x) (us.set i u)
 | _,_,_,.nil => .nil
 | _,_,0,.cons _ t => .cons r t
 | _,_,i+1,.cons q t => .cons q (Vals.set r i t)
theorem Vals.append:∀ {xs ys:List V}{us ws:List Value},Vals xs us->Vals ys ws->Vals (xs ++ ys) (us ++ ws)
 | _,_,_,_,.nil,s=>s
 | _,_,_,_,.cons r t,s => .cons r (Vals.append t s)
theorem Vals.take:∀ {xs:List V}{us:List Value} (n:Nat),Vals xs us->Vals (xs.take n) (us.take n)
 | _,_,0,_ => .nil
 | _,_,_+1,.nil => .nil
 | _,_,n+1,.cons r t => .cons r (Vals.take n t)
theorem Vals.drop:∀ {xs:List V}{us:List Value} (n:Nat),Vals xs us->Vals (xs.drop n) (us.drop n)
 | _,_,0,r=>r
 | _,_,_+1,.nil => .nil
 | _,_,n+1,.cons _ t=>Vals.drop n t
def jW:Option V->Option Value->Prop
 | some v,some u=>RelV v u
 | none,none=>True
 | _,_=>False
def KV {κ : Type}:List (κ × V)->List (κ × Value)->Prop:=Paired fun (p : κ × V) (q : κ × Value)=>p.1=q.1∧RelV p.2 q.2
def kV:Key->V
 | .inl i => .int i
 | .inr x => .str x
inductive HO where
  | lst (xs:List V)
  | tup (xs:List V)
  | dK (kvs:List (Key × V)) | dT (kvs:List (List Key × V))
  | set (S:Int->Bool) (n:Nat)
  | ins (C dx:Addr) (fs:List (Str × V))
  | own (x:Addr)
  | xd (fs:List (Str × V))
  | met (f x:Addr)
  | zo (lo hi:Int)
  | uU (o:Obj) (u:HO)
  | oO (ps:Array Value)
  | ext (φ : Heap->Prop)
abbrev Hp:=Addr->Option HO
def upd (H:Hp) (a:Addr) (o:HO):Hp:=fun b=>if b=a then some o else H b
theorem aE {H:Hp}{a:Addr}{o:HO}:upd H a o a=some o:=by unfold upd;rw[if_pos rfl]
theorem aF {H:Hp}{a b:Addr}{o:HO} (h:b≠a):upd H a o b=H b:=by unfold upd;rw[if_neg h]
theorem DX {H:Hp}{a:Addr}{o u:HO}:upd (upd H a o) a u=upd H a u:=by
 funext b;unfold upd;split <;> rfl
theorem a9 {H:Hp}{a b:Addr}{o u:HO} (h:H a=some o) (h':H b=some u) (d:o≠u):a≠b:=by
 intro e;subst e;rw[h]at h';exact d (aH h')
theorem bX {H:Hp}{a b:Addr}{o:HO} (h:H a=some o) (h':H b=none):a≠b:=by
 intro e;subst e;rw[h]at h';cases h'
def vq (h:Heap) (a:Addr) (cf:Array Value):Prop := ∃ o,h.get? a=some o∧o.cls = .type "tuple" ∧ ∃ n,o.data = .seq cf n∧o.dict=none
theorem vq.tup {h:Heap}{a:Addr}{cf:Array Value} (x:vq h a cf):IsTup h a cf:=let ⟨o,e,c,n,d,_⟩:=x; ⟨o,e,c,n,d⟩
theorem vq.new (h:Heap) (cf:Array Value):vq (h.push { cls := .type "tuple",data := .seq cf }) h.objs.size cf:=⟨_,aR _ rfl,O,_,O,O⟩
section
variable (P:Program) (w:World)
def dy (H:Hp) (h:Heap) (a:Addr):HO->Prop
 | .lst xs=>xs.length<=sizeLine∧∃ (its:List Value) (n:Nat),Vals xs its∧h.get? a=some { cls := .type "list",data := .seq its.toArray n }
 | .tup xs=>xs.length<=sizeLine∧∃ its:List Value,Vals xs its∧vq h a its.toArray
 | .dK kvs=>kvs.length<=sizeLine∧(a == sysModules)=false∧∃ vs,KV kvs vs∧h.DictOf (du P w) a vs
 | .dT kvs=>kvs.length<=sizeLine∧(a == sysModules)=false∧∃ xs:List (List Key × Addr × Value),
   Paired (fun (p:List Key × V) (q:List Key × Addr × Value)=>p.1=q.1∧H q.2.1=some (.tup (p.1.map kV))∧RelV p.2 q.2.2) kvs xs ∧
   ∃ o es ep,h.get? a=some o∧o.ExactDict∧o.data = .dict es ep∧es.toList=xs.map (entryOfKey (tupleKind (du P w)))∧(xs.map (·.1)).Nodup
 | .set S n=>h.SetOf (intKind P w) a S n
 | .ins C dx fs=>H dx=some (.own a)∧fs.length<=1000∧dx≠a∧h.get? a=some (ij C dx) ∧
   ∃ mA,h.Ns1 dx mA∧(∀ f,jW (fs.lookup f) (mA f))∧u9 mA (fs.map (·.1))
 | .own _=>∃ o,h.get? a=some o
 | .xd fs=>∃ mA,h.Ns1 a mA∧∀ f,jW (fs.lookup f) (mA f)
 | .zo lo hi=>∃ t u v,h.get? a=some { cls := .type "range",data := .fields #[.int lo t,.int hi u,.int 1 v] }
 | .uU o u=>h.get? a=some o∧dy H h a u
 | .oO ps=>h.get? a=some { cls := .none,data := .fields ps }
 | .met f x=>h.get? a=some (tK (.ref f) (.ref x))
 | .ext φ => φ h∧(∃ o,h.get? a=some o)∧∀ h1 h2:Heap, φ h1->(∀ o,h1.get? a=some o->h2.get? a=some o) -> φ h2
def gC (H:Hp) (h:Heap):Prop := ∀ a o,H a=some o->dy P w H h a o
end
section
variable {P:Program}{w:World} {H H':Hp} {h h':Heap}{a:Addr}{o:HO}
theorem dy.lt (x:dy P w H h a o):a < h.objs.size:=by
 cases o with
 | lst xs=>obtain⟨_,_,_,_,e⟩:=x;exact aV e
 | tup xs=>obtain⟨_,_,_,p⟩:=x;exact p.tup.lt
 | dK kvs=>obtain⟨_,_,_,_,o,_,_,e,_⟩:=x;exact aV e
 | dT kvs=>obtain⟨_,_,_,_,o,_,_,e,_⟩:=x;exact aV e
 | set S n=>obtain⟨o,_,_,_,e,_⟩:=x;exact aV e
 | ins C dx fs=>obtain⟨_,_,_,e,_⟩:=x;exact aV e
 | own y=>obtain⟨_,e⟩:=x;exact aV e
 | xd fs=>obtain⟨_,⟨_,_,_,e,_⟩,_⟩:=x;exact aV e
 | zo lo hi=>obtain⟨_,_,_,e⟩:=x;exact aV e
 | uU ob u=>obtain⟨e,_⟩:=x;exact aV e
 | oO ps=>exact aV (show h.get? a=some _ from x)
 | met f y=>exact aV (show h.get? a=some _ from x)
 | ext φ => obtain⟨_,⟨_,e⟩,_⟩:=x;exact aV e
theorem Paired.uI {α β : Type}{F G : α -> β -> Prop}:∀ {HW : List α}{HV : List β},Paired F HW HV -> (∀ a b,F a b->G a b)->Paired G HW HV
 | _,_,.nil,_ => .nil
 | _,_,.cons r t,f => .cons (f _ _ r) (Paired.uI t f)
theorem dy.uw (x:dy P w H h a o) (k:∀ b u,(b=a∨H b=some (.own a))->h.get? b=some u->h'.get? b=some u)
  (ho:∀ b,H b=some (.own a)->H' b=some (.own a)) (ht:∀ b xs,H b=some (.tup xs)->H' b=some (.tup xs)):dy P w H' h' a o:=by
 induction o with
 | lst xs=>obtain⟨z,its,n,r,e⟩:=x;exact⟨z,its,n,r,k _ _ (.inl rfl) e⟩
 | tup xs=>obtain⟨z,its,r,ob,e,c⟩:=x;exact⟨z,its,r,ob,k _ _ (.inl rfl) e,c⟩
 | dK kvs=>obtain⟨z,y,vs,r,ob,es,ep,e,c⟩:=x;exact⟨z,y,vs,r,ob,es,ep,k _ _ (.inl rfl) e,c⟩
 | dT kvs =>
  obtain⟨z,y,xs,r,ob,es,ep,e,c⟩:=x
  exact⟨z,y,xs,Paired.uI r fun p q z=>⟨z.1,ht _ _ z.2.1,z.2.2⟩,ob,es,ep,k _ _ (.inl rfl) e,c⟩
 | set S n=>obtain⟨ob,es,ep,t,e,c⟩:=x;exact⟨ob,es,ep,t,k _ _ (.inl rfl) e,c⟩
 | ins C dx fs =>
  obtain⟨d,z,ne,e,mA,⟨od,es,ep,e2,c⟩,r⟩:=x
  exact⟨ho _ d,z,ne,k _ _ (.inl rfl) e,mA,⟨od,es,ep,k _ _ (.inr d) e2,c⟩,r⟩
 | own y=>obtain⟨ob,e⟩:=x;exact⟨ob,k _ _ (.inl rfl) e⟩
 | xd fs=>obtain⟨mA,⟨od,es,ep,e,c⟩,r⟩:=x;exact⟨mA,⟨od,es,ep,k _ _ (.inl rfl) e,c⟩,r⟩
 | zo lo hi=>obtain⟨t,u,v,e⟩:=x;exact⟨t,u,v,k _ _ (.inl rfl) e⟩
 | uU ob u ih=>obtain⟨e,q⟩:=x;exact⟨k _ _ (.inl rfl) e,ih q⟩
 | oO ps =>
  have e:h.get? a=some { cls := .none,data := .fields ps }:=x
  show h'.get? a=some { cls := .none,data := .fields ps }
  exact k a _ (.inl rfl) e
 | met f y =>
  have e:h.get? a=some (tK (.ref f) (.ref y)):=x
  show h'.get? a=some (tK (.ref f) (.ref y))
  exact k a _ (.inl rfl) e
 | ext φ => obtain⟨p,⟨o,e⟩,st⟩:=x;exact⟨st _ _ p fun o q=>k _ _ (.inl rfl) q,⟨o,k _ _ (.inl rfl) e⟩,st⟩
theorem gC.lt (x:gC P w H h) (e:H a=some o):a < h.objs.size:=(x a o e).lt
theorem gC.fresh (x:gC P w H h) (e:h.objs.size<=a):H a=none:=by
 cases q:H a with
 | none=>rfl
 | some u=>exact absurd (bP (x.lt q) e) (eM _)
theorem gC.kept (x:gC P w H h) (k:∀ b u,h.get? b=some u->h'.get? b=some u):gC P w H h':=fun a o e =>
 (x a o e).uw (fun b u _ q=>k b u q) (fun _ q=>q) fun _ _ q=>q
theorem gC.laid (x:gC P w H h) (k:∀ b u,h.get? b=some u->h'.get? b=some u) (hp:h.objs.size<=a) (new:dy P w (upd H a o) h' a o):gC P w (upd H a o) h':=fun b u e=>by
 have hn:=x.fresh hp
 by_cases hb:b=a
 ·subst hb;rw[aE]at e;cases e;exact new
 ·rw[aF hb]at e
  exact(x b u e).uw (fun c v _ q=>k c v q) (fun c q=>by rw[aF (bX q hn)];exact q) fun c xs q=>by rw[aF (bX q hn)];exact q
end
def Rd (H:Hp) (a:Addr) (u:HO):Prop:=H a=some u∨∃ o,H a=some (.uU o u)
theorem Rd.ok {P:Program}{w:World}{H:Hp}{h:Heap}{a:Addr}{u:HO} (r:Rd H a u) (x:gC P w H h):dy P w H h a u:=by
 rcases r with r | ⟨o,r⟩
 ·exact x a u r
 ·obtain⟨_,q⟩:=x a _ r
  exact q
def Q0:Option HO->Prop
 | some (.lst _)=>True
 | some (.dK _)=>True
 | some (.dT _)=>True
 | some (.set _ _)=>True
 | some (.ins _ _ _)=>True
 | some (.ext _)=>True
 | _=>False
section
variable {P:Program}{w:World}{H:Hp} {h h':Heap}{x e:Addr} {o':HO}
theorem gC.write (ok:gC P w H h) (mu:Q0 (H x)) (he:e=x∨H e=some (.own x)) (k:∀ b u,b≠e->h.get? b=some u->h'.get? b=some u) (LF:∃ u,h'.get? e=some u)
  (new:dy P w (upd H x o') h' x o'):gC P w (upd H x o') h':=fun b u q=>by
 have Na:∀ c y,H c=some (.own y)->c≠x:=fun c y r z=>by subst z;rw[r]at mu;exact mu
 have aft:∀ c xs,H c=some (.tup xs)->c≠x:=fun c xs r z=>by subst z;rw[r]at mu;exact mu
 by_cases hb:b=x
 ·subst hb;rw[aE]at q;cases q;exact new
 ·rw[aF hb]at q
  by_cases I8:b=e
  ·have q':H b=some (.own x):=by
    rcases he with z | z
    ·exact absurd (I8.trans z) hb
    ·rw[I8];exact z
   rw[q]at q';cases q'
   obtain⟨v,hv⟩:=LF
   exact⟨v,by rw[I8];exact hv⟩
  ·refine(ok b u q).uw (fun c v hc r=>k c v ?_ r) (fun c r=>by rw[aF (Na c b r)];exact r) fun c xs r=>by rw[aF (aft c xs r)];exact r
   rcases hc with rfl | hc
   ·exact I8
   ·rintro rfl
    rcases he with z | z
    ·exact Na c b hc z
    ·rw[hc]at z;cases z;exact hb rfl
end
structure Un (fs ex:List Addr) (H H':Hp) (h h':Heap):Prop where
 keep:∀ b o,h.get? b=some o->H b=none->b ∉ fs->b ∉ ex->h'.get? b=some o
 slot:∀ b o,h.get? b=some o->H b=none->b∈fs->b ∉ ex->∃ sl,h'.get? b=some { o with slots:=sl }
 free:∀ b o,h.get? b=some o->H b=none->b ∉ ex->H' b=none
 there:∀ b o,h.get? b=some o->b ∉ ex->∃ o',h'.get? b=some o'
 sE:∀ b xs,H b=some (.tup xs)->H' b=some (.tup xs)
 qL:∀ b o u,H b=some (.uU o u)->H' b=some (.uU o u)
 qD:∀ b ps,H b=some (.oO ps)->∃ more,H' b=some (.oO (ps ++ more))
section
variable {fs fs' ex ex':List Addr}{H H1 H2:Hp} {h h1 h2 h':Heap}{a x e:Addr}{o:HO}
theorem Un.any (u:Un fs ex H H1 h h1) {b:Addr}{ob:Obj} (q:h.get? b=some ob) (n:H b=none) (hx:b ∉ ex):∃ sl,h1.get? b=some { ob with slots:=sl }:=by
 by_cases hb:b∈fs
 ·exact u.slot b ob q n hb hx
 ·exact⟨ob.slots,u.keep b ob q n hb hx⟩
theorem Un.kept (k:∀ b u,h.get? b=some u->h'.get? b=some u):Un fs ex H H h h' :=
 ⟨fun b ob q _ _ _=>k b ob q,fun b ob q _ _ _=>⟨ob.slots,k b ob q⟩,fun _ _ _ n _=>n,fun b ob q _=>⟨ob,k b ob q⟩,fun _ _ q=>q,fun _ _ _ q=>q,fun _ ps q=>⟨#[],by rw[q];simp⟩⟩
theorem Un.refl:Un fs ex H H h h:=Un.kept fun _ _ q=>q
theorem Un.laid (k:∀ b u,h.get? b=some u->h'.get? b=some u) (hp:h.objs.size<=a) (hn:H a=none):Un fs ex H (upd H a o) h h' where
 keep:=fun b u q _ _ _=>k b u q
 slot:=fun b u q _ _ _=>⟨u.slots,k b u q⟩
 free:=fun b u q n _=>by rw[aF (bH (bP (aV q) hp))];exact n
 there:=fun b u q _=>⟨u,k b u q⟩
 sE:=fun b xs q=>by rw[aF (bX q hn)];exact q
 qL:=fun b u xs q=>by rw[aF (bX q hn)];exact q
 qD:=fun b ps q=>⟨#[],by rw[aF (bX q hn),q];simp⟩
theorem Un.write (mu:Q0 (H x)) (he:e=x∨H e=some (.own x)) (k:∀ b u,b≠e->h.get? b=some u->h'.get? b=some u) (LF:∃ u,h'.get? e=some u):Un fs ex H (upd H x o) h h':=by
 have hx:∀ b,H b=none->b≠x:=fun b n z=>by subst z;rw[n]at mu;exact mu
 have hb:∀ b,H b=none->b≠e:=fun b n z=>by
  subst z
  rcases he with r | r
  ·exact hx b n r
  ·rw[n]at r;cases r
 have hm:∀ b u,H b=some u->¬ Q0 (some u)->b≠x:=fun b u q nm z=>by subst z;rw[q]at mu;exact nm mu
 refine⟨fun b u q n _ _=>k b u (hb b n) q,fun b u q n _ _=>⟨u.slots,k b u (hb b n) q⟩,fun b u q n _=>by rw[aF (hx b n)];exact n,fun b u q _ =>?_,
  fun b xs q=>by rw[aF (hm b _ q fun z=>z)];exact q,fun b u xs q=>by rw[aF (hm b _ q fun z=>z)];exact q,fun b ps q=>⟨#[],by rw[aF (hm b _ q fun z=>z),q];simp⟩⟩
 by_cases I8:b=e
 ·subst I8;exact LF
 ·exact⟨u,k b u I8 q⟩
end
def TF (h:Heap) (H:Hp):List Addr:=(bN h.objs.size).filter fun a=>(H a).isSome
def xX (h:Heap) (H:Hp):Heap:=mE h (TF h H)
theorem P0 (h:Heap) (H:Hp):(xX h H).objs.size=h.objs.size:=PySem.W.hideAll_size _ _
theorem xW {h:Heap}{H:Hp}{b:Addr}{o:Obj} (e:h.get? b=some o) (n:H b=none):(xX h H).get? b=some o :=
 qz _ e fun hm=>by
  have q:(H b).isSome=true:=(gB.mp hm).2
  rw[n]at q;simp at q
theorem V8 {h:Heap}{H:Hp}{b:Addr}{o:Obj} (e:(xX h H).get? b=some o):h.get? b=some o∧H b=none:=by
 have e':h.get? b=some o:=m7 (TF h H) e
 refine⟨e',?_⟩
 cases q:H b with
 | none=>rfl
 | some x =>
  have hm:b∈TF h H:=gB.mpr ⟨cI.mpr (aV e'),by simp[q]⟩
  have z:(xX h H).get? b=none:=PySem.W.hideAll_none (TF h H) hm
  rw[z]at e;cases e
structure Mod (K:ao) (mg:Str->Option Value) (base:Heap):Prop where
 CO:K.In base
 glob:base.Ns mainGlobals mg
 blt:∃ mb,base.Ns builtinsNs mb∧∀ x:Str,x ≠ "__name__" -> mb x=bootBuiltins x
 nolimit:base.NoLimit
structure Cx where
 prog:Program
 w:World
 K:ao
 mg:Str->Option Value
 base:Heap
 A:Around
 N:List Str
 kR : Shared
 Ag : Hp
 env:Env
 outer:List Env
 stack:List Env
 ex:List Addr
 fn:Str->Bool
 calm:Bool
 pn:List (Addr × Obj)
 xe:Value->Shared->Prop
def iF (l:List Env):List Addr:=l.filterMap (·.frame)
abbrev Cx.fs (X:Cx):List Addr:=iF X.outer
def Md (sc:Scope) (x:Str):Prop:=sc.names.lookup x=some .local∨sc.names.lookup x=some .cell∨sc.names.lookup x=some .free
def Loc (sc:Scope) (x:Str):Prop:=sc.names.lookup x=some .local∨sc.names.lookup x=some .cell
def Look (env:Env) (h:Heap) (m:Str->Option Value) (x:Str) (u:Value):Prop :=
 (env.kindOf x=some .local∧m x=some u)∨((env.kindOf x=some .cell∨env.kindOf x=some .free)∧∃ c,env.cells.lookup x=some c∧h.IsCell c (some u))
structure Cx.Ok (X:Cx):Prop where
 mod:Mod X.K X.mg X.base
 kind:X.env.scope.kind = .function
 glob:X.env.globals=mainGlobals
 blt:X.env.builtins=builtinsNs
 above:X.kR.heap.objs.size<=X.env.locals
 inj:∀ x y c,X.env.cells.lookup x=some c->X.env.cells.lookup y=some c->x=y
 has:∀ x,(X.env.kindOf x=some .cell∨X.env.kindOf x=some .free)->∃ c,X.env.cells.lookup x=some c
 F1:∀ x c,X.fn x=true->X.env.cells.lookup x=some c->X.kR.heap.objs.size<=c
 hd:X.calm=true->X.A.handled=none
 frames:X.A.frames=some X.stack
 G0:X.stack=X.outer∨(X.stack=X.env :: X.outer∧X.env.frame=some X.env.locals)
 Qq:∀ b∈X.ex,b≠X.env.locals∧∀ x c,X.env.cells.lookup x=some c->c≠b
 bs:∀ b o,X.base.get? b=some o->X.kR.heap.get? b=some o∧X.Ag b=none
 yK:X.base.objs.size<=X.kR.heap.objs.size
 zx:∀ b o,X.base.get? b=some o->b ∉ X.ex
 BO:∀ b∈X.ex,b ∉ X.fs
 oA:X.kR.heap.FunFrames X.base X.outer
 Bf:∀ b∈X.fs,X.Ag b=none
structure Inv (X:Cx) (ah:List (Addr × Obj)) (σ : List (Option V)) (H:Hp) (s:Shared):Prop where
 ok:X.Ok
 os:s.os=X.kR.os
 bare:AllBare s.gens
 base:Un X.fs X.ex X.Ag H X.kR.heap s.heap
 loc:∃ m,s.heap.Ns X.env.locals m∧∀ (i:Nat) (x:Str) (v:V),X.N[i]? = some x -> σ[i]? = some (some v)->Md X.env.scope x->∃ u,RelV v u∧Look X.env s.heap m x u
 cell:∀ x c,X.env.cells.lookup x=some c->∃ v,s.heap.IsCell c v
 free:H X.env.locals=none
 om:∀ x c,X.env.cells.lookup x=some c->H c=none
 pin:∀ p∈X.pn ++ ah,s.heap.get? p.1=some p.2∧H p.1=none∧p.1≠X.env.locals∧p.1 ∉ X.fs∧∀ v,p.2.data ≠ .cell v
 bh:gC X.prog X.w H s.heap
 len : σ.length=X.N.length
section
variable {X:Cx}{ah:List (Addr × Obj)}{σ : List (Option V)} {H H':Hp}{s:Shared} {h':Heap}
theorem Cx.Ok.afx (ok:X.Ok) {b:Addr}{o:Obj} (e:X.base.get? b=some o):b ∉ X.fs:=fun hb=>by
 have:=(ok.oA.mem hb).1
 rw[e]at this;cases this
theorem Inv.bs (I:Inv X ah σ H s):∀ b o,X.base.get? b=some o->s.heap.get? b=some o∧H b=none:=fun b o e =>
 ⟨I.base.keep b o (I.ok.bs b o e).1 (I.ok.bs b o e).2 (I.ok.afx e) (I.ok.zx b o e),I.base.free b o (I.ok.bs b o e).1 (I.ok.bs b o e).2 (I.ok.zx b o e)⟩
theorem Inv.bk (I:Inv X ah σ H s):∀ b o,X.base.get? b=some o->s.heap.get? b=some o:=fun b o e=>(I.bs b o e).1
theorem Inv.mod (I:Inv X ah σ H s):Mod X.K X.mg X.base:=I.ok.mod
theorem Inv.kI (I:Inv X ah σ H s):X.K.In s.heap:=I.ok.mod.CO.keeps I.bk
theorem Inv.lt (I:Inv X ah σ H s):X.env.locals < s.heap.objs.size:=let ⟨_,hn,_⟩:=I.loc;hn.lt
theorem Inv.sz (I:Inv X ah σ H s):X.kR.heap.objs.size<=s.heap.objs.size:=bq I.ok.above (jJ I.lt)
theorem Inv.afw (I:Inv X ah σ H s) {a:Addr} (h:s.heap.objs.size<=a):a ∉ X.fs:=fun hb=>by
 obtain⟨_,o,ho,_⟩:=I.ok.oA.mem hb
 exact absurd (bP (aV ho) (bq I.sz h)) (eM _)
theorem Inv.JE (I:Inv X ah σ H s):∀ x c,X.env.cells.lookup x=some c->c≠X.env.locals:=fun x c e z=>by
 obtain⟨v,o,ho,hd⟩:=I.cell x c e
 obtain⟨m,⟨o',es,ep,C2,ZM,_⟩,_⟩:=I.loc
 rw[z,C2]at ho;cases ho;rw[ZM]at hd;cases hd
theorem Inv.oA (I:Inv X ah σ H s):s.heap.FunFrames X.base X.outer:=by
 have all:∀ (l:List Env),(∀ b∈iF l,b∈X.fs)->X.kR.heap.FunFrames X.base l->s.heap.FunFrames X.base l:=by
  intro l
  induction l with
  | nil=>intro _ _;trivial
  | cons env r ih =>
   intro hs hl
   obtain⟨hk,⟨L,o,hf,hn,ho,hd⟩,hr⟩:=hl
   have hL:L∈X.fs:=hs L (by unfold iF;rw[jS,hf];exact bg)
   obtain⟨sl,e⟩:=I.base.slot L o ho (I.ok.Bf L hL) hL fun z=>I.ok.BO L z hL
   exact⟨hk,⟨L,_,hf,hn,e,hd⟩,ih (fun b hb=>hs b (by unfold iF;rw[jS,hf];exact aW _ hb)) hr⟩
 exact all X.outer (fun _ hb=>hb) I.ok.oA
theorem Inv.stack (I:Inv X ah σ H s):s.heap.FunFrames X.base X.stack:=by
 rcases I.ok.G0 with e | ⟨e,hf⟩
 ·rw[e];exact I.oA
 ·rw[e]
  obtain⟨m,hn,_⟩:=I.loc
  refine .cons (by rw[I.ok.kind];decide) hf hn ?_ I.oA
  exact iu (bq I.ok.yK I.ok.above)
theorem Inv.za (I:Inv X ah σ H s):∀ b∈iF X.stack,b∈X.env.locals :: X.fs:=fun b hb=>by
 rcases I.ok.G0 with e | ⟨e,hf⟩
 ·rw[e]at hb;exact aW _ hb
 ·rw[e]at hb
  unfold iF at hb
  rw[jS,hf]at hb
  exact hb
theorem Inv.DZ (I:Inv X ah σ H s):∀ b∈iF X.stack,H b=none:=fun b hb=>by
 rcases aY.mp (I.za b hb) with e | hb
 ·rw[e];exact I.free
 ·obtain⟨_,o,ho,_⟩:=I.ok.oA.mem hb
  exact I.base.free b o ho (I.ok.Bf b hb) fun z=>I.ok.BO b z hb
theorem Inv.step {g':Array GenState} {t':Nat} {d':Drawn}{ch:List Addr} (I:Inv X ah σ H s)
  (vN:∀ b∈ch,(b∈X.ex∨X.kR.heap.objs.size<=b)∧b≠X.env.locals∧(∀ x c,X.env.cells.lookup x=some c->c≠b)∧∀ p∈X.pn ++ ah,p.1≠b)
  (keep:∀ b o,b≠X.env.locals->b ∉ X.fs->b ∉ ch->s.heap.get? b=some o->H b=none->h'.get? b=some o)
  (slot:∀ b o,b≠X.env.locals->b∈X.fs->b ∉ ch->s.heap.get? b=some o->H b=none->∃ sl,h'.get? b=some { o with slots:=sl }) (free:∀ b o,b ∉ ch->s.heap.get? b=some o->H b=none->H' b=none)
  (there:∀ b o,b ∉ ch->s.heap.get? b=some o->∃ o',h'.get? b=some o')
  (sE:∀ b xs,H b=some (.tup xs)->H' b=some (.tup xs)) (qL:∀ b o u,H b=some (.uU o u)->H' b=some (.uU o u)) (qD:∀ b ps,H b=some (.oO ps)->∃ more,H' b=some (.oO (ps ++ more)))
  (ns:∀ m,s.heap.Ns X.env.locals m->h'.Ns X.env.locals m) (bh:gC X.prog X.w H' h') (hg:AllBare g') :
  Inv X ah σ H' { s with heap:=h',gens:=g',drawn:=d',toks:=t' }:=by
 have neL:∀ b o,X.kR.heap.get? b=some o->b≠X.env.locals:=fun b o e=>bH (bP (aV e) I.ok.above)
 have Ud:∀ b o,X.kR.heap.get? b=some o->b ∉ X.ex->b ∉ ch:=fun b o e hx hb=>by
  rcases(vN b hb).1 with z | z
  ·exact hx z
  ·exact absurd (bP (aV e) z) (eM _)
 have Vc:∀ x c,X.env.cells.lookup x=some c->∀ v,s.heap.IsCell c v->h'.IsCell c v:=fun x c e v ⟨o,ho,hd⟩=>by
  have Pd:c ∉ ch:=fun z=>(vN c z).2.2.1 x c e rfl
  by_cases hc:c∈X.fs
  ·obtain⟨sl,q⟩:=slot c o (I.JE x c e) hc Pd ho (I.om x c e)
   exact⟨_,q,hd⟩
  ·exact⟨o,keep c o (I.JE x c e) hc Pd ho (I.om x c e),hd⟩
 refine⟨I.ok,I.os,hg,⟨fun b o e n hb hx =>?_,fun b o e n hb hx =>?_,fun b o e n hx =>?_,fun b o e hx =>?_,fun b xs e=>sE b xs (I.base.sE b xs e),fun b o xs e=>qL b o xs (I.base.qL b o xs e),fun b ps e =>?_⟩,?_,fun x c e =>?_,?_,fun x c e =>?_,fun p hp =>?_,bh,I.len⟩
 ·exact keep b o (neL b o e) hb (Ud b o e hx) (I.base.keep b o e n hb hx) (I.base.free b o e n hx)
 ·obtain⟨sl,e1⟩:=I.base.slot b o e n hb hx
  obtain⟨sl',e2⟩:=slot b _ (neL b o e) hb (Ud b o e hx) e1 (I.base.free b o e n hx)
  exact⟨sl',e2⟩
 ·obtain⟨o',e1⟩:=I.base.there b o e hx
  exact free b o' (Ud b o e hx) e1 (I.base.free b o e n hx)
 ·obtain⟨o',e1⟩:=I.base.there b o e hx
  exact there b o' (Ud b o e hx) e1
 ·obtain⟨m1,e1⟩:=I.base.qD b ps e
  obtain⟨m2,e2⟩:=qD b _ e1
  exact⟨m1 ++ m2,by rw[e2,Am]⟩
 ·obtain⟨m,hn,hl⟩:=I.loc
  refine⟨m,ns m hn,fun i x v e1 e2 e3 =>?_⟩
  obtain⟨u,r,l⟩:=hl i x v e1 e2 e3
  refine⟨u,r,?_⟩
  rcases l with l | ⟨k,c,e,z⟩
  ·exact .inl l
  ·exact .inr ⟨k,c,e,Vc x c e _ z⟩
 ·obtain⟨v,z⟩:=I.cell x c e
  exact⟨v,Vc x c e v z⟩
 ·obtain⟨m,⟨o,_,_,ho,_⟩,_⟩:=I.loc
  exact free _ o (fun z=>(vN _ z).2.1 rfl) ho I.free
 ·obtain⟨v,o,ho,hd⟩:=I.cell x c e
  exact free c o (fun z=>(vN c z).2.2.1 x c e rfl) ho (I.om x c e)
 ·obtain⟨e,n,ne,nf,d⟩:=I.pin p hp
  have Pd:p.1 ∉ ch:=fun z=>(vN p.1 z).2.2.2 p hp rfl
  exact⟨keep p.1 p.2 ne nf Pd e n,free p.1 p.2 Pd e n,ne,nf,d⟩
theorem Inv.un {t':Nat} (I:Inv X ah σ H s) (u:Un X.fs [] H H' s.heap h') (bh:gC X.prog X.w H' h'):Inv X ah σ H' { s with heap:=h',toks:=t' }:=by
 obtain⟨m,⟨o,es,ep,ho,r⟩,_⟩:=id I.loc
 obtain⟨sl,hL⟩:=u.any ho I.free (by simp)
 exact I.step (g':=s.gens) (d':=s.drawn) (ch := []) (fun _ z=>nomatch z) (fun b o _ hb _ e n=>u.keep b o e n hb (by simp)) (fun b o _ hb _ e n=>u.slot b o e n hb (by simp)) (fun b o _ e n=>u.free b o e n (by simp)) (fun b o _ e=>u.there b o e (by simp)) u.sE u.qL u.qD (fun m' hm=>by
  obtain⟨o',zP,Ju,C2,r'⟩:=hm
  rw[ho]at C2;cases C2
  exact⟨_,zP,Ju,hL,r'⟩) bh I.bare
theorem Inv.call {g':Array GenState} {t':Nat} {d':Drawn}{ch:List Addr} (I:Inv X ah σ H s) (u:Un (iF X.stack) ch H H' s.heap h') (bh:gC X.prog X.w H' h') (hg:AllBare g')
  (vN:∀ b∈ch,(b∈X.ex∨X.kR.heap.objs.size<=b)∧b≠X.env.locals∧(∀ x c,X.env.cells.lookup x=some c->c≠b)∧∀ p∈X.pn ++ ah,p.1≠b) :
  Inv X ah σ H' { s with heap:=h',gens:=g',drawn:=d',toks:=t' }:=by
 obtain⟨m,⟨o,es,ep,ho,r⟩,_⟩:=id I.loc
 obtain⟨sl,hL⟩:=u.any ho I.free fun z=>(vN _ z).2.1 rfl
 exact I.step (ch:=ch) vN (fun b o hL hb hc e n=>u.keep b o e n (fun z=>(aY.mp (I.za b z)).elim hL hb) hc) (fun b o _ _ hc e n=>u.any e n hc) (fun b o hc e n=>u.free b o e n hc) (fun b o hc e=>u.there b o e hc) u.sE u.qL u.qD (fun m' hm=>by
  obtain⟨o',zP,Ju,C2,r'⟩:=hm
  rw[ho]at C2;cases C2
  exact⟨_,zP,Ju,hL,r'⟩) bh hg
theorem Inv.turned {t':Nat}{it:Addr} (I:Inv X ah σ H s) (k:∀ b o,b≠it->s.heap.get? b=some o->h'.get? b=some o) (hn:H it=none) (hL:it≠X.env.locals)
  (h1:it∈X.ex∨X.kR.heap.objs.size<=it) (h2:∀ x c,X.env.cells.lookup x=some c->c≠it) (h3:∀ p∈X.pn ++ ah,p.1≠it):Inv X ah σ H { s with heap:=h',toks:=t' }:=by
 have Pb:∀ b u,H b=some u->b≠it:=fun b u e z=>by rw[z,hn]at e;cases e
 refine I.step (g':=s.gens) (d':=s.drawn) (ch := [it]) (fun b hb =>?_) (fun b o _ _ hc e _=>k b o (fun z=>hc (by simp[z])) e) (fun b o _ _ hc e _=>⟨o.slots,k b o (fun z=>hc (by simp[z])) e⟩) (fun _ _ _ _ n=>n)
  (fun b o hc e=>⟨o,k b o (fun z=>hc (by simp[z])) e⟩) (fun _ _ e=>e) (fun _ _ _ e=>e) (fun b ps e=>⟨#[],by rw[e];simp⟩) (fun m hm =>?_) (fun b u e =>?_) I.bare
 ·have e:b=it:=by simpa using hb
  subst e
  exact⟨h1,hL,h2,h3⟩
 ·obtain⟨o,es,ep,ho,r⟩:=hm
  exact⟨o,es,ep,k _ o (cM hL) ho,r⟩
 ·refine(I.bh b u e).uw (fun c v hc q=>k c v ?_ q) (fun _ q=>q) fun _ _ q=>q
  rcases hc with z | z
  ·rw[z];exact Pb b u e
  ·exact Pb c _ z
theorem Inv.tok (I:Inv X ah σ H s) (t:Nat):Inv X ah σ H { s with toks:=t }:=I.un (h':=s.heap) (t':=t) Un.refl I.bh
theorem Inv.kept {t':Nat} (I:Inv X ah σ H s) (k:∀ b u,s.heap.get? b=some u->h'.get? b=some u):Inv X ah σ H { s with heap:=h',toks:=t' }:=I.un (Un.kept k) (I.bh.kept k)
theorem Inv.laid {a:Addr}{o:HO} {t':Nat} (I:Inv X ah σ H s) (k:∀ b u,s.heap.get? b=some u->h'.get? b=some u) (hp:s.heap.objs.size<=a) (new:dy X.prog X.w (upd H a o) h' a o) :
  Inv X ah σ (upd H a o) { s with heap:=h',toks:=t' }:=I.un (Un.laid k hp (I.bh.fresh hp)) (I.bh.laid k hp new)
theorem Inv.write {x e:Addr}{o:HO} {t':Nat} (I:Inv X ah σ H s) (mu:Q0 (H x)) (he:e=x∨H e=some (.own x)) (k:∀ b u,b≠e->s.heap.get? b=some u->h'.get? b=some u) (LF:∃ u,h'.get? e=some u)
  (new:dy X.prog X.w (upd H x o) h' x o):Inv X ah σ (upd H x o) { s with heap:=h',toks:=t' }:=I.un (Un.write mu he k LF) (I.bh.write mu he k LF new)
theorem Inv.K5 {T6:List (Addr × Obj)} (I:Inv X ah σ H s) (h:∀ p∈T6,s.heap.get? p.1=some p.2∧H p.1=none∧p.1≠X.env.locals∧p.1 ∉ X.fs∧∀ v,p.2.data ≠ .cell v):Inv X T6 σ H s :=
 ⟨I.ok,I.os,I.bare,I.base,I.loc,I.cell,I.free,I.om,fun p hp=>(aA.mp hp).elim (fun z=>I.pin p (qb _ z)) (h p),I.bh,I.len⟩
theorem HM {N:List Str} (hN:N.Nodup) {i j:Nat}{x:Str} (a:N[i]? = some x) (b:N[j]? = some x):i=j:=by
 obtain⟨h1,e1⟩:=ai.mp a
 obtain⟨h2,e2⟩:=ai.mp b
 exact(B3 hN).mp (e1.trans e2.symm)
theorem y4 {M:Model}{A:Around}{E:Value->Shared->Prop}{i:Nat}{x:Str}{v:V}{u:Value}{Q:Unit->Shared->Prop} (I:Inv X ah σ H s) (hN:X.N.Nodup) (hi:X.N[i]? = some x) (hx:Loc X.env.scope x) (r:RelV v u)
  (h:∀ s',Inv X ah (σ.set i (some v)) H s'->(∃ a,cq a s.heap s'.heap∧(a=X.env.locals∨X.env.cells.lookup x=some a))->Q () s') (hf:X.fn x=true∨X.env.scope.names.lookup x=some .local:=by first | exact .inl rfl | exact .inr rfl | assumption):wpAny M A (storeName X.env x u) Q E s:=by
 obtain⟨m,hn,hl⟩:=id I.loc
 have af7:(X.env.scope.kind == .class || (X.env.scope.kind == .module && X.env.locals != X.env.globals))=false:=by rw[I.ok.kind];rfl
 have Zy : i < σ.length:=by rw[I.len];exact(ai.mp hi).1
 have JE:=I.JE
 have KL:∀ {a:Addr} {h':Heap},(∃ o,s.heap.get? a=some o∧H a=none)->cq a s.heap h'->gC X.prog X.w H h':=fun {a h'} ha hs b ob e=>by
  obtain⟨_,_,AE⟩:=ha
  refine(I.bh b ob e).uw (fun c w' hc q=>(hs.2 c ?_).trans q) (fun _ q=>q) fun _ _ q=>q
  rintro rfl
  rcases hc with rfl | hc
  ·rw[AE]at e;cases e
  ·rw[AE]at hc;cases hc
 rcases hx with hk | hk
 ·refine wpAny_storeName_local hk hn (fun h' hn' hs =>?_) af7
  obtain⟨oL,_,_,hoL,_⟩:=id hn
  refine h _ ⟨I.ok,I.os,I.bare,⟨fun b o e n hb hx =>?_,fun b o e n hb hx =>?_,I.base.free,fun b o e hx =>?_,I.base.sE,I.base.qL,I.base.qD⟩,⟨_,hn',fun j y v' e1 e2 e3 =>?_⟩,fun y c e =>?_,I.free,I.om,fun p hp =>?_,KL ⟨oL,hoL,I.free⟩ hs,by simpa using I.len⟩ ⟨_,hs,.inl rfl⟩
  ·exact(hs.2 b (bH (bP (aV e) I.ok.above))).trans (I.base.keep b o e n hb hx)
  ·obtain⟨sl,e1⟩:=I.base.slot b o e n hb hx
   exact⟨sl,(hs.2 b (bH (bP (aV e) I.ok.above))).trans e1⟩
  ·obtain⟨o',e1⟩:=I.base.there b o e hx
   exact⟨o',(hs.2 b (bH (bP (aV e) I.ok.above))).trans e1⟩
  ·by_cases hj:j=i
   ·subst hj
    rw[hi]at e1;cases e1
    rw[wH Zy]at e2
    cases e2
    exact⟨u,r,.inl ⟨hk,by simp⟩⟩
   ·rw[yq (cM hj)]at e2
    obtain⟨u',r',q⟩:=hl j y v' e1 e2 e3
    refine⟨u',r',?_⟩
    rcases q with⟨k,e⟩ | ⟨k,c,e,z⟩
    ·refine .inl ⟨k,?_⟩
     have:y≠x:=fun e=>hj (HM hN e1 (e ▸ hi))
     simp[this,e]
    ·exact .inr ⟨k,c,e,z.sameBut hs (JE y c e)⟩
  ·obtain⟨w',z⟩:=I.cell y c e
   exact⟨w',z.sameBut hs (JE y c e)⟩
  ·obtain⟨e,n,ne,nf,d⟩:=I.pin p hp
   exact⟨(hs.2 p.1 ne).trans e,n,ne,nf,d⟩
 ·have ZE:X.fn x=true:=by
   rcases hf with z | z
   ·exact z
   ·rw[z]at hk;cases hk
  obtain⟨c,hc⟩:=I.ok.has x (.inl hk)
  obtain⟨w',z⟩:=I.cell x c hc
  refine wpAny_storeName_cell I.ok.kind hk hc z (fun h' qu hs =>?_)
  obtain⟨oc,FF,afS⟩:=id z
  refine h { s with heap:=h' } ⟨I.ok,I.os,I.bare,⟨fun b o e n hb hx =>?_,fun b o e n hb hx =>?_,I.base.free,fun b o e hx =>?_,I.base.sE,I.base.qL,I.base.qD⟩,⟨m,hn.sameBut hs (cM (JE x c hc)),fun j y v' e1 e2 e3 =>?_⟩,fun y c' e =>?_,I.free,I.om,fun p hp =>?_,KL ⟨oc,FF,I.om x c hc⟩ hs,by simpa using I.len⟩ ⟨c,hs,.inr hc⟩
  ·exact(hs.2 b (bH (bP (aV e) (I.ok.F1 x c ZE hc)))).trans (I.base.keep b o e n hb hx)
  ·obtain⟨sl,e1⟩:=I.base.slot b o e n hb hx
   exact⟨sl,(hs.2 b (bH (bP (aV e) (I.ok.F1 x c ZE hc)))).trans e1⟩
  ·obtain⟨o',e1⟩:=I.base.there b o e hx
   exact⟨o',(hs.2 b (bH (bP (aV e) (I.ok.F1 x c ZE hc)))).trans e1⟩
  ·by_cases hj:j=i
   ·subst hj
    rw[hi]at e1;cases e1
    rw[wH Zy]at e2
    cases e2
    exact⟨u,r,.inr ⟨.inl hk,c,hc,qu⟩⟩
   ·rw[yq (cM hj)]at e2
    obtain⟨u',r',q⟩:=hl j y v' e1 e2 e3
    refine⟨u',r',?_⟩
    rcases q with q | ⟨k,c',e,z'⟩
    ·exact .inl q
    ·refine .inr ⟨k,c',e,z'.sameBut hs ?_⟩
     rintro rfl
     exact hj (HM hN e1 (I.ok.inj _ _ _ e hc ▸ hi))
  ·by_cases FI:c'=c
   ·subst FI;exact⟨_,qu⟩
   ·obtain⟨w2,z2⟩:=I.cell y c' e
    exact⟨w2,z2.sameBut hs FI⟩
  ·obtain⟨e,n,ne,nf,d⟩:=I.pin p hp
   refine⟨(hs.2 p.1 ?_).trans e,n,ne,nf,d⟩
   intro q
   rw[q,FF]at e
   have q':oc=p.2:=aH e
   exact d w' (by rw[<- q'];exact afS)
theorem Br {M:Model}{A:Around}{E:Value->Shared->Prop}{i:Nat}{x:Str}{v:V}{u:Value}{Q:Unit->Shared->Prop} (I:Inv X ah σ H s) (hN:X.N.Nodup) (hi:X.N[i]? = some x) (hx:Loc X.env.scope x) (r:RelV v u)
  (h:∀ s',Inv X ah (σ.set i (some v)) H s'->Q () s') (hf:X.fn x=true∨X.env.scope.names.lookup x=some .local:=by first | exact .inl rfl | exact .inr rfl | assumption):wpAny M A (storeName X.env x u) Q E s :=
 y4 I hN hi hx r (fun s' I' _=>h s' I') hf
theorem Inv.Vd {s':Shared}{ch:List Addr} (I:Inv X ah σ H s) (ho:s'.os=s.os) (u:Un (iF X.stack) ch H H' s.heap s'.heap) (bh:gC X.prog X.w H' s'.heap) (hg:AllBare s'.gens)
  (vN:∀ b∈ch,(b∈X.ex∨X.kR.heap.objs.size<=b)∧b≠X.env.locals∧(∀ x c,X.env.cells.lookup x=some c->c≠b)∧∀ p∈X.pn ++ ah,p.1≠b):Inv X ah σ H' s':=by
 obtain⟨h',g',d',t',o'⟩:=s'
 have e:o'=s.os:=ho
 subst e
 exact I.call (g':=g') (t':=t') (d':=d') u bh hg vN
end
abbrev XK:=Value->Option Addr->Hp->Prop
abbrev St:=List (Option V)
abbrev VK:=V->Hp->Prop
abbrev TE:=St->Hp->VK->Prop
abbrev TT:=St->Hp->(Bool->Hp->Prop)->Prop
abbrev TA:=St->Hp->(List V->Hp->Prop)->Prop
structure Ends where
 nx:St->Hp->Prop
 rt:VK
 bk:St->Hp->Prop:=fun _ _=>False
 ct:St->Hp->Prop:=fun _ _=>False
abbrev TS:=Ends->St->Hp->Prop
def EP (X:Cx) (ah:List (Addr × Obj)) (σ : St) (Q:VK) (u:Value) (s':Shared):Prop := ∃ v H',Inv X ah σ H' s'∧RelV v u∧Q v H'
def TP (X:Cx) (ah:List (Addr × Obj)) (σ : St) (Q:Bool->Hp->Prop) (b:Bool) (s':Shared):Prop := ∃ H',Inv X ah σ H' s'∧Q b H'
def AP (X:Cx) (ah:List (Addr × Obj)) (σ : St) (Q:List V->Hp->Prop) (us:List Value) (s':Shared):Prop := ∃ vs H',Inv X ah σ H' s'∧Vals vs us∧Q vs H'
def SP (X:Cx) (ah:List (Addr × Obj)) (D:Ends) (f:Flow) (s':Shared):Prop :=
 match f with
 | .next=>∃ br H',Inv X ah br H' s'∧D.nx br H'
 | .brk=>∃ br H',Inv X ah br H' s'∧D.bk br H'
 | .cont=>∃ br H',Inv X ah br H' s'∧D.ct br H'
 | .ret u=>∃ v br H',Inv X ah br H' s'∧RelV v u∧D.rt v H'
def PE (X:Cx) (e:Expr) (t:TE):Prop :=
 ∀ (ah:List (Addr × Obj)) (s:Shared) (σ : St) (H:Hp) (Q:VK),Inv X ah σ H s->t σ H Q->wpAny (model X.prog X.w) X.A (eval e X.env) (EP X ah σ Q) X.xe s
def PT (X:Cx) (e:Expr) (t:TT):Prop :=
 ∀ (ah:List (Addr × Obj)) (s:Shared) (σ : St) (H:Hp) (Q:Bool->Hp->Prop),Inv X ah σ H s->t σ H Q->wpAny (model X.prog X.w) X.A (isTrue e X.env (eval e X.env)) (TP X ah σ Q) X.xe s
def PW (X:Cx) (e:Expr) (t:TT):Prop :=
 ∀ (vD:Sem Value) (ah:List (Addr × Obj)) (s:Shared) (σ : St) (H:Hp) (Q:Bool->Hp->Prop),Inv X ah σ H s->t σ H Q->wpAny (model X.prog X.w) X.A (isTrue e X.env vD) (TP X ah σ Q) X.xe s
theorem PW.pt {X:Cx}{e:Expr}{t:TT} (h:PW X e t):PT X e t:=h _
def PA (X:Cx) (es:List Expr) (t:TA):Prop :=
 ∀ (pos:Pos) (ah:List (Addr × Obj)) (s:Shared) (σ : St) (H:Hp) (Q:List V->Hp->Prop),Inv X ah σ H s->t σ H Q->wpAny (model X.prog X.w) X.A (spliced (backTo pos (starEach es X.env))) (AP X ah σ Q) X.xe s
def PS (X:Cx) (st:Stmt) (t:TS):Prop :=
 ∀ (ah:List (Addr × Obj)) (s:Shared) (σ : St) (H:Hp) (D:Ends),Inv X ah σ H s->t D σ H->wpAny (model X.prog X.w) X.A (exec st X.env) (SP X ah D) X.xe s
def pV (X:Cx) (st:List Stmt) (t:TS):Prop :=
 ∀ (ah:List (Addr × Obj)) (s:Shared) (σ : St) (H:Hp) (D:Ends),Inv X ah σ H s->t D σ H->wpAny (model X.prog X.w) X.A (execs st X.env) (SP X ah D) X.xe s
theorem bF {α : Type}{t:Sem α} {Q Q' : α -> Shared->Prop}{M:Model}{A:Around}{E:Value->Shared->Prop}{s:Shared} (h:wpAny M A t Q E s) (hQ:∀ a s,Q a s->Q' a s):wpAny M A t Q' E s:=wpAny_mono h hQ fun _ _ x=>x
section
variable {X:Cx}
inductive aaV (i:Nat) (σ : St) (H:Hp) (Q:VK):Prop
 | mk (v:V) (e : σ[i]? = some (some v)) (q:Q v H):aaV i σ H Q
def W3 (i:Nat):TE:=fun σ H Q=>aaV i σ H Q
def tC (v:V):TE:=fun _ H Q=>Q v H
theorem X1 {i:Nat}{x:Str}{pos:Pos} (hN:X.N[i]? = some x) (hv:Md X.env.scope x) (hd:(x == ("__debug__" : Str))=false:=by decide) (mZ:(x == ("__classdict__" : Str))=false:=by decide):PE X (.Name x pos) (W3 i):=by
 intro ah s σ H Q I h
 obtain⟨v,e,h⟩:=h
 obtain⟨m,hn,hl⟩:=I.loc
 obtain⟨u,r,l⟩:=hl i x v hN e hv
 have fin:EP X ah σ Q u s:=⟨v,H,I,r,h⟩
 rcases l with⟨hk,hm⟩ | ⟨hk,c,hc,iJ⟩
 ·exact wpAny_Name (wpAny_loadName_local I.ok.kind hk hn hm fin) hd
 ·rcases hk with hk | hk
  ·exact wpAny_Name (wpAny_loadName_cell I.ok.kind hk hc iJ fin) hd
  ·exact wpAny_Name (wpAny_loadName_free I.ok.kind hk hc iJ fin mZ) hd
theorem aD {i j pos}:PE X (.Constant (.int i) j pos) (tC (.int i)):=fun _ _ _ H _ I h=>wpAny_Constant_int ⟨.int i,H,I.tok _,⟨_,O⟩,h⟩
theorem je {b j pos}:PE X (.Constant (.bool b) j pos) (tC (.bl b)):=fun _ _ _ H _ I h=>Constant_bool ⟨.bl b,H,I,O,h⟩
theorem j5 {j pos}:PE X (.Constant .none j pos) (tC .cJ):=fun _ _ _ H _ I h=>Constant_none ⟨.cJ,H,I,O,h⟩
theorem d9 {x j pos}:PE X (.Constant (.str x) j pos) (tC (.str x)):=fun _ _ _ H _ I h=>Calls.Constant_str ⟨.str x,H,I.tok _,⟨_,O⟩,h⟩
def Gl (X:Cx) (x:Str):Prop:=X.env.kindOf x=some .globalImplicit
theorem wW {E:Value->Shared->Prop}{ah:List (Addr × Obj)}{s:Shared}{σ : St}{H:Hp}{x:Str}{u:Value}{pos:Pos}{Q:Value->Shared->Prop} (I:Inv X ah σ H s) (hg:Gl X x) (hm:X.mg x=some u) (h:Q u s)
  (hd:(x == ("__debug__" : Str))=false:=by decide):wpAny (model X.prog X.w) X.A (eval (.Name x pos) X.env) Q E s :=
 tm I.ok.kind hg (Calls.loadGlobal_global (by rw[I.ok.glob];exact I.mod.glob.keeps I.bk) hm h) hd
theorem pH {E:Value->Shared->Prop}{ah:List (Addr × Obj)}{s:Shared}{σ : St}{H:Hp}{x:Str}{u:Value}{pos:Pos}{Q:Value->Shared->Prop} (I:Inv X ah σ H s) (hg:Gl X x) (hm:X.mg x=none) (hv:bootBuiltins x=some u) (h:Q u s)
  (hn:x ≠ "__name__" := by decide) (hd:(x == ("__debug__" : Str))=false:=by decide):wpAny (model X.prog X.w) X.A (eval (.Name x pos) X.env) Q E s:=by
 obtain⟨mb,h1,h2⟩:=I.mod.blt
 exact tm I.ok.kind hg (Calls.loadGlobal_builtin (by rw[I.ok.glob];exact I.mod.glob.keeps I.bk) hm (by rw[I.ok.blt];exact h1.keeps I.bk) ((h2 x hn).trans hv) h) hd
theorem qJ {x:Str}{v:V}{u:Value}{pos:Pos} (hg:Gl X x) (hm:X.mg x=none) (hv:bootBuiltins x=some u) (r:RelV v u) (hn:x ≠ "__name__" := by decide) (hd:(x == ("__debug__" : Str))=false:=by decide):PE X (.Name x pos) (tC v) :=
 fun _ _ _ H _ I h=>pH I hg hm hv ⟨v,H,I,r,h⟩ hn hd
variable {a b:Expr}{ta tb:TE}{pos:Pos}
def PC (X:Cx) (op:CmpOp) (a b:Expr) (t:TE):Prop :=
 ∀ (ah:List (Addr × Obj)) (s:Shared) (σ : St) (H:Hp) (Q:VK),Inv X ah σ H s->t σ H Q ->
  wpAny (model X.prog X.w) X.A (eval a X.env) (fun v eE => wpAny (model X.prog X.w) X.A (eval b X.env) (fun u hX => wpAny (model X.prog X.w) X.A (compareOp op v u) (EP X ah σ Q) X.xe hX) X.xe eE) X.xe s
inductive abe (Q:Bool->Hp->Prop) (x:V) (H1:Hp):Prop
 | mk:∀ c,(x = .bl c)->(Q c H1)->abe Q x H1
def tB (t:TE):TT:=fun σ H Q=>t σ H fun x H1=>abe Q x H1
theorem Cs {op:CmpOp}{t:TE} (h:PC X op a b t) (h1:behindInMarks op b=false:=by first | exact afy _ (by decide) (by decide) | rfl):PT X (.Compare a [op] [b] pos) (tB t):=by
 intro ah s σ H Q I hw
 refine wpAny_isTrue_Compare1 (bF (h ah s σ H _ I hw) fun v s1 h1=>bF h1 fun u s2 h2=>bF h2 fun c s3 ⟨x,H1,I1,r1,q1⟩ =>?_) h1
 obtain⟨d,rfl,q⟩:=q1
 cases r1
 exact wpAny_truthy_bool ⟨H1,I1,q⟩
theorem jm {e:Expr}{t:TE} (h:PE X e t) (he:∀ vD,isTrue e X.env vD=(do let v <- vD;standAt e.pos;holding [v] (truthy v)):=by intro _;rfl):PT X e (tB t):=by
 intro ah s σ H Q I hw
 refine isTrue_plain (bF (h ah s σ H _ I hw) fun v s1 ⟨x,H1,I1,r1,q1⟩ =>?_) (he _)
 obtain⟨d,rfl,q⟩:=q1
 cases r1
 exact wpAny_truthy_bool ⟨H1,I1,q⟩
variable {tA TQ:TT}{rest:List Expr}
def ae3 (t u:TT):TT:=fun σ H Q=>t σ H fun c H1=>if c=true then u σ H1 Q else Q false H1
def tOr (t u:TT):TT:=fun σ H Q=>t σ H fun c H1=>if c=true then Q true H1 else u σ H1 Q
def aeW (t:TT):TT:=fun σ H Q=>t σ H fun c H1=>Q (!c) H1
theorem pw_and1 (ha:PT X a tA):PW X (.BoolOp .And [a] pos) tA:=by
 intro wh ah s σ H Q I h
 refine isTrue_and (bF (ha ah s σ H Q I h) fun c s1 e =>?_)
 cases c with
 | true=>exact isTrue_and_nil e
 | false=>exact e
theorem pw_or1 (ha:PT X a tA):PW X (.BoolOp .Or [a] pos) tA:=by
 intro wh ah s σ H Q I h
 refine isTrue_or (bF (ha ah s σ H Q I h) fun c s1 e =>?_)
 cases c with
 | false=>exact isTrue_or_nil e
 | true=>exact e
theorem pw_and (ha:PT X a tA) (hb:PW X (.BoolOp .And (b :: rest) pos) TQ):PW X (.BoolOp .And (a :: b :: rest) pos) (ae3 tA TQ):=by
 intro wh ah s σ H Q I h
 refine isTrue_and (bF (ha ah s σ H _ I h) fun c s1 ⟨H1,I1,q1⟩ =>?_)
 cases c with
 | true=>exact hb wh ah s1 σ H1 Q I1 q1
 | false=>exact⟨H1,I1,q1⟩
theorem pw_or (ha:PT X a tA) (hb:PW X (.BoolOp .Or (b :: rest) pos) TQ):PW X (.BoolOp .Or (a :: b :: rest) pos) (tOr tA TQ):=by
 intro wh ah s σ H Q I h
 refine isTrue_or (bF (ha ah s σ H _ I h) fun c s1 ⟨H1,I1,q1⟩ =>?_)
 cases c with
 | true=>exact⟨H1,I1,q1⟩
 | false=>exact hb wh ah s1 σ H1 Q I1 q1
theorem iN (ha:PT X a tA):PT X (.UnaryOp .Not a pos) (aeW tA):=by
 intro ah s σ H Q I h
 exact isTrue_not (ha ah s σ H (fun c H1=>Q (!c) H1) I h)
def abB (ta tb:TE):TE:=fun σ H Q=>ta σ H fun x H1=>∃ c,x = .bl c∧if c=true then tb σ H1 Q else Q (.bl false) H1
inductive Mr (Q:VK) (x:V) (H1:Hp):Prop
 | mk:∀ c,(x = .bl c)->(Q (.bl (!c)) H1)->Mr Q x H1
def abw (ta:TE):TE:=fun σ H Q=>ta σ H fun x H1=>Mr Q x H1
theorem OZ {op}{t:TE} (h:PE X a t):PE X (.BoolOp op [a] pos) t:=fun ah s σ H Q I hw=>BoolOp_one (h ah s σ H Q I hw)
theorem O1 (ha:PE X a ta) (hb:PE X (.BoolOp .And (b :: rest) pos) tb):PE X (.BoolOp .And (a :: b :: rest) pos) (abB ta tb):=by
 intro ah s σ H Q I h
 refine BoolOp_and (bF (ha ah s σ H _ I h) fun v s1 ⟨x,H1,I1,r1,q1⟩ =>?_)
 obtain⟨c,rfl,q1⟩:=q1
 cases r1
 refine wpAny_truthy_bool ?_
 cases c with
 | true=>exact hb ah s1 σ H1 Q I1 q1
 | false=>exact⟨.bl false,H1,I1,O,q1⟩
theorem X2 (ha:PE X a ta):PE X (.UnaryOp .Not a pos) (abw ta):=by
 intro ah s σ H Q I h
 refine UnaryOp_ (bF (ha ah s σ H _ I h) fun v s1 ⟨x,H1,I1,r1,q1⟩ =>?_)
 obtain⟨c,rfl,q1⟩:=q1
 cases r1
 exact not_of (wpAny_truthy_bool ⟨.bl (!c),H1,I1,O,q1⟩)
def tIf (t:TT) (ta tb:TE):TE:=fun σ H Q=>t σ H fun c H1=>if c=true then ta σ H1 Q else tb σ H1 Q
theorem HC {c:Expr} (hc:PT X c tA) (ha:PE X a ta) (hb:PE X b tb):PE X (.IfExp c a b pos) (tIf tA ta tb):=by
 intro ah s σ H Q I h
 refine wpAny_IfExp (bF (hc ah s σ H _ I h) fun d s1 ⟨H1,I1,q1⟩ =>?_)
 cases d with
 | true=>exact ha ah s1 σ H1 Q I1 q1
 | false=>exact hb ah s1 σ H1 Q I1 q1
end
def aZ (K:ao) (H:Hp) (a:Addr) (xs:List V):Prop :=
 Rd H a (.lst xs) ∨
  ∃ (o:Obj) (its:Array Value) (n:Nat),K.lookup a=some o∧o.cls = .type "list" ∧ o.dict=none∧o.data = .seq its n∧its.size<=sizeLine∧Vals xs its.toList
def bD (K:ao) (H:Hp) (a:Addr) (xs:List V):Prop :=
 Rd H a (.tup xs) ∨
  ∃ (o:Obj) (its:Array Value) (n:Nat),K.lookup a=some o∧o.cls = .type "tuple" ∧ o.data = .seq its n∧its.size<=sizeLine∧Vals xs its.toList
def agz:Value->Option V
 | .none=>some .cJ
 | .bool b=>some (.bl b)
 | .int i _=>some (.int i)
 | .str x _=>some (.str x)
 | .bytes b _=>some (.vX b)
 | .float b _=>some (.Jq b)
 | .ref a=>some (.ref a)
 | .type n=>some (.ty n)
 | _=>none
theorem RelV.abs {x:V}{u:Value} (r:RelV x u):agz u=some x:=by
 cases x with
 | cJ=>cases r;rfl
 | bl _=>cases r;rfl
 | int _=>obtain⟨t,rfl⟩:=r;rfl
 | str _=>obtain⟨t,rfl⟩:=r;rfl
 | vX _=>obtain⟨t,rfl⟩:=r;rfl
 | Jq _=>obtain⟨t,rfl⟩:=r;rfl
 | ref _=>cases r;rfl
 | ty _=>cases r;rfl
theorem RelV.inj {x y:V}{u:Value} (r:RelV x u) (q:RelV y u):x=y:=aH (r.abs.symm.trans q.abs)
theorem Vals.inj:∀ {xs ys:List V}{us:List Value},Vals xs us->Vals ys us->xs=ys
 | _,_,_,.nil,.nil=>rfl
 | _,_,_,.cons r t,.cons r' t'=>by rw[r.inj r',Vals.inj t t']
section
variable {X:Cx}{ah:List (Addr × Obj)}{σ : St}{H:Hp}{s:Shared}{a:Addr}{xs ys:List V}
theorem aZ.of {K:ao} (h:H a=some (.lst xs)):aZ K H a xs := .inl (.inl h)
theorem bD.of {K:ao} (h:H a=some (.tup xs)):bD K H a xs := .inl (.inl h)
theorem Inv.list (I:Inv X ah σ H s) (h:aZ X.K H a xs):∃ its:List Value,Vals xs its∧PlainL s.heap a its.toArray∧xs.length<=sizeLine:=by
 rcases h with h | ⟨o,its,n,hk,hc,hd,hs,hz,r⟩
 ·obtain⟨z,its,n,r,e⟩:=h.ok I.bh
  exact⟨its,r,⟨_,n,e,O,O,O⟩,z⟩
 ·refine⟨its.toList,r,⟨o,n,I.kI a o hk,hc,hd,by simpa using hs⟩,?_⟩
  have e:=r.length
  simp only[dB]at e
  omega
theorem Inv.tuple (I:Inv X ah σ H s) (h:bD X.K H a xs):∃ its:List Value,Vals xs its∧IsTup s.heap a its.toArray∧xs.length<=sizeLine:=by
 rcases h with h | ⟨o,its,n,hk,hc,hs,hz,r⟩
 ·obtain⟨z,its,r,p⟩:=h.ok I.bh
  exact⟨its,r,p.tup,z⟩
 ·refine⟨its.toList,r,⟨o,I.kI a o hk,hc,n,by simpa using hs⟩,?_⟩
  have e:=r.length
  simp only[dB]at e
  omega
theorem Inv.HZ (I:Inv X ah σ H s) (h:aZ X.K H a xs) (h':aZ X.K H a ys):xs=ys:=by
 obtain⟨its,r,⟨o,n,e,_,_,d⟩,_⟩:=I.list h
 obtain⟨its',r',⟨o',n',e',_,_,d'⟩,_⟩:=I.list h'
 rw[e]at e';cases e'
 rw[d]at d'
 injection d' with d1 _
 have:its=its':=by simpa using congrArg Array.toList d1
 subst this
 exact r.inj r'
theorem Inv.yY (I:Inv X ah σ H s) (h:bD X.K H a xs) (h':bD X.K H a ys):xs=ys:=by
 obtain⟨its,r,⟨o,e,_,n,d⟩,_⟩:=I.tuple h
 obtain⟨its',r',⟨o',e',_,n',d'⟩,_⟩:=I.tuple h'
 rw[e]at e';cases e'
 rw[d]at d'
 injection d' with d1 _
 have:its=its':=by simpa using congrArg Array.toList d1
 subst this
 exact r.inj r'
end
abbrev Cx.uq (X:Cx) (E:Value->Shared->Prop):Cx := { X with xe:=E }
abbrev Cx.HJ (X:Cx):Cx:=X.uq fun _ _=>False
theorem Cx.Ok.uq {X:Cx} (ok:X.Ok) (E:Value->Shared->Prop):(X.uq E).Ok :=
 ⟨ok.mod,ok.kind,ok.glob,ok.blt,ok.above,ok.inj,ok.has,ok.F1,ok.hd,ok.frames,ok.G0,ok.Qq,ok.bs,ok.yK,ok.zx,ok.BO,ok.oA,ok.Bf⟩
theorem Cx.Ok.mP {X:Cx}{E:Value->Shared->Prop} (ok:(X.uq E).Ok):X.Ok :=
 ⟨ok.mod,ok.kind,ok.glob,ok.blt,ok.above,ok.inj,ok.has,ok.F1,ok.hd,ok.frames,ok.G0,ok.Qq,ok.bs,ok.yK,ok.zx,ok.BO,ok.oA,ok.Bf⟩
section
variable {X:Cx}{ah:List (Addr × Obj)}{σ : St}{H:Hp}{s:Shared}{E:Value->Shared->Prop}
theorem Inv.uq (I:Inv X ah σ H s) (E:Value->Shared->Prop):Inv (X.uq E) ah σ H s:=⟨I.ok.uq E,I.os,I.bare,I.base,I.loc,I.cell,I.free,I.om,I.pin,I.bh,I.len⟩
theorem Inv.mP (I:Inv (X.uq E) ah σ H s):Inv X ah σ H s:=⟨I.ok.mP,I.os,I.bare,I.base,I.loc,I.cell,I.free,I.om,I.pin,I.bh,I.len⟩
theorem SP.mP {D:Ends}{f:Flow} {s':Shared} (h:SP (X.uq E) ah D f s'):SP X ah D f s':=by
 cases f with
 | next=>obtain⟨br,H',I,q⟩:=h;exact⟨br,H',I.mP,q⟩
 | brk=>obtain⟨br,H',I,q⟩:=h;exact⟨br,H',I.mP,q⟩
 | cont=>obtain⟨br,H',I,q⟩:=h;exact⟨br,H',I.mP,q⟩
 | ret u=>obtain⟨v, br,H',I,r,q⟩:=h;exact⟨v, br,H',I.mP,r,q⟩
theorem pV.HJ {st:List Stmt}{t:TS} (h:pV X.HJ st t):pV X st t:=fun ah s σ H D I hw =>
 wpAny_mono (h ah s σ H D (I.uq _) hw) (fun _ _ q=>q.mP) fun _ _ z=>dA z
end
section
variable {X:Cx}{st:Stmt}{rest:List Stmt}{t u:TS}{e:Expr}{te:TE}{pos:Pos}
def TK:TS:=fun D σ H=>D.nx σ H
def W5 (t u:TS):TS:=fun D σ H=>t { D with nx:=u D } σ H
theorem cg:pV X [] TK:=fun _ _ σ H _ I h=>wpAny_execs_nil ⟨σ,H,I,h⟩
theorem ax (h1:PS X st t) (h2:pV X rest u):pV X (st :: rest) (W5 t u):=by
 intro ah s σ H D I h
 refine wpAny_execs_cons (bF (h1 ah s σ H { D with nx:=u D } I h) fun f s1 q =>?_)
 cases f with
 | next =>
  obtain⟨br,H',I',q⟩:=q
  exact h2 ah s1 br H' D I' q
 | ret v=>exact q
 | brk=>exact q
 | cont=>exact q
theorem aI (h1:PS X st t):pV X [st] t:=by
 intro ah s σ H D I h
 refine wpAny_execs_cons (bF (h1 ah s σ H D I h) fun f s1 q =>?_)
 cases f with
 | next=>exact wpAny_execs_nil q
 | ret v=>exact q
 | brk=>exact q
 | cont=>exact q
def Xh:TS:=fun D σ H=>D.bk σ H
theorem VQ:PS X (.Pass pos) TK:=fun _ _ σ H _ I h=>wpAny_Pass ⟨σ,H,I,h⟩
theorem HB:PS X (.Break pos) Xh:=fun _ _ σ H _ I h=>wpAny_Break ⟨σ,H,I,h⟩
theorem Inv.quiet {ah:List (Addr × Obj)}{σ : St}{H:Hp}{s:Shared} (I:Inv X ah σ H s):interactive X.env=false:=by simp[interactive,I.ok.kind]
def TN (te:TE):TS:=fun D σ H=>te σ H fun _ H1=>D.nx σ H1
theorem dF (he:PE X e te) (hs:swapsWith e none pos.line X.env=pure false:=by rfl):PS X (.Expr e pos) (TN te):=by
 intro ah s σ H D I h
 exact wpAny_Expr_any (bF (he ah s σ H _ I h) fun v s1 ⟨x,H1,I1,r1,q1⟩=>⟨σ,H1,I1,q1⟩) I.quiet hs
def aeV (te:TE):TS:=fun D σ H=>te σ H D.rt
theorem cm (he:PE X e te):PS X (.Return (some e) pos) (aeV te):=by
 intro ah s σ H D I h
 exact wpAny_Return_some (bF (he ah s σ H _ I h) fun v s1 ⟨x,H1,I1,r1,q1⟩=>⟨x, σ,H1,I1,r1,q1⟩)
def Ry (c:TT) (t u:TS):TS:=fun D σ H=>c σ H fun b H1=>if b=true then t D σ H1 else u D σ H1
theorem cV {c:Expr}{a b:List Stmt}{tc:TT} (hc:PT X c tc) (ha:pV X a t) (hb:pV X b u):PS X (.If c a b pos) (Ry tc t u):=by
 intro ah s σ H D I h
 refine wpAny_If (bF (hc ah s σ H _ I h) fun d s1 ⟨H1,I1,q1⟩ =>?_)
 cases d with
 | true=>exact ha ah s1 σ H1 D I1 q1
 | false=>exact hb ah s1 σ H1 D I1 q1
end
abbrev TG:=V->St->Hp->(St->Hp->Prop)->Prop
abbrev DA:=List V->St->Hp->(St->Hp->Prop)->Prop
def PG (X:Cx) (mQ:Expr) (t:TG):Prop :=
 ∀ (ah:List (Addr × Obj)) (s:Shared) (σ : St) (H:Hp) (v:V) (u:Value) (Q:St->Hp->Prop),Inv X ah σ H s->RelV v u->t v σ H Q ->
  wpAny (model X.prog X.w) X.A (assign mQ X.env u) (fun _ s'=>∃ br H',Inv X ah br H' s'∧Q br H') X.xe s
def Vo (X:Cx) (ts:List Expr) (t:DA):Prop :=
 ∀ (ah:List (Addr × Obj)) (s:Shared) (σ : St) (H:Hp) (vs:List V) (us:List Value) (Q:St->Hp->Prop),Inv X ah σ H s->Vals vs us->t vs σ H Q ->
  wpAny (model X.prog X.w) X.A (assignInOrder ((assignEach ts X.env).map (·.2)) us) (fun _ s'=>∃ br H',Inv X ah br H' s'∧Q br H') X.xe s
abbrev JO:=V->V->V->Hp->(Hp->Prop)->Prop
def NY (X:Cx) (t:JO):Prop :=
 ∀ (ah:List (Addr × Obj)) (s:Shared) (σ : St) (H:Hp) (o i v:V) (ov iv u:Value) (Q:Hp->Prop),Inv X ah σ H s->RelV o ov->RelV i iv->RelV v u->t o i v H Q ->
  wpAny (model X.prog X.w) X.A (setItem ov iv u) (fun _ s'=>∃ H',Inv X ah σ H' s'∧Q H') X.xe s
abbrev JP:=V->V->Hp->VK->Prop
def Vn (X:Cx) (op:Operator) (t:JP):Prop :=
 ∀ (ah:List (Addr × Obj)) (s:Shared) (σ : St) (H:Hp) (x y:V) (v u:Value) (Q:VK),Inv X ah σ H s->RelV x v->RelV y u->t x y H Q ->
  wpAny (model X.prog X.w) X.A (inplaceOp op v u) (EP X ah σ Q) X.xe s
section
variable {X:Cx}{pos:Pos}
def bw (i:Nat):TG:=fun v σ H Q=>Q (σ.set i (some v)) H
theorem bL {i:Nat}{x:Str} (hN:X.N.Nodup) (hi:X.N[i]? = some x) (hx:Loc X.env.scope x) (hf:X.fn x=true∨X.env.scope.names.lookup x=some .local:=by first | exact .inl rfl | exact .inr rfl | assumption):PG X (.Name x pos) (bw i):=by
 intro ah s σ H v u Q I r h
 exact wpAny_assign_Name (Br I hN hi hx r (fun s' I'=>⟨_,H,I',h⟩) hf)
def aan:DA:=fun vs σ H Q=>vs = []∧Q σ H
inductive MG (t:TG) (u:DA) (vs:List V) (σ : St) (H:Hp) (Q:St->Hp->Prop):Prop
 | mk:∀ v r,(vs=v :: r)->(t v σ H fun br H'=>u r br H' Q)->MG t u vs σ H Q
def NN (t:TG) (u:DA):DA:=fun vs σ H Q=>MG t u vs σ H Q
theorem jX:Vo X [] aan:=by
 intro ah s σ H vs us Q I r h
 obtain⟨e,h⟩:=h
 subst e
 cases r
 exact assignInOrder_nil ⟨σ,H,I,h⟩
theorem dH {e:Expr}{es:List Expr}{t:TG}{u:DA} (h1:PG X e t) (h2:Vo X es u)
  (hs:(assignEach (e :: es) X.env).map (·.2)=assign e X.env :: (assignEach es X.env).map (·.2):=by rfl):Vo X (e :: es) (NN t u):=by
 intro ah s σ H vs us Q I r h
 obtain⟨v,vr,e1,h⟩:=h
 subst e1
 cases r with
 | cons r rr =>
  rw[hs]
  refine assignInOrder_cons (bF (h1 ah s σ H _ _ _ I r h) fun _ s1 ⟨Kz,H1,I1,q1⟩ =>?_)
  exact h2 ah s1 Kz H1 _ _ Q I1 rr q1
inductive Rf (K:ao) (n:Nat) (t:DA) (v:V) (σ : St) (H:Hp) (Q:St->Hp->Prop):Prop
 | mk:∀ a xs,(v = .ref a)->(bD K H a xs)->(xs.length=n)->(t xs σ H Q)->Rf K n t v σ H Q
def aam (K:ao) (n:Nat) (t:DA):TG:=fun v σ H Q=>Rf K n t v σ H Q
theorem lY {es:List Expr}{k:Nat}{t:DA}{n:Nat} (hc:X.calm=true) (h:Vo X es t)
  (hn:(assignEach es X.env).length=n:=by rfl) (iW:(assignEach es X.env).findIdx? (·.1)=none:=by rfl):PG X (.Tuple es k pos) (aam X.K n t):=by
 intro ah s σ H v u Q I r hw
 obtain⟨a,xs,e1,hq,hl,hw⟩:=hw
 subst e1
 cases r
 obtain⟨its,rv,ht,hz⟩:=I.tuple hq
 refine assign_Tuple_tuple (I.ok.hd hc) ht (by simp[hn, <- hl,rv.length]) iW fun h' hx =>?_
 have I1:Inv X ah σ H { s with heap:=h' }:=I.kept (t':=s.toks) fun b o e=>hx b o (bH (aV e)) e
 exact h ah _ σ H xs _ Q I1 (by simpa using rv) hw
def agq (to ti:TE) (t:JO):TG:=fun v σ H Q=>to σ H fun o H1=>ti σ H1 fun i H2=>t o i v H2 fun H3=>Q σ H3
theorem Cw {o i:Expr}{to ti:TE}{t:JO} (ho:PE X o to) (hi:PE X i ti) (hs:NY X t)
  (ha:∀ v,assign (.Subscript o i pos) X.env v=(do
   let ov <- holding [v] (eval o X.env)
   let iv <- holding [v,ov] (eval i X.env)
   standAt pos
   holding [v,ov,iv] (setItem ov iv v)
   release [v,ov,iv] []):=by intro _;rfl):PG X (.Subscript o i pos) (agq to ti t):=by
 intro ah s σ H v u Q I r h
 rw[ha]
 refine wpAny_bind (wpAny_holding (bF (ho ah s σ H _ I h) fun ov s1 ⟨x,H1,I1,r1,q1⟩ =>?_))
 refine wpAny_bind (wpAny_holding (bF (hi ah s1 σ H1 _ I1 q1) fun iv s2 ⟨y,H2,I2,r2,q2⟩ =>?_))
 refine wpAny_bind (wpAny_standAt (wpAny_bind (wpAny_holding (bF (hs ah s2 σ H2 x y v ov iv u _ I2 r1 r2 r q2) fun _ s3 ⟨H3,I3,q3⟩ =>?_))))
 exact wpAny_release ⟨σ,H3,I3,q3⟩
def MV (te:TE) (g:TG):TS:=fun D σ H=>te σ H fun x H1=>g x σ H1 D.nx
theorem Cu {tg e:Expr}{te:TE}{g:TG} (he:PE X e te) (hg:PG X tg g) (hs:swapsWithSole [tg] e pos.line X.env=pure false:=by rfl) (hw:swappedStores [tg] e X.env=pure none:=by rfl)
  (h1:(assignEach [tg] X.env).map (·.2) = [assign tg X.env]:=by rfl):PS X (.Assign [tg] e pos) (MV te g):=by
 intro ah s σ H D I h
 refine wpAny_Assign_stores (bF (he ah s σ H _ I h) fun v s1 ⟨x,H1,I1,r1,q1⟩ =>?_) hs hw
 rw[h1]
 exact bF (hg ah s1 σ H1 x v _ I1 r1 q1) fun _ s2 q=>q
theorem bC {i:Nat}{x:Str}{e:Expr}{te:TE}{oy:Pos} (hN:X.N.Nodup) (hi:X.N[i]? = some x) (hx:Loc X.env.scope x) (he:PE X e te) (hs:swapsWith e (some (.Name x oy)) pos.line X.env=pure false:=by rfl) (hf:X.fn x=true∨X.env.scope.names.lookup x=some .local:=by first | exact .inl rfl | exact .inr rfl | assumption) :
  PS X (.Assign [.Name x oy] e pos) (MV te (bw i)):=by
 intro ah s σ H D I h
 refine wpAny_Assign_Name (bF (he ah s σ H _ I h) fun v s1 ⟨y,H1,I1,r1,q1⟩ =>?_) hs
 exact Br I1 hN hi hx r1 (fun s2 I2=>⟨_,H1,I2,q1⟩) hf
inductive Q2 (i:Nat) (te:TE) (ti:JP) (D:Ends) (σ : St) (H:Hp):Prop
 | mk:∀ x,(σ[i]? = some (some x))->(te σ H fun y H1=>ti x y H1 fun z H2=>D.nx (σ.set i (some z)) H2)->Q2 i te ti D σ H
def ae2 (i:Nat) (te:TE) (ti:JP):TS:=fun D σ H=>Q2 i te ti D σ H
theorem XU {i:Nat}{x:Str}{e:Expr}{te:TE}{op:Operator}{ti:JP}{oy:Pos} (hN:X.N.Nodup) (hi:X.N[i]? = some x) (hx:Loc X.env.scope x) (he:PE X e te) (ho:Vn X op ti) (hf:X.fn x=true∨X.env.scope.names.lookup x=some .local:=by first | exact .inl rfl | exact .inr rfl | assumption) :
  PS X (.AugAssign (.Name x oy) op e pos) (ae2 i te ti):=by
 intro ah s σ H D I h
 obtain⟨v,e1,h⟩:=h
 obtain⟨m,hn,hl⟩:=I.loc
 have vis:Md X.env.scope x:=by rcases hx with k | k;exact .inl k;exact .inr (.inl k)
 obtain⟨u,r,l⟩:=hl i x v hi e1 vis
 refine wpAny_AugAssign_Name ?_
 have go:wpAny (model X.prog X.w) X.A (eval e X.env) (fun w hX => wpAny (model X.prog X.w) X.A (inplaceOp op u w) (fun r mq => wpAny (model X.prog X.w) X.A (storeName X.env x r) (fun _=>SP X ah D .next) X.xe mq) X.xe hX) X.xe s:=by
  refine bF (he ah s σ H _ I h) fun w s1 ⟨y,H1,I1,r1,q1⟩ =>?_
  refine bF (ho ah s1 σ H1 v y u w _ I1 r r1 q1) fun z s2 ⟨zv,H2,I2,r2,q2⟩ =>?_
  exact Br I2 hN hi hx r2 (fun s3 I3=>⟨_,H2,I3,q2⟩) hf
 rcases l with⟨hk,hm⟩ | ⟨hk,c,hc,iJ⟩
 ·exact wpAny_loadName_local I.ok.kind hk hn hm go
 ·rcases hk with hk | hk
  ·exact wpAny_loadName_cell I.ok.kind hk hc iJ go
  ·rcases hx with k | k
   ·have:X.env.scope.names.lookup x=some .free:=hk
    rw[k]at this;cases this
   ·have:X.env.scope.names.lookup x=some .free:=hk
    rw[k]at this;cases this
def abA (to ti te:TE) (MT:V->V->Hp->VK->Prop) (TH:JP) (MR:JO):TS:=fun D σ H=>to σ H fun o H1=>ti σ H1 fun i H2=>MT o i H2 fun x H3=>te σ H3 fun y H4=>TH x y H4 fun z H5=>MR o i z H5 fun H6=>D.nx σ H6
def aa6 (X:Cx) (t:V->V->Hp->VK->Prop):Prop :=
 ∀ (ah:List (Addr × Obj)) (s:Shared) (σ : St) (H:Hp) (o i:V) (ov iv:Value) (Q:VK),Inv X ah σ H s->RelV o ov->RelV i iv->t o i H Q ->
  wpAny (model X.prog X.w) X.A (getItem ov iv) (EP X ah σ Q) X.xe s
theorem VR {o i e:Expr}{to ti te:TE}{MT:V->V->Hp->VK->Prop}{TH:JP}{MR:JO}{op:Operator}{Rt:Pos} (ho:PE X o to) (hi:PE X i ti) (hg:aa6 X MT) (he:PE X e te) (hp:Vn X op TH) (hs:NY X MR)
  (ha:∀ ov iv new,augStore i ov iv new=(do holding [new,ov,iv] (setItem ov iv new);release [new,ov,iv] [];pure .next):=by intros;rfl):PS X (.AugAssign (.Subscript o i Rt) op e pos) (abA to ti te MT TH MR):=by
 intro ah s σ H D I h
 refine wpAny_AugAssign_SubscriptAny (bF (ho ah s σ H _ I h) fun ov s1 ⟨x1,H1,I1,r1,q1⟩ =>?_) ha
 refine bF (hi ah s1 σ H1 _ I1 q1) fun iv s2 ⟨x2,H2,I2,r2,q2⟩ =>?_
 refine bF (hg ah s2 σ H2 x1 x2 ov iv _ I2 r1 r2 q2) fun old s3 ⟨x3,H3,I3,r3,q3⟩ =>?_
 refine bF (he ah s3 σ H3 _ I3 q3) fun v s4 ⟨x4,H4,I4,r4,q4⟩ =>?_
 refine bF (hp ah s4 σ H4 x3 x4 old v _ I4 r3 r4 q4) fun new s5 ⟨x5,H5,I5,r5,q5⟩ =>?_
 exact bF (hs ah s5 σ H5 x1 x2 x5 ov iv new _ I5 r1 r2 r5 q5) fun _ s6 ⟨H6,I6,q6⟩=>⟨σ,H6,I6,q6⟩
def ipI (f:Int->Int->Int):JP:=fun x y H Q=>∃ i j,x = .int i∧y = .int j∧Q (.int (f i j)) H
theorem YN:Vn X .Add (ipI fun i j=>i+j):=by
 intro ah s σ H x y v u Q I r1 r2 h
 obtain⟨i,j,e1,e2,q⟩:=h
 subst e1;subst e2
 obtain⟨t,rfl⟩:=r1
 obtain⟨t',rfl⟩:=r2
 exact iadd_int ⟨.int _,H,I.tok _,⟨_,O⟩,q⟩
theorem YM:Vn X .Sub (ipI fun i j=>i - j):=by
 intro ah s σ H x y v u Q I r1 r2 h
 obtain⟨i,j,e1,e2,q⟩:=h
 subst e1;subst e2
 obtain⟨t,rfl⟩:=r1
 obtain⟨t',rfl⟩:=r2
 exact isub_int ⟨.int _,H,I.tok _,⟨_,O⟩,q⟩
def W2 (c:TT) (tb:TS):TS:=fun D σ H=>∃ W:Nat->St->Hp->Prop,(∃ m,W m σ H)∧∀ m σ H,W m σ H ->
 c σ H fun b H1=>if b=true then ∃ N:St->Hp->Prop,(∀ br H',N br H'->∃ m',m' < m∧W m' br H')∧tb { D with nx:=N,ct:=N,bk:=D.nx } σ H1 else D.nx σ H1
theorem xJ {c:Expr}{body:List Stmt}{tc:TT}{tb:TS} (hp:PassesOwn (model X.prog X.w) X.A X.env X.xe) (hc:PT X c tc) (hb:pV X body tb):PS X (.While c body [] pos) (W2 tc tb):=by
 intro ah s σ H D I h
 obtain⟨W,⟨m0,w0⟩,turn⟩:=h
 refine wpAny_While (codeAny_whileLoop (fun n s'=>∃ br H',Inv X ah br H' s'∧W n br H') ?_ m0 ⟨σ,H,I,w0⟩)
 rintro n s1 ⟨Kz,H1,I1,w1⟩
 refine wpAny_passesOwn hp (bF (hc ah s1 Kz H1 _ I1 (turn n Kz H1 w1)) fun b s2 ⟨H2,I2,q2⟩ =>?_)
 cases b with
 | true =>
  obtain⟨N,hN,q2⟩:=q2
  rw[if_pos rfl]
  refine wpAny_passesOwn hp (bF (hb ah s2 Kz H2 _ I2 q2) fun f s3 q3 =>?_)
  cases f with
  | next =>
   obtain⟨yW,H3,I3,n3⟩:=q3
   obtain⟨m',hm,w3⟩:=hN yW H3 n3
   exact⟨m',hm, yW,H3,I3,w3⟩
  | cont =>
   obtain⟨yW,H3,I3,n3⟩:=q3
   obtain⟨m',hm,w3⟩:=hN yW H3 n3
   exact⟨m',hm, yW,H3,I3,w3⟩
  | brk=>exact q3
  | ret v=>exact q3
 | false =>
  rw[if_neg bb]
  exact wpAny_execs_nil ⟨Kz,H2,I2,q2⟩
end
structure It where
 go:Nat->Hp->Prop
 yX:Nat->Hp->V->Hp->Prop
 stop:Nat->Hp->Prop
def nQ (X:Cx) (ah:List (Addr × Obj)) (H:Hp) (b:Addr):Prop :=
 H b=none∧b≠X.env.locals∧b ∉ X.fs∧(b∈X.ex∨X.kR.heap.objs.size<=b)∧(∀ x c,X.env.cells.lookup x=some c->c≠b)∧∀ p∈X.pn ++ ah,p.1≠b
theorem Inv.xZ {X:Cx}{ah:List (Addr × Obj)}{σ : St} {H H':Hp}{s:Shared}{b:Addr} (I:Inv X ah σ H s) (hb:s.heap.objs.size<=b) (hn:H' b=none):nQ X ah H' b:=by
 refine⟨hn,jH (bP I.lt hb),I.afw hb,.inr (bq I.sz hb),fun x c e z =>?_,fun p hp z =>?_⟩
 ·obtain⟨v,q⟩:=I.cell x c e
  exact absurd (bP q.lt (by rw[z];exact hb)) (eM _)
 ·exact absurd (bP (aV (I.pin p hp).1) (by rw[z];exact hb)) (eM _)
structure Turn (P:Program) (w:World) (K:ao) (tg:Expr) (J:It) (fp:List Addr) (it:Addr) (tn:Nat->Heap->Prop):Prop where
 mem:it∈fp
 obj:∀ i h,tn i h->∀ b∈fp,∃ o,h.get? b=some o∧∀ v,o.data ≠ .cell v
 keep:∀ i h h',tn i h->(∀ b∈fp,∀ o,h.get? b=some o->h'.get? b=some o)->tn i h'
 item:∀ (X:Cx),X.prog=P->X.w=w->X.K=K->X.calm=true->∀ (i:Nat) (ah:List (Addr × Obj)) (s:Shared) (σ : St) (H:Hp) (E:Value->Shared->Prop),Inv X ah σ H s->(∀ b∈fp,nQ X ah H b)->tn i s.heap->J.go i H ->
  wpAny (model P w) X.A (pyNext (.ref it)) (fun r s1=>∃ u,r=some u ∧
   wpAny (model P w) X.A (letOwnedTupleGo tg (.ref it) u) (fun _ s2=>∃ x H',Inv X ah σ H' s2∧RelV x u∧J.yX i H x H'∧tn (i+1) s2.heap∧∀ b∈fp,H' b=none) E s1) E s
 done:∀ (X:Cx),X.prog=P->X.w=w->X.K=K->X.calm=true->∀ (i:Nat) (ah:List (Addr × Obj)) (s:Shared) (σ : St) (H:Hp) (E:Value->Shared->Prop),Inv X ah σ H s->(∀ b∈fp,nQ X ah H b)->tn i s.heap->J.stop i H ->
   wpAny (model P w) X.A (pyNext (.ref it)) (fun r s1=>r=none∧Inv X ah σ H s1) E s
 self:∀ (A:Around) (i:Nat) (s:Shared) (Q:Value->Shared->Prop) (E:Value->Shared->Prop),tn i s.heap->Q (.ref it) s->wpAny (model P w) A (pyIter (.ref it)) Q E s
abbrev TI:=St->Hp->(It->Hp->Prop)->Prop
def PIE (X:Cx) (ah:List (Addr × Obj)) (σ : St) (tg:Expr) (R:It->Hp->Prop) (Up:Value) (s2:Shared):Prop :=
 ∃ (it:Addr) (fp:List Addr) (tn:Nat->Heap->Prop) (J:It) (H':Hp),Up = .ref it∧Inv X ah σ H' s2∧Turn X.prog X.w X.K tg J fp it tn∧tn 0 s2.heap∧(∀ b∈fp,nQ X ah H' b)∧R J H'
def PI (X:Cx) (tg iter:Expr) (wi:TI):Prop :=
 ∀ (ah:List (Addr × Obj)) (s:Shared) (σ : St) (H:Hp) (R:It->Hp->Prop),Inv X ah σ H s->wi σ H R ->
  wpAny (model X.prog X.w) X.A (eval iter X.env) (fun v s1=>wpAny (model X.prog X.w) X.A (pyIter v) (PIE X ah σ tg R) X.xe s1) X.xe s
theorem AF {M:Model}{A:Around}{E:Value->Shared->Prop}{s:Shared}{tg:Expr}{it:Addr}{u:Value}{o:Obj}{n:String}{vs:Array Value}{Q:Unit->Shared->Prop} (ho:s.heap.get? it=some o) (hc:o.cls = .type n) (hd:o.data = .fields vs)
  (hn : ["enumerate", "zip", "dict_itemiterator", "dict_reverseitemiterator", "odict_iterator", "itertools.zip_longest", "itertools.pairwise"].contains n=false) (hQ:Q () s):wpAny M A (letOwnedTupleGo tg (.ref it) u) Q E s:=by
 unfold letOwnedTupleGo
 cases tg <;> first
  | exact wpAny_pure hQ
  | (cases u <;> first
    | exact wpAny_pure hQ
    | (refine wpAny_bind (wpAny_load ho ?_)
       rw[hc,hd]
       show wpAny M A (if (["enumerate", "zip", "dict_itemiterator", "dict_reverseitemiterator", "odict_iterator", "itertools.zip_longest", "itertools.pairwise"].contains n && vs[0]? == some (rawInt _))=true then _ else _) Q E s
       rw[if_neg (by intro h;rw[hn,Bool.false_and]at h;cases h)]
       exact wpAny_pure hQ))
def J2 (K:ao) (a:Addr):It :=
 ⟨fun i H=>∃ xs x,aZ K H a xs∧xs[i]? = some x,fun i H x H'=>H'=H∧∀ xs,aZ K H a xs->xs[i]? = some x,fun i H=>∃ xs,aZ K H a xs∧xs.length<=i⟩
def Itt (K:ao) (a:Addr):It :=
 ⟨fun i H=>∃ xs x,bD K H a xs∧xs[i]? = some x,fun i H x H'=>H'=H∧∀ xs,bD K H a xs->xs[i]? = some x,fun i H=>∃ xs,bD K H a xs∧xs.length<=i⟩
def Gh (lo:Int) (n:Nat):It:=⟨fun i _=>i < n,fun i H x H'=>H'=H∧x = .int (lo+i),fun i _=>n<=i⟩
theorem Oo {P:Program}{w:World}{K:ao}{tg:Expr} (a it:Addr):Turn P w K tg (J2 K a) [it] it (fun i h=>h.IsListIter it a i) where
 mem:=by simp
 obj:=fun i h st b hb=>by
  have e:b=it:=by simpa using hb
  subst e
  obtain⟨o,e,c,d⟩:=st
  exact⟨o,e,fun v z=>by rw[d]at z;cases z⟩
 keep:=fun i h h' st k=>st.at fun o e=>k it (by simp) o e
 item:=by
  intro X hP hw hK hc i ah s σ H E I hf st hg
  subst hP hw hK
  obtain⟨xs,x,hq,hx⟩:=hg
  obtain⟨its,rv,p,hz⟩:=I.list hq
  obtain⟨u,hu,ru⟩:=rv.get hx
  obtain⟨f0,f1,f2,f3,f4,f5⟩:=hf it (by simp)
  refine wpAny_pyNext_list_item st p.isList (x:=u) (by simpa using hu) fun h' mT sb =>?_
  have I1:Inv X ah σ H { s with heap:=h' }:=I.turned (t':=s.toks) (fun b o hb e=>(sb.2 b hb).trans e) f0 f1 f3 f4 f5
  obtain⟨o,e,c,d⟩:=id mT
  exact⟨u,O,AF (s := { s with heap:=h' }) e c d (by decide) ⟨x,H,I1,ru,⟨O,fun ys hy=>by rw[I.HZ hy hq];exact hx⟩,mT,fun b hb=>(hf b hb).1⟩⟩
 done:=by
   intro X hP hw hK hc i ah s σ H E I hf st hg
   subst hP hw hK
   obtain⟨xs,hq,hx⟩:=hg
   obtain⟨its,rv,p,hz⟩:=I.list hq
   obtain⟨f0,f1,f2,f3,f4,f5⟩:=hf it (by simp)
   have hl:=rv.length
   exact wpAny_pyNext_list_end (I.ok.hd hc) st p.isList (by simp;omega) fun h' eb=>⟨O,I.turned (t':=s.toks) (fun b o hb e=>eb b o hb e) f0 f1 f3 f4 f5⟩
 self:=fun _ _ _ _ _ st h=>wpAny_pyIter_listiter st h
theorem MO {P:Program}{w:World}{K:ao}{tg:Expr} (a it:Addr):Turn P w K tg (Itt K a) [it] it (fun i h=>h.IsTupleIter it a i) where
 mem:=by simp
 obj:=fun i h st b hb=>by
  have e:b=it:=by simpa using hb
  subst e
  obtain⟨o,e,c,d⟩:=st
  exact⟨o,e,fun v z=>by rw[d]at z;cases z⟩
 keep:=fun i h h' st k=>st.at fun o e=>k it (by simp) o e
 item:=by
  intro X hP hw hK hc i ah s σ H E I hf st hg
  subst hP hw hK
  obtain⟨xs,x,hq,hx⟩:=hg
  obtain⟨its,rv,p,hz⟩:=I.tuple hq
  obtain⟨u,hu,ru⟩:=rv.get hx
  obtain⟨f0,f1,f2,f3,f4,f5⟩:=hf it (by simp)
  refine wpAny_pyNext_tuple_item st (show s.heap.IsTuple a its.toArray from p) (x:=u) (by simpa using hu) fun h' mT sb =>?_
  have I1:Inv X ah σ H { s with heap:=h' }:=I.turned (t':=s.toks) (fun b o hb e=>(sb.2 b hb).trans e) f0 f1 f3 f4 f5
  obtain⟨o,e,c,d⟩:=id mT
  exact⟨u,O,AF (s := { s with heap:=h' }) e c d (by decide) ⟨x,H,I1,ru,⟨O,fun ys hy=>by rw[I.yY hy hq];exact hx⟩,mT,fun b hb=>(hf b hb).1⟩⟩
 done:=by
   intro X hP hw hK hc i ah s σ H E I hf st hg
   subst hP hw hK
   obtain⟨xs,hq,hx⟩:=hg
   obtain⟨its,rv,p,hz⟩:=I.tuple hq
   obtain⟨f0,f1,f2,f3,f4,f5⟩:=hf it (by simp)
   have hl:=rv.length
   exact wpAny_pyNext_tuple_end (I.ok.hd hc) st (show s.heap.IsTuple a its.toArray from p) (by simp;omega) fun h' eb=>⟨O,I.turned (t':=s.toks) (fun b o hb e=>eb b o hb e) f0 f1 f3 f4 f5⟩
 self:=fun _ _ _ _ _ st h=>wpAny_pyIter_tupleiter st h
theorem MP {P:Program}{w:World}{K:ao}{tg:Expr} (it:Addr) (lo:Int) (n:Nat):Turn P w K tg (Gh lo n) [it] it (fun i h=>IsRangeIter h it (lo+(i:Nat) * 1) ((n:Int) - (i:Nat)) 1) where
 mem:=by simp
 obj:=fun i h st b hb=>by
  have e:b=it:=by simpa using hb
  subst e
  exact⟨_,st,fun v z=>by
   have z':Bp _=wj v:=z
   cases z'⟩
 keep:=fun i h h' st k=>k it (by simp) _ st
 item:=by
  intro X hP hw hK hc i ah s σ H E I hf st hg
  subst hP hw hK
  obtain⟨f0,f1,f2,f3,f4,f5⟩:=hf it (by simp)
  have W:=Walks.range (prog:=X.prog) (w:=X.w) (I.ok.hd hc) it lo 1 n
  refine W.item i s _ _ hg st fun v h' tk hv mT kk =>?_
  obtain⟨t,rfl⟩:=hv
  have I1:Inv X ah σ H { s with heap:=h',toks:=tk }:=I.turned (fun b o hb e=>kk b o (by simpa using hb) e) f0 f1 f3 f4 f5
  refine⟨_,O,AF (s := { s with heap:=h',toks:=tk }) (n := "range_iterator") mT rfl rfl (by decide) ⟨.int (lo+i),H,I1,⟨t,?_⟩,⟨O,O⟩,mT,fun b hb=>(hf b hb).1⟩⟩
  rw[Int.mul_one]
 done:=by
   intro X hP hw hK hc i ah s σ H E I hf st hg
   subst hP hw hK
   obtain⟨f0,f1,f2,f3,f4,f5⟩:=hf it (by simp)
   exact wpAny_pyNext_range_end (I.ok.hd hc) st (by have:n<=i:=hg;omega) fun h' eb=>⟨O,I.turned (t':=s.toks) (fun b o hb e=>eb b o hb e) f0 f1 f3 f4 f5⟩
 self:=fun _ _ _ _ _ st h=>wpAny_pyIter_rangeiter st h
section
variable {X:Cx}{tg:Expr}
inductive ME (K:ao) (R:It->Hp->Prop) (x:V) (H1:Hp):Prop
 | mk:∀ a,(x = .ref a)->((∃ xs,aZ K H1 a xs))->(R (J2 K a) H1)->ME K R x H1
def ab3 (K:ao) (tl:TE):TI:=fun σ H R=>tl σ H fun x H1=>ME K R x H1
inductive Rc (K:ao) (R:It->Hp->Prop) (x:V) (H1:Hp):Prop
 | mk:∀ a,(x = .ref a)->((∃ xs,bD K H1 a xs))->(R (Itt K a) H1)->Rc K R x H1
def afK (K:ao) (tl:TE):TI:=fun σ H R=>tl σ H fun x H1=>Rc K R x H1
theorem eQ {l:Expr}{tl:TE} (hl:PE X l tl):PI X tg l (ab3 X.K tl):=by
 intro ah s σ H R I h
 refine bF (hl ah s σ H _ I h) fun v s1 ⟨x,H1,I1,r1,q1⟩ =>?_
 obtain⟨a,e,⟨xs,hq⟩,q⟩:=q1
 subst e
 cases r1
 obtain⟨its,rv,p,hz⟩:=I1.list hq
 refine wpAny_pyIter_list p.isList ?_
 refine⟨s1.heap.objs.size, [s1.heap.objs.size],_,_,H1,O,I1.kept (t':=s1.toks) fun b o e=>az _ e,Oo a _,⟨_,aR _ rfl,O,O⟩,fun b hb =>?_,q⟩
 have e:b=s1.heap.objs.size:=by simpa using hb
 subst e
 exact I1.xZ (au _) (I1.bh.fresh (au _))
theorem Cv {l:Expr}{tl:TE} (hl:PE X l tl):PI X tg l (afK X.K tl):=by
 intro ah s σ H R I h
 refine bF (hl ah s σ H _ I h) fun v s1 ⟨x,H1,I1,r1,q1⟩ =>?_
 obtain⟨a,e,⟨xs,hq⟩,q⟩:=q1
 subst e
 cases r1
 obtain⟨its,rv,p,hz⟩:=I1.tuple hq
 refine wpAny_pyIter_tuple (show s1.heap.IsTuple a its.toArray from p) ?_
 refine⟨s1.heap.objs.size, [s1.heap.objs.size],_,_,H1,O,I1.kept (t':=s1.toks) fun b o e=>az _ e,MO a _,⟨_,aR _ rfl,O,O⟩,fun b hb =>?_,q⟩
 have e:b=s1.heap.objs.size:=by simpa using hb
 subst e
 exact I1.xZ (au _) (I1.bh.fresh (au _))
theorem Hy {ah:List (Addr × Obj)}{σ : St}{H:Hp}{s:Shared}{R:It->Hp->Prop}{E:Value->Shared->Prop}{lo hi:Int}{t u v:Tok}{tk:Nat} (I:Inv X ah σ H s) (h1 : -(2 ^ 62)<=lo) (h2:lo < 2 ^ 62) (h3 : -(2 ^ 62)<=hi) (h4:hi < 2 ^ 62)
  (q:R (Gh lo (hi - lo).toNat) H):wpAny (model X.prog X.w) X.A (pyIter (.ref s.heap.objs.size)) (PIE X ah σ tg R) E { s with heap:=s.heap.push { cls := .type "range",data := .fields #[.int lo t,.int hi u,.int 1 v] },toks:=tk }:=by
 refine wpAny_pyIter_range (IsRange.new ..) (small_one h1 h2 h3 h4) ?_
 have I1:Inv X ah σ H { s with heap:=s.heap.push { cls := .type "range",data := .fields #[.int lo t,.int hi u,.int 1 v] },toks:=tk }:=I.kept fun b o e=>az _ e
 refine⟨(s.heap.push { cls := .type "range",data := .fields #[.int lo t,.int hi u,.int 1 v] }).objs.size, [(s.heap.push { cls := .type "range",data := .fields #[.int lo t,.int hi u,.int 1 v] }).objs.size],_,_,H,O,
  I1.kept (t':=tk) fun b o e=>az _ e,MP _ lo (hi - lo).toNat,?_,fun b hb =>?_,q⟩
 ·have e1:lo+((0:Nat):Int) * 1=lo:=by simp
  have e2:(((hi - lo).toNat:Nat):Int) - ((0:Nat):Int)=vC lo hi 1:=by rw[rangeSize_one];split <;> omega
  show IsRangeIter _ _ (lo+((0:Nat):Int) * 1) ((((hi - lo).toNat:Nat):Int) - ((0:Nat):Int)) 1
  rw[e1,e2]
  exact aR _ rfl
 ·have e:b=(s.heap.push { cls := .type "range",data := .fields #[.int lo t,.int hi u,.int 1 v] }).objs.size:=by simpa using hb
  subst e
  exact I1.xZ (au _) (I1.bh.fresh (au _))
inductive MD (R:It->Hp->Prop) (vs:List V) (H1:Hp):Prop
 | mk:∀ (j:Int),(vs = [.int j])->(-(2 ^ 62)<=j)->(j < 2 ^ 62)->(R (Gh 0 j.toNat) H1)->MD R vs H1
def ab2 (ta:TA):TI:=fun σ H R=>ta σ H fun vs H1=>MD R vs H1
inductive MC (R:It->Hp->Prop) (vs:List V) (H1:Hp):Prop
 | mk:∀ (i j:Int),(vs = [.int i,.int j])->((-(2 ^ 62)<=i∧i < 2 ^ 62 ∧ -(2 ^ 62)<=j∧j < 2 ^ 62))->(R (Gh i (j - i).toNat) H1)->MC R vs H1
def ab1 (ta:TA):TI:=fun σ H R=>ta σ H fun vs H1=>MC R vs H1
theorem oQ {a:Expr}{ta:TA}{p pos:Pos} (hg:Gl X "range") (hm:X.mg "range" = none) (ha:PA X [a] ta) (hs:starEach [a] X.env = [(false,eval a X.env)]:=by rfl):PI X tg (.Call (.Name "range" p) [a] [] pos) (ab2 ta):=by
 intro ah s σ H R I h
 refine Call_ (pH I hg hm boot_range (gA (bF (ha pos ah s σ H _ I h) fun us s1 ⟨vs,H1,I1,r1,q1⟩ =>?_) hs rfl))
 obtain⟨j,e,q1,q2,q⟩:=q1
 subst e
 cases r1 with
 | cons r rr =>
  cases rr
  obtain⟨t,rfl⟩:=r
  exact call_range_1 (Hy I1 (by omega) (by omega) q1 q2 (by simpa using q))
theorem OW {a b:Expr}{ta:TA}{p pos:Pos} (hg:Gl X "range") (hm:X.mg "range" = none) (ha:PA X [a,b] ta) (hs:starEach [a,b] X.env = [(false,eval a X.env),(false,eval b X.env)]:=by rfl) (jT:starEach [b] X.env = [(false,eval b X.env)]:=by rfl) :
  PI X tg (.Call (.Name "range" p) [a,b] [] pos) (ab1 ta):=by
 intro ah s σ H R I h
 refine Call_ (pH I hg hm boot_range (gA (bF (ha pos ah s σ H _ I h) fun us s1 ⟨vs,H1,I1,r1,q1⟩ =>?_) (by rw[hs,jT]) (by rw[jT];rfl)))
 obtain⟨i,j,e,⟨q1,q2,q3,q4⟩,q⟩:=q1
 subst e
 cases r1 with
 | cons r rr =>
  cases rr with
  | cons r' rr =>
   cases rr
   obtain⟨t,rfl⟩:=r
   obtain⟨t',rfl⟩:=r'
   exact call_range_2 (Hy I1 q1 q2 q3 q4 q)
def aeZ (wi:TI) (g:TG) (tb:TS):TS:=fun D σ H=>wi σ H fun J H1=>∃ W:Nat->Nat->St->Hp->Prop,(∃ m,W 0 m σ H1)∧∀ i m σ H,W i m σ H ->
 (J.stop i H∧D.nx σ H)∨(J.go i H∧∃ N:St->Hp->Prop,(∀ br H',N br H'->∃ m',m' < m∧W (i+1) m' br H')∧∀ x H',J.yX i H x H'->g x σ H' fun j0 H2=>tb { D with nx:=N,ct:=N,bk:=D.nx } j0 H2)
def zu (fp:List Addr) (h:Heap):List (Addr × Obj):=fp.filterMap fun b=>(h.get? b).map fun o=>(b,o)
theorem nz {fp:List Addr}{h:Heap}{b:Addr}{o:Obj} (hb:b∈fp) (e:h.get? b=some o):(b,o)∈zu fp h:=sk.mpr ⟨b,hb,by rw[e];rfl⟩
theorem O8 {fp:List Addr}{h:Heap}{p:Addr × Obj} (hp:p∈zu fp h):p.1∈fp∧h.get? p.1=some p.2:=by
 obtain⟨b,hb,e⟩:=sk.mp hp
 cases q:h.get? b with
 | none=>rw[q]at e;cases e
 | some o =>
  rw[q]at e
  have e':(b,o)=p:=aH e
  subst e'
  exact⟨hb,q⟩
theorem Inv.pinned {ah:List (Addr × Obj)}{σ : St}{H:Hp}{s:Shared}{fp:List Addr} (I:Inv X ah σ H s) (hf:∀ b∈fp,nQ X ah H b) (ho:∀ b∈fp,∃ o,s.heap.get? b=some o∧∀ v,o.data ≠ .cell v):Inv X (ah ++ zu fp s.heap) σ H s :=
 I.K5 fun p hp=>(aA.mp hp).elim (fun z=>I.pin p (cz _ z)) fun z=>by
  obtain⟨hb,e⟩:=O8 z
  obtain⟨f0,f1,f2,_⟩:=hf p.1 hb
  obtain⟨o,e',d⟩:=ho p.1 hb
  rw[e]at e';cases e'
  exact⟨e,f0,f1,f2,d⟩
theorem Inv.qC {ah pl:List (Addr × Obj)}{σ : St}{H:Hp}{s:Shared} (I:Inv X (ah ++ pl) σ H s):Inv X ah σ H s:=I.K5 fun p hp=>I.pin p (cz _ (qb _ hp))
theorem dJ {iter:Expr}{body:List Stmt}{wi:TI}{g:TG}{tb:TS}{pos:Pos} (hp:PassesOwn (model X.prog X.w) X.A X.env X.xe) (hc:X.calm=true) (hi:PI X tg iter wi) (hg:PG X tg g) (hb:pV X body tb)
  (hs:∀ x,foldedSetIterable iter X.env x=pure x:=by intro _;rfl):PS X (.For tg iter body [] pos) (aeZ wi g tb):=by
 intro ah s σ H D I h
 refine wpAny_For (bF (hi ah s σ H _ I h) fun v s1 h1=>bF h1 fun Up s2 h2 =>?_) hs
 obtain⟨it,fp,tn,J,H2,e,I2,T,zc,f2,W,⟨m0,w0⟩,turn⟩:=h2
 subst e
 -- Ro ajO true of pj abZ agF through pj loop
 have stat:∀ {H':Hp},(∀ b∈fp,H' b=none)->∀ b∈fp,nQ X ah H' b:=fun hn b hb=>⟨hn b hb,(f2 b hb).2⟩
 refine codeAny_forLoop_any (fun n s'=>∃ i br H',Inv X ah br H' s'∧tn i s'.heap∧(∀ b∈fp,H' b=none)∧W i n br H') ?_ m0 ⟨0, σ,H2,I2,zc,fun b hb=>(f2 b hb).1,w0⟩
 rintro n s3 ⟨i, yW,H3,I3,st3,fr3,w3⟩
 rcases turn i n yW H3 w3 with⟨stop,qn⟩ | ⟨go,N,hN,step⟩
 ·refine wpAny_passesOwn hp (bF (T.done X rfl rfl rfl hc i ah s3 yW H3 X.xe I3 (stat fr3) st3 stop) fun r s4 ⟨hr,I4⟩ =>?_)
  subst hr
  exact wpAny_execs_nil ⟨yW,H3,I4,qn⟩
 ·refine wpAny_passesOwn hp (bF (T.item X rfl rfl rfl hc i ah s3 yW H3 X.xe I3 (stat fr3) st3 go) fun r s4 ⟨u,hr,h4⟩ =>?_)
  subst hr
  refine wpAny_passesOwn hp (bF h4 fun _ s5 ⟨x,H5,I5,r5,y5,zb,Qm⟩ =>?_)
  have I5':=I5.pinned (stat Qm) (T.obj _ _ zb)
  refine wpAny_passesOwn hp (bF (hg _ s5 yW H5 x u _ I5' r5 (step x H5 y5)) fun _ s6 ⟨σ6,H6,I6,q6⟩ =>?_)
  refine wpAny_passesOwn hp (bF (hb _ s6 σ6 H6 _ I6 q6) fun f s7 q7 =>?_)
  have again:∀ {yV:St}{H7:Hp},Inv X (ah ++ zu fp s5.heap) yV H7 s7->N yV H7->∃ m,m < n∧∃ i br H',Inv X ah br H' s7∧tn i s7.heap∧(∀ b∈fp,H' b=none)∧W i m br H':=fun {yV H7} I7 n7=>by
   obtain⟨m',hm,w7⟩:=hN yV H7 n7
   refine⟨m',hm,i+1, yV,H7,I7.qC,T.keep _ _ _ zb fun b hb o e=>(I7.pin (b,o) (cz _ (cz _ (nz hb e)))).1,fun b hb =>?_,w7⟩
   obtain⟨o,e,d⟩:=T.obj _ _ zb b hb
   exact(I7.pin (b,o) (cz _ (cz _ (nz hb e)))).2.1
  cases f with
  | next=>obtain⟨yV,H7,I7,n7⟩:=q7;exact again I7 n7
  | cont=>obtain⟨yV,H7,I7,n7⟩:=q7;exact again I7 n7
  | brk=>obtain⟨yV,H7,I7,q7⟩:=q7;exact⟨yV,H7,I7.qC,q7⟩
  | ret v=>obtain⟨x7, yV,H7,I7,r7,q7⟩:=q7;exact⟨x7, yV,H7,I7.qC,r7,q7⟩
end
theorem fK {K:ao}{a:Addr}{xs:List V}{g:TG}{tb:TS}{D:Ends}{σ : St}{H:Hp} (Pv:Nat->St->Hp->Prop) (h0:Pv 0 σ H) (hl:∀ i σ H,i<=xs.length->Pv i σ H->aZ K H a xs)
  (hs:∀ i x σ H,xs[i]? = some x->Pv i σ H->g x σ H fun j0 H2=>tb { D with nx:=Pv (i+1),ct:=Pv (i+1),bk:=D.nx } j0 H2) (hd:∀ σ H,Pv xs.length σ H->D.nx σ H) :
  ∃ W:Nat->Nat->St->Hp->Prop,(∃ m,W 0 m σ H)∧∀ i m σ H,W i m σ H ->
   ((J2 K a).stop i H∧D.nx σ H)∨((J2 K a).go i H∧∃ N:St->Hp->Prop,(∀ br H',N br H'->∃ m',m' < m∧W (i+1) m' br H')∧∀ x H',(J2 K a).yX i H x H'->g x σ H' fun j0 H2=>tb { D with nx:=N,ct:=N,bk:=D.nx } j0 H2):=by
 refine⟨fun i m σ H=>m=xs.length - i∧i<=xs.length∧Pv i σ H,⟨xs.length,by simp,bA _,h0⟩,?_⟩
 rintro i m σ H ⟨rfl,hi,p⟩
 have q:=hl i σ H hi p
 by_cases cU:i < xs.length
 ·refine .inr ⟨⟨xs,xs[i],q,by simp[cU]⟩,Pv (i+1),fun br H' p'=>⟨xs.length - (i+1),by omega,O,cU,p'⟩,fun x H' y =>?_⟩
  obtain⟨e,y⟩:=y
  subst e
  exact hs i x σ _ (y xs q) p
 ·have e:i=xs.length:=by omega
  subst e
  exact .inl ⟨⟨xs,q,au _⟩,hd σ H p⟩
theorem oZ {lo:Int}{n:Nat}{g:TG}{tb:TS}{D:Ends}{σ : St}{H:Hp} (Pv:Nat->St->Hp->Prop) (h0:Pv 0 σ H)
  (hs:∀ i σ H,i < n->Pv i σ H->g (.int (lo+i)) σ H fun j0 H2=>tb { D with nx:=Pv (i+1),ct:=Pv (i+1),bk:=D.nx } j0 H2) (hd:∀ σ H,Pv n σ H->D.nx σ H) :
  ∃ W:Nat->Nat->St->Hp->Prop,(∃ m,W 0 m σ H)∧∀ i m σ H,W i m σ H ->
   ((Gh lo n).stop i H∧D.nx σ H)∨((Gh lo n).go i H∧∃ N:St->Hp->Prop,(∀ br H',N br H'->∃ m',m' < m∧W (i+1) m' br H')∧∀ x H',(Gh lo n).yX i H x H'->g x σ H' fun j0 H2=>tb { D with nx:=N,ct:=N,bk:=D.nx } j0 H2):=by
 refine⟨fun i m σ H=>m=n - i∧i<=n∧Pv i σ H,⟨n,by simp,bA _,h0⟩,?_⟩
 rintro i m σ H ⟨rfl,hi,p⟩
 by_cases cU:i < n
 ·refine .inr ⟨cU,Pv (i+1),fun br H' p'=>⟨n - (i+1),by omega,O,cU,p'⟩,fun x H' y =>?_⟩
  obtain⟨e,y⟩:=y
  subst e y
  exact hs i σ _ cU p
 ·have e:i=n:=by omega
  subst e
  exact .inl ⟨au _,hd σ H p⟩
abbrev R2:=V->V->Hp->VK->Prop
def l6 (X:Cx) (f:Value->Value->Sem Value) (r:R2):Prop :=
 ∀ (ah:List (Addr × Obj)) (s:Shared) (σ : St) (H:Hp) (x y:V) (v u:Value) (Q:VK),Inv X ah σ H s->RelV x v->RelV y u->r x y H Q ->
  wpAny (model X.prog X.w) X.A (f v u) (EP X ah σ Q) X.xe s
def UnR (X:Cx) (f:Value->Sem Value) (r:V->Hp->VK->Prop):Prop :=
 ∀ (ah:List (Addr × Obj)) (s:Shared) (σ : St) (H:Hp) (x:V) (v:Value) (Q:VK),Inv X ah σ H s->RelV x v->r x H Q ->
  wpAny (model X.prog X.w) X.A (f v) (EP X ah σ Q) X.xe s
def nG (X:Cx) (f:Value) (r:List V->Hp->VK->Prop):Prop :=
 ∀ (ah:List (Addr × Obj)) (s:Shared) (σ : St) (H:Hp) (xs:List V) (us:List Value) (Q:VK),Inv X ah σ H s->Vals xs us->r xs H Q ->
  wpAny (model X.prog X.w) X.A (call f us) (EP X ah σ Q) X.xe s
def agB (X:Cx) (r:V->Hp->(Bool->Hp->Prop)->Prop):Prop :=
 ∀ (ah:List (Addr × Obj)) (s:Shared) (σ : St) (H:Hp) (x:V) (v:Value) (Q:Bool->Hp->Prop),Inv X ah σ H s->RelV x v->r x H Q ->
  wpAny (model X.prog X.w) X.A (truthy v) (TP X ah σ Q) X.xe s
def vF (r:R2) (ta tb:TE):TE:=fun σ H Q=>ta σ H fun x H1=>tb σ H1 fun y H2=>r x y H2 Q
def tUn (r:V->Hp->VK->Prop) (ta:TE):TE:=fun σ H Q=>ta σ H fun x H1=>r x H1 Q
inductive RI (C:Int->Int->Prop) (g:Int->Int->V) (x y:V) (H:Hp) (Q:VK):Prop
 | mk (i j:Int) (hx:x = .int i) (hy:y = .int j) (hc:C i j) (q:Q (g i j) H):RI C g x y H Q
def rI (C:Int->Int->Prop) (g:Int->Int->V):R2:=fun x y H Q=>RI C g x y H Q
inductive RI0 (g:Int->Int->V) (x y:V) (H:Hp) (Q:VK):Prop
 | mk (i j:Int) (hx:x = .int i) (hy:y = .int j) (q:Q (g i j) H):RI0 g x y H Q
def Hz (g:Int->Int->V):R2:=fun x y H Q=>RI0 g x y H Q
inductive RU (g:Int->V) (x:V) (H:Hp) (Q:VK):Prop
 | mk (i:Int) (hx:x = .int i) (q:Q (g i) H):RU g x H Q
def rU (g:Int->V):V->Hp->VK->Prop:=fun x H Q=>RU g x H Q
section
variable {X:Cx}{a b c:Expr}{ta tb tc:TE}{pos:Pos}
theorem Tj (ha:PE X a ta) (hb:PE X b tb) {ah:List (Addr × Obj)}{s:Shared}{σ : St}{H:Hp}{R:V->V->Hp->Prop} (I:Inv X ah σ H s)
  (h:ta σ H fun x H1=>tb σ H1 fun y H2=>R x y H2) {Q:Value->Shared->Prop}{f:Value->Value->Sem Value}
  (hf:∀ v u s2 x y H2,Inv X ah σ H2 s2->RelV x v->RelV y u->R x y H2->wpAny (model X.prog X.w) X.A (f v u) Q X.xe s2) :
  wpAny (model X.prog X.w) X.A (eval a X.env) (fun v eE => wpAny (model X.prog X.w) X.A (eval b X.env) (fun u hX => wpAny (model X.prog X.w) X.A (f v u) Q X.xe hX) X.xe eE) X.xe s:=by
 refine bF (ha ah s σ H _ I h) fun v s1 ⟨x,H1,I1,r1,q1⟩ =>?_
 refine bF (hb ah s1 σ H1 _ I1 q1) fun u s2 ⟨y,H2,I2,r2,q2⟩ =>?_
 exact hf v u s2 x y H2 I2 r1 r2 q2
theorem gi {op:Operator}{r:R2} (ho:l6 X (binaryOp op) r) (ha:PE X a ta) (hb:PE X b tb):PE X (.BinOp a op b pos) (vF r ta tb):=by
 intro ah s σ H Q I h
 exact wpAny_BinOp (Tj ha hb I h fun v u s2 x y H2 I2 rx ry q=>ho ah s2 σ H2 x y v u Q I2 rx ry q)
theorem T7 {op:UnaryOp}{r:V->Hp->VK->Prop} (ho:UnR X (unaryOp op) r) (ha:PE X a ta):PE X (.UnaryOp op a pos) (tUn r ta):=by
 intro ah s σ H Q I h
 exact UnaryOp_ (bF (ha ah s σ H _ I h) fun v s1 ⟨x,H1,I1,r1,q1⟩=>ho ah s1 σ H1 x v Q I1 r1 q1)
theorem T8 {f:Value->Value->Sem Value}{C:Int->Int->Prop}{g:Int->Int->Int}
  (rule:∀ (i j:Int) (t u:Tok) (s:Shared) (Q:Value->Shared->Prop) (E:Value->Shared->Prop),C i j->Q (.int (g i j) s.toks) { s with toks:=s.toks+1 }->wpAny (model X.prog X.w) X.A (f (.int i t) (.int j u)) Q E s) :
  l6 X f (rI C fun i j => .int (g i j)):=by
 intro ah s σ H x y v u Q I rx ry h
 obtain⟨i,j,rfl,rfl,hc,q⟩:=h
 obtain⟨t,rfl⟩:=rx
 obtain⟨t',rfl⟩:=ry
 exact rule i j t t' s _ _ hc ⟨.int (g i j),H,I.tok _,⟨_,O⟩,q⟩
theorem Yb {f:Value->Value->Sem Value}{g:Int->Int->Int}
  (rule:∀ (i j:Int) (t u:Tok) (s:Shared) (Q:Value->Shared->Prop) (E:Value->Shared->Prop),Q (.int (g i j) s.toks) { s with toks:=s.toks+1 }->wpAny (model X.prog X.w) X.A (f (.int i t) (.int j u)) Q E s) :
  l6 X f (Hz fun i j => .int (g i j)):=by
 intro ah s σ H x y v u Q I rx ry h
 obtain⟨i,j,rfl,rfl,q⟩:=h
 obtain⟨t,rfl⟩:=rx
 obtain⟨t',rfl⟩:=ry
 exact rule i j t t' s _ _ ⟨.int (g i j),H,I.tok _,⟨_,O⟩,q⟩
theorem R9 {f:Value->Value->Sem Value}{g:Int->Int->Bool}
  (rule:∀ (i j:Int) (t u:Tok) (s:Shared) (Q:Value->Shared->Prop) (E:Value->Shared->Prop),Q (.bool (g i j)) s->wpAny (model X.prog X.w) X.A (f (.int i t) (.int j u)) Q E s) :
  l6 X f (Hz fun i j => .bl (g i j)):=by
 intro ah s σ H x y v u Q I rx ry h
 obtain⟨i,j,rfl,rfl,q⟩:=h
 obtain⟨t,rfl⟩:=rx
 obtain⟨t',rfl⟩:=ry
 exact rule i j t t' s _ _ ⟨.bl (g i j),H,I,O,q⟩
def abk (i j:Int):Prop:=0 < j∧j < 1073741824
def agC (i j:Int):Prop:=0<=j∧j<=1000000∧i.natAbs < 2 ^ 64
def Tt (i j:Int):Prop:=(-(2 ^ 64) < i∧i < 2 ^ 64)∨(-(2 ^ 64) < j∧j < 2 ^ 64)
theorem Tt.ok {i j:Int} (h:Tt i j):IntMulOk i j:=by
 rcases h with⟨h1,h2⟩ | ⟨h1,h2⟩
 ·exact .of_left (intBits_le_64 h1 h2)
 ·exact .of_right (intBits_le_64 h1 h2)
theorem mW:l6 X (binaryOp .Add) (Hz fun i j => .int (i+j)):=Yb fun _ _ _ _ _ _ _ q=>add_int q
theorem X7:l6 X (binaryOp .Sub) (Hz fun i j => .int (i - j)):=Yb fun _ _ _ _ _ _ _ q=>sub_int q
theorem X9:l6 X (binaryOp .Mult) (rI Tt fun i j => .int (i * j)):=T8 fun _ _ _ _ _ _ _ hc q=>mul_int q hc.ok
theorem K9:l6 X (binaryOp .FloorDiv) (rI abk fun i j => .int (i / j)):=T8 fun i j _ _ _ _ _ hc q=>by
 have h1:(0:Int) < j:=hc.1
 have h2:j < 1073741824:=hc.2
 exact floordiv_int (by omega) (by rw[Int.fdiv_eq_ediv_of_nonneg i (by omega)];exact q) (.inl (PyProof.noPylong_small (by omega)))
theorem uE:l6 X (binaryOp .Mod) (rI (fun _ j=>0 < j) fun i j => .int (i % j)):=T8 fun i j _ _ _ _ _ hc q=>by
 have h1:(0:Int) < j:=hc
 exact mod_int' (by omega) (by rw[Int.fmod_eq_emod_of_nonneg i (by omega)];exact q)
theorem O3:l6 X (binaryOp .Pow) (rI agC fun i j => .int (i ^ j.toNat)):=T8 fun _ _ _ _ _ _ _ hc q=>pow_int_small hc.1 hc.2.1 hc.2.2 q
theorem unI {f:Value->Sem Value}{g:Int->Int}
  (rule:∀ (i:Int) (t:Tok) (s:Shared) (Q:Value->Shared->Prop) (E:Value->Shared->Prop),Q (.int (g i) s.toks) { s with toks:=s.toks+1 }->wpAny (model X.prog X.w) X.A (f (.int i t)) Q E s) :
  UnR X f (rU fun i => .int (g i)):=by
 intro ah s σ H x v Q I rx h
 obtain⟨i,rfl,q⟩:=h
 obtain⟨t,rfl⟩:=rx
 exact rule i t s _ _ ⟨.int (g i),H,I.tok _,⟨_,O⟩,q⟩
theorem Oi:UnR X (unaryOp .USub) (rU fun i => .int (-i)):=unI fun _ _ _ _ _ q=>neg_int q
end
def RH:V->V->Bool
 | .cJ,.cJ=>true | .cJ,.int _=>true | .int _,.cJ=>true | .cJ,.bl _=>true | .bl _,.cJ=>true | .cJ,.str _=>true | .str _,.cJ=>true
 | .int _,.int _=>true | .bl _,.bl _=>true | .str _,.str _=>true | .vX _,.vX _=>true
 | .int _,.str _=>true | .str _,.int _=>true | .bl _,.str _=>true | .str _,.bl _=>true
 | _,_=>false
def rEq:R2:=fun x y H Q=>RH x y=true∧Q (.bl (decide (x=y))) H
def rNe:R2:=fun x y H Q=>RH x y=true∧Q (.bl (!decide (x=y))) H
theorem L4 {i j:Int}:decide (V.int i=V.int j)=(i == j):=by
 rw[fQ]
 simp
theorem QA {i j:Bool}:decide (V.bl i=V.bl j)=(i == j):=by
 rw[fQ]
 simp
theorem L0 {i j:Str}:decide (V.str i=V.str j)=(i == j):=by
 rw[fQ]
 simp
theorem L5 {i j:Array UInt8}:decide (V.vX i=V.vX j)=(i.toList == j.toList):=by
 rw[fQ]
 cases i
 cases j
 simp
section
variable {X:Cx}{a b c:Expr}{ta tb tc:TE}{pos:Pos}
theorem dM {ah:List (Addr × Obj)}{σ : St}{H:Hp}{s:Shared}{Q:VK} {k k':Bool} (I:Inv X ah σ H s) (q:Q (.bl k) H) (e:k=k'):EP X ah σ Q (.bool k') s:=by
 subst e
 exact⟨.bl k,H,I,O,q⟩
theorem gk:l6 X (compareOp .Eq) rEq:=by
 intro ah s σ H x y v u Q I rx ry h
 obtain⟨hs,q⟩:=h
 cases x with
 | cJ =>
  cases rx
  cases y with
  | cJ=>cases ry;exact PySem.EqNone.eq_none_none (dM I q (by simp))
  | bl j=>cases ry;exact PySem.EqNone.eq_none_bool (dM I q (by simp))
  | int j=>obtain⟨t',rfl⟩:=ry;exact PySem.EqNone.eq_none_int (dM I q (by simp))
  | str j=>obtain⟨t',rfl⟩:=ry;exact PySem.EqNone.eq_none_str (dM I q (by simp))
  | _=>exact absurd (show false=true from hs) bb
 | bl i =>
  cases rx
  cases y with
  | cJ=>cases ry;exact PySem.EqNone.eq_bool_none (dM I q (by simp))
  | bl j=>cases ry;exact eq_bool (dM I q QA)
  | str j=>obtain⟨t',rfl⟩:=ry;exact PySem.EqMixed.eq_bool_str (dM I q (by simp))
  | _=>exact absurd (show false=true from hs) bb
 | int i =>
  obtain⟨t,rfl⟩:=rx
  cases y with
  | cJ=>cases ry;exact PySem.EqNone.eq_int_none (dM I q (by simp))
  | int j=>obtain⟨t',rfl⟩:=ry;exact eq_int (dM I q L4)
  | str j=>obtain⟨t',rfl⟩:=ry;exact PySem.EqMixed.eq_int_str (dM I q (by simp))
  | _=>exact absurd (show false=true from hs) bb
 | str i =>
  obtain⟨t,rfl⟩:=rx
  cases y with
  | cJ=>cases ry;exact PySem.EqNone.eq_str_none (dM I q (by simp))
  | bl j=>cases ry;exact PySem.EqMixed.eq_str_bool (dM I q (by simp))
  | int j=>obtain⟨t',rfl⟩:=ry;exact PySem.EqMixed.eq_str_int (dM I q (by simp))
  | str j=>obtain⟨t',rfl⟩:=ry;exact eq_str (dM I q L0)
  | _=>exact absurd (show false=true from hs) bb
 | vX i =>
  obtain⟨t,rfl⟩:=rx
  cases y with
  | vX j=>obtain⟨t',rfl⟩:=ry;exact PySem.W.eq_bytes (dM I q L5)
  | _=>exact absurd (show false=true from hs) bb
 | _=>cases y <;> exact absurd (show false=true from hs) bb
theorem iZ:l6 X (compareOp .NotEq) rNe:=by
 intro ah s σ H x y v u Q I rx ry h
 obtain⟨hs,q⟩:=h
 cases x with
 | cJ =>
  cases rx
  cases y with
  | cJ=>cases ry;exact PySem.EqNone.ne_none_none (dM I q (by simp))
  | bl j=>cases ry;exact PySem.EqNone.ne_none_bool (dM I q (by simp))
  | int j=>obtain⟨t',rfl⟩:=ry;exact PySem.EqNone.ne_none_int (dM I q (by simp))
  | str j=>obtain⟨t',rfl⟩:=ry;exact PySem.EqNone.ne_none_str (dM I q (by simp))
  | _=>exact absurd (show false=true from hs) bb
 | bl i =>
  cases rx
  cases y with
  | cJ=>cases ry;exact PySem.EqNone.ne_bool_none (dM I q (by simp))
  | bl j=>cases ry;exact ne_bool (dM I q (congrArg not QA))
  | str j=>obtain⟨t',rfl⟩:=ry;exact PySem.EqMixed.ne_bool_str (dM I q (by simp))
  | _=>exact absurd (show false=true from hs) bb
 | int i =>
  obtain⟨t,rfl⟩:=rx
  cases y with
  | cJ=>cases ry;exact PySem.EqNone.ne_int_none (dM I q (by simp))
  | int j=>obtain⟨t',rfl⟩:=ry;exact ne_int (dM I q (congrArg not L4))
  | str j=>obtain⟨t',rfl⟩:=ry;exact PySem.EqMixed.ne_int_str (dM I q (by simp))
  | _=>exact absurd (show false=true from hs) bb
 | str i =>
  obtain⟨t,rfl⟩:=rx
  cases y with
  | cJ=>cases ry;exact PySem.EqNone.ne_str_none (dM I q (by simp))
  | bl j=>cases ry;exact PySem.EqMixed.ne_str_bool (dM I q (by simp))
  | int j=>obtain⟨t',rfl⟩:=ry;exact PySem.EqMixed.ne_str_int (dM I q (by simp))
  | str j=>obtain⟨t',rfl⟩:=ry;exact ne_str (dM I q (congrArg not L0))
  | _=>exact absurd (show false=true from hs) bb
 | vX i =>
  obtain⟨t,rfl⟩:=rx
  cases y with
  | vX j=>obtain⟨t',rfl⟩:=ry;exact PySem.W.ne_bytes (dM I q (congrArg not L5))
  | _=>exact absurd (show false=true from hs) bb
 | _=>cases y <;> exact absurd (show false=true from hs) bb
theorem tR:l6 X (compareOp .Lt) (Hz fun i j => .bl (decide (i < j))):=R9 fun _ _ _ _ _ _ _ q=>lt_int q
theorem Av:l6 X (compareOp .LtE) (Hz fun i j => .bl (decide (i<=j))):=R9 fun _ _ _ _ _ _ _ q=>le_int q
theorem abP:l6 X (compareOp .Gt) (Hz fun i j => .bl (decide (j < i))):=R9 fun _ _ _ _ _ _ _ q=>gt_int q
theorem HF:l6 X (compareOp .Is) (fun x y H Q=>y = .cJ∧Q (.bl (decide (x = .cJ))) H):=by
 intro ah s σ H x y v u Q I rx ry h
 obtain⟨rfl,q⟩:=h
 cases ry
 refine is_none_gen (dM I q ?_)
 cases x <;> first
  | (cases rx;rfl)
  | (obtain⟨t,rfl⟩:=rx;rfl)
theorem VZ:l6 X (compareOp .IsNot) (fun x y H Q=>y = .cJ∧Q (.bl (!decide (x = .cJ))) H):=by
 intro ah s σ H x y v u Q I rx ry h
 obtain⟨rfl,q⟩:=h
 cases ry
 refine isnot_none_gen (dM I q ?_)
 cases x <;> first
  | (cases rx;rfl)
  | (obtain⟨t,rfl⟩:=rx;rfl)
theorem bS (b:Expr) {op:CmpOp} (h:op ≠ .In:=by decide) (h2:op ≠ .NotIn:=by decide):behindInMarks op b=false:=by
 have e1:(op == CmpOp.In)=false:=by cases op <;> first | rfl | exact absurd rfl h
 have e2:(op == CmpOp.NotIn)=false:=by cases op <;> first | rfl | exact absurd rfl h2
 cases b <;> simp[behindInMarks,e1,e2]
theorem Au {op:CmpOp}{r:R2} (ho:l6 X (compareOp op) r) (ha:PE X a ta) (hb:PE X b tb) (hm:behindInMarks op b=false):PE X (.Compare a [op] [b] pos) (vF r ta tb):=by
 intro ah s σ H Q I h
 exact wpAny_Compare1 (Tj ha hb I h fun v u s2 x y H2 I2 rx ry q=>ho ah s2 σ H2 x y v u Q I2 rx ry q) hm
inductive Vl (x:V) (H:Hp) (Q:Bool->Hp->Prop):Prop
 | mk (k:Bool) (hx:x = .bl k) (q:Q k H):Vl x H Q
def GA (t:TE):TT:=fun σ H Q=>t σ H fun x H'=>Vl x H' Q
theorem bE {op:CmpOp}{r:R2} (ho:l6 X (compareOp op) r) (ha:PE X a ta) (hb:PE X b tb) (hm:behindInMarks op b=false):PT X (.Compare a [op] [b] pos) (GA (vF r ta tb)):=by
 intro ah s σ H Q I h
 refine wpAny_isTrue_Compare1 (bF (ha ah s σ H _ I h) fun v s1 ⟨x,H1,I1,r1,q1⟩=>bF (hb ah s1 σ H1 _ I1 q1) fun u s2 ⟨y,H2,I2,r2,q2⟩ =>
  bF (ho ah s2 σ H2 x y v u _ I2 r1 r2 q2) fun c s3 ⟨z,H3,I3,r3,k,e,q3⟩ =>?_) hm
 subst e
 cases r3
 exact wpAny_truthy_bool ⟨H3,I3,q3⟩
def Xf (r r':R2) (ta tb tc:TE):TE:=fun σ H Q=>ta σ H fun x H1=>tb σ H1 fun y H2=>r x y H2 fun z H3=>∃ k,z = .bl k ∧
 (if k=true then tc σ H3 fun w' H4=>r' y w' H4 Q else Q (.bl false) H3)
theorem uC {op Yc:CmpOp} {r r':R2} (ho:l6 X (compareOp op) r) (C2:l6 X (compareOp Yc) r') (ha:PE X a ta) (hb:PE X b tb) (hc:PE X c tc)
  (hm:lastMarks [op,Yc] [b,c]=false:=by with_unfolding_all rfl):PT X (.Compare a [op,Yc] [b,c] pos) (GA (Xf r r' ta tb tc)):=by
 intro ah s σ H Q I h
 refine isTrue_chain (bF (ha ah s σ H _ I h) fun v s1 ⟨x,H1,I1,r1,q1⟩=>test_link (bF (hb ah s1 σ H1 _ I1 q1) fun u s2 ⟨y,H2,I2,r2,q2⟩ =>
  bF (ho ah s2 σ H2 x y v u _ I2 r1 r2 q2) fun d s3 ⟨z,H3,I3,r3,k,e,q3⟩ =>?_)) hm
 subst e
 cases r3
 refine wpAny_truthy_bool ?_
 cases k with
 | false =>
  obtain⟨k',e',q'⟩:=q3
  cases e'
  exact ite_ff ⟨H3,I3,q'⟩
 | true =>
  refine ite_tt (test_last (bF (hc ah s3 σ H3 _ I3 q3) fun w' s4 ⟨z',H4,I4,r4,q4⟩=>bF (C2 ah s4 σ H4 y z' u w' _ I4 r2 r4 q4) fun d' s5 ⟨z2,H5,I5,r5,k2,e2,q5⟩ =>?_))
  subst e2
  cases r5
  exact wpAny_truthy_bool ⟨H5,I5,q5⟩
def aaT (K:ao) (x:V) (H:Hp) (k:Bool):Prop :=
 match x with
 | .cJ=>k=false
 | .bl b=>k=b
 | .int i=>k=(i != 0)
 | .str y=>y.length<=sizeLine∧k=((y.length:Int) != 0)
 | .vX y=>y.size<=sizeLine∧k=((y.size:Int) != 0)
 | .ref p=>(∃ xs,aZ K H p xs∧k = !xs.isEmpty)∨(∃ xs,bD K H p xs∧k = !xs.isEmpty)∨∃ kvs,H p=some (.dK kvs)∧k = !kvs.isEmpty
 | _=>False
theorem Nv {κ : Type}{kvs:List (κ × V)}{vs:List (κ × Value)} (r:KV kvs vs):(!vs.isEmpty) = !kvs.isEmpty:=by
 cases r <;> rfl
theorem CT {xs:List V}{its:List Value} (r:Vals xs its):(!its.toArray.isEmpty) = !xs.isEmpty:=by
 cases r <;> simp
theorem uJ:(sizeLine:Nat) < 2 ^ 63:=by rw[sizeLine_eq];decide
theorem WW:agB X (fun x H Q=>∃ k,aaT X.K x H k∧Q k H):=by
 intro ah s σ H x v Q I rx h
 obtain⟨k,e,q⟩:=h
 have hl:=uJ
 have hs:sizeLine=16777216:=sizeLine_eq
 cases x with
 | cJ =>
  cases rx
  have e':k=false:=e
  subst e'
  exact truthy_none ⟨H,I,q⟩
 | bl b =>
  cases rx
  have e':k=b:=e
  subst e'
  exact wpAny_truthy_bool ⟨H,I,q⟩
 | int i =>
  obtain⟨t,rfl⟩:=rx
  have e':k=(i != 0):=e
  subst e'
  exact PySem.P.truthy_int ⟨H,I,q⟩
 | str y =>
  obtain⟨t,rfl⟩:=rx
  obtain⟨hy,e'⟩:y.length<=sizeLine∧k=((y.length:Int) != 0):=e
  subst e'
  exact PySem.P.truthy_str (by omega) ⟨H,I.tok _,q⟩
 | vX y =>
  obtain⟨t,rfl⟩:=rx
  obtain⟨hy,e'⟩:y.size<=sizeLine∧k=((y.size:Int) != 0):=e
  subst e'
  exact PySem.W.truthy_bytes (by omega) ⟨H,I.tok _,q⟩
 | ref p =>
  cases rx
  have e':(∃ xs,aZ X.K H p xs∧k = !xs.isEmpty)∨(∃ xs,bD X.K H p xs∧k = !xs.isEmpty)∨∃ kvs,H p=some (.dK kvs)∧k = !kvs.isEmpty:=e
  rcases e' with⟨xs,hx,e'⟩ | ⟨xs,hx,e'⟩ | ⟨kvs,hx,e'⟩
  ·subst e'
   obtain⟨its,r,pl,hz⟩:=I.list hx
   have eg:=r.length
   exact wpAny_truthy_list pl.isList (by simp only[aN];omega) ⟨H,I.tok _,by rw[CT r];exact q⟩
  ·subst e'
   obtain⟨its,r,pl,hz⟩:=I.tuple hx
   have eg:=r.length
   exact truthy_tuple pl (by simp only[aN];omega) ⟨H,I.tok _,by rw[CT r];exact q⟩
  ·subst e'
   obtain⟨hz,hS,vs,r,m⟩:kvs.length<=sizeLine∧(p == sysModules)=false∧∃ vs,KV kvs vs∧s.heap.DictOf (du X.prog X.w) p vs:=I.bh p _ hx
   have eg:kvs.length=vs.length:=aP r
   exact wpAny_truthy_dict hS m (by omega) ⟨H,I.tok _,by rw[Nv r];exact q⟩
 | _=>exact(show False from e).elim
theorem BD (ha:PE X a ta) (he:∀ vD,isTrue a X.env vD=(do let v <- vD;standAt a.pos;holding [v] (truthy v))) :
  PT X a (fun σ H Q=>ta σ H fun x H'=>∃ k,aaT X.K x H' k∧Q k H'):=by
 intro ah s σ H Q I h
 exact isTrue_plain (bF (ha ah s σ H _ I h) fun v s1 ⟨x,H1,I1,r1,q1⟩=>WW ah s1 σ H1 x v Q I1 r1 q1) (he _)
inductive Af (x:V) (y:V) (H:Hp) (Q:VK):Prop
 | mk:∀ i j,(x = .str i)->(y = .str j)->(i.length+j.length<=sizeLine)->(Q (.str (i ++ j)) H)->Af x y H Q
theorem Cy:l6 X (binaryOp .Add) (fun x y H Q=>Af x y H Q):=by
 intro ah s σ H x y v u Q I rx ry h
 obtain⟨i,j,rfl,rfl,hz,q⟩:=h
 obtain⟨t,rfl⟩:=rx
 obtain⟨t',rfl⟩:=ry
 exact add_str (fun t' tk=>⟨.str (i ++ j),H,I.tok _,⟨_,O⟩,q⟩) hz
theorem vals1 {x:V}{us:List Value} (r:Vals [x] us):∃ u,us = [u]∧RelV x u:=by
 cases r with
 | cons r1 r2=>cases r2;exact⟨_,O,r1⟩
theorem vals2 {x y:V}{us:List Value} (r:Vals [x,y] us):∃ u w',us = [u,w']∧RelV x u∧RelV y w':=by
 cases r with
 | cons r1 r2 =>
  cases r2 with
  | cons r3 r4=>cases r4;exact⟨_,_,O,r1,r3⟩
inductive Bl (xs:List V) (H:Hp) (Q:VK):Prop
 | mk:∀ i j,(xs = [.int i,.int j])->(Q (.int (if j > i then j else i)) H)->Bl xs H Q
theorem vV (hc:X.calm=true):nG X (.builtin "max") (fun xs H Q=>Bl xs H Q):=by
 intro ah s σ H xs us Q I r h
 obtain⟨i,j,rfl,q⟩:=h
 obtain⟨u,w',rfl,⟨t,rfl⟩,⟨t',rfl⟩⟩:=vals2 r
 refine max_two_ints (I.ok.hd hc) fun h' tk k=>⟨_,H,I.kept k,?_,q⟩
 by_cases hj:j > i
 ·rw[if_pos hj,if_pos hj];exact⟨_,O⟩
 ·rw[if_neg hj,if_neg hj];exact⟨_,O⟩
inductive Bj (xs:List V) (H:Hp) (Q:VK):Prop
 | mk:∀ i j,(xs = [.int i,.int j])->(Q (.int (if j < i then j else i)) H)->Bj xs H Q
theorem vU (hc:X.calm=true):nG X (.builtin "min") (fun xs H Q=>Bj xs H Q):=by
 intro ah s σ H xs us Q I r h
 obtain⟨i,j,rfl,q⟩:=h
 obtain⟨u,w',rfl,⟨t,rfl⟩,⟨t',rfl⟩⟩:=vals2 r
 refine min_two_ints (I.ok.hd hc) fun h' tk k=>⟨_,H,I.kept k,?_,q⟩
 by_cases hj:j < i
 ·rw[if_pos hj,if_pos hj];exact⟨_,O⟩
 ·rw[if_neg hj,if_neg hj];exact⟨_,O⟩
end
structure BX (h:Heap) (x dx C:Addr) (mA:Str->Option Value):Prop where
 obj:h.get? x=some (ij C dx)
 ns:h.Ns1 dx mA
 ne:dx≠x
theorem Pj {h:Heap}{dx:Addr}{mA:Str->Option Value} (n:h.Ns1 dx mA):∃ od,h.get? dx=some od∧∀ name,qQ name od=some (mA name):=by
 obtain⟨o,es,ep,ho,hd,hk,_,hm⟩:=n
 refine⟨o,ho,fun name =>?_⟩
 have e:=hm name
 unfold nsFind findBy at e
 rw[<- Array.find?_toList]at e
 unfold qQ
 rw[hd]
 dsimp only
 split
 ·rename_i y q
  rw[q]at e
  exact congrArg some e
 ·rename_i q
  rw[q]at e
  have a:es.toList.any (·.refKey)=false:=by
   rw[List.any_eq_false]
   intro y hy
   obtain⟨z,t,uO⟩:=hk y (Array.mem_toList_iff.mp hy)
   simp[DictEntry.refKey,uO]
  have a':¬ es.toList.any (·.refKey)=true:=by rw[a];exact bb
  rw[if_neg a']
  exact congrArg some e
theorem BX.look {h:Heap}{x dx C:Addr}{mA:Str->Option Value} (I:BX h x dx C mA):∃ od,PySem.W.InstAt h x (ij C dx) C (some od)∧∀ name,qQ name od=some (mA name) :=
 let ⟨od,ho,hl⟩:=Pj I.ns
 ⟨od,⟨I.obj,O,O,ho⟩,hl⟩
section
variable {prog:Program}{w:World}{A:Around}{E:Value->Shared->Prop}{s:Shared}{K:ao}{x dx C f:Addr}{mA:Str->Option Value}{name:Str}{v:Value}
theorem Wt {expr:Bool}{Q:Value->Shared->Prop} (X:K.In s.heap) (I:BX s.heap x dx C mA) (hg:lT K C name=true) (hh:nN K C=true)
  (ha:cG K (.ref C) name=some none) (hv:mA name=some v) (uL:BV v=true) (h:Q v { s with toks:=s.toks+1 }) :
  wpAny (model prog w) A (getAttr (.ref x) name expr) Q E s:=by
 obtain⟨od,J,hl⟩:=I.look
 exact PySem.W.get_value X J (qx hg).1 (PySem.W.findObj_own hh ha rfl (by rw[hl,hv])) uL h
theorem S5 {pl:Sem Bool}{Q:Value × List Value->Shared->Prop} (X:K.In s.heap) (I:BX s.heap x dx C mA) (hg:lT K C name=true)
  (hf:cG K (.ref C) name=some (some (.ref f))) (ht:pT K (.ref f)=true) (hv:mA name=none) (h:Q (.ref f, [.ref x]) s) :
  wpAny (model prog w) A (getMethod (.ref x) name pl) Q E s:=by
 obtain⟨od,J,hl⟩:=I.look
 exact PySem.W.method_fn X J (qx hg).1 (qx hg).2 hf (beq_iff_eq.mp ht) (by show (qQ name od).map (·.isSome)=some false;rw[hl,hv];rfl) h
theorem VG {ns:List Str}{Q:Unit->Shared->Prop} (X:K.In s.heap) (I:BX s.heap x dx C mA)
  (hs:cG K (.ref C) "__setattr__" = some (some (.builtin "object.__setattr__"))) (hp:tJ K C=true) (ht:v7 K C name=some none) (hh:nN K C=true)
  (hw:u9 mA ns) (hsz:ns.length<=sizeLine)
  (h:∀ h',BX h' x dx C (fun y=>if y=name then some v else mA y)->cq dx s.heap h'->Q () { s with heap:=h',toks:=s.toks+2 }) :
  wpAny (model prog w) A (setAttr (.ref x) name v) Q E s:=by
 obtain⟨od,J,hl⟩:=I.look
 refine PySem.W.set_plain X J hs (PySem.W.osa_open (s := { s with toks:=s.toks+1 }) (r:=none) X J hp ht fun b =>?_)
 obtain⟨cd,hc,ZM⟩:=PySem.W.any_some hh
 have hx:s.heap.get? x=some ⟨.ref C,some dx,.plain, #[]⟩:=I.obj
 refine wpAny_bind (wpAny_pure (wpAny_bind (wpAny_bind (wpAny_loadPart hx (wpAny_bind (yP.here (s := { s with toks:=s.toks+1 }) (PySem.W.looks_clsIn X hc) ?_))))))
 rw[ZM]
 refine wpAny_pure (a:=some dx) (wpAny_bind (wpAny_pure (wpAny_bind ?_)))
 refine wpAny_nsSet1 (s := { s with toks:=s.toks+1 }) I.ns fun h' Uz jT =>?_
 obtain⟨oD,esD,epD,hoD,hdD,hcD⟩:=Uz.count (u9.cons name v hw)
 refine wpAny_bind (wpAny_lookBehind hoD (by rw[hdD];exact pastItsLine_dict (bq hcD (by rw[bV];omega))) ?_)
 exact wpAny_pure (h _ ⟨(jT.2 _ (cM I.ne)).trans I.obj,Uz,I.ne⟩ jT)
theorem Ss {R:Result->Shared->Prop}{vs:List Value}{kw:List (Str × Value)} (X:K.In s.heap) (hm:v8 K C=true)
  (hi:cG K (.ref C) "__init__" = some (some (.ref f))) (hf:PySem.W.typeIn K (.ref f)=some (.type "function"))
  (h:codeAny (model prog w) (A.under (.builtin "type.__call__" ⟨.ref C :: vs,kw⟩)) (.call (.ref f) ⟨.ref (s.heap.objs.size+1) :: vs,kw⟩) (PySem.W.InitBack (s.heap.objs.size+1) R)
   { s with heap:=(s.heap.push fI).push (ij C s.heap.objs.size) }) :
  codeAny (model prog w) A (.call (.ref C) ⟨vs,kw⟩) R s:=by
 obtain⟨hh,g,d,t,os⟩:=s
 exact PySem.W.make_core (PySem.W.makes_of X hm) (PySem.W.looks_findIn X hi) (fun self=>PySem.W.bind_fn X self hf) (.inl rfl) h
end
def eY (f:Str) (v:V):List (Str × V)->List (Str × V)
 | [] => [(f,v)]
 | (g,x) :: r=>if g=f then (g,v) :: r else (g,x) :: eY f v r
theorem A2 (f g:Str) (v:V):∀ fs:List (Str × V),(eY f v fs).lookup g=if g=f then some v else fs.lookup g
 | []=>by
  show ml g [(f,v)]=_
  by_cases h:g=f
  ·have hb:(g == f)=true:=beq_iff_eq.mpr h
   simp only[ml,hb,if_pos h]
  ·have hb:(g == f)=false:=beq_eq_false_iff_ne.mpr h
   simp only[ml,hb,if_neg h]
 | (k,x) :: r=>by
  have ih:=A2 f g v r
  rw[show eY f v ((k,x) :: r)=(if k=f then (k,v) :: r else (k,x) :: eY f v r) from rfl]
  by_cases hk:k=f
  ·rw[if_pos hk]
   by_cases h:g=k
   ·have hb:(g == k)=true:=beq_iff_eq.mpr h
    simp only[ml,hb,if_pos (h.trans hk)]
   ·have hb:(g == k)=false:=beq_eq_false_iff_ne.mpr h
    simp only[ml,hb,if_neg (fun e:g=f=>h (e.trans hk.symm))]
  ·rw[if_neg hk]
   by_cases h:g=k
   ·have hb:(g == k)=true:=beq_iff_eq.mpr h
    simp only[ml,hb,if_neg (fun e:g=f=>hk (h.symm.trans e))]
   ·have hb:(g == k)=false:=beq_eq_false_iff_ne.mpr h
    simp only[ml,hb]
    exact ih
theorem zC (f:Str) (v:V):∀ fs:List (Str × V),f∈(eY f v fs).map (·.1)∧∀ g,g∈fs.map (·.1)->g∈(eY f v fs).map (·.1)
 | []=>⟨by simp[eY],fun g h=>by simp at h⟩
 | (k,x) :: r=>by
  obtain⟨i1,i2⟩:=zC f v r
  rw[show eY f v ((k,x) :: r)=(if k=f then (k,v) :: r else (k,x) :: eY f v r) from rfl]
  by_cases hk:k=f
  ·rw[if_pos hk]
   subst hk
   exact⟨by simp,fun g h=>by simpa using h⟩
  ·rw[if_neg hk]
   refine⟨?_,fun g h =>?_⟩
   ·rw[aS]
    exact aW _ i1
   ·rw[aS]at h ⊢
    rcases aY.mp h with e | e
    ·exact aY.mpr (.inl e)
    ·exact aW _ (i2 g e)
theorem A4 (f:Str) (v:V):∀ fs:List (Str × V),(eY f v fs).length<=fs.length+1
 | []=>by simp[eY]
 | (k,x) :: r=>by
  have ih:=A4 f v r
  rw[show eY f v ((k,x) :: r)=(if k=f then (k,v) :: r else (k,x) :: eY f v r) from rfl]
  by_cases hk:k=f
  ·rw[if_pos hk,bV,bV];omega
  ·rw[if_neg hk,bV,bV];omega
theorem jW.some_of {v:V}{o:Option Value} (r:jW (some v) o):∃ u,o=some u∧RelV v u:=by
 cases o with
 | none=>exact(show False from r).elim
 | some u=>exact⟨u,O,r⟩
theorem jW.none_of {o:Option Value} (r:jW none o):o=none:=by
 cases o with
 | none=>rfl
 | some u=>exact(show False from r).elim
theorem Qb {v:V}{u:Value} (r:RelV v u):BV u=true:=by
 cases v with
 | cJ=>cases (show u=di from r);rfl
 | bl b=>cases (show u=eJ b from r);rfl
 | int i=>obtain⟨t,e⟩:=(show ∃ t,u=m6 i t from r);cases e;rfl
 | str x=>obtain⟨t,e⟩:=(show ∃ t,u=o9 x t from r);cases e;rfl
 | vX b=>obtain⟨t,e⟩:=(show ∃ t,u=Value.bytes b t from r);cases e;rfl
 | Jq b=>obtain⟨t,e⟩:=(show ∃ t,u=Bi b t from r);cases e;rfl
 | ref a=>cases (show u=aQ a from r);rfl
 | ty n=>cases (show u=j9 n from r);rfl
section
variable {P:Program}{w:World} {H H':Hp} {h h':Heap}{a C dx:Addr} {fs fs':List (Str × V)}
theorem AA (bh:gC P w H h) (e:H a=some (.ins C dx fs)):∃ mA,BX h a dx C mA∧(∀ f,jW (fs.lookup f) (mA f))∧u9 mA (fs.map (·.1))∧fs.length<=1000∧H dx=some (.own a):=by
 obtain⟨d,z,ne,ob,mA,n,r,q⟩:=(show dy P w H h a (.ins C dx fs) from bh a _ e)
 exact⟨mA,⟨ob,n,ne⟩,r,q,z,d⟩
end
structure xt (K:ao) (C:Addr):Prop where
 pg:lT K C F8=true
 hd:nN K C=true
 po:tJ K C=true
 sa:cG K (.ref C) "__setattr__" = some (some (.builtin "object.__setattr__"))
theorem xt.get {K:ao}{C:Addr} (c:xt K C) (f:Str):lT K C f=true:=c.pg
def kc (K:ao) (C:Addr) (f:Str):Prop:=cG K (.ref C) f=some none
theorem kc.abo {K:ao}{C:Addr}{f:Str} (n:kc K C f):v7 K C f=some none:=by
 unfold v7
 rw[show cG K (.ref C) f=some none from n]
 rfl
structure Meth (K:ao) (C:Addr) (m:Str) (f:Addr):Prop where
 at_:cG K (.ref C) m=some (some (.ref f))
 fn:pT K (.ref f)=true
 kp:dw K (.ref f)=true
section
variable {X:Cx}{ah:List (Addr × Obj)}{σ : St}{H:Hp}{s:Shared}{a C dx:Addr}{fs:List (Str × V)}{f:Str}{v:V}{A:Around}{E:Value->Shared->Prop}
theorem NL {b:Bool}{Q:Value->Shared->Prop} (I:Inv X ah σ H s) (e:H a=some (.ins C dx fs)) (c:xt X.K C) (n:kc X.K C f) (l:fs.lookup f=some v)
  (h:∀ u s',Inv X ah σ H s'->RelV v u->Q u s'):wpAny (model X.prog X.w) A (getAttr (.ref a) f b) Q E s:=by
 obtain⟨mA,On,r,_,_,_⟩:=AA I.bh e
 obtain⟨u,hu,ru⟩:=jW.some_of (v:=v) (o:=mA f) (by rw[<- l];exact r f)
 exact Wt I.kI On (c.get f) c.hd n hu (Qb ru) (h u _ (I.tok _) ru)
theorem De {m:Str}{g:Addr}{pl:Sem Bool}{Q:Value × List Value->Shared->Prop} (I:Inv X ah σ H s) (e:H a=some (.ins C dx fs)) (c:xt X.K C) (k:Meth X.K C m g) (l:fs.lookup m=none)
  (h:Q (.ref g, [.ref a]) s):wpAny (model X.prog X.w) A (getMethod (.ref a) m pl) Q E s:=by
 obtain⟨mA,On,r,_,_,_⟩:=AA I.bh e
 have hn:mA m=none:=jW.none_of (by rw[<- l];exact r m)
 exact S5 I.kI On (c.get m) k.at_ k.fn hn h
theorem MY {y:V}{u:Value}{Q:Unit->Shared->Prop} (I:Inv X ah σ H s) (e:H a=some (.ins C dx fs)) (c:xt X.K C) (n:kc X.K C f) (hl:fs.length < 1000) (ry:RelV y u)
  (h:∀ s',Inv X ah σ (upd H a (.ins C dx (eY f y fs))) s'->Q () s'):wpAny (model X.prog X.w) A (setAttr (.ref a) f u) Q E s:=by
 obtain⟨mA,On,r,wi,_,ho⟩:=AA I.bh e
 have hz:(fs.map (·.1)).length<=sizeLine:=by rw[ar,sizeLine_eq];omega
 refine VG I.kI On c.sa c.po n.abo c.hd wi hz fun h' O' sb=>h _ ?_
 have hd:∃ o,h'.get? dx=some o:=let ⟨o,_,_,e',_⟩:=O'.ns; ⟨o,e'⟩
 refine I.write (x:=a) (e:=dx) (by rw[e];exact fq) (.inr ho) (fun b q hb z=>(sb.2 b hb).trans z) hd ?_
 refine⟨by rw[aF On.ne];exact ho,?_,On.ne,O'.obj,_,O'.ns,fun g =>?_,fun g hg =>?_⟩
 ·have:=A4 f y fs;omega
 ·show jW ((eY f y fs).lookup g) (if g=f then some u else mA g)
  rw[A2]
  by_cases q:g=f
  ·rw[if_pos q,if_pos q];exact ry
  ·rw[if_neg q,if_neg q];exact r g
 ·by_cases q:g=f
  ·rw[q];exact(zC f y fs).1
  ·refine(zC f y fs).2 g (wi g fun z=>hg ?_)
   show (if g=f then some u else mA g)=none
   rw[if_neg q];exact z
theorem Inv.made (I:Inv X ah σ H s):Inv X ah σ (upd (upd H s.heap.objs.size (.own (s.heap.objs.size+1))) (s.heap.objs.size+1) (.ins C s.heap.objs.size []))
  { s with heap:=(s.heap.push fI).push (ij C s.heap.objs.size) }:=by
 have e1:(s.heap.push fI).get? s.heap.objs.size=some fI:=aR s.heap rfl
 have e2:((s.heap.push fI).push (ij C s.heap.objs.size)).get? (s.heap.objs.size+1)=some (ij C s.heap.objs.size):=by
  have:=aR (s.heap.push fI) (o:=ij C s.heap.objs.size) rfl
  rwa [fG]at this
 have e3:(s.heap.push fI).Ns s.heap.objs.size (fun _=>none):=⟨fI, #[],_,e1,O,(fun e he=>absurd he (by simp)),fun _=>rfl⟩
 have I1:=I.laid (a:=s.heap.objs.size) (o := .own (s.heap.objs.size+1)) (h':=s.heap.push fI) (t':=s.toks) (fun b u q=>az _ q) (au _) ⟨_,e1⟩
 refine I1.laid (a:=s.heap.objs.size+1) (o := .ins C s.heap.objs.size []) (t':=s.toks) (fun b u q=>az _ q) (m9 (fG _ _)) ?_
 have ne:s.heap.objs.size≠s.heap.objs.size+1:=bH (vh _)
 refine⟨by rw[aF ne,aE],bA _,ne,e2,fun _=>none,(Heap.Ns1.of_empty e3).at fun o q=>az _ q,fun _=>fq,fun y hy=>absurd rfl hy⟩
theorem WI {prog:Program}{w:World}{env:Env}{e:Expr}{f:Str}{pos:Pos}{s:Shared}{Q:Value->Shared->Prop} (hb:attributeBase e f env (eval e env)=eval e env)
  (h:wpAny (model prog w) A (eval e env) (fun o eE => wpAny (model prog w) A (getAttr o f true) Q E eE) E s):wpAny (model prog w) A (eval (.Attribute e f pos) env) Q E s :=
 Attribute_any_ h (by rw[arm_eval_Attribute,hb])
end
inductive aa5 (K:ao) (f:Str) (x:V) (H:Hp) (Q:VK):Prop
 | mk (a C dx:Addr) (fs:List (Str × V)) (v:V) (hx:x = .ref a) (h:H a=some (.ins C dx fs)) (c:xt K C) (n:kc K C f) (l:fs.lookup f=some v) (q:Q v H):aa5 K f x H Q
def ae0 (K:ao) (ta:TE) (f:Str):TE:=fun σ H Q=>ta σ H fun x H1=>aa5 K f x H1 Q
inductive Q3 (K:ao) (f:Str) (D:Ends) (σ : St) (y:V) (x:V) (H2:Hp):Prop
 | mk:∀ a C dx fs,(x = .ref a)->(H2 a=some (.ins C dx fs))->(xt K C)->(kc K C f)->(fs.length < 1000)->(D.nx σ (upd H2 a (.ins C dx (eY f y fs))))->Q3 K f D σ y x H2
def ae6 (K:ao) (ta tv:TE) (f:Str):TS:=fun D σ H=>tv σ H fun y H1=>ta σ H1 fun x H2=>Q3 K f D σ y x H2
section
variable {X:Cx}{o e value:Expr}{f:Str}{pos oy Rt:Pos}{ta tv:TE}
theorem eB (he:PE X e ta) (hb:attributeBase e f X.env (eval e X.env)=eval e X.env):PE X (.Attribute e f pos) (ae0 X.K ta f):=by
 intro ah s σ H Q I h
 refine WI hb (bF (he ah s σ H _ I h) fun u s1 ⟨x,H1,I1,rx,a,C,dx,fs,v,ex,ea,c,n,l,q⟩ =>?_)
 subst ex
 obtain rfl:u=aQ a:=rx
 exact NL I1 ea c n l fun u' s2 I2 ru=>⟨v,H1,I2,ru,q⟩
theorem rM (ha:PE X o ta) (hv:PE X value tv) (hs:swapsWith value (some (.Attribute o f oy)) pos.line X.env=pure false):PS X (.Assign [.Attribute o f oy] value pos) (ae6 X.K ta tv f):=by
 intro ah s σ H D I h
 refine plainObj_wpAny_Assign_Attribute (bF (hv ah s σ H _ I h) fun u s1 ⟨y,H1,I1,ry,q⟩=>bF (ha ah s1 σ H1 _ I1 q) fun ov s2 ⟨x,H2,I2,rx,a,C,dx,fs,ex,ea,c,n,l,q2⟩ =>?_) hs
 subst ex
 obtain rfl:ov=aQ a:=rx
 exact MY I2 ea c n l ry fun s3 I3=>⟨σ,_,I3,q2⟩
end
section
variable {X:Cx}{ah:List (Addr × Obj)}{σ : St}{H:Hp}{s:Shared}{A:Around}{E:Value->Shared->Prop}{Q:Value->Shared->Prop}{c:Value}{b:Bool}
inductive qP (K:ao) (H:Hp):V->Value->Prop where
 | cJ:qP K H .cJ (.type "NoneType")
 | bl (x:Bool):qP K H (.bl x) (.type "bool")
 | int (i:Int):qP K H (.int i) (.type "int")
 | str (x:Str):qP K H (.str x) (.type "str")
 | Jq (x:UInt64):qP K H (.Jq x) (.type "float")
 | lst {a:Addr}{xs:List V} (e:H a=some (.lst xs)):qP K H (.ref a) (.type "list")
 | uU {a:Addr}{o:Obj}{xs:List V} (e:H a=some (.uU o (.lst xs))):qP K H (.ref a) (.type "list")
 | tup {a:Addr}{xs:List V} (e:H a=some (.tup xs)):qP K H (.ref a) (.type "tuple")
 | dK {a:Addr}{kvs:List (Key × V)} (e:H a=some (.dK kvs)):qP K H (.ref a) (.type "dict")
 | dT {a:Addr}{kvs:List (List Key × V)} (e:H a=some (.dT kvs)):qP K H (.ref a) (.type "dict")
 | ins {a C dx:Addr}{fs:List (Str × V)} (e:H a=some (.ins C dx fs)) (cl:xt K C) (ha:cG K (.ref C) "__class__" = some (some (.builtin "object.__class__")))
   (hn:PySem.W.specialIn K (.builtin "object.__class__") "__get__" = some (some (.builtin "getset_descriptor.__get__"))) (htk:PySem.W.takesIn K (.builtin "object.__class__")=some true)
   (hm:PySem.W.mroIn K C (.type "object")=some true):qP K H (.ref a) (.ref C)
theorem PH {x:V}{u t:Value} (I:Inv X ah σ H s) (rx:RelV x u) (ty:qP X.K H x t) (e:lz X.K t c=some b) (h:∀ tk,Q (.bool b) { s with toks:=tk }) :
  wpAny (model X.prog X.w) A (call (.builtin "isinstance") [u,c]) Q E s:=by
 cases ty with
 | cJ=>cases (show u=di from rx);exact eX PySem.W.kitx_none I.kI fq e nofun h
 | bl y=>cases (show u=eJ y from rx);exact eX PySem.W.kitx_bool I.kI fq e nofun h
 | int i=>obtain⟨t,q⟩:=(show ∃ t,u=m6 i t from rx);cases q;exact eX PySem.W.kitx_int I.kI fq e nofun h
 | str y=>obtain⟨t,q⟩:=(show ∃ t,u=o9 y t from rx);cases q;exact eX PySem.W.kitx_str I.kI fq e nofun h
 | Jq y=>obtain⟨t,q⟩:=(show ∃ t,u=Bi y t from rx);cases q;exact eX PySem.W.kitx_float I.kI fq e nofun h
 | @lst a xs ea =>
  cases (show u=aQ a from rx)
  obtain⟨_,_,n,_,h1⟩:=(show dy X.prog X.w H s.heap a (.lst xs) from I.bh a _ ea)
  exact eX AL I.kI ⟨_,h1,O⟩ e nofun h
 | @uU a ob xs ea =>
  cases (show u=aQ a from rx)
  obtain⟨_,_,_,n,_,h1⟩:=(show dy X.prog X.w H s.heap a (.uU ob (.lst xs)) from I.bh a _ ea)
  exact eX AL I.kI ⟨_,h1,O⟩ e nofun h
 | @tup a xs ea =>
  cases (show u=aQ a from rx)
  obtain⟨_,_,_,p⟩:=(show dy X.prog X.w H s.heap a (.tup xs) from I.bh a _ ea)
  obtain⟨o,h1,h2,_⟩:=p
  exact eX PySem.W.kitx_tuple I.kI ⟨o,h1,h2⟩ e nofun h
 | @dK a kvs ea =>
  cases (show u=aQ a from rx)
  obtain⟨_,_,vs,_,p⟩:=(show dy X.prog X.w H s.heap a (.dK kvs) from I.bh a _ ea)
  obtain⟨o,es,ep,h1,h2,_⟩:=p
  exact eX AM I.kI ⟨o,h1,h2.1⟩ e nofun h
 | @dT a kvs ea =>
  cases (show u=aQ a from rx)
  obtain⟨_,_,xs,_,o,es,ep,h1,h2,_⟩:=(show dy X.prog X.w H s.heap a (.dT kvs) from I.bh a _ ea)
  exact eX AM I.kI ⟨o,h1,h2.1⟩ e nofun h
 | @ins a C dx fs ea cl ha hn htk hm =>
  cases (show u=aQ a from rx)
  obtain⟨mA,On,_⟩:=AA I.bh ea
  obtain⟨od,J,_⟩:=On.look
  exact eX (PySem.W.kitx_own (cl.get _) cl.hd ha hn htk hm) I.kI J e nofun h
end
structure eZ (k:Nat) (A:Around):Prop where
 hd:A.handled=none
 dp:A.depth+3 * k+5 < recursionLimit
 un:A.units+16 * k+200 < cLine
theorem eZ.mono {j k:Nat}{A:Around} (r:eZ k A) (h:j<=k):eZ j A:=⟨r.hd,by have:=r.dp;omega,by have:=r.un;omega⟩
theorem eZ.deeper {k:Nat}{A:Around} (r:eZ (k+1) A) (env:Env):eZ k (A.deeper env) :=
 ⟨r.hd,by have:=r.dp;show A.depth+1+3 * k+5 < _;omega,by have:=r.un;show A.units+3+16 * k+200 < _;omega⟩
theorem Nj {A:Around}{C:Addr}{us:List Value}{kw:List (Str × Value)}:(A.under (.builtin "type.__call__" ⟨.ref C :: us,kw⟩)).depth=A.depth+1:=by
 first | rfl | simp[An,Code.weight,Code.isCreation,Code.isGuard,Code.isCaller,Code.frames,Ak,guardIds]
theorem Ni {A:Around}{C:Addr}{us:List Value}{kw:List (Str × Value)}:(A.under (.builtin "type.__call__" ⟨.ref C :: us,kw⟩)).units=A.units+1:=by
 first | rfl | simp[An,Code.cUnits,Code.frames,Ak]
theorem eZ.make {k:Nat}{A:Around} (r:eZ (k+1) A) (C:Addr) (us:List Value) (kw:List (Str × Value)):eZ k (A.under (.builtin "type.__call__" ⟨.ref C :: us,kw⟩)) :=
 ⟨r.hd,by have:=r.dp;rw[Nj];omega,by have:=r.un;rw[Ni];omega⟩
theorem eZ.depth {k:Nat}{A:Around} (r:eZ k A):A.depth < recursionLimit:=by have:=r.dp;omega
theorem eZ.units {k:Nat}{A:Around} (r:eZ k A):A.units+64 < cLine:=by have:=r.un;omega
def sF:TA:=fun _ H Q=>Q [] H
def og (ta:TE) (tr:TA):TA:=fun σ H Q=>ta σ H fun x H1=>tr σ H1 fun xs H2=>Q (x :: xs) H2
section
variable {X:Cx}{e:Expr}{es:List Expr}{te:TE}{t:TA}{pos:Pos}
theorem aq:PA X [] sF:=fun _ _ _ _ H Q I h=>jr ⟨[],H,I,.nil,h⟩
theorem ae (ha:PE X e te) (hr:PA X es t) (hs:starEach (e :: es) X.env=(false,eval e X.env) :: starEach es X.env:=by rfl):PA X (e :: es) (og te t):=by
 intro pos ah s σ H Q I h
 rw[hs]
 show wpAny _ _ (spliced ((false,eval e X.env) :: backTo pos (starEach es X.env))) _ _ s
 refine gh (bF (ha ah s σ H _ I h) fun u s1 ⟨x,H1,I1,r1,q1⟩ =>?_)
 exact bF (hr pos ah s1 σ H1 _ I1 q1) fun us s2 ⟨xs,H2,I2,r2,q2⟩=>⟨x :: xs,H2,I2,.cons r1 r2,q2⟩
def aeU (t:TA):TE:=fun σ H Q=>t σ H fun xs H1=>xs.length<=sizeLine∧∀ p,H1 p=none->Q (.ref p) (upd H1 p (.tup xs))
def aeY (t:TA):TE:=fun σ H Q=>t σ H fun xs H1=>xs.length<=sizeLine∧∀ p,H1 p=none->Q (.ref p) (upd H1 p (.lst xs))
theorem cQ {x1} (h:PA X es t):PE X (.Tuple es x1 pos) (aeU t):=by
 intro ah s σ H Q I hq
 refine wpAny_Tuple_spliced (bF (h pos ah s σ H _ I hq) fun us s1 ⟨xs,H1,I1,r,z,q⟩=>⟨by rw[<- r.length];exact z,?_⟩)
 have hf:H1 s1.heap.objs.size=none:=I1.bh.fresh (au _)
 refine⟨.ref s1.heap.objs.size,upd H1 s1.heap.objs.size (.tup xs),I1.laid (t':=s1.toks) (fun b u e=>az _ e) (au _) ?_,O,q _ hf⟩
 exact⟨z,us,r,⟨_,aR _ rfl,O,_,O,O⟩⟩
theorem kY (h:PA X es t):PE X (.List es pos) (aeY t):=by
 intro ah s σ H Q I hq
 refine wpAny_List_spliced (bF (h pos ah s σ H _ I hq) fun us s1 ⟨xs,H1,I1,r,z,q⟩=>⟨by rw[<- r.length];exact z,?_⟩)
 have hf:H1 s1.heap.objs.size=none:=I1.bh.fresh (au _)
 refine⟨.ref s1.heap.objs.size,upd H1 s1.heap.objs.size (.lst xs),I1.laid (t':=s1.toks) (fun b u e=>az _ e) (au _) ?_,O,q _ hf⟩
 exact⟨z,us,0,r,aR _ rfl⟩
end
abbrev Sp:=List V->Hp->VK->XK->Prop
abbrev wk:=List Env->Hp->Shared->XK->Value->Shared->Prop
structure B6 (P:Program) (w:World) (K:ao) (mg:Str->Option Value) (base:Heap) (A:Around) (outer:List Env) (s:Shared) (H:Hp):Prop where
 frames:A.frames=some outer
 mod:Mod K mg base
 bs:∀ b o,base.get? b=some o->s.heap.get? b=some o∧H b=none
 yK:base.objs.size<=s.heap.objs.size
 oA:s.heap.FunFrames base outer
 Bf:∀ b∈iF outer,H b=none
 bh:gC P w H s.heap
 bare:AllBare s.gens
def CE (outer:List Env) (P:Program) (w:World) (H:Hp) (s:Shared) (Q:VK) (u:Value) (s':Shared):Prop :=
 ∃ v H',s'.os=s.os∧AllBare s'.gens∧Un (iF outer) [] H H' s.heap s'.heap∧gC P w H' s'.heap∧RelV v u∧Q v H'
def CR (CX:wk) (outer:List Env) (P:Program) (w:World) (H:Hp) (s:Shared) (Q:VK) (E:XK) (r:Result) (s':Shared):Prop :=
 match r with
 | .ok (.ret u)=>CE outer P w H s Q u s'
 | .ok _=>False
 | .error e=>CX outer H s E e s'
structure lC (P:Program) (w:World) (K:ao) (mg:Str->Option Value) (base:Heap) (CX:wk) (k:Nat) (f:Addr) (fd:FuncData) (ps:List Str) (sp:Sp):Prop where
 len:∀ vs H Q E,sp vs H Q E->vs.length=ps.length
 run:∀ (A:Around) (outer:List Env) (s:Shared) (H:Hp) (args:Args) (us:List Value) (vs:List V) (Q:VK) (E:XK),eZ k A->B6 P w K mg base A outer s H->BindsTo s fd args (ps.zip us)->Vals vs us->sp vs H Q E ->
  codeAny (model P w) A (.call (.ref f) args) (CR CX outer P w H s Q E) s
theorem B6.make {P:Program}{w:World}{K:ao}{mg:Str->Option Value}{base:Heap}{A:Around}{outer:List Env}{s:Shared}{H:Hp} (e:B6 P w K mg base A outer s H) (C:Addr) (us:List Value) (kw:List (Str × Value)) :
  B6 P w K mg base (A.under (.builtin "type.__call__" ⟨.ref C :: us,kw⟩)) outer s H:=⟨by first | exact e.frames | (simpa [An,Code.envs,Ak,pushEnvs] using e.frames),e.mod,e.bs,e.yK,e.oA,e.Bf,e.bh,e.bare⟩
section
variable {X:Cx}{ah:List (Addr × Obj)}{σ : St}{H:Hp} {s s':Shared}
theorem Inv.S9 (I:Inv X ah σ H s):B6 X.prog X.w X.K X.mg X.base X.A X.stack s H :=
 ⟨I.ok.frames,I.ok.mod,I.bs,bq I.ok.yK I.sz,I.stack,I.DZ,I.bh,I.bare⟩
theorem Inv.after {Q:VK}{u:Value} (I:Inv X ah σ H s) (h:CE X.stack X.prog X.w H s Q u s'):EP X ah σ Q u s':=by
 obtain⟨v,H',os,bare,un,bh,r,q⟩:=h
 obtain⟨hh,g,d,t,os'⟩:=s'
 obtain rfl:os'=s.os:=os
 exact⟨v,H',I.call (h':=hh) (g':=g) (d':=d) (t':=t) (ch := []) un bh bare (fun b z=>absurd z (by simp)),r,q⟩
end
def tO (sp:Sp) (jw:List V) (E:XK) (t:TA):TE:=fun σ H Q=>t σ H fun vs H1=>sp (vs ++ jw) H1 Q E
inductive Mt (C:Addr) (m:Str) (sp:Sp) (jw:List V) (E:XK) (t:TA) (σ : St) (Q:VK) (x:V) (H1:Hp):Prop
 | mk:∀ a dx fs,(x = .ref a)->(H1 a=some (.ins C dx fs))->(fs.lookup m=none)->(t σ H1 fun vs H2=>sp (x :: (vs ++ jw)) H2 Q E)->Mt C m sp jw E t σ Q x H1
def GB (C:Addr) (m:Str) (sp:Sp) (jw:List V) (E:XK) (ta:TE) (t:TA):TE:=fun σ H Q=>ta σ H fun x H1=>Mt C m sp jw E t σ Q x H1
def TL (C:Addr) (sp:Sp) (jw:List V) (E:XK) (t:TA):TE:=fun σ H Q=>t σ H fun vs H1=>∀ x dx,H1 x=none->H1 dx=none->dx≠x ->
 sp (.ref x :: (vs ++ jw)) (upd (upd H1 dx (.own x)) x (.ins C dx [])) (fun v H2=>v = .cJ∧Q (.ref x) H2) E
def Binds (K:ao) (fd:FuncData) (ps:List Str) (ds:List Value):Prop :=
 ∀ (s:Shared) (us:List Value),K.In s.heap->(us ++ ds).length=ps.length->BindsTo s fd ⟨us, []⟩ (ps.zip (us ++ ds))
theorem Binds.all {K:ao}{fd:FuncData}{ps:List Str} (h:∀ us:List Value,us.length=ps.length->bindArgs fd ⟨us, []⟩=pure (ps.zip us)):Binds K fd ps []:=fun s us _ hl=>by
 rw[da]at hl ⊢
 exact .of_eq (h us hl)
def Passes (CX:wk) (X:Cx) (E:XK):Prop := ∀ (ah:List (Addr × Obj)) (σ : St) (H:Hp) (s:Shared) (e:Value) (s':Shared),Inv X ah σ H s->CX X.stack H s E e s'->X.xe e s'
section
variable {X:Cx}{CX:wk}{k:Nat}{f C:Addr}{fd:FuncData}{ps:List Str}{sp:Sp}{jw:List V}{ds:List Value}{E:XK}{x m:Str}{p pos dv:Pos}{e o:Expr}{es:List Expr}{ta:TE}{t:TA}
theorem Hr {ah:List (Addr × Obj)}{σ : St}{H:Hp}{s:Shared}{Q:VK}{us:List Value}{vs:List V} (F:lC X.prog X.w X.K X.mg X.base CX k f fd ps sp) (hr:eZ k X.A) (hb:Binds X.K fd ps ds) (hd:Vals jw ds) (hx:Passes CX X E)
  (I:Inv X ah σ H s) (r:Vals vs us) (h:sp (vs ++ jw) H Q E):wpAny (model X.prog X.w) X.A (call (.ref f) us) (EP X ah σ Q) X.xe s:=by
 have r2:Vals (vs ++ jw) (us ++ ds):=r.append hd
 have hl:(us ++ ds).length=ps.length:=by rw[<- r2.length];exact F.len _ _ _ _ h
 refine wpAny_call (codeAny_mono (F.run X.A X.stack s H ⟨us, []⟩ (us ++ ds) (vs ++ jw) Q E hr I.S9 (hb s us I.kI hl) r2 h) fun r s' hq =>?_)
 cases r with
 | error e=>exact hx ah σ H s e s' I hq
 | ok fl =>
  cases fl with
  | ret u=>exact I.after hq
  | next=>exact dA hq
  | brk=>exact dA hq
  | cont=>exact dA hq
theorem K7 (F:lC X.prog X.w X.K X.mg X.base CX k f fd ps sp) (hr:eZ k X.A) (hg:Gl X x) (hm:X.mg x=some (.ref f)) (hk:dw X.K (.ref f)=true) (hb:Binds X.K fd ps ds) (hd:Vals jw ds) (hx:Passes CX X E)
  (ha:PA X (e :: es) t) (rY:(x == ("__debug__" : Str))=false:=by decide) (he:starEach (e :: es) X.env=(false,eval e X.env) :: starEach es X.env:=by rfl) (my:(backTo pos (starEach es X.env)).any (·.1)=false:=by rfl) :
  PE X (.Call (.Name x p) (e :: es) [] pos) (tO sp jw E t):=by
 intro ah s σ H Q I h
 refine wpAny_Call_Name_kw (wW I hg hm ?_ rY)
 refine m8 (h₀ := X.base) I.ok.mod.CO hk (bF (ha pos ah s σ H _ I h) fun us s1 ⟨vs,H1,I1,r,q⟩=>⟨I1.kI,?_⟩) he my
 exact Hr F hr hb hd hx I1 r q
theorem VW {pl:Sem Bool} (he:PE X o ta) (c:xt X.K C) (hm:Meth X.K C m f) (F:lC X.prog X.w X.K X.mg X.base CX k f fd ps sp) (hr:eZ k X.A) (hb:Binds X.K fd ps ds) (hd:Vals jw ds) (hx:Passes CX X E) (ha:PA X (e :: es) t)
  (iW:starEach (e :: es) X.env=(false,eval e X.env) :: starEach es X.env:=by rfl) (my:(backTo pos (starEach es X.env)).any (·.1)=false:=by rfl)
  (ht:eval (.Call (.Attribute o m dv) (e :: es) [] pos) X.env=(do
   let ov <- eval o X.env
   standAt dv.atName
   let (f,first) <- holding [ov] (getMethod ov m pl)
   callWith pos f first (backTo pos (starEach (e :: es) X.env)) (backToKw pos (keywordEach [] X.env))):=by rfl) :
  PE X (.Call (.Attribute o m dv) (e :: es) [] pos) (GB C m sp jw E ta t):=by
 intro ah s σ H Q I h
 refine xg (pl:=pl) (bF (he ah s σ H _ I h) fun u s1 ⟨x,H1,I1,rx,a,dx,fs,ex,ea,l,q⟩ =>?_) ht
 subst ex
 obtain rfl:u=aQ a:=rx
 refine De I1 ea c hm l ?_
 refine m8 (first := [.ref a]) (h₀ := X.base) I.ok.mod.CO hm.kp (bF (ha pos ah s1 σ H1 _ I1 q) fun us s2 ⟨vs,H2,I2,r,q2⟩=>⟨I2.kI,?_⟩) iW my
 exact Hr (us := .ref a :: us) (vs := .ref a :: vs) F hr hb hd hx I2 (.cons rfl r) q2
theorem R5 {pl:Sem Bool} (he:PE X o ta) (c:xt X.K C) (hm:Meth X.K C m f) (F:lC X.prog X.w X.K X.mg X.base CX k f fd ps sp) (hr:eZ k X.A) (hb:Binds X.K fd ps ds) (hd:Vals jw ds) (hx:Passes CX X E)
  (ht:eval (.Call (.Attribute o m dv) [] [] pos) X.env=(do
   let ov <- eval o X.env
   standAt dv.atName
   let (f,first) <- holding [ov] (getMethod ov m pl)
   callWith pos f first (backTo pos (starEach [] X.env)) (backToKw pos (keywordEach [] X.env))):=by rfl) :
  PE X (.Call (.Attribute o m dv) [] [] pos) (GB C m sp jw E ta sF):=by
 intro ah s σ H Q I h
 refine xg (pl:=pl) (bF (he ah s σ H _ I h) fun u s1 ⟨x,H1,I1,rx,a,dx,fs,ex,ea,l,q⟩ =>?_) ht
 subst ex
 obtain rfl:u=aQ a:=rx
 refine De I1 ea c hm l ?_
 exact PySem.W.callWith_K0 (first := [.ref a]) I1.kI hm.kp (Hr (us := [.ref a]) (vs := [.ref a]) F hr hb hd hx I1 (.cons rfl .nil) q)
structure Mk (K:ao) (C f:Addr):Prop where
 makes:v8 K C=true
 init:cG K (.ref C) "__init__" = some (some (.ref f))
 fn:pT K (.ref f)=true
 kp:dw K (.ref C)=true
theorem RL {ah:List (Addr × Obj)}{σ : St}{H:Hp}{s:Shared}{Q:VK}{us:List Value}{vs:List V} (M:Mk X.K C f) (F:lC X.prog X.w X.K X.mg X.base CX k f fd ps sp) (hr:eZ (k+1) X.A) (hb:Binds X.K fd ps ds) (hd:Vals jw ds)
  (hx:Passes CX X E) (I:Inv X ah σ H s) (r:Vals vs us)
  (h:∀ x dx,H x=none->H dx=none->dx≠x->sp (.ref x :: (vs ++ jw)) (upd (upd H dx (.own x)) x (.ins C dx [])) (fun v H2=>v = .cJ∧Q (.ref x) H2) E) :
  wpAny (model X.prog X.w) X.A (call (.ref C) us) (EP X ah σ Q) X.xe s:=by
 have hq:=h (s.heap.objs.size+1) s.heap.objs.size (I.bh.fresh (rn _)) (I.bh.fresh (au _)) (bH (vh _))
 have I2:=Inv.made (C:=C) I
 have r2:Vals (V.ref (s.heap.objs.size+1) :: (vs ++ jw)) (aQ (s.heap.objs.size+1) :: (us ++ ds)) := .cons rfl (r.append hd)
 have hl:(aQ (s.heap.objs.size+1) :: us ++ ds).length=ps.length:=by
  have e:=r2.length
  rw[F.len _ _ _ _ hq]at e
  exact e.symm
 refine wpAny_call (Ss (f:=f) I.kI M.makes M.init (beq_iff_eq.mp M.fn) (codeAny_mono (F.run _ X.stack _ _ ⟨aQ (s.heap.objs.size+1) :: us, []⟩ (aQ (s.heap.objs.size+1) :: (us ++ ds)) _ _ E (hr.make C us [])
  (I2.S9.make C us []) (hb _ (aQ (s.heap.objs.size+1) :: us) I2.kI hl) r2 hq) fun r s' tF =>?_))
 cases r with
 | error e=>exact hx ah σ _ _ e s' I2 tF
 | ok fl =>
  cases fl with
  | ret u =>
   obtain⟨v,H',I3,rv,ev,q3⟩:=I2.after tF
   subst ev
   exact⟨rv,⟨V.ref (s.heap.objs.size+1),H',I3,O,q3⟩⟩
  | next=>exact dA tF
  | brk=>exact dA tF
  | cont=>exact dA tF
theorem VX (M:Mk X.K C f) (F:lC X.prog X.w X.K X.mg X.base CX k f fd ps sp) (hr:eZ (k+1) X.A) (hg:Gl X x) (hm:X.mg x=some (.ref C)) (hb:Binds X.K fd ps ds) (hd:Vals jw ds) (hx:Passes CX X E)
  (ha:PA X (e :: es) t) (rY:(x == ("__debug__" : Str))=false:=by decide) (he:starEach (e :: es) X.env=(false,eval e X.env) :: starEach es X.env:=by rfl) (my:(backTo pos (starEach es X.env)).any (·.1)=false:=by rfl) :
  PE X (.Call (.Name x p) (e :: es) [] pos) (TL C sp jw E t):=by
 intro ah s σ H Q I h
 refine wpAny_Call_Name_kw (wW I hg hm ?_ rY)
 refine m8 (h₀ := X.base) I.ok.mod.CO M.kp (bF (ha pos ah s σ H _ I h) fun us s1 ⟨vs,H1,I1,r,q⟩=>⟨I1.kI,?_⟩) he my
 exact RL M F hr hb hd hx I1 r q
end
def PK (X:Cx) (Pw:List Keyword) (t:TA):Prop :=
 ∀ (pos:Pos) (ah:List (Addr × Obj)) (s:Shared) (σ : St) (H:Hp) (Q:List V->Hp->Prop),Inv X ah σ H s->t σ H Q->wpAny (model X.prog X.w) X.A (evalAll ((backToKw pos (keywordEach Pw X.env)).map (·.2))) (AP X ah σ Q) X.xe s
section
variable {X:Cx}{CX:wk}{k:Nat}{f C:Addr}{fd:FuncData}{ps ks:List Str}{sp:Sp}{E:XK}{x m:Str}{p pos dv Nq:Pos}{e o:Expr}{es:List Expr}{Pw:List Keyword}{te ta:TE}{t tk:TA}{nm:Option Str}
theorem XZ:PK X [] sF:=fun _ _ _ _ H Q I h=>wpAny_evalAll_nil ⟨[],H,I,.nil,h⟩
theorem VS (ha:PE X e te) (hr:PK X Pw t):PK X (⟨nm,e,Nq⟩ :: Pw) (og te t):=by
 intro pos ah s σ H Q I h
 show wpAny _ _ (evalAll ((do let v <- eval e X.env;standAt pos;pure v) :: (backToKw pos (keywordEach Pw X.env)).map (·.2))) _ _ s
 refine wpAny_evalAll_cons (wpAny_bind (bF (ha ah s σ H _ I h) fun u s1 ⟨x,H1,I1,r1,q1⟩=>wpAny_bind (wpAny_standAt (wpAny_pure ?_))))
 exact bF (hr pos ah s1 σ H1 _ I1 q1) fun us s2 ⟨xs,H2,I2,r2,q2⟩=>⟨x :: xs,H2,I2,.cons r1 r2,q2⟩
variable {g:List Value->List Value->List Value}{gV:List V->List V->List V}
end
structure cF (N P:List Str) (sc:Scope):Prop where
 kind:sc.kind = .function
 co:sc.isCoroutine=false
 gen:sc.isGenerator=false
 nd:N.Nodup
 pre:N.take P.length=P
 par:∀ x∈P,sc.names.lookup x=some .local∨sc.names.lookup x=some .cell
 Yh:∀ y∈sc.names,y.2 ≠ .free
theorem F4 {kindOf:Str->Option NameKind}{x:Str}:∀ {binds:List (Str × Value)}{m:Str->Option Value},(∀ v,(x,v) ∉ binds)->bindL kindOf binds m x=m x
 | [],_,_=>rfl
 | (n,v) :: r,m,h=>by
  unfold bindL
  rw[F4 fun w hw=>h w (aW _ hw)]
  split
  ·have:x≠n:=by rintro rfl;exact h v bg
   simp[this]
  ·rfl
theorem F6 {kindOf:Str->Option NameKind}{x:Str}:∀ {binds:List (Str × Value)}{m:Str->Option Value},(∀ v,(x,v) ∉ binds)->bindC kindOf binds m x=m x
 | [],_,_=>rfl
 | (n,v) :: r,m,h=>by
  unfold bindC
  rw[F6 fun w hw=>h w (aW _ hw)]
  split
  ·rfl
  ·have:x≠n:=by rintro rfl;exact h v bg
   simp[this]
theorem F5 {kindOf:Str->Option NameKind}{x:Str}{v:Value}:∀ {P:List Str}{vs:List Value}{i:Nat}{m:Str->Option Value},P.Nodup->P[i]? = some x->vs[i]? = some v->kindOf x=some .local ->
  bindL kindOf (P.zip vs) m x=some v
 | [],_,_,_,_,h,_,_=>by simp at h
 | _ :: _, [],_,_,_,_,h,_=>by simp at h
 | p :: P,w :: vs,0,m,nd,h1,h2,hk=>by
  simp at h1 h2;subst h1;subst h2
  show bindL kindOf ((p,w) :: P.zip vs) m p=_
  unfold bindL
  rw[F4 fun v hv=>(bQ.mp nd).1 (wa hv).1,if_pos hk]
  simp
 | p :: P,w :: vs,i+1,m,nd,h1,h2,hk=>by
  show bindL kindOf ((p,w) :: P.zip vs) m x=_
  unfold bindL
  exact F5 (i:=i) (bQ.mp nd).2 (by simpa using h1) (by simpa using h2) hk
theorem F7 {kindOf:Str->Option NameKind}{x:Str}{v:Value}:∀ {P:List Str}{vs:List Value}{i:Nat}{m:Str->Option Value},P.Nodup->P[i]? = some x->vs[i]? = some v->kindOf x≠some .local ->
  bindC kindOf (P.zip vs) m x=some v
 | [],_,_,_,_,h,_,_=>by simp at h
 | _ :: _, [],_,_,_,_,h,_=>by simp at h
 | p :: P,w :: vs,0,m,nd,h1,h2,hk=>by
  simp at h1 h2;subst h1;subst h2
  show bindC kindOf ((p,w) :: P.zip vs) m p=_
  unfold bindC
  rw[F6 fun v hv=>(bQ.mp nd).1 (wa hv).1,if_neg hk]
  simp
 | p :: P,w :: vs,i+1,m,nd,h1,h2,hk=>by
  show bindC kindOf ((p,w) :: P.zip vs) m x=_
  unfold bindC
  exact F7 (i:=i) (bQ.mp nd).2 (by simpa using h1) (by simpa using h2) hk
def start (N:List Str) (vs:List V):St:=vs.map some ++ bY (N.length - vs.length) none
def dQ (CX:wk) (P:Program) (w:World) (K:ao) (mg:Str->Option Value) (base:Heap) (N:List Str) (qual:Str) (scope:Scope) (f:Addr) (cd:Value) (A:Around) (outer:List Env) (s:Shared) (H:Hp) (E:XK):Cx where
 prog:=P
 w:=w
 K:=K
 mg:=mg
 base:=base
 A:=A.deeper (envOfC qual scope s.heap.objs.size f cd)
 N:=N
 kR := s
 Ag := H
 env:=envOfC qual scope s.heap.objs.size f cd
 outer:=outer
 stack:=envOfC qual scope s.heap.objs.size f cd :: outer
 ex := []
 calm:=true
 fn:=fun _=>true
 pn := []
 xe:=fun e s'=>wpAny (model P w) (A.deeper (envOfC qual scope s.heap.objs.size f cd)) (leaving (envOfC qual scope s.heap.objs.size f cd) e) (fun _ XC=>CX outer H s E e XC) (fun e' XC=>CX outer H s E e' XC) s'
theorem JG {sc:Scope}{n:Nat}{x:Str} (h:sc.names.lookup x=some .cell):∃ c,(cellsFrom n sc.names []).lookup x=some c:=by
 have q:=wF sc.names n [] (.inl h)
 exact jG.mp q
theorem PL {CX:wk}{P:Program}{w:World}{K:ao}{mg:Str->Option Value}{base:Heap}{N ps:List Str}{qual:Str}{scope:Scope}{f:Addr}{cd:Value}{A:Around}{outer:List Env}{s s1:Shared}{H:Hp}{E:XK}{us:List Value}{vs:List V}
  (S:cF N ps scope) (hd:A.handled=none) (e0:B6 P w K mg base A outer s H) (hl:vs.length=ps.length) (r:Vals vs us)
  (x:InCallC s s.heap.objs.size (bindL (envOfC qual scope s.heap.objs.size f cd).kindOf (ps.zip us) fun _=>none) (cellsFrom (s.heap.objs.size+1) scope.names []) (bindC (envOfC qual scope s.heap.objs.size f cd).kindOf (ps.zip us) fun _=>none) s1) :
  Inv (dQ CX P w K mg base N qual scope f cd A outer s H E) [] (start N vs) H s1:=by
 have my:ps.length<=N.length:=by have:=congrArg List.length S.pre;rw[cj]at this;omega
 obtain⟨h1,tk,rfl,hk⟩:=x.done
 have Yj:∀ b:Addr,b ∉ (dQ CX P w K mg base N qual scope f cd A outer s H E).ex:=fun b z=>absurd (show b∈([]:List Addr) from z) (by simp)
 refine⟨⟨e0.mod,S.kind,O,O,au _,fun y z c h1 h2 =>?_,fun y hy =>?_,fun y c _ h =>?_,fun _=>hd,Around.frames_deeper e0.frames,.inr ⟨O,O⟩,fun b z=>absurd z (Yj b),e0.bs,e0.yK,fun b _ _=>Yj b,fun b z=>absurd z (Yj b),e0.oA,e0.Bf⟩,
  rfl,e0.bare,Un.kept hk,⟨_,x.toInCall.ns,fun i y v h1 h2 h3 =>?_⟩,fun y c h=>⟨_,x.cell y c h⟩,e0.bh.fresh (au _),fun y c h =>?_,fun p hp=>absurd (show p∈([]:List (Addr × Obj)) from hp) (by simp),e0.bh.kept hk,?_⟩
 ·exact name_of_addr x.apart (jR h1) (jR h2)
 ·have hy:scope.names.lookup y=some .cell∨scope.names.lookup y=some .free:=hy
  rcases hy with hy | hy
  ·exact JG hy
  ·exact absurd rfl (S.Yh _ (jR hy))
 ·exact jJ (x.above y c (jR h))
 ·have hi:i < vs.length:=by
   unfold start at h2
   by_cases hi:i < vs.length
   ·exact hi
   ·rw[l9 (by simpa using hi)]at h2
    rw[vA]at h2
    split at h2 <;> cases h2
  have ha:vs[i]? = some v:=by
   unfold start at h2
   rw[fN (by simpa using hi),aG]at h2
   cases e:vs[i]? with
   | none=>rw[e]at h2;cases h2
   | some a=>rw[e]at h2;cases h2;rfl
  obtain⟨u,hu,rv⟩:=r.get ha
  have hp:ps[i]? = some y:=by
   rw[<- S.pre,vk (by omega)];exact h1
  have ndP:ps.Nodup:=by rw[<- S.pre];exact S.nd.sublist (AO _ _)
  refine⟨u,rv,?_⟩
  rcases S.par y (ak hp) with k | k
  ·exact .inl ⟨k,F5 ndP hp hu k⟩
  ·obtain⟨c,e⟩:=JG (n:=s.heap.objs.size+1) k
   refine .inr ⟨.inl k,c,e,?_⟩
   have q:=x.cell y c e
   rw[F7 ndP hp hu (by show scope.names.lookup y≠_;rw[k];decide)]at q
   exact q
 ·exact e0.bh.fresh (jJ (x.above y c (jR h)))
 ·unfold start
  show _=N.length
  rw[aK,ar,xo]
  omega
theorem NO {CX:wk}{P:Program}{w:World}{K:ao}{mg:Str->Option Value}{base:Heap}{k:Nat}{f:Addr}{name qual:Str}{params:Arguments}{body:List Stmt}{scope:Scope}{dV kV doc pm cO ct oc:Value}{an od:Option Addr}
  {yA:Array (Option Value)}{N ps:List Str}{sp:Sp} (lk:K.lookup f=some ⟨oc,od,.func (dU name qual params body scope dV kV doc pm an cO ct),yA⟩) (mZ:g9 K cO qual=true) (S:cF N ps scope)
  (len:∀ vs H Q E,sp vs H Q E->vs.length=ps.length)
  (nB:∀ (A:Around) (outer:List Env) (s:Shared) (H:Hp) (vs:List V) (Q:VK) (E:XK),eZ k (A.deeper (envOfC qual scope s.heap.objs.size f cO))->sp vs H Q E ->
   ∃ t,pV (dQ CX P w K mg base N qual scope f cO A outer s H E) body t∧t { nx:=fun _ H'=>Q .cJ H',rt:=Q } (start N vs) H) :
  lC P w K mg base CX (k+1) f (dU name qual params body scope dV kV doc pm an cO ct) ps sp:=by
 refine⟨len,fun A outer s H args us vs Q E hr e0 hb r yE =>?_⟩
 have hl:=len _ _ _ _ yE
 have KX:K.In s.heap:=e0.mod.CO.keeps fun b o e=>(e0.bs b o e).1
 have lim:s.heap.NoLimit:=e0.mod.nolimit.keeps fun b o e=>(e0.bs b o e).1
 have C4:∀ y∈ps.zip us,scope.names.lookup y.1=some .local∨(scope.names.lookup y.1=some .cell∧((cellsFrom (s.heap.objs.size+1) scope.names []).lookup y.1).isSome=true):=fun ⟨n,v⟩ hy=>by
  rcases S.par n (wa hy).1 with q | q
  ·exact .inl q
  ·exact .inr ⟨q,wF _ _ _ (.inl q)⟩
 refine codeAny_call_function hr.depth (KX _ _ lk) rfl S.co S.gen rfl (PySem.W.codeRec_of KX mZ) (hb _ _ _ _ ?_)
 refine wpAny_newFunctionEnv_cells S.kind C4 fun env he s1 x =>?_
 subst he
 refine⟨lim.keeps x.toInCall.keep,codeAny_func ?_⟩
 obtain⟨t,ht,hq⟩:=nB A outer s H vs Q E (hr.deeper _) yE
 have I:Inv (dQ CX P w K mg base N qual scope f cO A outer s H E) [] (start N vs) H s1:=PL S hr.hd e0 hl r x
 refine wpAny_mono (ht [] s1 (start N vs) H _ I hq) (fun fl s' hs =>?_) fun e s' hs=>hs
 have fin:∀ {br:St} {H':Hp}{v:V}{u:Value},Inv (dQ CX P w K mg base N qual scope f cO A outer s H E) [] br H' s'->RelV v u->Q v H'->CE outer P w H s Q u s' :=
  fun {br H' v u} J rv q=>⟨v,H',J.os,J.bare,J.base,J.bh,rv,q⟩
 cases fl with
 | ret u =>
  obtain⟨v, br,H',J,rv,q⟩:=hs
  exact fin J rv q
 | next =>
  obtain⟨br,H',J,q⟩:=hs
  exact fin (v:=V.cJ) (u:=di) J rfl q
 | brk =>
  obtain⟨_,_,_,q⟩:=hs
  exact dA q
 | cont =>
  obtain⟨_,_,_,q⟩:=hs
  exact dA q
section
variable {X:Cx}{x:Str}{p pos:Pos}{e:Expr}{es:List Expr}{t:TA}{id T:String}{r:List V->Hp->VK->Prop}
def Xg (r:List V->Hp->VK->Prop) (t:TA):TE:=fun σ H Q=>t σ H fun vs H1=>r vs H1 Q
theorem bO (hc:nG X (.builtin id) r) (hg:Gl X x) (hm:X.mg x=none) (hv:bootBuiltins x=some (.builtin id)) (ha:PA X (e :: es) t) (hn:x ≠ "__name__" := by decide) (rY:(x == ("__debug__" : Str))=false:=by decide)
  (he:starEach (e :: es) X.env=(false,eval e X.env) :: starEach es X.env:=by rfl) (my:(backTo pos (starEach es X.env)).any (·.1)=false:=by rfl):PE X (.Call (.Name x p) (e :: es) [] pos) (Xg r t):=by
 intro ah s σ H Q I h
 refine wpAny_Call_Name_kw (pH I hg hm hv ?_ hn rY)
 exact pU (bF (ha pos ah s σ H _ I h) fun us s1 ⟨vs,H1,I1,r1,q1⟩=>hc ah s1 σ H1 vs us Q I1 r1 q1) he my
theorem iE (hc:nG X (.type T) r) (hg:Gl X x) (hm:X.mg x=none) (hv:bootBuiltins x=some (.type T)) (ha:PA X (e :: es) t) (hn:x ≠ "__name__" := by decide) (rY:(x == ("__debug__" : Str))=false:=by decide)
  (he:starEach (e :: es) X.env=(false,eval e X.env) :: starEach es X.env:=by rfl) (my:(backTo pos (starEach es X.env)).any (·.1)=false:=by rfl):PE X (.Call (.Name x p) (e :: es) [] pos) (Xg r t):=by
 intro ah s σ H Q I h
 refine wpAny_Call_Name_kw (pH I hg hm hv ?_ hn rY)
 exact gA (bF (ha pos ah s σ H _ I h) fun us s1 ⟨vs,H1,I1,r1,q1⟩=>hc ah s1 σ H1 vs us Q I1 r1 q1) he my
end
end L2
namespace HT
open PySem PyProof.Rows
def lexLt:List Int->List Int->Bool
 | [], []=>false
 | [],_ :: _=>true
 | _ :: _, []=>false
 | x :: xs,y :: ys=>if x=y then lexLt xs ys else decide (x < y)
theorem tT (x y:Int) (xs ys:List Int):lexLt (x :: xs) (y :: ys)=if x=y then lexLt xs ys else decide (x < y):=rfl
theorem Gr:lexLt [] []=false:=rfl
theorem EB (y:Int) (ys:List Int):lexLt [] (y :: ys)=true:=rfl
theorem EC (x:Int) (xs:List Int):lexLt (x :: xs) []=false:=rfl
theorem S8 (A:Around) (s:Shared) (a:Int) (t:Tok) (c:Int) (u:Tok):∃ e,pS A s (.int a t) (.int c u) e∧(e=true↔a=c) :=
 ⟨(a == c),pS.int_int a t c u,by simp⟩
theorem Hw (A:Around) (s:Shared) (a:Int) (t:Tok) (c:Int) (u:Tok) (prog:Program) (w:World) (E:Value->Shared->Prop) (Q:Value->Shared->Prop) (h:Q (.bool (decide (a < c))) s) :
  wpAny (model prog w) A (richCompare .Lt (.int a t) (.int c u)) Q E s :=
 (PyProof.Rows.lt_int h:wpAny (model prog w) A (compareOp .Lt (.int a t) (.int c u)) Q E s)
section
open PySem.SeqAt
open PySem.AutoSeq1 (wpAny_loadPart')
open PySem.MeetsSeq PySem.MeetsSeq2 PySem.MeetsSeq3
theorem Gj (l b:Addr) (cf n5:Array Value) (n n2:Nat) (dd dd2:Option Addr) (sl Hh:Array (Option Value)) (ns ms:List Int) (hi:IntsAre cf.toList ns) (hj:IntsAre n5.toList ms) :
  Meets (Builtin.«tuple.__lt__» ⟨[.ref l,.ref b], []⟩)
   (fun _ R s=>s.heap.get? l=some { cls := .type "tuple",dict:=dd,data := .seq cf n,slots:=sl }∧s.heap.get? b=some { cls := .type "tuple",dict:=dd2,data := .seq n5 n2,slots:=Hh } ∧
    R (.ok (.ret (.bool (lexLt ns ms)))) s) :=
 .of_wp fun prog w A R s h=>by
  obtain⟨hp,g,d,tk,os⟩:=s;obtain⟨hl,hb,h⟩:=h
  have f2:=AutoSeq1.sub_tuple_tuple
  have z1:cf.size=ns.length:=by rw[<- hi.length];simp
  have z2:n5.size=ms.length:=by rw[<- hj.length];simp
  wp_walk using wpAny_loadPart' hl,wpAny_loadPart' hb,wpAny_forIn_list _ (fun rest b s'=>b.1=none∧s'=⟨hp,g,d,tk,os⟩∧∃ (vs ws:List Value) (Lb Lf:List Int),rest=vs.zip ws ∧
   IntsAre vs Lb∧IntsAre ws Lf∧Lb.length+n5.size=Lf.length+cf.size∧R (.ok (.ret (.bool (lexLt Lb Lf)))) ⟨hp,g,d,tk,os⟩) _
  case turn =>
   rintro⟨y,x⟩ rest b s' ⟨tH,rfl,vs,ws,Lb,Lf,hz,Y0,Lu,eg,hR⟩
   cases Y0 with
   | nil=>rw[List.zip_nil_left]at hz;cases hz
   | cons a t afM =>
    cases Lu with
    | nil=>rw[List.zip_nil_right]at hz;cases hz
    | cons c u afL =>
     rw[nc]at hz
     injection hz with hyx ab7
     injection hyx with hy hx
     subst hy hx
     rw[tT]at hR
     simp only[bV]at eg
     obtain⟨e,he,Zz⟩:=S8 A.in1 ⟨hp,g,d,tk,os⟩ a t c u
     refine wpAny_bind (he prog w _ _ ?_)
     cases e with
     | true =>
      rw[if_pos (Zz.mp rfl)]at hR
      wp_walk
      exact⟨O,O,_,_,_,_,ab7,afM,afL,by omega,hR⟩
     | false =>
      rw[if_neg (fun q=>absurd (Zz.mpr q) bb)]at hR
      have hri:=Hw A.in1 ⟨hp,g,d,tk,os⟩ a t c u prog w
      wp_walk using hri
      exact⟨_,O,by simpa using hR⟩
  case fin =>
   rintro⟨b1,b2⟩ s' ⟨tH,rfl,vs,ws,Lb,Lf,hz,Y0,Lu,eg,hR⟩
   simp only at tH
   subst tH
   have hv:lexLt Lb Lf=decide (cf.size < n5.size):=by
    cases Y0 with
    | nil =>
     cases Lu with
     | nil =>
      simp only[mH]at eg
      rw[Gr]
      exact(decide_eq_false (by omega)).symm
     | cons c u hw =>
      simp only[mH,bV]at eg
      rw[EB]
      exact(decide_eq_true (by omega)).symm
    | cons a t hv =>
     cases Lu with
     | nil =>
      simp only[mH,bV]at eg
      rw[EC]
      exact(decide_eq_false (by omega)).symm
     | cons c u hw =>
      rw[nc]at hz
      cases hz
   rw[hv]at hR
   wp_walk
   exact⟨_,O,by simpa [Builtin.Tuple.tupleCompareSizes] using hR⟩
  case h =>
   exact⟨O,O,cf.toList,n5.toList,ns,ms,O,hi,hj,by omega,h⟩
end
section
variable {prog:Program}{w:World}{A:Around}{E:Value->Shared->Prop}{s:Shared}
theorem Nk {l b:Addr}{cf n5:Array Value}{ns ms:List Int}{Q:Value->Shared->Prop} (hl:IsTup s.heap l cf) (hb:IsTup s.heap b n5) (hi:IntsAre cf.toList ns) (hj:IntsAre n5.toList ms)
  (hu:A.units < cLine) (h:Q (.bool (lexLt ns ms)) s):wpAny (model prog w) A (compareOp .Lt (.ref l) (.ref b)) Q E s:=by
 obtain⟨⟨cls,dd,data,sl⟩,ho,hc,n,hd⟩:=id hl
 obtain⟨⟨akb,dd2,data2,Hh⟩,LB,C7,n2,FH⟩:=id hb
 simp only at hc hd C7 FH
 subst hc hd C7 FH
 exact richCompare_meets_room (op := .Lt) ⟨_,ho,O⟩ ⟨_,LB,O⟩ PySem.F.slot_tuple_lt PySem.F.entry_tuple_lt (PySem.F.args_tuple_lt_2 _ _) (Gj l b cf n5 n n2 dd dd2 sl Hh ns ms hi hj)
  ⟨ho,LB,show eJ (lexLt ns ms)≠Value.notImplemented∧Q (.bool (lexLt ns ms)) s from ⟨(fun x=>nomatch x),h⟩⟩ hu
def cX (n d:Nat):Option Int->Nat
 | none=>d
 | some v=>if v < 0 then (v+(n:Int)).toNat else min v.toNat n
theorem RK (n d:Nat):cX n d none=d:=rfl
theorem VJ (n d k:Nat):cX n d (some (k:Int))=min k n:=by
 show (if (k:Int) < 0 then ((k:Int)+(n:Int)).toNat else min (k:Int).toNat n)=min k n
 rw[if_neg (by omega),cx]
theorem Ho (n d:Nat) (hd:d<=n) (o:Option Int):cX n d o<=n:=by
 cases o with
 | none=>exact hd
 | some v =>
  show (if v < 0 then (v+(n:Int)).toNat else min v.toNat n)<=n
  by_cases hv:v < 0
  ·rw[if_pos hv];omega
  ·rw[if_neg hv];exact BZ _ _
theorem L7 (v:Int) (n d:Nat):(if v < 0 then max (v+(n:Int)) 0 else min v (n:Int))=((cX n d (some v):Nat):Int):=by
 show (if v < 0 then max (v+(n:Int)) 0 else min v (n:Int))=(((if v < 0 then (v+(n:Int)).toNat else min v.toNat n):Nat):Int)
 by_cases hv:v < 0
 ·simp only[if_pos hv];omega
 ·simp only[if_neg hv];omega
theorem NW (lo hi:Option Int) (n:Nat):mL lo hi 1 (n:Int)=(((cX n 0 lo:Nat):Int),((cX n n hi:Nat):Int)):=by
 have h1:¬ ((1:Int) < 0):=by omega
 unfold mL
 simp only[h1,if_false]
 refine oF ?_ ?_
 ·cases lo with
  | none=>rfl
  | some v=>exact L7 v n 0
 ·cases hi with
  | none=>rfl
  | some v=>exact L7 v n n
theorem M6 (i j:Nat):ju (i:Int) (j:Int) 1=j - i:=by
 unfold ju
 have h1:(1:Int) > 0:=by omega
 simp only[h1,if_true,Int.ediv_one]
 split <;> omega
theorem Cm {v:Value}{o:Option Int}{Q:Option Int->Shared->Prop} (p:IsPart v o) (h:Q o s):wpAny (model prog w) A (Builtin.Slice.slicePartIndex v) Q E s:=by
 cases p with
 | none=>exact slicePart_none h
 | int i t=>exact slicePart_int h
theorem Bs {sl:Addr}{vl vu:Value}{lo hi:Option Int}{n:Nat}{Q:Int × Int × Nat->Shared->Prop} (hs:s.heap.IsSliceOf sl vl vu .none) (pl:IsPart vl lo) (pu:IsPart vu hi)
  (h:Q (((cX n 0 lo:Nat):Int),1,cX n n hi - cX n 0 lo) s):wpAny (model prog w) A (tu (.ref sl) (pure (n:Int))) Q E s:=by
 obtain⟨os,PV,hcs,UM⟩:=id hs
 unfold tu Builtin.Slice.sliceFields
 refine wpAny_bind (wpAny_bind (wpAny_field PV UM (x:=vl) rfl (wpAny_bind (wpAny_field PV UM (x:=vu) rfl (wpAny_bind (wpAny_field PV UM (x := .none) rfl (wpAny_pure ?_)))))))
 refine wpAny_bind (slicePart_none ?_)
 show wpAny _ _ (if ((1:Int) == 0)=true then _ else _) _ _ s
 rw[if_neg (by decide)]
 refine wpAny_bind (Cm pl (wpAny_bind (Cm pu (wpAny_bind (wpAny_pure ?_)))))
 show wpAny _ _ (match mL lo hi 1 (n:Int) with | (lo,hi)=>pure (lo,(1:Int),ju lo hi 1)) _ _ s
 rw[NW lo hi n]
 show wpAny _ _ (pure (((cX n 0 lo:Nat):Int),(1:Int),ju ((cX n 0 lo:Nat):Int) ((cX n n hi:Nat):Int) 1)) _ _ s
 rw[M6]
 exact wpAny_pure h
theorem RV (xs:Array Value) (i k:Nat):((bN k).filterMap fun (m:Nat)=>xs[((i:Int)+(m:Int) * 1).toNat]?).toArray=((xs.toList.drop i).take k).toArray:=by
 have e:(fun (m:Nat)=>xs[((i:Int)+(m:Int) * 1).toNat]?)=fun m=>xs[i+m]? := by
  funext m
  have:((i:Int)+(m:Int) * 1).toNat=i+m:=by omega
  rw[this]
 rw[e]
 have:=pick_run xs i k
 rw[List.filterMap_map]at this
 have e2:((fun x=>xs[x]?) ∘ fun x=>i+x)=fun m=>xs[i+m]? := rfl
 rw[e2]at this
 rw[this]
theorem AJ {t sl:Addr}{cf:Array Value}{vl vu:Value}{lo hi:Option Int}{Q:Value->Shared->Prop} (ht:IsTup s.heap t cf) (hs:s.heap.IsSliceOf sl vl vu .none) (pl:IsPart vl lo) (pu:IsPart vu hi)
  (hw:¬ (cX cf.size 0 lo=0∧cX cf.size cf.size hi=cf.size))
  (h:Q (.ref s.heap.objs.size) { s with heap:=s.heap.push { cls := .type "tuple",data := .seq ((cf.toList.drop (cX cf.size 0 lo)).take (cX cf.size cf.size hi - cX cf.size 0 lo)).toArray } })
  (hsz:cf.size<=sizeLine):wpAny (model prog w) A (getItem (.ref t) (.ref sl)) Q E s:=by
 have GF:sizeOk (.seq ((cf.toList.drop (cX cf.size 0 lo)).take (cX cf.size cf.size hi - cX cf.size 0 lo)).toArray):=by
  show ((cf.toList.drop (cX cf.size 0 lo)).take (cX cf.size cf.size hi - cX cf.size 0 lo)).toArray.size<=sizeLine
  rw[aN,cj,oI,dB]
  omega
 have hj:cX cf.size cf.size hi<=cf.size:=Ho _ _ (au _) hi
 obtain⟨os,PV,hcs,UM⟩:=id hs
 have hTs:s.TypeIs (.ref sl) "slice" := ⟨os,PV,hcs⟩
 unfold getItem
 try with_reducible refine wpAny_holding ?_
 first | refine wpAny_bind (wpAny_pure ?_) | skip
 refine wpAny_bind (wpAny_sequenceKey ht.typeIs (by decide) ?_)
 refine wpAny_bind (wpAny_callSpecial?_slot (name:=eS "__getitem__") ht.typeIs jU
  (wpAny_call_entry jU ht.typeIs entry_tuple_getitem ?_ (args_tuple_getitem _ _)))
 show wpAny _ _ (tq (.ref t) >>= _) _ _ s
 refine wpAny_bind (tupleItemsOf_ ht ?_)
 refine wpAny_bind (wpAny_typeOf hTs ?_)
 rw[if_pos (by decide)]
 refine wpAny_bind (Bs hs pl pu ?_)
 have qr:¬ ((((cX cf.size 0 lo:Nat):Int) == 0 && (1:Int) == 1 && (cX cf.size cf.size hi - cX cf.size 0 lo) == cf.size)=true):=by
  intro q
  rw[gU,gU]at q
  have q1:((cX cf.size 0 lo:Nat):Int)=0:=eq_of_beq q.1.1
  have q2:cX cf.size cf.size hi - cX cf.size 0 lo=cf.size:=eq_of_beq q.2
  exact hw ⟨by omega,by omega⟩
 show wpAny _ _ (if (((cX cf.size 0 lo:Nat):Int) == 0 && (1:Int) == 1 && (cX cf.size cf.size hi - cX cf.size 0 lo) == cf.size)=true then _ else _) _ _ s
 rw[if_neg qr,RV]
 first
  | exact wpAny_bind (m:=jM _) (wpAny_newObj_type (wpAny_pure ⟨_,O,wpAny_pure h⟩) GF)
  | exact wpAny_bind (m:=jM _) (wpAny_newObj_type (wpAny_bind (wpAny_pure (wpAny_pure ⟨_,O,wpAny_pure h⟩))) GF)
  | exact wpAny_bind (wpAny_bind (m:=jM _) (wpAny_newObj_type (wpAny_pure (wpAny_pure ⟨_,O,wpAny_pure h⟩)) GF))
  | exact wpAny_bind (wpAny_bind (m:=jM _) (wpAny_newObj_type (wpAny_pure ⟨_,O,wpAny_pure h⟩) GF))
end
end HT
namespace L2
open PySem PySem.Spec PyProof.Rows
abbrev TO:=St->Hp->(Option Int->Hp->Prop)->Prop
def PO (X:Cx) (e:Option Expr) (t:TO):Prop :=
 ∀ (ah:List (Addr × Obj)) (s:Shared) (σ : St) (H:Hp) (Q:Option Int->Hp->Prop),Inv X ah σ H s->t σ H Q ->
  wpAny (model X.prog X.w) X.A (evalPart e X.env) (fun u s'=>∃ o H',Inv X ah σ H' s'∧IsPart u o∧Q o H') X.xe s
def Vx:TO:=fun _ H Q=>Q none H
inductive Mq (Q:Option Int->Hp->Prop) (x:V) (H1:Hp):Prop
 | mk:∀ i,(x = .int i)->(Q (some i) H1)->Mq Q x H1
def abu (t:TE):TO:=fun σ H Q=>t σ H fun x H1=>Mq Q x H1
theorem intsAre_of {ns:List Int}:∀ {us:List Value},Vals (ns.map V.int) us->IntsAre us ns:=by
 induction ns with
 | nil=>intro us r;rw[fB]at r;cases r;exact .nil
 | cons n ns ih =>
  intro us r
  rw[aS]at r
  cases r with
  | cons r1 r2 =>
   obtain⟨t,e⟩:=r1
   subst e
   exact .cons n t (ih r2)
section
variable {X:Cx}{e:Expr}{te:TE}{lo hi:Option Expr}{tl th:TO}{pos p2:Pos}
theorem mf:PO X none Vx:=by
 intro ah s σ H Q I h
 rw[evalPart_none]
 exact wpAny_pure ⟨none,H,I,.none,h⟩
theorem me (h:PE X e te):PO X (some e) (abu te):=by
 intro ah s σ H Q I hw
 rw[evalPart_some]
 refine bF (h ah s σ H _ I hw) fun u s1 ⟨x,H1,I1,r1,q1⟩ =>?_
 obtain⟨i,rfl,q⟩:=q1
 obtain⟨t,rfl⟩:=r1
 exact⟨some i,H1,I1,.int i t,q⟩
def Vj (X:Cx) (r:V->Option Int->Option Int->Hp->VK->Prop):Prop :=
 ∀ (ah:List (Addr × Obj)) (s:Shared) (σ : St) (H:Hp) (x:V) (v vl vu:Value) (lo hi:Option Int) (sl:Addr) (Q:VK),Inv X ah σ H s->RelV x v->s.heap.IsSliceOf sl vl vu .none->IsPart vl lo->IsPart vu hi->r x lo hi H Q ->
  ∃ T id,typeLookup (.type T) "__getitem__" = pure (some (.builtin id))∧s.TypeIs v T∧wpAny (model X.prog X.w) X.A (getItem v (.ref sl)) (EP X ah σ Q) X.xe s
def tSl (r:V->Option Int->Option Int->Hp->VK->Prop) (te:TE) (tl th:TO):TE:=fun σ H Q=>te σ H fun x H1=>tl σ H1 fun l H2=>th σ H2 fun u H3=>r x l u H3 Q
theorem ky {r:V->Option Int->Option Int->Hp->VK->Prop} (hr:Vj X r) (he:PE X e te) (hl:PO X lo tl) (hu:PO X hi th):PE X (.Subscript e (.Slice lo hi none p2) pos) (tSl r te tl th):=by
 intro ah s σ H Q I h
 refine Subscript_ (bF (he ah s σ H _ I h) fun v s1 ⟨x,H1,I1,r1,q1⟩ =>?_)
 refine wpAny_Slice (bF (hl ah s1 σ H1 _ I1 q1) fun vl s2 ⟨l,H2,I2,pl,q2⟩=>bF (hu ah s2 σ H2 _ I2 q2) fun vu s3 ⟨u,H3,I3,pu,q3⟩ =>?_)
 rw[evalPart_none]
 refine wpAny_pure ?_
 have I4:Inv X ah σ H3 { s3 with heap:=s3.heap.push { cls := .type "slice",data := .fields #[vl,vu,.none] } }:=I3.kept (t':=s3.toks) fun b ob q=>az _ q
 obtain⟨T,id,hT,ht,hg⟩:=hr ah { s3 with heap:=s3.heap.push { cls := .type "slice",data := .fields #[vl,vu,.none] } } σ H3 x v vl vu l u s3.heap.objs.size Q I4 r1 (Heap.IsSliceOf.new ..) pl pu q3
 show wpAny (model X.prog X.w) X.A (subscriptTail e (.Slice lo hi none p2) v (.ref s3.heap.objs.size)) (EP X ah σ Q) X.xe { s3 with heap:=s3.heap.push { cls := .type "slice",data := .fields #[vl,vu,.none] } }
 exact tail_any (ops := [.ref s3.heap.objs.size,v]) ht hT hg (by with_unfolding_all rfl)
def ly (xs:List V) (lo hi:Option Int):List V:=(xs.drop (HT.cX xs.length 0 lo)).take (HT.cX xs.length xs.length hi - HT.cX xs.length 0 lo)
theorem Bh (xs:List V) (lo hi:Option Int):(ly xs lo hi).length<=xs.length:=by
 unfold ly
 rw[cj,oI]
 omega
inductive Q4 (K:ao) (x:V) (lo:Option Int) (hi:Option Int) (H:Hp) (Q:VK):Prop
 | mk:∀ a xs,(x = .ref a)->(bD K H a xs)->(¬ (HT.cX xs.length 0 lo=0∧HT.cX xs.length xs.length hi=xs.length))->(∀ p,H p=none->Q (.ref p) (upd H p (.tup (ly xs lo hi))))->Q4 K x lo hi H Q
def afb (K:ao):V->Option Int->Option Int->Hp->VK->Prop:=fun x lo hi H Q=>Q4 K x lo hi H Q
theorem Cn:Vj X (afb X.K):=by
 intro ah s σ H x v vl vu lo hi sl Q I rx hs pl pu h
 obtain⟨a,xs,rfl,hx,hw,q⟩:=h
 cases rx
 obtain⟨its,r,ht,hz⟩:=I.tuple hx
 have eg:its.toArray.size=xs.length:=by rw[aN];exact r.length.symm
 refine⟨"tuple",_,jU.lookup,ht.typeIs,?_⟩
 refine HT.AJ ht hs pl pu (by rw[eg];exact hw) ?_ (by rw[eg];exact hz)
 rw[eg]
 refine⟨.ref s.heap.objs.size,_,I.laid (t':=s.toks) (o := .tup (ly xs lo hi)) (fun b ob q=>az _ q) (au _) ?_,O,q _ (I.bh.fresh (au _))⟩
 exact⟨bq (Bh xs lo hi) hz,_,(r.drop (HT.cX xs.length 0 lo)).take (HT.cX xs.length xs.length hi - HT.cX xs.length 0 lo),vq.new _ _⟩
end
def zE (n:Nat) (i:Int):Option Nat:=if 0<=i then (if i < n then some i.toNat else none) else if -(n:Int)<=i then some (i+n).toNat else none
def tI {α : Type} (xs:List α) (i:Int):Option α := (zE xs.length i).bind fun j=>xs[j]?
theorem Ln {n:Nat}{i:Int}{j:Nat} (h:zE n i=some j):seqIndex? i n=some j∧j < n ∧ -(n:Int)<=i∧i < n:=by
 unfold zE at h
 by_cases h0:0<=i
 ·rw[if_pos h0]at h
  by_cases h1:i < n
  ·rw[if_pos h1]at h
   have e:i.toNat=j:=aH h
   exact⟨by rw[seqIndex_of h0 h1,e],by omega,by omega,h1⟩
  ·rw[if_neg h1]at h;cases h
 ·rw[if_neg h0]at h
  by_cases h1 : -(n:Int)<=i
  ·rw[if_pos h1]at h
   have e:(i+n).toNat=j:=aH h
   exact⟨by rw[seqIndex_neg (by omega) h1,e],by omega,h1,by omega⟩
  ·rw[if_neg h1]at h;cases h
theorem EN {α : Type}{xs:List α}{i:Int}{v : α} (h:tI xs i=some v):∃ j,seqIndex? i xs.length=some j∧xs[j]? = some v∧j < xs.length ∧ -(xs.length:Int)<=i∧i < xs.length:=by
 unfold tI at h
 cases e:zE xs.length i with
 | none=>rw[e]at h;cases h
 | some j =>
  rw[e]at h
  obtain⟨h1,h2,h3,h4⟩:=Ln e
  exact⟨j,h1,h,h2,h3,h4⟩
theorem aL {α : Type}{xs:List α}{j:Nat}{v : α} (h:xs[j]? = some v):tI xs (j:Int)=some v:=by
 have hj:j < xs.length:=(ai.mp h).1
 have e:zE xs.length (j:Int)=some j:=by
  unfold zE
  rw[if_pos (by omega),if_pos (by omega)];simp
 unfold tI;rw[e];exact h
def Mp (b:Expr):Prop := ∀ o i,subscripted b false o i=operate [o,i] (getItem o i)
def Rg (X:Cx) (r:R2):Prop :=
 ∀ (value slice:Expr) (ah:List (Addr × Obj)) (s:Shared) (σ : St) (H:Hp) (x y:V) (v u:Value) (Q:VK),Inv X ah σ H s->RelV x v->RelV y u->r x y H Q ->
  subscripted slice false v u=operate [v,u] (getItem v u)->wpAny (model X.prog X.w) X.A (subscriptTail value slice v u) (EP X ah σ Q) X.xe s
def MtR (X:Cx) (id:String) (r:V->List V->Hp->VK->Prop):Prop :=
 ∀ (ah:List (Addr × Obj)) (s:Shared) (σ : St) (H:Hp) (x:V) (xs:List V) (v:Value) (us:List Value) (Q:VK),Inv X ah σ H s->RelV x v->Vals xs us->r x xs H Q ->
  wpAny (model X.prog X.w) X.A (call (.builtin id) (v :: us)) (EP X ah σ Q) X.xe s
section
variable {X:Cx}{a b:Expr}{ta tb:TE}{pos:Pos}
theorem abM {r:R2} (hr:Rg X r) (ha:PE X a ta) (hb:PE X b tb) (hs:Mp b):PE X (.Subscript a b pos) (vF r ta tb):=by
 intro ah s σ H Q I h
 exact Subscript_ (Tj ha hb I h fun v u s2 x y H2 I2 rx ry q=>hr a b ah s2 σ H2 x y v u Q I2 rx ry q (hs _ _))
inductive aa4 (K:ao) (x y:V) (H:Hp) (Q:VK):Prop
 | mk (p:Addr) (xs:List V) (i:Int) (v:V) (hx:x = .ref p) (hy:y = .int i) (hS:aZ K H p xs) (he:tI xs i=some v) (q:Q v H):aa4 K x y H Q
def M4 (K:ao):R2:=fun x y H Q=>aa4 K x y H Q
inductive aa3 (K:ao) (x y:V) (H:Hp) (Q:VK):Prop
 | mk (p:Addr) (xs:List V) (i:Int) (v:V) (hx:x = .ref p) (hy:y = .int i) (hS:bD K H p xs) (he:tI xs i=some v) (q:Q v H):aa3 K x y H Q
def afh (K:ao):R2:=fun x y H Q=>aa3 K x y H Q
inductive Q9 (x:V) (y:V) (H:Hp) (Q:VK):Prop
 | mk:∀ z i c,(x = .str z)->(y = .int i)->(z.length<=sizeLine)->(tI z.cps.toList i=some c)->(Q (.str ⟨#[c]⟩) H)->Q9 x y H Q
def afi:R2:=fun x y H Q=>Q9 x y H Q
theorem bz:Rg X (M4 X.K):=by
 intro value slice ah s σ H x y v u Q I rx ry h hs
 obtain⟨p,xs,i,z,rfl,rfl,hq,he,q⟩:=h
 cases rx
 obtain⟨t,rfl⟩:=ry
 obtain⟨its,r,pl,hz⟩:=I.list hq
 obtain⟨j,h1,h2,h3,h4,h5⟩:=EN he
 obtain⟨w,ew,kW⟩:=r.get h2
 have hl:=r.length
 have hn:=uJ
 have fin:EP X ah σ Q w s:=⟨z,H,I,kW,q⟩
 by_cases h0:0<=i
 ·have hj:i.toNat=j:=by
   rw[seqIndex_of h0 h5]at h1
   exact aH h1
  exact item_listR pl.isList h0 (by omega) (by rw[hj];simpa using ew) fin hs
 ·have hj:(i+(its.toArray.size:Int)).toNat=j:=by
   rw[seqIndex_neg (by omega) h4]at h1
   rw[aN, <- hl]
   exact aH h1
  exact subscriptTail_builtinR (x:=w) pl.isList.typeIs slot_list_getitem.lookup
   (wpAny_getItem_list_neg (Q:=fun r s'=>r=w∧EP X ah σ Q r s') pl.isList (by omega) (by rw[aN] <;> omega) (by omega) (by rw[hj];simpa using ew) ⟨O,fin⟩) hs
theorem bp:Rg X (afh X.K):=by
 intro value slice ah s σ H x y v u Q I rx ry h hs
 obtain⟨p,xs,i,z,rfl,rfl,hq,he,q⟩:=h
 cases rx
 obtain⟨t,rfl⟩:=ry
 obtain⟨its,r,pl,hz⟩:=I.tuple hq
 obtain⟨j,h1,h2,h3,h4,h5⟩:=EN he
 obtain⟨w,ew,kW⟩:=r.get h2
 have hl:=r.length
 have hn:=uJ
 have fin:EP X ah σ Q w s:=⟨z,H,I,kW,q⟩
 exact subscriptTail_builtinR (x:=w) pl.typeIs slot_tuple_getitem.lookup
  (getItem_tuple (j:=j) (Q:=fun r s'=>r=w∧EP X ah σ Q r s') pl (by omega) (by omega) (by rw[aN, <- hl];exact h1) (by simpa using ew) ⟨O,fin⟩) hs
theorem YJ:Rg X afi:=by
 intro value slice ah s σ H x y v u Q I rx ry h hs
 obtain⟨z,i,c,rfl,rfl,hz,he,q⟩:=h
 obtain⟨t,rfl⟩:=rx
 obtain⟨t',rfl⟩:=ry
 obtain⟨j,h1,h2,h3,h4,h5⟩:=EN he
 have hl:z.cps.toList.length=z.length:=by simp[Str.length]
 rw[hl]at h1 h4 h5
 have hn:=uJ
 exact tail_any (typeIs_str s z t) slot_str_getitem.lookup (getItem_str (c:=c) (by
  have e1:decide (i < -(2 ^ 63:Int))=false:=decide_eq_false (by omega)
  have e2:decide (i ≥ 2 ^ 63)=false:=decide_eq_false (by omega)
  rw[e1,e2,Bool.or_false]) (by rw[h1];simpa using h2) ⟨.str ⟨#[c]⟩,H,I.tok _,⟨_,O⟩,q⟩) hs
theorem Nh (its:List Value) (n j:Nat) (u:Value):ik (·.setIfInBounds j u) { cls := .type "list",data := .seq its.toArray n }={ cls := .type "list",data := .seq (its.set j u).toArray n }:=by
 simp[ik]
theorem Inv.lst {ah:List (Addr × Obj)}{σ : St}{H:Hp}{s:Shared}{p:Addr}{xs:List V} (I:Inv X ah σ H s) (h:H p=some (.lst xs)) :
  ∃ (its:List Value) (n:Nat),Vals xs its∧s.heap.get? p=some { cls := .type "list",data := .seq its.toArray n }∧xs.length<=sizeLine:=by
 obtain⟨z,its,n,r,e⟩:=I.bh p _ h
 exact⟨its,n,r,e,z⟩
theorem Inv.Yq {ah:List (Addr × Obj)}{σ : St}{H:Hp}{s:Shared}{p:Addr}{xs ys:List V} {its its':List Value} {n n':Nat}{f:Obj->Obj} (I:Inv X ah σ H s) (h:H p=some (.lst xs))
  (ho:s.heap.get? p=some { cls := .type "list",data := .seq its.toArray n }) (hf:f { cls := .type "list",data := .seq its.toArray n }={ cls := .type "list",data := .seq its'.toArray n' }) (r:Vals ys its') (hz:ys.length<=sizeLine) (t:Nat) :
  Inv X ah σ (upd H p (.lst ys)) { s with heap:=s.heap.update p f,toks:=t }:=by
 have e:(s.heap.update p f).get? p=some { cls := .type "list",data := .seq its'.toArray n' }:=by
  rw[dZ f ho (by rw[hf] <;> rfl),hf]
 refine I.write (x:=p) (e:=p) (by rw[h];trivial) (.inl rfl) (fun b u hb q=>(dt _ _ (cM hb)).trans q) ⟨_,e⟩ ?_
 exact⟨hz,its',n',r,e⟩
inductive My (o:V) (i:V) (v:V) (H:Hp) (Q:Hp->Prop):Prop
 | mk:∀ p xs k j,(o = .ref p)->(i = .int k)->(H p=some (.lst xs))->(zE xs.length k=some j)->(Q (upd H p (.lst (xs.set j v))))->My o i v H Q
def abJ:V->V->V->Hp->(Hp->Prop)->Prop:=fun o i v H Q=>My o i v H Q
theorem xD:NY X abJ:=by
 intro ah s σ H o i v ov iv u Q I ro ri rv h
 obtain⟨p,xs,k,j,rfl,rfl,hp,hj,q⟩:=h
 cases ro
 obtain⟨t,rfl⟩:=ri
 obtain⟨its,n,r,ho,hz⟩:=I.lst hp
 obtain⟨h1,h2,h3,h4⟩:=Ln hj
 have hl:=r.length
 have hn:=uJ
 have I':Inv X ah σ (upd H p (.lst (xs.set j v))) { s with heap:=s.heap.update p (ik (·.setIfInBounds j u)) } :=
  I.Yq hp ho (Nh its n j u) (r.set rv j) (by rw[List.length_set];exact hz) s.toks
 by_cases h0:0<=k
 ·have hk:k.toNat=j:=by
   rw[seqIndex_of h0 h4]at h1
   exact aH h1
  exact PySem.W.ki_setAt ho h0 (by omega) (by rw[aN, <- hl];exact h4) (by rw[hk];exact⟨_,I',q⟩)
 ·have hk:(k+(its.toArray.size:Int)).toNat=j:=by
   rw[seqIndex_neg (by omega) h3]at h1
   rw[aN, <- hl]
   exact aH h1
  exact PySem.W.ki_setBack ho (by omega) (by rw[aN, <- hl];exact h3) (by omega) (by rw[hk];exact⟨_,I',q⟩)
theorem zg (lo hi:Option Int) (n:Nat):(sliceBounds lo hi none n).1=((HT.cX n 0 lo:Nat):Int)∧(sliceBounds lo hi none n).2.1=((HT.cX n n hi:Nat):Int)∧(sliceBounds lo hi none n).2.2=1:=by
 refine⟨?_,?_,O⟩
 ·cases lo with
  | none=>simp[sliceBounds,HT.cX]
  | some i =>
   simp only[sliceBounds,HT.cX,BW,show (1:Int) > 0 by decide,if_true]
   by_cases h:i < 0
   ·simp only[h,if_true] <;> omega
   ·simp only[h,if_false] <;> omega
 ·cases hi with
  | none=>simp[sliceBounds,HT.cX]
  | some i =>
   simp only[sliceBounds,HT.cX,BW,show (1:Int) > 0 by decide,if_true]
   by_cases h:i < 0
   ·simp only[h,if_true] <;> omega
   ·simp only[h,if_false] <;> omega
theorem Gk (its:List Value) (lo hi:Option Int):slicePick its.toArray lo hi none=((its.drop (HT.cX its.length 0 lo)).take (HT.cX its.length its.length hi - HT.cX its.length 0 lo)).toArray:=by
 obtain⟨h1,h2,h3⟩:=zg lo hi its.toArray.size
 unfold slicePick
 rw[h1,h2,h3]
 simp only[sliceRange_one,pick_run,aN] <;> rfl
inductive Q6 (K:ao) (x:V) (lo:Option Int) (hi:Option Int) (H:Hp) (Q:VK):Prop
 | mk:∀ a xs,(x = .ref a)->(aZ K H a xs)->(∀ p,H p=none->Q (.ref p) (upd H p (.lst (ly xs lo hi))))->Q6 K x lo hi H Q
def afd (K:ao):V->Option Int->Option Int->Hp->VK->Prop:=fun x lo hi H Q=>Q6 K x lo hi H Q
theorem D6:Vj X (afd X.K):=by
 intro ah s σ H x v vl vu lo hi sl Q I rx hs pl pu h
 obtain⟨a,xs,rfl,hx,q⟩:=h
 cases rx
 obtain⟨its,r,ht,hz⟩:=I.list hx
 have eg:=r.length
 refine⟨"list",_,slot_list_getitem.lookup,ht.isList.typeIs,?_⟩
 refine wpAny_getItem_list_slice ht.isList hs pl pu .none (by simp) ?_ (by rw[aN] <;> omega)
 rw[Gk, <- eg]
 refine⟨.ref s.heap.objs.size,_,I.laid (t':=s.toks) (o := .lst (ly xs lo hi)) (fun b ob q=>az _ q) (au _) ?_,O,q _ (I.bh.fresh (au _))⟩
 exact⟨bq (Bh xs lo hi) hz,_,0,(r.drop (HT.cX xs.length 0 lo)).take (HT.cX xs.length xs.length hi - HT.cX xs.length 0 lo),aR _ rfl⟩
inductive N0 (K:ao) (xs:List V) (H:Hp) (Q:VK):Prop
 | mk:∀ p ys,(xs = [.ref p])->(aZ K H p ys∨bD K H p ys)->(Q (.int ys.length) H)->N0 K xs H Q
theorem cn:nG X (.builtin "len") (fun xs H Q=>N0 X.K xs H Q):=by
 intro ah s σ H xs us Q I r h
 obtain⟨p,ys,rfl,hq,q⟩:=h
 obtain⟨u,rfl,rx⟩:=vals1 r
 cases rx
 have hn:=uJ
 rcases hq with hq | hq
 ·obtain⟨its,r',pl,hz⟩:=I.list hq
  have eg:=r'.length
  exact Calls.call_len_list pl.isList (by simp only[aN] <;> omega) ⟨.int ys.length,H,I.tok _,⟨s.toks+1,by rw[aN,eg]⟩,q⟩
 ·obtain⟨its,r',pl,hz⟩:=I.tuple hq
  have eg:=r'.length
  exact len_tuple pl (by simp only[aN] <;> omega) ⟨.int ys.length,H,I.tok _,⟨s.toks+1,by rw[aN,eg]⟩,q⟩
inductive xr (xs:List V) (H:Hp) (Q:VK):Prop
 | mk:∀ z,(xs = [.str z])->(z.length<=sizeLine)->(Q (.int z.length) H)->xr xs H Q
theorem JI:nG X (.builtin "len") (fun xs H Q=>xr xs H Q):=by
 intro ah s σ H xs us Q I r h
 obtain⟨z,rfl,hz,q⟩:=h
 obtain⟨u,rfl,t,rfl⟩:=vals1 r
 have hn:=uJ
 exact len_str (by omega) ⟨.int z.length,H,I.tok _,⟨_,O⟩,q⟩
inductive xq (kK:ao) (xs:List V) (H:Hp) (Q:VK):Prop
 | mk:∀ p ys,(xs = [.ref p])->((aZ kK H p ys∨bD kK H p ys))->(∀ l,H l=none->Q (.ref l) (upd H l (.lst ys)))->xq kK xs H Q
theorem i9:nG X (.type "list") (fun xs H Q=>xq X.K xs H Q):=by
 intro ah s σ H xs us Q I r h
 obtain⟨p,ys,rfl,hq,q⟩:=h
 obtain⟨u,rfl,rx⟩:=vals1 r
 cases rx
 have fin:∀ (its:List Value),Vals ys its->ys.length<=sizeLine->∀ (h':Heap) (c':Nat),(∀ b o',s.heap.get? b=some o'->h'.get? b=some o') ->
   h'.get? s.heap.objs.size=some { cls := .type "list",dict:=none,data := .seq its.toArray c',slots := #[] }->EP X ah σ Q (.ref s.heap.objs.size) { s with heap:=h' }:=fun its r' hz h' c' kp e =>
  ⟨.ref s.heap.objs.size,_,I.laid (t':=s.toks) kp (au _) (show dy X.prog X.w _ h' _ (.lst ys) from ⟨hz,its,c',r',e⟩),O,q _ (I.bh.fresh (au _))⟩
 rcases hq with hq | hq
 ·obtain⟨its,r',pl,hz⟩:=I.list hq
  have eg:=r'.length
  obtain⟨o,ho,hc,n,hd⟩:=pl.isList
  exact call_list_seq p (.inl rfl) ho hc hd (fun h' c' kp e=>fin its r' hz h' c' kp e) (by simp only[aN] <;> omega)
 ·obtain⟨its,r',pl,hz⟩:=I.tuple hq
  have eg:=r'.length
  obtain⟨o,ho,hc,n,hd⟩:=pl
  exact call_list_seq p (.inr rfl) ho hc hd (fun h' c' kp e=>fin its r' hz h' c' kp e) (by simp only[aN] <;> omega)
inductive we (kK:ao) (xs:List V) (H:Hp) (Q:VK):Prop
 | mk:∀ p ys,(xs = [.ref p])->(((aZ kK H p ys∧∀ l,H l=none->Q (.ref l) (upd H l (.tup ys)))∨(bD kK H p ys∧Q (.ref p) H)))->we kK xs H Q
theorem yJ:nG X (.type "tuple") (fun xs H Q=>we X.K xs H Q):=by
 intro ah s σ H xs us Q I r h
 obtain⟨p,ys,rfl,h⟩:=h
 obtain⟨u,rfl,rx⟩:=vals1 r
 cases rx
 rcases h with⟨hq,q⟩ | ⟨hq,q⟩
 ·obtain⟨its,r',pl,hz⟩:=I.list hq
  have eg:=r'.length
  refine call_tuple_list pl.isList (fun h' kp =>?_) (by simp only[aN] <;> omega)
  have I1:Inv X ah σ H { s with heap:=h' }:=I.kept (t':=s.toks) kp
  have I2:Inv X ah σ (upd H h'.objs.size (.tup ys)) { s with heap:=h'.push { cls := .type "tuple",data := .seq its.toArray } } :=
   I1.laid (t':=s.toks) (fun b o e=>az _ e) (au _) (show dy X.prog X.w _ _ _ (.tup ys) from ⟨hz,its,r',vq.new _ _⟩)
  exact⟨.ref h'.objs.size,_,I2,O,q _ (I1.bh.fresh (au _))⟩
 ·obtain⟨its,r',pl,hz⟩:=I.tuple hq
  exact call_tuple_same pl ⟨.ref p,H,I,O,q⟩
def WU (K:ao) (T:String) (x:V) (H:Hp):Prop:=match x with
 | .str _=>T = "str"
 | .int _=>T = "int"
 | .ref p=>(T = "list" ∧ ∃ xs,aZ K H p xs)∨(T = "tuple" ∧ ((∃ o,K.lookup p=some o∧o.cls = .type "tuple" ∧ o.dict=none)∨∃ xs,H p=some (.tup xs))) ∨
   (T = "dict" ∧ ((∃ kvs,H p=some (.dK kvs))∨∃ kvs,H p=some (.dT kvs)))∨(T = "set" ∧ ∃ S n,H p=some (.set S n))
 | _=>False
theorem Oj {ah:List (Addr × Obj)}{σ : St}{H:Hp}{s:Shared}{T:String}{x:V}{v:Value} (I:Inv X ah σ H s) (r:RelV x v) (ty:WU X.K T x H) :
  s.TypeIs v T∧∀ a,v = .ref a->∃ ob,s.heap.get? a=some ob∧ob.dict=none:=by
 cases x with
 | str z =>
  obtain⟨t,rfl⟩:=r
  cases (show T = "str" from ty)
  exact⟨typeIs_str s z t,fun _ e=>nomatch e⟩
 | int i =>
  obtain⟨t,rfl⟩:=r
  cases (show T = "int" from ty)
  exact⟨typeIs_int s i t,fun _ e=>nomatch e⟩
 | ref p =>
  cases r
  rcases ty with⟨rfl,xs,hq⟩ | ⟨rfl,⟨o,hk,hc,hd⟩ | ⟨xs,hk⟩⟩ | ⟨rfl,hk⟩ | ⟨rfl,S,n,hk⟩
  ·obtain⟨its,_,pl,_⟩:=I.list hq
   refine⟨pl.isList.typeIs,fun a e =>?_⟩
   cases e
   obtain⟨o,n,e,c,hd,_⟩:=pl
   exact⟨o,e,hd⟩
  ·refine⟨⟨o,I.kI p o hk,hc⟩,fun a e =>?_⟩
   cases e
   exact⟨o,I.kI _ o hk,hd⟩
  ·obtain⟨_,_,_,o,e,c,n,d,hd⟩:=I.bh p _ hk
   refine⟨⟨o,e,c⟩,fun a e2 =>?_⟩
   cases e2
   exact⟨o,e,hd⟩
  ·have z:∃ o,s.heap.get? p=some o∧o.ExactDict:=by
    rcases hk with⟨kvs,hk⟩ | ⟨kvs,hk⟩
    ·obtain⟨_,_,_,_,o,_,_,e,ex,_⟩:=I.bh p _ hk
     exact⟨o,e,ex⟩
    ·obtain⟨_,_,_,_,o,_,_,e,ex,_⟩:=I.bh p _ hk
     exact⟨o,e,ex⟩
   obtain⟨o,e,ex⟩:=z
   refine⟨⟨o,e,ex.1⟩,fun a e2 =>?_⟩
   cases e2
   exact⟨o,e,ex.2.1⟩
  ·obtain⟨o,_,_,_,e,ex,_⟩:=I.bh p _ hk
   refine⟨⟨o,e,ex.1⟩,fun a e2 =>?_⟩
   cases e2
   exact⟨o,e,ex.2.1⟩
 | _=>exact dA ty
def ae1 (K:ao) (T:String) (r:V->List V->Hp->VK->Prop) (to:TE):TE:=fun σ H Q=>to σ H fun x H1=>WU K T x H1∧r x [] H1 Q
def tBM (K:ao) (T:String) (r:V->List V->Hp->VK->Prop) (to:TE) (t:TA):TE:=fun σ H Q=>to σ H fun x H1=>WU K T x H1∧t σ H1 fun xs H2=>r x xs H2 Q
variable {o e:Expr}{es:List Expr}{to:TE}{t:TA}{name:Str}{dv de:Pos}{T id:String}{r:V->List V->Hp->VK->Prop}
theorem X5 (pa:PlainAttrs T) (slot:Slot T name id) (Y4:typeOf (.builtin id)=pure (.type "method_descriptor")) (hm:MtR X id r) (ho:PE X o to)
  (pN:attributeBase o name X.env (eval o X.env)=eval o X.env:=by rfl) (pM:(dv.endLine == de.line)=true:=by rfl):PE X (.Call (.Attribute o name dv) [] [] de) (ae1 X.K T r to):=by
 intro ah s σ H Q I h
 refine wpAny_Call_method0_late pN pM (bF (ho ah s σ H _ I h) fun v s1 ⟨x,H1,I1,r1,ty,q1⟩ =>?_)
 obtain⟨h1,h2⟩:=Oj I1 r1 ty
 exact⟨T,id,pa,slot,Y4,h1,h2,eG rfl (qw (hm ah s1 σ H1 x [] v [] Q I1 r1 .nil q1))⟩
theorem lM (pa:PlainAttrs T) (slot:Slot T name id) (Y4:typeOf (.builtin id)=pure (.type "method_descriptor")) (hm:MtR X id r) (ho:PE X o to) (ha:PA X (e :: es) t)
  (pN:attributeBase o name X.env (eval o X.env)=eval o X.env:=by rfl)
  (S0:((backTo de (starEach (e :: es) X.env)).all (fun x => !x.1) && (backToKw de (keywordEach [] X.env)).all (fun x=>x.1.isSome)
   && decide ((e :: es).length+([]:List Keyword).length+(if ([]:List Keyword).isEmpty then 0 else 1) < 30))=true:=by rfl)
  (pM:(dv.endLine == de.line)=true:=by rfl) (hs:starEach (e :: es) X.env=(false,eval e X.env) :: starEach es X.env:=by rfl) (II:(backTo de (starEach es X.env)).any (·.1)=false:=by rfl) :
  PE X (.Call (.Attribute o name dv) (e :: es) [] de) (tBM X.K T r to t):=by
 intro ah s σ H Q I h
 refine wpAny_Call_method_late pN S0 pM rfl (bF (ho ah s σ H _ I h) fun v s1 ⟨x,H1,I1,r1,ty,q1⟩ =>?_)
 obtain⟨h1,h2⟩:=Oj I1 r1 ty
 refine⟨T,id,pa,slot,Y4,h1,h2,?_⟩
 have hA:=ha de ah s1 σ H1 _ I1 q1
 rw[hs]at hA ⊢
 refine eG (by show (false || (backTo de (starEach es X.env)).any (·.1))=false;rw[II] <;> rfl) (iw ?_)
 exact bF hA fun us s2 ⟨vs,H2,I2,r2,q2⟩=>hm ah s2 σ H2 x vs v us Q I2 r1 r2 q2
/- xs.append(e),list.index on a afz tuple .. are MtR ajW of 06m -/
end
def MtM (X:Cx) (id:String) (r:V->List V->Hp->VK->Prop):Prop :=
 ∀ (ah:List (Addr × Obj)) (s:Shared) (σ : St) (H:Hp) (x:V) (xs:List V) (v:Value) (us:List Value) (Q:VK),Inv X ah σ H s->RelV x v->Vals xs us->r x xs H Q ->
  wpAny (model X.prog X.w) X.A (call (.builtin id) (v :: us)) (EP X ah σ Q) X.xe s
theorem Vals.one:∀ {x:V}{us:List Value},Vals [x] us->∃ u,us = [u]∧RelV x u
 | _,_,.cons r .nil=>⟨_,O,r⟩
theorem Vals.zero:∀ {us:List Value},Vals [] us->us = []
 | _,.nil=>rfl
theorem Vals.dropLast {xs:List V}{us:List Value} (h:Vals xs us):Vals xs.dropLast us.dropLast:=by
 induction h with
 | nil=>exact .nil
 | cons r t ih =>
  cases t with
  | nil=>exact .nil
  | cons q t'=>exact .cons r ih
theorem Vals.rep {xs:List V}{us:List Value} (h:Vals xs us):∀ k:Nat,Vals (bY k xs).flatten (bY k us).flatten
 | 0 => .nil
 | k+1=>by
  rw[gE,gE,kO,kO]
  exact Vals.append h (Vals.rep h k)
theorem NT {α : Type} (l:List α):l.eraseIdx (l.length - 1)=l.dropLast:=by
 induction l with
 | nil=>rfl
 | cons a r ih =>
  cases r with
  | nil=>rfl
  | cons b r =>
   have e:(a :: b :: r).length - 1=((b :: r).length - 1)+1:=by
    have h1:(a :: b :: r).length=r.length+2:=rfl
    have h2:(b :: r).length=r.length+1:=rfl
    omega
   rw[e,List.eraseIdx_cons_succ,ih]
   all_goals rfl
theorem foldl_rep (its:List Value):∀ (k:Nat) (acc:List Value),
  DK (fun x1 x2=>x1 ++ x2) acc.toArray (bY k its.toArray)=(acc ++ (bY k its).flatten).toArray
 | 0,acc=>by simp
 | k+1,acc=>by
  have e:acc.toArray ++ its.toArray=(acc ++ its).toArray:=by simp
  have e2:(acc ++ its) ++ (bY k its).flatten=acc ++ (bY (k+1) its).flatten:=by
   rw[gE,kO,kQ]
  rw[<- e2, <- foldl_rep its k (acc ++ its), <- e,gE,qd]
section
variable {X:Cx}{ah:List (Addr × Obj)}{σ : St}{H:Hp}{s:Shared}{l b:Addr}{xs ys zs:List V}
theorem Inv.Su {its its':List Value}{n:Nat}{f:Array Value->Array Value} {t':Nat} (I:Inv X ah σ H s) (hH:H l=some (.lst xs))
  (e:s.heap.get? l=some { cls := .type "list",data := .seq its.toArray n }) (hf:f its.toArray=its'.toArray) (hv:Vals ys its') (hz:ys.length<=sizeLine) :
  Inv X ah σ (upd H l (.lst ys)) { s with heap:=s.heap.update l (ik f),toks:=t' }:=by
 have q:=PySem.IsL.update e f
 rw[hf]at q
 refine I.write (x:=l) (e:=l) (by rw[hH];exact trivial) (.inl rfl) (fun b' u hb hu=>(dt s.heap (ik f) (cM hb)).trans hu) ⟨_,q⟩ ?_
 exact⟨hz,its',_,hv,q⟩
theorem Inv.Sv {its:List Value} {t':Nat} (I:Inv X ah σ H s) (hv:Vals ys its) (hz:ys.length<=sizeLine) :
  Inv X ah σ (upd H s.heap.objs.size (.lst ys)) { s with heap:=s.heap.push { cls := .type "list",data := .seq its.toArray },toks:=t' } :=
 I.laid (fun _ _ q=>az _ q) (au _) ⟨hz,its,0,hv,aR _ rfl⟩
theorem Inv.fresh (I:Inv X ah σ H s):H s.heap.objs.size=none:=I.bh.fresh (au _)
theorem Inv.HX (I:Inv X ah σ H s) (hH:H l=some (.lst xs)):xs.length<=sizeLine∧∃ (its:List Value) (n:Nat),Vals xs its∧xs.length=its.length∧s.heap.get? l=some { cls := .type "list",data := .seq its.toArray n }:=by
 obtain⟨z,its,n,r,e⟩:=I.bh l _ hH
 exact⟨z,its,n,r,r.length,e⟩
theorem HL {n:Nat} (h:n<=sizeLine):jN n=false:=by
 unfold jN
 exact decide_eq_false (by omega)
end
section
variable {X:Cx}
inductive Gg (x:V) (vs:List V) (H:Hp) (Q:VK):Prop
 | mk:∀ l xs y,(x = .ref l)->(vs = [y])->(H l=some (.lst xs))->(xs.length < sizeLine)->(Q .cJ (upd H l (.lst (xs ++ [y]))))->Gg x vs H Q
def VN:V->List V->Hp->VK->Prop:=fun x vs H Q=>Gg x vs H Q
theorem f6:MtM X "list.append" VN:=by
 intro ah s σ H x vs v us Q I rx rv h
 obtain⟨l,xs,y,rfl,rfl,hH,hz,q⟩:=h
 cases rx
 obtain⟨u,rfl,ru⟩:=rv.one
 obtain⟨z,its,n,r,hl,e⟩:=I.HX hH
 refine call_meets F.slot_list_append ⟨_,e,O⟩ F.entry_list_append (F.args_list_append_2 _ _) (PySem.list_append l its.toArray n u (by rw[aN];omega)) ⟨e,?_⟩
 refine⟨.cJ,_,I.Su (its':=its ++ [u]) hH e (by simp) (r.append (.cons ru .nil)) ?_,O,q⟩
 rw[aK,fU]
 omega
inductive Gf (x:V) (vs:List V) (H:Hp) (Q:VK):Prop
 | mk:∀ l b xs zs,(x = .ref l)->(vs = [.ref b])->(H l=some (.lst xs))->(H b=some (.lst zs))->(xs.length+zs.length<=sizeLine)->(Q .cJ (upd H l (.lst (xs ++ zs))))->Gf x vs H Q
def VM:V->List V->Hp->VK->Prop:=fun x vs H Q=>Gf x vs H Q
theorem Fs:MtM X "list.extend" VM:=by
 intro ah s σ H x vs v us Q I rx rv h
 obtain⟨l,b,xs,zs,rfl,rfl,hH,hB,hz,q⟩:=h
 cases rx
 obtain⟨u,rfl,ru⟩:=rv.one
 cases ru
 obtain⟨z,its,n,r,hl,e⟩:=I.HX hH
 obtain⟨z2,Nt,n2,r2,hl2,e2⟩:=I.HX hB
 have hsz:its.toArray.size+Nt.toArray.size<=sizeLine:=by rw[aN,aN];omega
 have ND:¬ (!its.toArray.isEmpty && jN (its.toArray.size+Nt.toArray.size))=true:=by
  rw[HL hsz,Bool.and_false]
  exact bb
 refine call_meets F.slot_list_extend ⟨_,e,O⟩ F.entry_list_extend (F.args_list_extend_2 _ _)
  (AutoSeq1.list_extend_list_list_0 l its.toArray n b Nt.toArray n2 ND (by rw[aN];omega) (by omega)) ⟨e,e2,?_⟩
 refine⟨.cJ,_,I.Su (its':=its ++ Nt) hH e (by simp) (r.append r2) ?_,O,q⟩
 rw[aK]
 omega
inductive Q8 (x:V) (vs:List V) (H:Hp) (Q:VK):Prop
 | mk:∀ l xs y,(x = .ref l)->(vs = [])->(H l=some (.lst xs))->(xs[xs.length - 1]? = some y)->(Q y (upd H l (.lst xs.dropLast)))->Q8 x vs H Q
def afg:V->List V->Hp->VK->Prop:=fun x vs H Q=>Q8 x vs H Q
theorem Yp:MtM X "list.pop" afg:=by
 intro ah s σ H x vs v us Q I rx rv h
 obtain⟨l,xs,y,rfl,rfl,hH,hy,q⟩:=h
 cases rx
 have hus:=rv.zero
 subst hus
 obtain⟨z,its,n,r,hl,e⟩:=I.HX hH
 obtain⟨u,hu,ru⟩:=r.get hy
 have hy':its.toArray[its.toArray.size - 1]? = some u:=by
  show its.toArray[its.length - 1]? = some u
  rw[<- fV, <- hl]
  exact hu
 refine call_meets F.slot_list_pop ⟨_,e,O⟩ F.entry_list_pop (F.args_list_pop_1 _) (MeetsSeq.list_pop_last l its.toArray n u hy' (by rw[aN];omega)) ⟨e,?_⟩
 refine⟨y,_,I.Su (its':=its.dropLast) hH e ?_ r.dropLast ?_,ru,q⟩
 ·show its.toArray.eraseIdxIfInBounds (its.toArray.size - 1)=its.dropLast.toArray
  rw[aN,List.eraseIdxIfInBounds_toArray,NT]
 ·rw[List.length_dropLast]
  omega
inductive Q7 (x:V) (y:V) (H:Hp) (Q:VK):Prop
 | mk:∀ l k xs,(x = .ref l)->(y = .int k)->(H l=some (.lst xs))->(-(2 ^ 63)<=k)->(k < 2 ^ 63)->(xs.length * k.toNat<=sizeLine)->(∀ p,H p=none->Q (.ref p) (upd H p (.lst (bY k.toNat xs).flatten)))->Q7 x y H Q
def aff:R2:=fun x y H Q=>Q7 x y H Q
theorem Wk {α : Type} (xs:List α) (k:Nat):(bY k xs).flatten.length=k * xs.length:=by
 induction k with
 | zero=>simp
 | succ k ih=>rw[gE,kO,aK,ih,vg,Nat.add_comm]
theorem X8:l6 X (binaryOp .Mult) aff:=by
 intro ah s σ H x y v u Q I rx ry h
 obtain⟨l,k,xs,rfl,rfl,hH,h1,h2,hz,q⟩:=h
 cases rx
 obtain⟨t,rfl⟩:=ry
 obtain⟨z,its,n,r,hl,e⟩:=I.HX hH
 have eg:its.toArray.size * k.toNat<=sizeLine:=by rw[aN, <- hl];exact hz
 have af8:¬ its.toArray.size * k.toNat > (2 ^ 63 - 1) / 8:=by
  have:(sizeLine:Nat)<=(2 ^ 63 - 1) / 8:=by decide
  omega
 have NF:¬ (!Builtin.List.listFitsIndex k)=true:=by
  rw[fitsIndex_both h1 h2]
  exact bb
 have ND:¬ jN (its.toArray.size * k.toNat)=true:=by
  rw[HL eg]
  exact bb
 have SX:DK (fun x1 x2=>x1 ++ x2) #[] (bY (if its.toArray.isEmpty=true then 0 else k.toNat) its.toArray)=(bY k.toNat its).flatten.toArray:=by
  have f0:∀ m:Nat,DK (fun x1 x2=>x1 ++ x2) #[] (bY m its.toArray)=(bY m its).flatten.toArray:=fun m=>by
   have:=foldl_rep its m []
   rw[pZ]at this
   exact this
  rw[f0]
  cases its with
  | nil=>simp
  | cons a r'=>rw[if_neg (by simp)]
 refine wpAny_binaryOp_repeat_ref (T := "list") (U := "int") (by decide) ⟨_,e,O⟩ (fun s'=>typeIs_int s' k t) noFill_list_mul F.fills_int_mul F.slot_int_rmul repeat_list F.slot_int_index.lookup
  (call_meets F.slot_int_rmul (typeIs_int s k t) F.entry_int_rmul (F.args_int_rmul_2 _ _) (int___rmul___int_list k t l its.toArray n)
   ⟨e,O,⟨_,e,O⟩,call_meets F.slot_list_mul ⟨_,e,O⟩ F.entry_list_mul (F.args_list_mul_2 _ _) (AutoListH.list___mul___list_int_3 l its.toArray n k t NF af8 ND) ⟨e,?_⟩⟩)
 rw[SX]
 exact⟨.ref _,_,I.Sv (t':=s.toks) (r.rep k.toNat) (by rw[Wk,Aa];exact hz),O,q _ I.fresh⟩
end
section
variable {prog:Program}{w:World}{A:Around}{E:Value->Shared->Prop}{s:Shared}
end
section
variable {X:Cx}
end
end L2
namespace Att
open PySem PySem.W PySem.Calls PyProof.Rows
theorem CU {P:Params}{h:Heap}:∀ (ns:List Int) (vs:List Value),WellAll P h vs (ns.map v5)->IntsAre vs ns:=by
 intro ns
 induction ns with
 | nil =>
  intro vs w
  rw[fB]at w
  cases w
  exact .nil
 | cons n ns ih =>
  intro vs w
  rw[aS]at w
  cases w with
  | cons a b =>
   cases a
   exact .cons _ _ (ih _ b)
theorem ON {l:OpenLaw}{n:Nat} (hn:l.most=some n) {P:Params}{h:Heap}{args:List WData}{vals:List Value}
  (NB:l.row.toRowW.claim.pre args=true) (YW:WellAll P h vals args) :
  ∃ a vs ns,vals = [aQ a]∧args = [Dz (ns.map v5)]∧h.get? a=some { cls := .type "list",data := .seq vs.toArray }∧IntsAre vs ns∧ns.length<=n:=by
 have hsh:WShape.hasAll [] args [.list .int]=true:=(pre_splitW NB).1
 have hc:l.pre.holds [] { args:=args }=true:=(pre_splitW NB).2
 obtain⟨d,r,rfl,h1,h2⟩:=hasAllW_cons hsh
 obtain rfl:=hasAllW_nil h2
 obtain⟨xs,rfl,h3⟩:=hasW_list h1
 obtain⟨ns,rfl⟩:=items_int h3
 have eg:ns.length<=n:=by
  unfold OpenLaw.pre at hc
  have h4:(WTm.not (.lt (.lit (.int (n:Int))) (.len (.arg 0)))).holds [] { args := [.list (ns.map .int)] }=true:=by
   have h4:=(holds_andW hc).1
   rw[hn]at h4
   exact h4
  have h5:=condW_of h4 (w_not (w_lt w_lit (w_len_list (w_arg rfl))))
  rw[ar]at h5
  refine oH fun q =>?_
  have q':(n:Int) < ((ns.length:Nat):Int):=by omega
  first
   | (rw[decide_eq_true q']at h5;exact absurd h5 (by decide))
   | (simp at h5;omega)
 cases YW with
 | cons w1 w2 =>
  cases w2
  cases w1 with
  | list ho iR=>exact⟨_,_,ns,O,O,ho,CU ns _ iR,eg⟩
theorem OU (l:OpenLaw) (args:List WData):l.row.toRowW.claim.post args (.bool true) args=true :=
 postW_of (r:=l.row.toRowW) (X:=(true == true))
  (show WShape.has [] (.bool true) .bool=true by first | rfl | decide | simp[WShape.has,WShape.arms,WShape.armsAll])
  (show (WTm.eq .res (.lit (.bool true))).value [] { args:=args,res:=some (.bool true),after:=args }=some (.bool (true == true)) from w_eq_bool (w_res rfl) w_lit) rfl
section
variable {prog:Program}{w:World}{A:Around}{E:Value->Shared->Prop}{s:Shared}{K:Frag}
end
end Att
namespace L2
open PySem PySem.Spec PyProof.Rows
theorem E4:∀ {vs:List Value}{ns:List Int},IntsAre vs ns->Vals (ns.map V.int) vs
 | _,_,.nil => .nil
 | _,_,.cons n t h => .cons ⟨t,O⟩ (E4 h)
def oV (s:Stmt) (j:Nat):Stmt:=match s with
 | .ClassDef _ _ _ body _ _ _ _ _ _ _=>body.getD j (.Pass ⟨0,0,0,0⟩)
 | _ => .Pass ⟨0,0,0,0⟩
def jf (s:Stmt):Arguments:=match s with
 | .FunctionDef _ a _ _ _ _ _ _ _ _=>a
 | _=>{ posonlyargs := [],args := [],vararg:=none,kwonlyargs := [],kw_defaults := [],kwarg:=none,defaults := [] }
def fT (s:Stmt):List Stmt:=match s with
 | .FunctionDef _ _ b _ _ _ _ _ _ _=>b
 | _ => []
def aX (s:Stmt):Scope:=match s with
 | .FunctionDef _ _ _ _ _ _ sc _ _ _=>sc
 | _=>{ kind := .function,names := [],isGenerator:=false,isCoroutine:=false }
abbrev DQ:wk:=fun _ _ _ _ _ _=>False
abbrev E0:XK:=fun _ _ _=>False
theorem abN {X:Cx}:Passes DQ X E0:=fun _ _ _ _ _ _ _ h=>h.elim
structure Ah (K:ao) (x qual:Str) (st:Stmt) (f:Addr) (fd:FuncData):Prop where
 ex:∃ (oc:Value) (od:Option Addr) (kV doc pm:Value) (an:Option Addr) (cO ct:Value) (yA:Array (Option Value)),
  fd=dU x qual (jf st) (fT st) (aX st) .none kV doc pm an cO ct∧K.lookup f=some ⟨oc,od,.func fd,yA⟩∧g9 K cO qual=true
 kp:dw K (.ref f)=true
section
variable {P:Program}{w:World}{K:ao}{mg:Str->Option Value}{base:Heap}{CB CF CH CS CN CE CM tB:Addr}
theorem Ah.ok {x qual:Str}{st:Stmt}{f:Addr}{fd:FuncData}{N ps:List Str}{k:Nat}{sp:Sp} (F:Ah K x qual st f fd) (S:cF N ps (aX st)) (len:∀ vs H Q E,sp vs H Q E->vs.length=ps.length)
  (nB:∀ (cO:Value) (A:Around) (outer:List Env) (s:Shared) (H:Hp) (vs:List V) (Q:VK) (E:XK),eZ k (A.deeper (envOfC qual (aX st) s.heap.objs.size f cO))->sp vs H Q E ->
   ∃ t,pV (dQ DQ P w K mg base N qual (aX st) f cO A outer s H E).HJ (fT st) t∧t { nx:=fun _ H'=>Q .cJ H',rt:=Q } (start N vs) H):lC P w K mg base DQ (k+1) f fd ps sp:=by
 obtain⟨oc,od,kV,doc,pm,an,cO,ct,yA,rfl,lk,mZ⟩:=F.ex
 refine NO lk mZ S len fun A outer s H vs Q E hr yE =>?_
 obtain⟨t,h,q⟩:=nB cO A outer s H vs Q E hr yE
 exact⟨t,h.HJ,q⟩
theorem Ah.binds {x qual:Str}{st:Stmt}{f:Addr}{fd:FuncData}{ps:List Str} (F:Ah K x qual st f fd)
  (h:∀ (kV doc pm:Value) (an:Option Addr) (cO ct:Value) (us:List Value),us.length=ps.length->bindArgs (dU x qual (jf st) (fT st) (aX st) .none kV doc pm an cO ct) ⟨us, []⟩=pure (ps.zip us)):Binds K fd ps []:=by
 obtain⟨oc,od,kV,doc,pm,an,cO,ct,yA,rfl,lk,mZ⟩:=F.ex
 exact .all (h kV doc pm an cO ct)
theorem uT {x qual:Str}{st:Stmt}{f:Addr}{oc:Value}{od an:Option Addr}{yA:Array (Option Value)}{kV doc pm cO ct:Value} (l:K.lookup f=some ⟨oc,od,.func (dU x qual (jf st) (fT st) (aX st) .none kV doc pm an cO ct),yA⟩)
  (c:g9 K cO qual=true) (k:dw K (.ref f)=true):Ah K x qual st f (dU x qual (jf st) (fT st) (aX st) .none kV doc pm an cO ct):=⟨⟨oc,od,kV,doc,pm,an,cO,ct,yA,O,l,c⟩,k⟩
end
theorem AB {A:Around}{k:Nat} (hr:eZ k A):A.units+1 < cLine:=gf (yR (by decide:1<=64) _) hr.units
theorem c6 {n:Nat} (h:n<=1000):n < sizeLine:=gf h (by decide)
section
variable {X:Cx}
theorem pv (i:Nat) {x:Str}{pos:Pos} (hN:X.N[i]? = some x:=by rfl) (hv:Md X.env.scope x:=by first | exact aM rfl | exact zZ (aM rfl) | exact zZ (zZ rfl)) (hd:(x == ("__debug__" : Str))=false:=by decide)
  (mZ:(x == ("__classdict__" : Str))=false:=by decide):PE X (.Name x pos) (W3 i):=X1 hN hv hd mZ
end
theorem gO {A B:Prop} (h:B):if false=true then A else B:=by
 rw[if_neg bb]
 exact h
theorem pJ {A B:Prop} (h:A):if true=true then A else B:=by
 rw[if_pos rfl]
 exact h
def bu (H H':Hp):Prop := ∀ b o,H b=some o->H' b=some o
theorem bu.refl (H:Hp):bu H H:=fun _ _ h=>h
theorem bu.trans {H H1 H2:Hp} (a:bu H H1) (b:bu H1 H2):bu H H2:=fun c o h=>b c o (a c o h)
theorem bu.free {H H':Hp} (e:bu H H') {l:Addr} (h:H' l=Option.none):H l=Option.none:=by
 cases q:H l with
 | none=>rfl
 | some o =>
  rw[e l o q]at h
  cases h
theorem bu.seq {K:ao} {H H':Hp}{a:Addr}{xs:List V} (e:bu H H') (h:aZ K H a xs):aZ K H' a xs:=by
 rcases h with(h | ⟨o,h⟩) | h
 ·exact .inl (.inl (e _ _ h))
 ·exact .inl (.inr ⟨o,e _ _ h⟩)
 ·exact .inr h
section
variable {X:Cx}{ah:List (Addr × Obj)}{σ : St}{H:Hp}{s:Shared} {h':Heap}
theorem Inv.Cf {ch:List Addr}{a:Addr}{o:HO} {t':Nat} (I:Inv X ah σ H s) (k:∀ b u,b ∉ ch->s.heap.get? b=some u->h'.get? b=some u)
  (vN:∀ b∈ch,nQ X ah H b) (hp:s.heap.objs.size<=a) (new:dy X.prog X.w (upd H a o) h' a o):Inv X ah σ (upd H a o) { s with heap:=h',toks:=t' }:=by
 have P1:H a=none:=I.bh.fresh hp
 have old:∀ b ob,s.heap.get? b=some ob->b≠a:=fun b ob e z=>by subst z;exact absurd (bP (aV e) hp) (eM _)
 have tr:∀ b u,H b=some u->b≠a:=fun b u e z=>by rw[z,P1]at e;cases e
 have trc:∀ b u,H b=some u->b ∉ ch:=fun b u e z=>by rw[(vN b z).1]at e;cases e
 refine I.step (g':=s.gens) (d':=s.drawn) (ch:=ch) (fun b hb =>?_) (fun b ob _ _ hc e _=>k b ob hc e) (fun b ob _ _ hc e _=>⟨ob.slots,k b ob hc e⟩) (fun b ob _ e n =>?_)
  (fun b ob hc e=>⟨ob,k b ob hc e⟩) (fun b xs e =>?_) (fun b ob u e =>?_) (fun b ps e=>⟨#[],?_⟩) (fun m hm =>?_) (fun b u e =>?_) I.bare
 ·obtain⟨_,f1,_,f3,f4,f5⟩:=vN b hb
  exact⟨f3,f1,f4,f5⟩
 ·rw[aF (old b ob e)];exact n
 ·rw[aF (tr b _ e)];exact e
 ·rw[aF (tr b _ e)];exact e
 ·rw[aF (tr b _ e),e];simp
 ·obtain⟨ob,es,ep,ho,r⟩:=hm
  exact⟨ob,es,ep,k _ ob (fun z=>(vN _ z).2.1 rfl) ho,r⟩
 ·by_cases hb:b=a
  ·subst hb
   rw[aE]at e;cases e
   exact new
  ·rw[aF hb]at e
   refine(I.bh b u e).uw (fun c v hc q=>k c v ?_ q) (fun c q=>by rw[aF (tr c _ q)];exact q) fun c xs q=>by rw[aF (tr c _ q)];exact q
   rcases hc with z | z
   ·rw[z];exact trc b u e
   ·exact trc c _ z
end
def Ri (K:ao) (a:Addr):It :=
 ⟨fun i H=>∃ xs x,aZ K H a xs∧xs[i]? = some x,
  fun i H x H'=>∃ p v,H p=none∧x = .ref p∧(∀ xs,aZ K H a xs->xs[i]? = some v)∧H'=upd H p (.tup [.int (i:Int),v]),
  fun i H=>∃ xs,aZ K H a xs∧xs.length=i⟩
theorem Oq {P:Program}{w:World}{K:ao}{BP:List Expr}{k:Nat}{tp:Pos} (a e it:Addr) (gv:e≠it) :
  Turn P w K (.Tuple BP k tp) (Ri K a) [e,it] e (fun i h=>(∃ old,IsEnum h e it (i:Int) old)∧h.IsListIter it a i) where
 mem:=by simp
 obj:=fun i h st b hb=>by
  obtain⟨⟨old,he⟩,fS⟩:=st
  rcases aY.mp hb with rfl | hb
  ·exact⟨_,he,fun v z=>by
    have z':Bp _=wj v:=z
    cases z'⟩
  ·have e:b=it:=by simpa using hb
   subst e
   obtain⟨o,e,c,d⟩:=fS
   exact⟨o,e,fun v z=>by rw[d]at z;cases z⟩
 keep:=fun i h h' st k=>by
  obtain⟨⟨old,he⟩,fS⟩:=st
  exact⟨⟨old,k e (by simp) _ he⟩,fS.at fun o q=>k it (by simp) o q⟩
 item:=by
  intro X hP hw hK hc i ah s σ H E I hf st hg
  subst hP hw hK
  obtain⟨⟨old,he⟩,fS⟩:=st
  obtain⟨xs,x,hq,hx⟩:=hg
  obtain⟨its,rv,p,hz⟩:=I.list hq
  obtain⟨u,hu,ru⟩:=rv.get hx
  have ZS:a≠it:=fun z=>by
   obtain⟨o,n,e1,c1,_⟩:=p
   obtain⟨o',e2,c2,_⟩:=fS
   rw[z,e2]at e1;cases e1
   rw[c1]at c2
   exact absurd (jy c2) (by decide)
  have hae:a≠e:=fun z=>by
   obtain⟨o,n,e1,c1,_⟩:=p
   rw[z,he]at e1;cases e1
   exact absurd (jy c1) (by decide)
  have cU:i < its.toArray.size:=by
   rw[aN]
   exact(ai.mp hu).1
  have A8:e < s.heap.objs.size:=aV he
  have hil:it < s.heap.objs.size:=by obtain⟨o,q,_⟩:=fS;exact aV q
  refine wpAny_pyNext_enum_itemD (Draws.list (A:=X.A.in1) (I.ok.hd hc) it a ZS its.toArray) he ⟨fS,p.isList⟩ cU gv (by
   intro z
   rcases aY.mp z with z | z
   ·exact gv z
   ·exact hae (aB.mp z).symm) fun y h1 tk hy ho rQ hT hsz hk =>?_
  have hyu:y=u:=by
   have e1:its[i]? = some y:=by simpa using hy
   rw[hu]at e1
   exact(aH e1).symm
  subst hyu
  refine⟨_,O,wpAny_letOwnedTupleGo_enum ho fun h2 UL jT =>?_⟩
  have kk:∀ b o,b ∉ [e,it]->s.heap.get? b=some o->h2.get? b=some o:=fun b o hb q=>by
   have b1:b≠e:=fun z=>hb (by simp[z])
   have b2:b≠it:=fun z=>hb (by simp[z])
   exact(jT.2 b b1).trans (hk b o b1 b2 q)
  have hTe:s.heap.objs.size≠e:=jH A8
  refine⟨.ref s.heap.objs.size,upd H s.heap.objs.size (.tup [.int (i:Int),x]),?_,O,⟨_,x,I.bh.fresh (au _),O,fun ys hy=>by rw[I.HZ hy hq];exact hx,O⟩,
   ⟨⟨_,by simpa using UL⟩,rQ.1.at fun o q=>(jT.2 it (cM gv)).trans q⟩,fun b hb =>?_⟩
  ·refine I.Cf (ch := [e,it]) (t':=tk+1) kk hf (au _) ⟨by show 2<=sizeLine;decide, [.int (i:Int) tk,y],.cons ⟨_,O⟩ (.cons ru .nil),?_⟩
   exact⟨_,(jT.2 _ hTe).trans hT,O,_,O,O⟩
  ·have tH:=hf b hb
   have:b≠s.heap.objs.size:=by
    rcases aY.mp hb with rfl | hb
    ·exact bH A8
    ·rw[aB.mp hb];exact bH hil
   rw[aF this]
   exact tH.1
 done:=by
   intro X hP hw hK hc i ah s σ H E I hf st hg
   subst hP hw hK
   obtain⟨⟨old,he⟩,fS⟩:=st
   obtain⟨xs,hq,hx⟩:=hg
   obtain⟨its,rv,p,hz⟩:=I.list hq
   have ZS:a≠it:=fun z=>by
    obtain⟨o,n,e1,c1,_⟩:=p
    obtain⟨o',e2,c2,_⟩:=fS
    rw[z,e2]at e1;cases e1
    rw[c1]at c2
    exact absurd (jy c2) (by decide)
   have hl:=rv.length
   have hi:i=its.toArray.size:=by rw[aN];omega
   subst hi
   obtain⟨f0,f1,f2,f3,f4,f5⟩:=hf it (by simp)
   exact wpAny_pyNext_enum_endD (Draws.list (A:=X.A.in1) (I.ok.hd hc) it a ZS its.toArray) he ⟨fS,p.isList⟩ fun h1 eb=>⟨O,I.turned (t':=s.toks) (fun b o hb q=>eb b o hb q) f0 f1 f3 f4 f5⟩
 self:=fun _ _ _ _ _ st h=>by
  obtain⟨⟨old,he⟩,_⟩:=st
  exact wpAny_pyIter_enum he h
inductive MF (K:ao) (R:It->Hp->Prop) (vs:List V) (H1:Hp):Prop
 | mk:∀ a,(vs = [.ref a])->((∃ xs,aZ K H1 a xs))->(R (Ri K a) H1)->MF K R vs H1
def ab4 (K:ao) (ta:TA):TI:=fun σ H R=>ta σ H fun vs H1=>MF K R vs H1
theorem QK:bootBuiltins "enumerate" = some (.type "enumerate"):=by decide +kernel
section
variable {X:Cx}
theorem As {l:Expr}{ta:TA}{BP:List Expr}{k:Nat}{tp p pos:Pos} (hg:Gl X "enumerate") (hm:X.mg "enumerate" = none) (ha:PA X [l] ta) (hs:starEach [l] X.env = [(false,eval l X.env)]:=by rfl) :
  PI X (.Tuple BP k tp) (.Call (.Name "enumerate" p) [l] [] pos) (ab4 X.K ta):=by
 intro ah s σ H R I h
 refine Call_ (pH I hg hm QK (gA (bF (ha pos ah s σ H _ I h) fun us s1 ⟨vs,H1,I1,r1,q1⟩ =>?_) hs rfl))
 obtain⟨a,e,⟨xs,hq⟩,q⟩:=q1
 subst e
 obtain⟨u,rfl,ru⟩:=vals1 r1
 cases ru
 obtain⟨its,rv,pl,hz⟩:=I1.list hq
 refine call_enumerate_list pl.isList fun h1 he fS hsz hk =>?_
 have I2:Inv X ah σ H1 { s1 with heap:=h1 }:=I1.kept (t':=s1.toks) hk
 have gv:s1.heap.objs.size+1≠s1.heap.objs.size:=Nat.succ_ne_self _
 refine wpAny_pyIter_enum (s := { s1 with heap:=h1 }) he ⟨_, [s1.heap.objs.size+1,s1.heap.objs.size],_,_,H1,O,I2,Oq a _ _ gv,⟨⟨_,he⟩,fS⟩,fun b hb =>?_,q⟩
 rcases aY.mp hb with rfl | hb
 ·exact I1.xZ (rn _) (I1.bh.fresh (rn _))
 ·rw[aB.mp hb]
  exact I1.xZ (au _) (I1.bh.fresh (au _))
end
theorem ya {K:ao}{a:Addr}{xs:List V}{g:TG}{tb:TS}{D:Ends}{σ : St}{H:Hp} (Pv:Nat->St->Hp->Prop) (h0:Pv 0 σ H) (hl:∀ i σ H,i<=xs.length->Pv i σ H->aZ K H a xs)
  (hs:∀ i x p σ H,xs[i]? = some x->Pv i σ H->H p=none->g (.ref p) σ (upd H p (.tup [.int (i:Int),x])) fun j0 H2=>tb { D with nx:=Pv (i+1),ct:=Pv (i+1),bk:=D.nx } j0 H2) (hd:∀ σ H,Pv xs.length σ H->D.nx σ H) :
  ∃ W:Nat->Nat->St->Hp->Prop,(∃ m,W 0 m σ H)∧∀ i m σ H,W i m σ H ->
   ((Ri K a).stop i H∧D.nx σ H)∨((Ri K a).go i H∧∃ N:St->Hp->Prop,(∀ br H',N br H'->∃ m',m' < m∧W (i+1) m' br H')∧∀ x H',(Ri K a).yX i H x H'->g x σ H' fun j0 H2=>tb { D with nx:=N,ct:=N,bk:=D.nx } j0 H2):=by
 refine⟨fun i m σ H=>m=xs.length - i∧i<=xs.length∧Pv i σ H,⟨xs.length,by simp,bA _,h0⟩,?_⟩
 rintro i m σ H ⟨rfl,hi,p⟩
 have q:=hl i σ H hi p
 by_cases cU:i < xs.length
 ·refine .inr ⟨⟨xs,xs[i],q,by simp[cU]⟩,Pv (i+1),fun br H' p'=>⟨xs.length - (i+1),by omega,O,cU,p'⟩,fun x H' y =>?_⟩
  obtain⟨pa,v,oW,rfl,hv,rfl⟩:=y
  exact hs i v pa σ H (hv xs q) p oW
 ·have e:i=xs.length:=by omega
  subst e
  exact .inl ⟨⟨xs,q,O⟩,hd σ H p⟩
section
variable {X:Cx}
inductive Q5 (x:V) (lo:Option Int) (hi:Option Int) (H:Hp) (Q:VK):Prop
 | mk:∀ z,(x = .str z)->(z.length<=sizeLine)->(Q (.str (g6 z lo hi)) H)->Q5 x lo hi H Q
def afc:V->Option Int->Option Int->Hp->VK->Prop:=fun x lo hi H Q=>Q5 x lo hi H Q
theorem Hg:Vj X afc:=by
 intro ah s σ H x v vl vu lo hi sl Q I rx hs pl pu h
 obtain⟨z,rfl,hz,q⟩:=h
 obtain⟨t,rfl⟩:=rx
 refine⟨"str",_,F.slot_str_getitem.lookup,typeIs_str _ _ _,?_⟩
 obtain⟨o,ho,hc,hd⟩:=hs
 have fin:∀ t' k,EP X ah σ Q (.str (g6 z lo hi) t') { s with toks:=k }:=fun t' k=>⟨.str _,H,I.tok _,⟨_,O⟩,q⟩
 cases pl with
 | none =>
  cases pu with
  | none=>exact wpAny_getItem_str_slice (l:=none) (u:=none) (st:=none) ⟨o,ho,hc,hd⟩ rfl (post_val_or_str ⟨bq (u5 z _ _) hz,fin⟩)
  | int j uj=>exact wpAny_getItem_str_slice (l:=none) (u:=some (j,uj)) (st:=none) ⟨o,ho,hc,hd⟩ rfl (post_val_or_str ⟨bq (u5 z _ _) hz,fin⟩)
 | int i ui =>
  cases pu with
  | none=>exact wpAny_getItem_str_slice (l:=some (i,ui)) (u:=none) (st:=none) ⟨o,ho,hc,hd⟩ rfl (post_val_or_str ⟨bq (u5 z _ _) hz,fin⟩)
  | int j uj=>exact wpAny_getItem_str_slice (l:=some (i,ui)) (u:=some (j,uj)) (st:=none) ⟨o,ho,hc,hd⟩ rfl (post_val_or_str ⟨bq (u5 z _ _) hz,fin⟩)
inductive DM (kK:ao) (xs:List V) (H:Hp) (Q:VK):Prop
 | mk:∀ x T t b,(xs = [x,.ty T])->(qP kK H x t)->(lz kK t (.type T)=some b)->(Q (.bl b) H)->DM kK xs H Q
theorem oE:nG X (.builtin "isinstance") (fun xs H Q=>DM X.K xs H Q):=by
 intro ah s σ H xs us Q I r h
 obtain⟨x,T,t,b,rfl,ty,e,q⟩:=h
 obtain⟨u,w',rfl,rx,ry⟩:=vals2 r
 cases ry
 exact PH I rx ty e fun tk=>⟨.bl b,H,I.tok _,O,q⟩
end
def i7 (cells:List (Str × Addr)):List (Str × NameKind)->List (Str × Addr)->List (Str × Addr)
 | [],acc=>acc
 | (n,k) :: r,acc=>if k == .free then (match cells.lookup n with | some c=>i7 cells r ((n,c) :: acc) | none=>i7 cells r acc) else i7 cells r acc
theorem pQ {cells:List (Str × Addr)}:∀ {names:List (Str × NameKind)}{acc:List (Str × Addr)}{x:Str}{c:Addr},(∀ x c,acc.lookup x=some c->cells.lookup x=some c)->(i7 cells names acc).lookup x=some c->cells.lookup x=some c
 | [],_,x,c,ha,h=>ha x c h
 | (n,k) :: r,acc,x,c,ha,h=>by
  unfold i7 at h
  by_cases hk:(k == fz)=true
  ·rw[if_pos hk]at h
   cases e:cells.lookup n with
   | none =>
    rw[e]at h
    exact pQ ha h
   | some d =>
    rw[e]at h
    refine pQ (fun y z hy =>?_) h
    rw[gS]at hy
    cases q:y == n with
    | true =>
     rw[q]at hy
     have:y=n:=by simpa using q
     rw[this,e];exact hy
    | false =>
     rw[q]at hy
     exact ha y z hy
  ·rw[if_neg hk]at h
   exact pQ ha h
theorem tX {cells:List (Str × Addr)}:∀ {names:List (Str × NameKind)}{acc:List (Str × Addr)}{x:Str},(acc.lookup x).isSome=true->((i7 cells names acc).lookup x).isSome=true
 | [],_,_,h=>h
 | (n,k) :: r,acc,x,h=>by
  unfold i7
  by_cases hk:(k == fz)=true
  ·rw[if_pos hk]
   cases e:cells.lookup n with
   | none=>exact tX h
   | some d =>
    refine tX ?_
    rw[gS]
    cases q:x == n with
    | true=>rfl
    | false=>exact h
  ·rw[if_neg hk];exact tX h
theorem pP {cells:List (Str × Addr)}:∀ {names:List (Str × NameKind)}{acc:List (Str × Addr)}{x:Str},(x,fz)∈names->(cells.lookup x).isSome=true->((i7 cells names acc).lookup x).isSome=true
 | [],_,_,h,_=>nomatch h
 | (n,k) :: r,acc,x,h,hc=>by
  unfold i7
  rcases aY.mp h with e | h
  ·cases e
   rw[if_pos (show (fz == fz)=true from rfl)]
   cases e:cells.lookup n with
   | none=>rw[e]at hc;cases hc
   | some d =>
    refine tX ?_
    rw[gS]
    simp
  ·by_cases hk:(k == fz)=true
   ·rw[if_pos hk]
    cases e:cells.lookup n with
    | none=>exact pP h hc
    | some d=>exact pP h hc
   ·rw[if_neg hk];exact pP h hc
theorem j8 {cells:List (Str × Addr)}{names:List (Str × NameKind)}{x:Str}{c:Addr} (h:(i7 cells names []).lookup x=some c):cells.lookup x=some c :=
 pQ (fun _ _ z=>by simp at z) h
theorem yb {env:Env}:∀ (names:List (Str × NameKind)) (acc:List (Str × Addr)),(∀ y∈names,y.2 = .free->∃ c,env.cells.lookup y.1=some c) ->
  (forIn names acc fun x r=>match x with
   | (name,kind)=>if (kind == fz)=true then (do let c <- cellOf env name;pure (qg ((name,c) :: r))) else pure (qg r):Sem (List (Str × Addr)))=pure (i7 env.cells names acc)
 | [],acc,_=>rfl
 | (n,k) :: r,acc,h=>by
  have hr:∀ y∈r,y.2 = .free->∃ c,env.cells.lookup y.1=some c:=fun y hy=>h y (aW _ hy)
  rw[wc]
  by_cases hk:(k == fz)=true
  ·have ek:k = .free:=by simpa using hk
   obtain⟨c,hc⟩:=h (n,k) bg ek
   have e1:cellOf env n=pure c:=by
    have qu:env.cells.lookup n=some c:=hc
    unfold cellOf
    rw[qu]
   unfold i7
   rw[if_pos hk]
   have qu:env.cells.lookup n=some c:=hc
   rw[qu]
   simp only[hk,if_true,e1]
   exact yb r ((n,c) :: acc) hr
  ·unfold i7
   rw[if_neg hk]
   simp only[hk]
   exact yb r acc hr
theorem zU {scope:Scope}{env:Env} (h:∀ y∈scope.names,y.2 = .free->∃ c,env.cells.lookup y.1=some c):closureFor scope env=pure (i7 env.cells scope.names []):=by
 have e:=yb scope.names [] h
 unfold closureFor
 show (Bind.bind (forIn scope.names [] fun x r=>match x with
   | (name,kind)=>if (kind == fz)=true then (do let c <- cellOf env name;pure (qg ((name,c) :: r))) else pure (qg r):Sem (List (Str × Addr))) fun r=>pure r)=_
 rw[e]
 rfl
theorem zq {scope:Scope}{env:Env}{x:Str} (hc:∀ y∈scope.names,y.2 ≠ .cell) (h:(relabel scope env).names.lookup x=some .cell∨(relabel scope env).names.lookup x=some .free):(x,fz)∈scope.names:=by
 unfold relabel at h
 simp only at h
 generalize scope.names=names at h hc
 induction names with
 | nil=>rcases h with h | h <;> cases h
 | cons y r ih =>
  obtain⟨n,k⟩:=y
  have hr:∀ y∈r,y.2≠NameKind.cell:=fun y hy=>hc y (aW _ hy)
  rw[aS]at h
  by_cases hk:(k == fz && env.scope.kind == .function && env.kindOf n == some .cell)=true
  ·simp only[hk,if_true,gS]at h
   cases q:x == n with
   | true =>
    have e:x=n:=by simpa using q
    have ek:k = .free:=by
     have:=(gq.mp (gq.mp hk).1).1
     simpa using this
    rw[e,ek];exact bg
   | false =>
    rw[q]at h
    exact aW _ (ih h hr)
  ·simp only[hk,dP,if_false,gS]at h
   cases q:x == n with
   | true =>
    rw[q]at h
    have e:x=n:=by simpa using q
    have hk0:k ≠ .cell:=hc (n,k) bg
    rcases h with h | h
    ·exact absurd (aH h) hk0
    ·rw[e,aH h];exact bg
   | false =>
    rw[q]at h
    exact aW _ (ih h hr)
theorem vH {scope:Scope}{env:Env}{x:Str} (h:scope.names.lookup x=some .free):(relabel scope env).names.lookup x=some .cell∨(relabel scope env).names.lookup x=some .free:=by
 unfold relabel
 simp only
 generalize scope.names=names at h
 induction names with
 | nil=>cases h
 | cons y r ih =>
  obtain⟨n,k⟩:=y
  rw[aS]
  rw[gS]at h
  by_cases hk:(k == fz && env.scope.kind == .function && env.kindOf n == some .cell)=true
  ·simp only[hk,if_true,gS]
   cases q:x == n with
   | true=>exact .inl rfl
   | false=>rw[q]at h;exact ih h
  ·simp only[hk,dP,if_false,gS]
   cases q:x == n with
   | true=>rw[q]at h;exact .inr h
   | false=>rw[q]at h;exact ih h
def dS (X:Cx) (scope:Scope) (N:List Str) (fp:List Addr) (s:Shared) (H:Hp):Cx :=
 { X with N:=N,kR := s,Ag := H,env:=compEnvC scope (i7 X.env.cells scope.names []) s.heap.objs.size X.env,outer:=X.stack,ex:=fp,fn:=fun _=>false,pn := [],xe:=fun _ _=>False }
structure kr (X:Cx) (scope:Scope) (own:List Str) (caps:List (Str × Nat)):Prop where
 kind:scope.kind = .function
 CC:∀ y∈scope.names,y.2 ≠ .cell
 locs:∀ y∈scope.names,y.2 = .local->scope.names.lookup y.1=some .local
 frees:∀ y∈scope.names,y.2 = .free->X.env.kindOf y.1=some .cell
 own:∀ x∈own,scope.names.lookup x=some .local
 caps:∀ p∈caps,X.N[p.2]? = some p.1∧X.env.kindOf p.1=some .cell∧scope.names.lookup p.1=some .free
def jV (σ : St) (caps:List (Str × Nat)):St:=caps.map fun p=>(σ[p.2]?).join
section
variable {X:Cx}{scope:Scope}{own:List Str}{caps:List (Str × Nat)}{ah:List (Addr × Obj)}{σ : St}{H:Hp}{s:Shared}{fp:List Addr}
theorem WB (S:kr X scope own caps) (I:Inv X ah σ H s) (hf:∀ b∈fp,nQ X ah H b) (hl:∀ b∈fp,b < s.heap.objs.size):(dS X scope (own ++ caps.map (·.1)) fp s H).Ok where
 mod:=I.ok.mod
 kind:=S.kind
 glob:=I.ok.glob
 blt:=I.ok.blt
 above:=au _
 inj:=fun x y c h1 h2=>I.ok.inj x y c (j8 h1) (j8 h2)
 has:=fun x h=>by
  have hm:=zq S.CC h
  obtain⟨c,hc⟩:=I.ok.has x (.inl (S.frees _ hm rfl))
  exact jG.mp (pP hm (by rw[hc];rfl))
 F1:=fun x c h _=>nomatch h
 hd:=I.ok.hd
 frames:=I.ok.frames
 G0 := .inl rfl
 Qq:=fun b hb=>⟨bH (hl b hb),fun x c h=>(hf b hb).2.2.2.2.1 x c (j8 h)⟩
 bs:=I.bs
 yK:=bq I.ok.yK I.sz
 zx:=fun b o e hb=>by
  rcases(hf b hb).2.2.2.1 with z | z
  ·exact I.ok.zx b o e z
  ·exact absurd (bP (bP (aV e) I.ok.yK) z) (eM _)
 BO:=fun b hb z=>by
  rcases aY.mp (I.za b z) with e | e
  ·exact(hf b hb).2.1 e
  ·exact(hf b hb).2.2.1 e
 oA:=I.stack
 Bf:=I.DZ
theorem Dq (S:kr X scope own caps) (I:Inv X ah σ H s) (hf:∀ b∈fp,nQ X ah H b) (hl:∀ b∈fp,b < s.heap.objs.size) {h1:Heap}{m:Str->Option Value}{t:Nat} (hn:h1.Ns s.heap.objs.size m)
  (hk:∀ b o,s.heap.get? b=some o->h1.get? b=some o):Inv (dS X scope (own ++ caps.map (·.1)) fp s H) [] (bY own.length none ++ jV σ caps) H { s with heap:=h1,toks:=t }:=by
 refine⟨WB S I hf hl,O,I.bare,Un.kept hk,⟨m,hn,fun i y v e1 e2 e3 =>?_⟩,fun x c e =>?_,I.bh.fresh (au _),fun x c e=>I.om x c (j8 e),(fun p hp=>by cases hp),I.bh.kept hk,?_⟩
 ·have hi:own.length<=i:=by
   by_cases hi:i < own.length
   ·rw[fN (by simpa using hi),vA,if_pos hi]at e2
    cases e2
   ·omega
  rw[l9 (by simpa using hi),xo]at e2
  unfold jV at e2
  rw[aG]at e2
  have e1':(own ++ caps.map (·.1))[i]? = some y:=e1
  rw[l9 hi,aG]at e1'
  cases q:caps[i - own.length]? with
  | none=>rw[q]at e2;cases e2
  | some p =>
   rw[q]at e1' e2
   have ey:p.1=y:=aH e1'
   have ev:(σ[p.2]?).join=some v:=aH e2
   have eσ : σ[p.2]? = some (some v):=by
    cases z : σ[p.2]? with
    | none=>rw[z]at ev;cases ev
    | some w'=>rw[z]at ev;rw[show w'=some v from ev]
   obtain⟨hN,C4,AE⟩:=S.caps p (ak q)
   rw[ey]at hN C4 AE
   obtain⟨mX,hnX,hlX⟩:=I.loc
   obtain⟨u,ru,lk⟩:=hlX p.2 y v hN eσ (.inr (.inl C4))
   refine⟨u,ru,?_⟩
   rcases lk with⟨k1,_⟩ | ⟨_,c,hc,iJ⟩
   ·rw[C4]at k1;cases k1
   ·have hm:=zq S.CC (vH (env:=X.env) AE)
    obtain⟨c',qu⟩:=jG.mp (pP (acc := []) hm (by rw[hc];rfl))
    have:=j8 qu
    rw[hc]at this;cases this
    obtain⟨o,ho,hd⟩:=iJ
    exact .inr ⟨vH (env:=X.env) AE,c,qu,⟨o,hk _ _ ho,hd⟩⟩
 ·obtain⟨v,o,ho,hd⟩:=I.cell x c (j8 e)
  exact⟨v,o,hk _ _ ho,hd⟩
 ·show _=(own ++ caps.map (·.1)).length
  simp[jV]
theorem FY {N:List Str}{τ : St} {H':Hp} {s':Shared} (I:Inv X ah σ H s) (J:Inv (dS X scope N fp s H) [] τ H' s') (hf:∀ b∈fp,nQ X ah H b):Inv X ah σ H' s' :=
 I.Vd (ch:=fp) J.os J.base J.bh J.bare fun b hb=>by
  obtain⟨_,f1,_,f3,f4,f5⟩:=hf b hb
  exact⟨f3,f1,f4,f5⟩
theorem WC {prog:Program}{w:World}{A:Around}{R:Result->Shared->Prop}{jD mQ iter:Expr}{pos:Pos}{it acc:Value}{env:Env} (Iv:Nat->Shared->Prop)
  (turn:∀ n s,Iv n s->wpAny (model prog w) A (pyNext it) (fun r eE => match r with
   | none=>R (.ok .next) eE
   | some v=>wpAny (model prog w) A (letOwnedTupleGo mQ it v) (fun _ hX => wpAny (model prog w) A (assign mQ env v) (fun _ mq => wpAny (model prog w) A (eval jD env) (fun x GZ =>
       wpAny (model prog w) A (call (.builtin "list.append") [acc,x]) (fun _ GY => ∃ m,m < n∧Iv m GY) (fun _ _=>False) GZ) (fun _ _=>False) mq) (fun _ _=>False) hX) (fun _ _=>False) eE) (fun _ _=>False) s)
  (n:Nat) (h:Iv n s):codeAny (model prog w) A (.compLoop (.ListComp jD [⟨mQ,iter, [],0⟩] scope pos) 0 it acc env) R s:=by
 refine codeAny_loop rfl Iv (fun n s hI =>?_) n h
 show wpAny _ A ((compTurn (.ListComp jD [⟨mQ,iter, [],0⟩] scope pos) 0 it acc env).onRaise (fun x=>do noteFrame x env;theTreesLotGoes x)) _ _ s
 refine wpAny_noted ?_
 rw[compTurn_list]
 refine wpAny_bind (wpAny_standAt (wpAny_bind (wpAny_mono (turn n s hI) (fun r eE iI =>?_) fun _ _ z=>z.elim)))
 cases r with
 | none=>exact wpAny_pure iI
 | some v =>
  refine wpAny_bind (wpAny_mono iI (fun _ hX sJ => wpAny_bind (wpAny_mono sJ (fun _ mq Iu => wpAny_bind (wpAny_tests_nil ?_)) fun _ _ z=>z.elim)) fun _ _ z=>z.elim)
  exact wpAny_bind (wpAny_bind (wpAny_mono Iu (fun x GZ Ny => wpAny_bind (wpAny_mono Ny (fun _ GY BI => wpAny_pure (wpAny_pure ⟨O,BI⟩)) fun _ _ z=>z.elim)) fun _ _ z=>z.elim))
def yu (J:It) (g:TG) (te:TE) (WQ:St) (H1:Hp) (Q:VK):Prop := ∀ D,H1 D=none->∃ W:Nat->Nat->St->List V->Hp->Prop,
 (∃ m,W 0 m WQ [] (upd H1 D (.lst []))) ∧
 ∀ i m τ ys H,W i m τ ys H->H D=some (.lst ys)∧((J.stop i H∧Q (.ref D) H)∨(J.go i H∧ys.length < sizeLine∧∀ x H',J.yX i H x H'->g x τ H' fun rq H2=>te rq H2 fun y H3 =>
  H3 D=some (.lst ys)∧∃ m',m' < m∧W (i+1) m' rq (ys ++ [y]) (upd H3 D (.lst (ys ++ [y])))))
def MU (wi:TI) (g:TG) (te:TE) (k:Nat) (caps:List (Str × Nat)):TE:=fun σ H Q=>wi σ H fun J H1=>yu J g te (bY k none ++ jV σ caps) H1 Q
theorem FX {tg jD iter:Expr}{wi:TI}{g:TG}{te:TE}{pos p2:Pos}{use:Option (Value->Sem Unit)}{Q:VK} {Q':Value->Shared->Prop} (S:kr X scope own caps) (hi:PI X tg iter wi) (hc:X.calm=true)
  (hg:∀ fp s H,PG (dS X scope (own ++ caps.map (·.1)) fp s H) tg g) (he:∀ fp s H,PE (dS X scope (own ++ caps.map (·.1)) fp s H) jD te)
  (I:Inv X ah σ H s) (h:MU wi g te own.length caps σ H Q)
  (fin:∀ D C H5 s5,Inv X ah σ H5 s5->Q (.ref D) H5->(∃ m,s5.heap.Ns C m)->H5 C=none->C≠X.env.locals->X.kR.heap.objs.size<=C->(∀ x c,X.env.cells.lookup x=some c->c≠C)->(∀ p∈X.pn ++ ah,p.1≠C) ->
   compPost (model X.prog X.w) X.A X.xe use Q' (.ref D) C (.ok .next) s5)
  (hs:∀ x,foldedSetIterable iter X.env x=pure x:=by intro _;rfl) :
  wpAny (model X.prog X.w) X.A (comprehension (.ListComp jD [⟨tg,iter, [],0⟩] scope pos) scope X.env p2 (newList []) false (eval iter X.env) use) Q' X.xe s:=by
 have NH:closureFor scope X.env=pure (i7 X.env.cells scope.names []):=zU fun y hy hk=>I.ok.has y.1 (.inl (S.frees y hy hk))
 refine wpAny_comprehension_free (g:=⟨tg,iter, [],0⟩) (gs := []) rfl hs NH S.kind S.locs (bF (hi ah s σ H _ I h) fun v s1 h1=>bF h1 fun Up s2 h2 =>?_)
 obtain⟨it,fp,tn,J,H2,e,I2,T,zc,f2,R⟩:=h2
 subst e
 refine wpAny_newObj_type (wpAny_newFunctionEnv S.CC (by intro y hy;simp at hy) (fun iI IQ ID =>?_) S.kind)
 have fr2:H2 s2.heap.objs.size=none:=I2.bh.fresh (au _)
 obtain⟨W,⟨m0,w0⟩,turn⟩:=R s2.heap.objs.size fr2
 have I3:Inv X ah σ (upd H2 s2.heap.objs.size (.lst [])) { s2 with heap:=s2.heap.push { cls := .type "list",dict:=none,data := .seq ([]:List Value).toArray } }:=I2.Sv (its := []) (t':=s2.toks) .nil (bA _)
 have zy:∀ b∈fp,b < s2.heap.objs.size:=fun b hb=>by
  obtain⟨o,ho,_⟩:=T.obj _ _ zc b hb
  exact aV ho
 have f3:∀ b∈fp,nQ X ah (upd H2 s2.heap.objs.size (.lst [])) b:=fun b hb=>⟨by rw[aF (bH (zy b hb))];exact(f2 b hb).1,(f2 b hb).2⟩
 generalize wY:({ s2 with heap:=s2.heap.push { cls := .type "list",dict:=none,data := .seq ([]:List Value).toArray } }:Shared)=s3 at I3
 have YV:s3.heap.objs.size=s2.heap.objs.size+1:=by rw[<- wY];exact fG _ _
 have SH:∀ b o,s2.heap.get? b=some o->s3.heap.get? b=some o:=fun b o e=>by rw[<- wY];exact az _ e
 have Ph:∀ b∈fp,b < s3.heap.objs.size:=fun b hb=>by rw[YV];exact kN (zy b hb)
 have EE:iI.Ns s3.heap.objs.size (fun x=>([]:List (Str × Value)).reverse.lookup x):=by rw[<- wY];exact IQ
 have Ij:∀ b o,s3.heap.get? b=some o->iI.get? b=some o:=fun b o e=>by
  have hb:b≠s3.heap.objs.size:=bH (aV e)
  rw[<- wY]at e hb
  exact ID.extBut b o hb (az _ e)
 have J1:=Dq S I3 f3 Ph (t:=s2.toks+([]:List (Str × Value)).length) EE Ij
 have OA:tn 0 iI := T.keep _ _ _ zc fun b hb o e=>Ij b o (SH b o e)
 -- pj loop
 have loop:∀ mq : Shared,mq = { s3 with heap:=iI,toks:=s2.toks+([]:List (Str × Value)).length } ->
   codeAny (model X.prog X.w) X.A (.compLoop (.ListComp jD [⟨tg,iter, [],0⟩] scope pos) 0 (.ref it) (.ref s2.heap.objs.size) (dS X scope (own ++ caps.map (·.1)) fp s3 (upd H2 s2.heap.objs.size (.lst []))).env)
    (compPost (model X.prog X.w) X.A X.xe use Q' (.ref s2.heap.objs.size) s3.heap.objs.size) mq := by
  rintro mq rfl
  refine WC (fun n s'=>∃ i τ ys H',Inv (dS X scope (own ++ caps.map (·.1)) fp s3 (upd H2 s2.heap.objs.size (.lst []))) [] τ H' s'∧tn i s'.heap∧(∀ b∈fp,H' b=none)∧W i n τ ys H') ?_ m0
   ⟨0,_, [],_,J1,OA,fun b hb=>(f3 b hb).1,w0⟩
  rintro n s' ⟨i, τ,ys,H',J',mT,Qn,w'⟩
  have fY:∀ {iY:Hp},(∀ b∈fp,iY b=none)->∀ b∈fp,nQ (dS X scope (own ++ caps.map (·.1)) fp s3 (upd H2 s2.heap.objs.size (.lst []))) [] iY b:=fun hn b hb =>
   ⟨hn b hb,bH (Ph b hb),fun z=>by
     rcases aY.mp (I3.za b z) with e | e
     ·exact(f3 b hb).2.1 e
     ·exact(f3 b hb).2.2.1 e,.inl hb,fun x c e=>(f3 b hb).2.2.2.2.1 x c (j8 e),(fun p hp=>by cases hp)⟩
  obtain⟨hD,tt⟩:=turn i n τ ys H' w'
  rcases tt with⟨stop,qn⟩ | ⟨go,eg,step⟩
  ·refine bF (T.done (dS X scope (own ++ caps.map (·.1)) fp s3 (upd H2 s2.heap.objs.size (.lst []))) rfl rfl rfl hc i [] s' τ H' (fun _ _=>False) J' (fY Qn) mT stop) fun r s4 ⟨hr,J4⟩ =>?_
   subst hr
   obtain⟨m4,Zo,_⟩:=J4.loc
   have I5:=FY I3 J4 f3
   refine fin _ _ _ s4 I5 qn ⟨m4,Zo⟩ J4.free ?_ ?_ (fun x c e z =>?_) fun p hp z =>?_
   ·exact jH I3.lt
   ·exact I3.sz
   ·obtain⟨v,q⟩:=I3.cell x c e
    rw[z]at q
    exact absurd q.lt (eM _)
   ·have q:=(I3.pin p hp).1
    rw[z]at q
    exact absurd (aV q) (eM _)
  ·refine bF (T.item (dS X scope (own ++ caps.map (·.1)) fp s3 (upd H2 s2.heap.objs.size (.lst []))) rfl rfl rfl hc i [] s' τ H' (fun _ _=>False) J' (fY Qn) mT go) fun r s4 ⟨u,hr,h4⟩ =>?_
   subst hr
   refine bF h4 fun _ s5 ⟨x,H5,J5,r5,y5,zb,Qm⟩ =>?_
   have J5':=J5.pinned (fY Qm) (T.obj _ _ zb)
   refine bF (hg fp s3 _ _ s5 τ H5 x u _ J5' r5 (step x H5 y5)) fun _ s6 ⟨wK,H6,J6,q6⟩ =>?_
   refine bF (he fp s3 _ _ s6 wK H6 _ J6 q6) fun yv s7 ⟨y,H7,J7,r7,hD7,m',w4,w7⟩ =>?_
   refine bF (f6 (X:=dS X scope (own ++ caps.map (·.1)) fp s3 (upd H2 s2.heap.objs.size (.lst []))) _ s7 wK H7 (.ref s2.heap.objs.size) [y] _ [yv] (fun _ H8=>H8=upd H7 s2.heap.objs.size (.lst (ys ++ [y]))) J7 rfl (.cons r7 .nil) ⟨_,ys,y,O,O,hD7,eg,O⟩) fun _ s8 ⟨_,H8,J8,_,e8⟩ =>?_
   subst e8
   refine⟨m',w4,i+1, wK,ys ++ [y],_,J8.qC,T.keep _ _ _ zb fun b hb o e=>(J8.pin (b,o) (cz _ (cz _ (nz hb e)))).1,fun b hb =>?_,w7⟩
   obtain⟨o,e,d⟩:=T.obj _ _ zb b hb
   exact(J8.pin (b,o) (cz _ (cz _ (nz hb e)))).2.1
 have C3:=loop _ rfl
 subst wY
 exact codeAny_compStart_list C3 (T.self _ 0 _ _ _ OA C3)
theorem oR {tg jD iter:Expr}{wi:TI}{g:TG}{te:TE}{pos:Pos} (S:kr X scope own caps) (hi:PI X tg iter wi) (hc:X.calm=true)
  (hg:∀ fp s H,PG (dS X scope (own ++ caps.map (·.1)) fp s H) tg g) (he:∀ fp s H,PE (dS X scope (own ++ caps.map (·.1)) fp s H) jD te)
  (hs:∀ x,foldedSetIterable iter X.env x=pure x:=by intro _;rfl):PE X (.ListComp jD [⟨tg,iter, [],0⟩] scope pos) (MU wi g te own.length caps):=by
 intro ah s σ H Q I h
 rw[eval_ListComp]
 refine FX (use:=none) (Q:=Q) S hi hc hg he I h (fun D C H5 s5 I5 q ⟨m,hn⟩ hC hL hz iJ BJ =>?_) hs
 refine⟨m,hn,fun h' lF =>?_⟩
 exact⟨.ref D,H5,I5.turned (t':=s5.toks) (fun b o hb e=>(lF.2 b hb).trans e) hC hL (.inr hz) iJ BJ,O,q⟩
theorem Ct {i:Nat}{y:Str}{tg jD iter:Expr}{wi:TI}{g:TG}{te:TE}{pos G2 py:Pos} (hN:X.N.Nodup) (ZA:X.N[i]? = some y) (hy:X.env.scope.names.lookup y=some .local) (S:kr X scope own caps) (hi:PI X tg iter wi) (hc:X.calm=true)
  (hg:∀ fp s H,PG (dS X scope (own ++ caps.map (·.1)) fp s H) tg g) (he:∀ fp s H,PE (dS X scope (own ++ caps.map (·.1)) fp s H) jD te)
  (Y8:swapsWith (.ListComp jD [⟨tg,iter, [],0⟩] scope pos) (some (.Name y py)) G2.line X.env=pure true)
  (hs:∀ x,foldedSetIterable iter X.env x=pure x:=by intro _;rfl):PS X (.Assign [.Name y py] (.ListComp jD [⟨tg,iter, [],0⟩] scope pos) G2) (MV (MU wi g te own.length caps) (bw i)):=by
 intro ah s σ H D I h
 rw[exec_Assign_Name_used _ _ _ _ Y8]
 refine wpAny_bind (wpAny_standAt (wpAny_bind ?_))
 show wpAny _ X.A (do let _ <- comprehension (.ListComp jD [⟨tg,iter, [],0⟩] scope pos) scope X.env _ (newList []) false (eval iter X.env) (some (assign (.Name y py) X.env))) _ _ s
 refine wpAny_bind (wpAny_mono (FX (use:=some (assign (.Name y py) X.env)) (Q:=fun x H1=>D.nx (σ.set i (some x)) H1) (Q':=fun _ s'=>SP X ah D .next s') S hi hc hg he I h (fun A C H5 s5 I5 q ⟨m,hn⟩ hC hL hz iJ BJ =>?_) hs)
  (fun _ s' hq=>wpAny_pure (wpAny_pure hq)) fun _ _ e=>e)
 show wpAny _ X.A (assign (.Name y py) X.env (.ref A)) _ _ _
 refine wpAny_assign_Name (y4 I5 hN ZA (.inl hy) (v := .ref A) rfl (fun s6 I6 ⟨a,Lx,ha⟩ =>?_) (.inr hy))
 have ZV:C≠a:=by
  rcases ha with ha | ha
  ·rw[ha];exact hL
  ·exact fun z=>iJ y a ha z.symm
 refine⟨m,hn.sameBut Lx ZV,fun h' lF =>?_⟩
 exact⟨_,H5,I6.turned (t':=s6.toks) (fun b o hb e=>(lF.2 b hb).trans e) hC hL (.inr hz) iJ BJ,q⟩
end
structure ed (P:Program) (w:World) (K:ao) (mg:Str->Option Value) (base:Heap) (k:Nat) (x:Str) (ps:List Str) (sp:Sp):Prop where
 ex:∃ f fd,lC P w K mg base DQ k f fd ps sp∧mg x=some (.ref f)∧dw K (.ref f)=true∧Binds K fd ps []
section
variable {X:Cx} {k k':Nat}{x:Str}{ps:List Str}{sp:Sp}{p pos:Pos}{e:Expr}{es:List Expr}{t:TA}
theorem bG (h:ed X.prog X.w X.K X.mg X.base k x ps sp) (hr:eZ k' X.A) (hk:k<=k') (hg:Gl X x) (ha:PA X (e :: es) t) (rY:(x == ("__debug__" : Str))=false:=by decide)
  (he:starEach (e :: es) X.env=(false,eval e X.env) :: starEach es X.env:=by rfl) (my:(backTo pos (starEach es X.env)).any (·.1)=false:=by rfl) :
  PE X (.Call (.Name x p) (e :: es) [] pos) (tO sp [] E0 t):=by
 obtain⟨f,fd,F,hm,IT,hb⟩:=h.ex
 exact K7 F (hr.mono hk) hg hm IT hb .nil abN ha rY he my
end
structure Def (K:ao) (mg:Str->Option Value) (x:Str) (st:Stmt) (ps:List Str):Prop where
 ex:∃ f fd,Ah K x x st f fd∧mg x=some (.ref f)∧Binds K fd ps []
theorem Def.has {P:Program}{w:World}{K:ao}{mg:Str->Option Value}{base:Heap}{x:Str}{st:Stmt}{N ps:List Str}{k:Nat}{sp:Sp} (D:Def K mg x st ps) (S:cF N ps (aX st)) (len:∀ vs H Q E,sp vs H Q E->vs.length=ps.length)
  (nB:∀ (f:Addr) (cO:Value) (A:Around) (outer:List Env) (s:Shared) (H:Hp) (vs:List V) (Q:VK) (E:XK),eZ k (A.deeper (envOfC x (aX st) s.heap.objs.size f cO))->sp vs H Q E ->
   ∃ t,pV (dQ DQ P w K mg base N x (aX st) f cO A outer s H E).HJ (fT st) t∧t { nx:=fun _ H'=>Q .cJ H',rt:=Q } (start N vs) H):ed P w K mg base (k+1) x ps sp:=by
 obtain⟨f,fd,F,hm,hb⟩:=D.ex
 exact⟨f,fd,F.ok S len (nB f),hm,F.kp,hb⟩
theorem bf {H:Hp}{p:Addr} (h:H p=none) (o:HO):bu H (upd H p o):=fun b u q=>by rw[aF (bX q h)];exact q
theorem bu.tup {K:ao} {H H':Hp}{a:Addr}{xs:List V} (e:bu H H') (h:bD K H a xs):bD K H' a xs:=by
 rcases h with(h | ⟨o,h⟩) | h
 ·exact .inl (.inl (e _ _ h))
 ·exact .inl (.inr ⟨o,e _ _ h⟩)
 ·exact .inr h
theorem bu.put {H0 H:Hp}{p:Addr}{o:HO} (e:bu H0 H) (h:H0 p=none):bu H0 (upd H p o):=fun b u q=>by rw[aF (bX q h)];exact e b u q
theorem QE {K:ao}{a:Addr}{xs:List V}{te:TE}{σ : St}{caps:List (Str × Nat)}{H:Hp}{Q:VK} (f:V->V) (hS:aZ K H a xs) (hz:xs.length<=1000)
  (A8:∀ x∈xs,∀ H',bu H H'->∀ Q':VK,Q' (f x) H'->te (some x :: jV σ caps) H' Q') (hq:∀ D,H D=none->Q (.ref D) (upd H D (.lst (xs.map f)))) :
  yu (J2 K a) (bw 0) te (bY 1 none ++ jV σ caps) H Q:=by
 intro D hD
 refine⟨fun i m τ ys H'=>m=xs.length - i∧i<=xs.length∧(∃ o, τ = o :: jV σ caps)∧ys=(xs.take i).map f∧H'=upd H D (.lst ys),⟨xs.length,by simp,bA _,⟨none,O⟩,by simp,O⟩,?_⟩
 rintro i m τ ys H' ⟨rfl,hi,⟨o,rfl⟩,rfl,rfl⟩
 have sm:bu H (upd H D (.lst ((xs.take i).map f))):=bf hD _
 refine⟨aE,?_⟩
 by_cases cU:i < xs.length
 ·refine .inr ⟨⟨xs,xs[i],sm.seq hS,by simp[cU]⟩,?_,fun x iY y =>?_⟩
  ·rw[ar,cj]
   exact c6 (by omega)
  obtain⟨e,y⟩:=y
  subst e
  have hx:=y xs (sm.seq hS)
  show te (some x :: jV σ caps) _ _
  refine A8 x (ak hx) _ sm _ ?_
  refine⟨aE,xs.length - (i+1),by omega,O,cU,⟨_,O⟩,?_,?_⟩
  ·rw[iz,hx,c9];rfl
  ·rw[DX]
 ·have e:i=xs.length:=by omega
  subst e
  refine .inl ⟨⟨xs,sm.seq hS,au _⟩,?_⟩
  rw[bB]
  exact hq D hD
def FZ (Oe:Scope) (xN:List Str) (scope:Scope) (own:List Str) (caps:List (Str × Nat)):Bool :=
 scope.names.all (fun y=>y.2 != .cell) && scope.names.all (fun y=>y.2 != .local || scope.names.lookup y.1 == some .local) && scope.names.all (fun y=>y.2 != .free || Oe.names.lookup y.1 == some .cell)
  && own.all (fun x=>scope.names.lookup x == some .local) && caps.all (fun p=>xN[p.2]? == some p.1 && Oe.names.lookup p.1 == some .cell && scope.names.lookup p.1 == some .free)
theorem gK {X:Cx}{scope:Scope}{own:List Str}{caps:List (Str × Nat)} (Oe:Scope) (xN:List Str) (hx:X.env.scope=Oe) (hN:X.N=xN) (hk:scope.kind = .function) (c:FZ Oe xN scope own caps=true):kr X scope own caps:=by
 unfold FZ at c
 simp only[gU,iS,DS,bne_iff_ne,beq_iff_eq,ne_eq]at c
 obtain⟨⟨⟨⟨c1,c2⟩,c3⟩,c4⟩,c5⟩:=c
 refine⟨hk,c1,fun y hy e =>?_,fun y hy e =>?_,c4,fun p hp =>?_⟩
 ·rcases c2 y hy with z | z
  ·exact absurd e z
  ·exact z
 ·rcases c3 y hy with z | z
  ·exact absurd e z
  ·show X.env.scope.names.lookup y.1=_
   rw[hx];exact z
 ·obtain⟨⟨z1,z2⟩,z3⟩:=c5 p hp
  refine⟨by rw[hN];exact z1,?_,z3⟩
  show X.env.scope.names.lookup p.1=_
  rw[hx];exact z2
structure jO (mg:Str->Option Value):Prop where
 iH:mg "len" = none
 Ez:mg "min" = none
 Ng:mg "max" = none
 aj3:mg "sum" = none
 rK:mg "range" = none
 tV:mg "enumerate" = none
 kC:mg "isinstance" = none
 Cg:mg "tuple" = none
 afJ:mg "int" = none
 aci:mg "bool" = none
 aj4:mg "str" = none
 oj:mg "list" = none
theorem sj:bootBuiltins "min" = some (.builtin "min"):=by decide +kernel
theorem vY:bootBuiltins "max" = some (.builtin "max"):=by decide +kernel
theorem gP:bootBuiltins "isinstance" = some (.builtin "isinstance"):=by decide +kernel
theorem qZ:bootBuiltins "tuple" = some (.type "tuple"):=by decide +kernel
theorem QJ:bootBuiltins "int" = some (.type "int"):=by decide +kernel
theorem NV:bootBuiltins "bool" = some (.type "bool"):=by decide +kernel
theorem gL:bootBuiltins "list" = some (.type "list"):=by decide +kernel
theorem Paired.at {α β : Type}{F : α -> β -> Prop}:∀ {HW : List α}{HV : List β}{i:Nat}{a : α},Paired F HW HV -> HW[i]? = some a->∃ b,HV[i]? = some b∧F a b
 | _,_,_,_,.nil,e=>by simp at e
 | _,_,0,_,.cons h _,e=>by simp at e;subst e;exact⟨_,O,h⟩
 | _,_,i+1,a,.cons _ t,e=>by
  obtain⟨b,h1,h2⟩:=Paired.at (i:=i) (a:=a) t (by simpa using e)
  exact⟨b,by simpa using h1,h2⟩
theorem oy {j:Int} (h:decide (0 < j)=true:=by decide):0 < j:=of_decide_eq_true h
theorem aaC {i j:Int} (h:(decide (0 < j) && decide (j < 1073741824))=true:=by decide):abk i j :=
 ⟨of_decide_eq_true (gq.mp h).1,of_decide_eq_true (gq.mp h).2⟩
theorem eF {c A B:Prop} [Decidable c] (h1:c->A) (h2:¬ c->B):if decide c=true then A else B:=by
 by_cases h:c
 ·rw[decide_eq_true h];exact pJ (h1 h)
 ·rw[decide_eq_false h];exact gO (h2 h)
theorem fC {c A B:Prop} [Decidable c] (h1:¬ c->A) (h2:c->B):if (!decide c)=true then A else B:=by
 by_cases h:c
 ·rw[decide_eq_true h];exact gO (h2 h)
 ·rw[decide_eq_false h];exact pJ (h1 h)
def F2 (h:Heap) (e:Addr) (x:Value):Prop := ∃ o vs,h.get? e=some o∧o.data = .fields vs∧vs[2]? = some x
def agu:Option Addr->Value
 | none => .none
 | some a => .ref a
theorem F2.other {h:Heap}{e b:Addr}{x:Value}{f:Obj->Obj} (c:F2 h e x) (n:b≠e):F2 (h.update b f) e x:=by
 obtain⟨o,vs,a,d,i⟩:=c
 exact⟨o,vs,(dt _ _ n).trans a,d,i⟩
section
variable {M:Model}{A:Around}{E:Value->Shared->Prop}{s:Shared}
inductive uo (l:List Env) (e:Addr) (oe:Obj) (L:Addr) (h h':Heap):Prop
 | mk (T:Addr) (oT:Obj) (ts:Array Value) (old:∀ b o,b≠e->b ∉ l.filterMap (·.frame)->h.get? b=some o->h'.get? b=some o) (slots:∀ b o,b≠e->h.get? b=some o->∃ sl,h'.get? b=some { o with slots:=sl })
  (own:h'.get? e=some (oe.mapFields (·.setIfInBounds 1 (.ref T)))) (new:h.get? T=none) (ne:T≠e) (size:h.objs.size<=T) (there:h'.get? T=some oT) (data:oT.data = .fields ts) (fl:ts[3]? = some (rawInt L)):uo l e oe L h h'
theorem Jv {base:Heap}{env:Env}{outer:List Env}{L e:Addr}{oe:Obj}{vs:Array Value}{hd:Value}{nx:Bool}{Q:Unit->Shared->Prop}
  (af:A.frames=some (env :: outer)) (ff:s.heap.FunFrames base (env :: outer)) (fL:env.frame=some L) (ge:s.heap.get? e=some oe) (gd:oe.data = .fields vs) (gz:1 < vs.size)
  (k:∀ h',uo (env :: outer) e oe L s.heap h'->Q () { s with heap:=h' }) :
  wpAny M A (do let a <- frameOf env;let pl <- entryPlaceOf L nx;let b <- yT hd a .none (rawInt L) .none pl;setField (.ref e) 1 b) Q E s:=by
 have gv:e ∉ (env :: outer).filterMap (·.frame):=fun m=>by
  obtain⟨_,o,q,nf⟩:=ff.mem m
  rw[ge]at q
  cases q
  exact nf vs gd
 refine wpAny_bind (wpAny_frameOf_fun af ff fL fun h1 sl =>?_)
 refine wpAny_bind (wpAny_entryPlaceOf fun pl hp =>?_)
 unfold yT newFields
 refine wpAny_bind (wpAny_newObj_type ?_ (hp.sizeOk5 _ _ _ _ _))
 have g1:h1.get? e=some oe:=(sl.2.1 e gv).trans ge
 generalize hO:({ cls := .type "traceback",dict:=none,data := .fields ([hd,.ref L,.none,rawInt L,.none] ++ (if pl.isEmpty then bY 6 di else pl)).toArray }:Obj)=oT
 have g2:=az (h:=h1) oT g1
 refine wpAny_setField g2 gd gz (k _ ?_)
 have nT:h1.objs.size≠e:=jH (aV g1)
 have dd:=dO gd (·.setIfInBounds 1 (aQ h1.objs.size))
 have up:∀ b o,b≠e->h1.get? b=some o->((h1.push oT).update e (gM (·.setIfInBounds 1 (aQ h1.objs.size)))).get? b=some o:=fun b o n q=>by
  rw[dt _ _ (cM n)]
  exact az _ q
 refine⟨h1.objs.size,oT,_,fun b o n m q=>up b o n ((sl.2.1 b m).trans q),fun b o n q =>?_,dZ _ g2 (jg dd),iu (m9 sl.1.symm),nT,m9 sl.1.symm,?_,(by rw[<- hO]),?_⟩
 ·obtain⟨x,q'⟩:=sl.2.2 b o q
  exact⟨x,up b _ n q'⟩
 ·rw[dt _ _ (cM nT)]
  exact aR h1 (by rw[<- hO];rfl)
 ·first
   | (simp;done)
   | (rcases hp with rfl | ⟨_,_,_,_,_,_,_,rfl⟩ <;> simp)
theorem uo.Ua {base:Heap}{l:List Env}{e L:Addr}{oe:Obj}{vs:Array Value}{a0:Value} {h h':Heap} (x:uo l e oe L h h') (kb:base.StaysIn h) (be:base.get? e=none) (ff:h.FunFrames base l) (gd:oe.data = .fields vs) (gz:1 < vs.size) (g0:vs[0]? = some a0) (ge:h.get? e=some oe) :
  Heap.NotedW base l e oe.cls a0 (rawInt L) h h':=by
 obtain⟨T,oT,ts,old,slots,own,new,ne,size,there,data,fl⟩:=x
 have nr:∀ b o,h.get? b=some o->(∀ ws,o.data ≠ .fields ws)->b≠e:=fun b o q nf z=>by
  rw[z,ge]at q
  cases q
  exact nf vs gd
 refine⟨fun b o q=>old b o (fun z=>by rw[z,be]at q;cases q) (fun m=>by rw[(ff.mem m).1]at q;cases q) (kb b o q),ff.of_keeps fun b o q nf =>?_,?_,fun b o q nf=>slots b o (nr b o q nf) q⟩
 ·obtain⟨sl,q'⟩:=slots b o (nr b o q nf) q
  exact⟨_,q',O⟩
 ·refine⟨_,_,T,oT,ts,own,⟨nO _ _,?_⟩,dO gd _,by simp[gz],?_,ne,there,data,fl⟩
  ·rw[pf (by decide)];exact g0
  ·cases q:base.get? T with
   | none=>rfl
   | some o=>have:=kb _ _ q;rw[new]at this;cases this
theorem uo.ctx {l:List Env}{e L:Addr}{oe:Obj}{vs:Array Value} {h h':Heap}{y:Value} (x:uo l e oe L h h') (gd:oe.data = .fields vs) (ge:h.get? e=some oe) (c:F2 h e y):F2 h' e y:=by
 obtain⟨T,oT,ts,old,slots,own,new,ne,size,there,data,fl⟩:=x
 obtain⟨o,ws,q1,q2,q3⟩:=c
 rw[ge]at q1
 cases q1
 rw[gd]at q2
 cases q2
 exact⟨_,_,own,dO gd _,by rw[pf (by decide)];exact q3⟩
theorem Sm {base:Heap}{env:Env}{outer:List Env}{L e:Addr}{oe:Obj}{vs:Array Value}{a0:Value}{Q:Unit->Shared->Prop} (af:A.frames=some (env :: outer)) (ff:s.heap.FunFrames base (env :: outer)) (fL:env.frame=some L)
  (ge:s.heap.get? e=some oe) (kb:base.StaysIn s.heap) (be:base.get? e=none) (gd:oe.data = .fields vs) (g1:vs[1]? = some .none) (g0:vs[0]? = some a0)
  (k:∀ h',Heap.HeldW base (env :: outer) e oe.cls a0 L h'->s.heap.UpToSlots h'->(∀ y,F2 s.heap e y->F2 h' e y)->Q () { s with heap:=h' }):wpAny M A (noteFrame (.ref e) env) Q E s:=by
 have gz:=(gN.mp g1).1
 unfold noteFrame
 simp only[fL]
 refine wpAny_bind (wpAny_field ge gd g1 ?_)
 rw[if_neg (by decide)]
 refine Jv af ff fL ge gd gz fun h' x =>?_
 obtain⟨n1,n2,n3,n4⟩:=x.Ua kb be ff gd gz g0 ge
 exact k h' ⟨n1,be,n2,n3⟩ n4 fun y c=>x.ctx gd ge c
theorem V9 {base:Heap}{env:Env}{outer:List Env}{L e:Addr}{cls a0:Value}{Q:Unit->Shared->Prop} (af:A.frames=some (env :: outer)) (fL:env.frame=some L) (fl:jL base (env :: outer) e cls a0 s.heap)
  (k:∀ h',Heap.HeldW base (env :: outer) e cls a0 L h'->s.heap.UpToSlots h'->(∀ y,F2 s.heap e y->F2 h' e y)->Q () { s with heap:=h' }):wpAny M A (noteFrame (.ref e) env) Q E s:=by
 obtain⟨kb,be,ff,oe,vs,Tr,oT,ts,ge,⟨gc,g0⟩,gd,g1,bT,Le,gT,dT,g3⟩:=fl
 subst gc
 have gz:=(gN.mp g1).1
 unfold noteFrame
 simp only[fL]
 refine wpAny_bind (wpAny_field ge gd g1 ?_)
 rw[if_pos (show (aQ Tr != di)=true by simp)]
 refine wpAny_bind (wpAny_field gT dT g3 ?_)
 rw[if_neg (show ¬ ((di == rawInt L)=true) by simp[rawInt])]
 refine wpAny_bind (wpAny_setField gT dT (gN.mp g3).1 ?_)
 have ot:∀ b,b≠Tr->(s.heap.update Tr (gM (·.setIfInBounds 3 di))).get? b=s.heap.get? b:=fun b n=>dt _ _ (cM n)
 have nr:∀ b o,s.heap.get? b=some o->(∀ ws,o.data ≠ .fields ws)->b≠Tr:=fun b o q nf z=>by
  rw[z,gT]at q
  cases q
  exact nf ts dT
 have ff1:=ff.of_keeps (h':=s.heap.update Tr (gM (·.setIfInBounds 3 di))) fun b o q nf=>⟨o,(ot b (nr b o q nf)).trans q,O⟩
 have kb1:base.StaysIn (s.heap.update Tr (gM (·.setIfInBounds 3 di))):=fun b o q=>(ot b fun z=>by rw[z,bT]at q;cases q).trans (kb b o q)
 have ge1:=(ot e (cM Le)).trans ge
 refine Jv (s := { s with heap:=_ }) af ff1 fL ge1 gd gz fun h' x =>?_
 obtain⟨n1,n2,n3,n4⟩:=x.Ua kb1 be ff1 gd gz g0 ge1
 exact k h' ⟨n1,be,n2,n3⟩ (fun b o q nf=>n4 b o ((ot b (nr b o q nf)).trans q) nf) fun y c=>x.ctx gd ge1 (c.other Le)
theorem Df {base:Heap}{l:List Env}{e:Addr}{cls a0 m:Value}{Q:Unit->Shared->Prop} (kb:base.StaysIn s.heap) (be:base.get? e=none) (ff:s.heap.FunFrames base l) (tr:s.heap.TracedAtW base e cls a0 m)
  (k:∀ h',jL base l e cls a0 h'->s.heap.UpToSlots h'->(∀ y,F2 s.heap e y->F2 h' e y)->Q () { s with heap:=h' }):wpAny M A (setFlight (.ref e) none) Q E s:=by
 obtain⟨oe,vs,Tr,oT,ts,ge,gc,gd,g1,bT,Le,gT,dT,g3⟩:=tr
 have z3:=(gN.mp g3).1
 have ot:∀ b,b≠Tr->(s.heap.update Tr (gM (·.setIfInBounds 3 ((none:Option Addr).elim di fun f=>rawInt f)))).get? b=s.heap.get? b:=fun b n=>dt _ _ (cM n)
 have nr:∀ b o,s.heap.get? b=some o->(∀ ws,o.data ≠ .fields ws)->b≠Tr:=fun b o q nf z=>by
  rw[z,gT]at q
  cases q
  exact nf ts dT
 unfold setFlight
 refine wpAny_bind (wpAny_field ge gd g1 ?_)
 rw[if_pos (show (aQ Tr != di)=true by simp)]
 refine wpAny_setField gT dT z3 (k _ ⟨fun b o q=>(ot b fun z=>by rw[z,bT]at q;cases q).trans (kb b o q),be,ff.of_keeps fun b o q nf=>⟨o,(ot b (nr b o q nf)).trans q,O⟩,?_⟩ (fun b o q nf=>⟨o.slots,(ot b (nr b o q nf)).trans q⟩) fun y c=>c.other Le)
 exact⟨oe,vs,Tr,_,_,(ot e (cM Le)).trans ge,gc,gd,g1,bT,Le,dZ _ gT (jg (dO dT _)),dO dT _,by simp[z3]⟩
theorem SF {base:Heap}{env:Env}{outer:List Env}{L e:Addr}{cls a0:Value}{Q:Unit->Shared->Prop} (af:A.frames=some (env :: outer)) (fL:env.frame=some L) (fl:jL base (env :: outer) e cls a0 s.heap)
  (k:∀ h',jL base outer e cls a0 h'->s.heap.UpToSlots h'->(∀ y,F2 s.heap e y->F2 h' e y)->Q () { s with heap:=h' }):wpAny M A (leaving env (.ref e)) Q E s:=by
 unfold leaving
 refine wpAny_bind (V9 af fL fl fun h1 hh sl c1 =>?_)
 obtain⟨n1,n2,n3,n4⟩:=hh
 refine Df (s := { s with heap:=h1 }) n1 n2 n3 n4 fun h2 f2 Hh c2 =>?_
 obtain⟨m1,m2,⟨_,_,m3⟩,m4⟩:=f2
 exact k h2 ⟨m1,m2,m3,m4⟩ (sl.trans Hh) fun y c=>c2 y (c1 y c)
theorem leave_new {base:Heap}{env:Env}{outer:List Env}{L e:Addr}{oe:Obj}{vs:Array Value}{a0:Value}{Q:Unit->Shared->Prop} (af:A.frames=some (env :: outer)) (ff:s.heap.FunFrames base (env :: outer)) (fL:env.frame=some L)
  (ge:s.heap.get? e=some oe) (kb:base.StaysIn s.heap) (be:base.get? e=none) (gd:oe.data = .fields vs) (g1:vs[1]? = some .none) (g0:vs[0]? = some a0)
  (k:∀ h',jL base outer e oe.cls a0 h'->s.heap.UpToSlots h'->(∀ y,F2 s.heap e y->F2 h' e y)->Q () { s with heap:=h' }):wpAny M A (leaving env (.ref e)) Q E s:=by
 unfold leaving
 refine wpAny_bind (Sm af ff fL ge kb be gd g1 g0 fun h1 hh sl c1 =>?_)
 obtain⟨n1,n2,n3,n4⟩:=hh
 refine Df (s := { s with heap:=h1 }) n1 n2 n3 n4 fun h2 f2 Hh c2 =>?_
 obtain⟨m1,m2,⟨_,_,m3⟩,m4⟩:=f2
 exact k h2 ⟨m1,m2,m3,m4⟩ (sl.trans Hh) fun y c=>c2 y (c1 y c)
end
section
variable {P:Program}{w:World} {H H':Hp} {h h':Heap}{a:Addr}{o:HO}
theorem dy.there (x:dy P w H h a o):∃ ob,h.get? a=some ob:=by
 cases o with
 | lst xs=>obtain⟨_,_,_,_,e⟩:=x;exact⟨_,e⟩
 | tup xs=>obtain⟨_,_,_,_,e,_⟩:=x;exact⟨_,e⟩
 | dK kvs=>obtain⟨_,_,_,_,o,_,_,e,_⟩:=x;exact⟨_,e⟩
 | dT kvs=>obtain⟨_,_,_,_,o,_,_,e,_⟩:=x;exact⟨_,e⟩
 | set S n=>obtain⟨o,_,_,_,e,_⟩:=x;exact⟨_,e⟩
 | ins C dx fs=>obtain⟨_,_,_,e,_⟩:=x;exact⟨_,e⟩
 | own y=>exact x
 | xd fs=>obtain⟨_,⟨_,_,_,e,_⟩,_⟩:=x;exact⟨_,e⟩
 | zo lo hi=>obtain⟨_,_,_,e⟩:=x;exact⟨_,e⟩
 | uU ob u=>obtain⟨e,_⟩:=x;exact⟨_,e⟩
 | oO ps=>exact⟨_,(show h.get? a=some _ from x)⟩
 | met f y=>exact⟨_,(show h.get? a=some _ from x)⟩
 | ext φ => obtain⟨_,e,_⟩:=x;exact e
theorem gC.Sn (x:gC P w H h) (e:h.get? a=none):H a=none:=by
 cases q:H a with
 | none=>rfl
 | some u=>obtain⟨ob,z⟩:=(x a u q).there;rw[e]at z;cases z
theorem gC.part (x:gC P w H h) (k:∀ b u v,H b=some u->h.get? b=some v->h'.get? b=some v):gC P w H h':=fun a o e =>
 (x a o e).uw (fun b u hb q=>by
  rcases hb with z | z
  ·subst z;exact k _ _ _ e q
  ·exact k _ _ _ z q) (fun _ q=>q) fun _ _ q=>q
end
theorem Un.fly {fs:List Addr}{L:Addr} {Ag H H':Hp}{h0 h h1 h2 B:Heap} (U1:Un fs [] Ag H h0 h) (U2:Un (L :: fs) [] H H' h h1) (hL:h0.get? L=none)
  (mC:∀ b o,h.get? b=some o->b ∉ L :: fs->∃ o',B.get? b=some o') (k1:∀ b o,B.get? b=some o->h1.get? b=some o) (k2:∀ b o,B.get? b=some o->h2.get? b=some o)
  (sl:h1.UpToSlots h2) (nf:∀ b∈fs,∃ o,h1.get? b=some o∧∀ vs,o.data ≠ .fields vs):Un fs [] Ag H' h0 h2:=by
 have nL:∀ b o,h0.get? b=some o->b ∉ fs->b ∉ L :: fs:=fun b o q hb z=>by
  rcases aY.mp z with z | z
  ·rw[z,hL]at q;cases q
  ·exact hb z
 refine⟨fun b o q n hb hx =>?_,fun b o q n hb hx =>?_,fun b o q n hx =>?_,fun b o q hx =>?_,fun b xs q=>U2.sE _ _ (U1.sE _ _ q),fun b o u q=>U2.qL _ _ _ (U1.qL _ _ _ q),fun b ps q =>?_⟩
 ·have q1:=U1.keep b o q n hb hx
  have q2:=U2.keep b o q1 (U1.free b o q n hx) (nL b o q hb) hx
  obtain⟨o',e⟩:=mC b o q1 (nL b o q hb)
  have e1:=k1 _ _ e
  rw[q2]at e1
  cases e1
  exact k2 _ _ e
 ·obtain⟨s1,q1⟩:=U1.slot b o q n hb hx
  obtain⟨s2,q2⟩:=U2.slot b _ q1 (U1.free b o q n hx) (aW _ hb) hx
  obtain⟨ob,q3,d⟩:=nf b hb
  rw[q2]at q3
  cases q3
  obtain⟨s4,q4⟩:=sl b _ q2 d
  exact⟨s4,q4⟩
 ·obtain⟨o1,q1⟩:=U1.there b o q hx
  exact U2.free b o1 q1 (U1.free b o q n hx) hx
 ·by_cases hb:b∈fs
  ·obtain⟨ob,q3,d⟩:=nf b hb
   obtain⟨s4,q4⟩:=sl b _ q3 d
   exact⟨_,q4⟩
  ·obtain⟨o1,q1⟩:=U1.there b o q hx
   obtain⟨o',e⟩:=mC b o1 q1 (nL b o q hb)
   exact⟨_,k2 _ _ e⟩
 ·obtain⟨m1,e1⟩:=U1.qD b ps q
  obtain⟨m2,e2⟩:=U2.qD b _ e1
  exact⟨m1 ++ m2,by rw[e2,Am]⟩
def qk (P:Program) (w:World):wk:=fun outer H s E e s'=>∃ (ea C:Addr) (a0:Value) (B:Heap) (H':Hp),e = .ref ea∧jL B outer ea (.ref C) a0 s'.heap∧s'.os=s.os∧AllBare s'.gens ∧
 gC P w H' B∧Un (iF outer) [] H H' s.heap s'.heap∧(∀ b o,s.heap.get? b=some o->b ∉ iF outer->∃ o',B.get? b=some o')∧∃ m:Option Addr,F2 s'.heap ea (agu m)∧E (.ref C) m H'
section
variable {P:Program}{w:World}{K:ao}{mg:Str->Option Value}{base:Heap}{N:List Str}{qual:Str}{scope:Scope}{f:Addr}{cO:Value}{A:Around}{outer:List Env}{s0 s:Shared}{H0 H:Hp} {E E':XK}
 {ah:List (Addr × Obj)}{σ : St}{CX:wk}
theorem E7 {e:Env}{L:Addr}{l:List Env} (h:e.frame=some L):iF (e :: l)=L :: iF l:=by
 unfold iF
 rw[jS,h]
theorem ace {h':Heap}{e C:Addr}{args:List Value} (I:Inv (dQ (qk P w) P w K mg base N qual scope f cO A outer s0 H0 E) ah σ H s) (hx:EV s.heap h' e (.ref C) args) (q:E (.ref C) none H) :
  (dQ (qk P w) P w K mg base N qual scope f cO A outer s0 H0 E).xe (.ref e) { s with heap:=h' }:=by
 have fr:s.heap.FunFrames base (envOfC qual scope s0.heap.objs.size f cO :: outer):=I.stack
 have sf:∀ b∈iF (envOfC qual scope s0.heap.objs.size f cO :: outer),H b=none:=I.DZ
 have mz:∀ env∈(envOfC qual scope s0.heap.objs.size f cO :: outer),∀ b,env.frame=some b->b∈iF (envOfC qual scope s0.heap.objs.size f cO :: outer):=fun env he b hb=>sk.mpr ⟨env,he,hb⟩
 have es:iF (envOfC qual scope s0.heap.objs.size f cO :: outer)=s0.heap.objs.size :: iF outer:=E7 rfl
 show wpAny _ _ (leaving _ _) _ _ _
 obtain⟨t,gt,_,_⟩:=hx.there
 have ff:=(PySem.W.funFrames_hide fr mz).of_keeps (h':=h') fun b o z _=>⟨o,hx.keeps b o z,O⟩
 have kb:(mE s.heap (iF (envOfC qual scope s0.heap.objs.size f cO :: outer))).StaysIn h':=fun b o z=>hx.keeps b o (m7 _ z)
 have be:(mE s.heap (iF (envOfC qual scope s0.heap.objs.size f cO :: outer))).get? e=none:=by
  cases z:(mE s.heap (iF (envOfC qual scope s0.heap.objs.size f cO :: outer))).get? e with
  | none=>rfl
  | some o=>have:=m7 _ z;rw[hx.new]at this;cases this
 refine leave_new (s := { s with heap:=h' }) (a0 := .ref t) I.ok.frames ff rfl gt kb be rfl rfl rfl ?_
 intro Jo x1 x4 x5
 have mC:∀ b o,s.heap.get? b=some o->b ∉ s0.heap.objs.size :: iF outer->(mE s.heap (iF (envOfC qual scope s0.heap.objs.size f cO :: outer))).get? b=some o:=fun b o z hb=>qz _ z (by rw[es];exact hb)
 have Ib:Un (iF outer) [] H0 H s0.heap s.heap:=I.base
 refine⟨e,C,.ref t,_,H,O,x1,I.os,I.bare,gC.part I.bh fun b u v z1 z2=>qz _ z2 fun hm =>?_,?_,?_,none,x5 _ ⟨_,_,gt,O,O⟩,q⟩
 ·rw[sf b hm]at z1;cases z1
 ·refine Un.fly (h:=s.heap) (h1:=h') (L:=s0.heap.objs.size) Ib (Un.kept hx.keeps) (iu (au _)) (fun b o z hb=>⟨o,mC b o z hb⟩) (fun b o z=>hx.keeps _ _ (m7 _ z)) x1.1 x4 fun b hb =>?_
  obtain⟨_,o,z,d⟩:=fr.mem (b:=b) (by show b∈iF _;rw[es];exact aW _ hb)
  exact⟨o,hx.keeps _ _ z,d⟩
 ·intro b o z hb
  obtain⟨o1,z1⟩:=Ib.there b o z (by simp)
  refine⟨o1,mC b o1 z1 fun hm =>?_⟩
  rcases aY.mp hm with y | y
  ·rw[y,iu (au _)]at z;cases z
  ·exact hb y
theorem xK (hE:∀ c m H',E' c m H'->E c m H'):Passes (qk P w) (dQ (qk P w) P w K mg base N qual scope f cO A outer s0 H0 E) E':=by
 intro ah σ H s e s' I h
 obtain⟨ea,C,a0,B,H',rfl,fl,os,bare,bh,un,mC,m,hm,q⟩:=h
 have es:iF (envOfC qual scope s0.heap.objs.size f cO :: outer)=s0.heap.objs.size :: iF outer:=E7 rfl
 have Ib:Un (iF outer) [] H0 H s0.heap s.heap:=I.base
 have un':Un (s0.heap.objs.size :: iF outer) [] H H' s.heap s'.heap:=by rw[<- es];exact un
 have aaH:∀ b o,s.heap.get? b=some o->b ∉ s0.heap.objs.size :: iF outer->∃ o',B.get? b=some o':=fun b o z hb=>mC b o z (by show b ∉ iF (envOfC qual scope s0.heap.objs.size f cO :: outer);rw[es];exact hb)
 show wpAny _ _ (leaving _ _) _ _ _
 refine SF I.ok.frames rfl fl fun Jo x1 x2 x3 =>?_
 refine⟨ea,C,a0,B,H',O,x1,os.trans I.os,bare,bh,?_,?_,m,x3 _ hm,hE _ _ _ q⟩
 ·refine Un.fly Ib un' (iu (au _)) aaH fl.1 x1.1 x2 fun b hb =>?_
  obtain⟨_,o,z,d⟩:=fl.2.2.1.mem (b:=b) (by show b∈iF (envOfC qual scope s0.heap.objs.size f cO :: outer);rw[es];exact aW _ hb)
  exact⟨o,z,d⟩
 ·intro b o z hb
  obtain⟨o1,z1⟩:=Ib.there b o z (by simp)
  refine aaH b o1 z1 fun hm =>?_
  rcases aY.mp hm with y | y
  ·rw[y,iu (au _)]at z;cases z
  ·exact hb y
end
structure Exc (K:ao) (mg:Str->Option Value) (x:Str) (C:Addr):Prop where
 glob:mg x=some (.ref C)
 here:yO K C [.type "ValueError",.type "Exception",.type "BaseException",.type "object"] "ValueError.__new__" = true
theorem Exc.own {K:ao}{mg:Str->Option Value}{x:Str}{C:Addr}{h:Heap} (e:Exc K mg x C) (X:K.In h):OwnCls x C [.type "ValueError",.type "Exception",.type "BaseException",.type "object"] "ValueError.__new__" mg h:=by
 refine⟨e.glob,?_⟩
 have q:=e.here
 unfold yO at q
 split at q
 ·rename_i dd cd sl ho
  split at q
  ·rename_i C' bm k0 k1 k2 k3 n k5 hm hs
   simp only[gU,beq_iff_eq,Bool.not_eq_true']at q
   obtain⟨⟨⟨⟨⟨rfl,rfl⟩,ZL⟩,ht⟩,bh⟩,Uy⟩:=q
   obtain⟨nm,bs,mro,ns,qn,hd,sn,sub,ab,col,del⟩:=cd
   dsimp only at hm ZL bh Uy
   subst hm ZL
   have PR:sl = #[k0,k1,k2,k3,some (.builtin "ValueError.__new__"),k5]:=by
    obtain⟨l⟩:=sl
    simp only at hs
    rw[hs]
   subst PR
   exact⟨bm,ns,nm,qn,bs,hd,sn,sub,ab,col,dd,k0,k1,k2,k3,k5,_,X _ _ ho,.of_isNs (PySem.W.isNs_of_in X bh),PySem.W.nsMap_none_of_in X bh Uy,PySem.W.tail_of_in X ht⟩
  ·cases q
 ·cases q
def ack (X:Cx) (C:Addr) (E:XK):Prop := ∀ (ah:List (Addr × Obj)) (σ : St) (H:Hp) (s:Shared) (h':Heap) (e:Addr) (args:List Value),Inv X ah σ H s->EV s.heap h' e (.ref C) args->E (.ref C) none H->X.xe (.ref e) { s with heap:=h' }
def W6 (C:Addr) (E:XK) (t:TA):TS:=fun _ σ H=>t σ H fun vs H1=>vs.length<=sizeLine∧E (.ref C) none H1
theorem RR {X:Cx}{x:Str}{C:Addr}{E:XK}{NS : Expr}{rest:List Expr}{t:TA}{np de pos:Pos} (On:Exc X.K X.mg x C) (hc:X.calm=true) (F:ack X C E) (ha:PA X (NS :: rest) t) (hg:Gl X x)
  (he:starEach (NS :: rest) X.env=(false,eval NS X.env) :: starEach rest X.env:=by rfl) (II:(backTo de (starEach rest X.env)).any (·.1)=false:=by rfl) (hd:(x == ("__debug__" : Str))=false:=by decide) :
  PS X (.Raise (some (.Call (.Name x np) (NS :: rest) [] de)) none pos) (W6 C E t):=by
 intro ah s σ H D I h
 obtain⟨tl,N,nm,q,bs,hdct,sn,sub,ab,col,dd,k0,k1,k2,k3,k5,mN,hC,hN,Uy,T⟩:=(On.own I.ok.mod.CO).obj
 refine wpAny_Raise_call_subT (C:=C) (nm:=nm) (q:=q) (N:=N) (bs:=bs) (bm:=tl) (hdct:=hdct) (sn:=sn) (sub:=sub) (ab:=ab) (col:=col) (dd:=dd) (k0:=k0) (k1:=k1) (k2:=k2) (k3:=k3) (k5:=k5)
  sQ (mN:=mN) (T.hasType sQ.hasBase) (I.ok.hd hc) (by rw[he];show (false || (backTo de (starEach rest X.env)).any (·.1))=false;rw[II];rfl) Uy (wW I hg On.glob ⟨O,?_⟩ hd)
 have sJ := ha de ah s σ H _ I h
 rw[he]at sJ ⊢
 exact iw (wpAny_mono sJ (fun vs hX ⟨xs,H1,I1,r,hl,hq⟩=>⟨O,by rw[<- r.length];exact hl,I1.bk _ _ hC,hN.keeps I1.bk,T.keeps I1.bk,fun h' e hm=>F ah σ H1 hX h' e vs I1 hm hq⟩) fun _ _ y=>y)
end L2
namespace L2
open PySem PySem.Spec PyProof.Rows PySem.W
section
variable {prog:Program}{w:World}{A:Around}{E:Value->Shared->Prop}{h:Heap}{g:Array GenState}{d:Drawn}{t:Nat}{os:OsState}{a:Addr}{o:Obj}
 {nm q:Str}{C N:Addr}{bs bm:List Value}{hdct:Bool}{sn:List Str}{sub:List Value}{ab:Bool}{col:Option Bool}{dd:Option Addr}{k0 k1 k2 k3 k5:Option Value}{Nb:String}
end
end L2
namespace L2
open PySem PySem.Spec PyProof.Rows
def XO (ea C:Addr):HO := .ext fun h=>∃ o,h.get? ea=some o∧o.cls = .ref C
abbrev Cx.rE (X:Cx) (A:Around) (xe:Value->Shared->Prop):Cx := { X with A:=A,calm:=false,xe:=xe }
section
variable {X:Cx}{ah:List (Addr × Obj)}{σ : St}{H:Hp}{s:Shared}{xe:Value->Shared->Prop}{A:Around}
theorem Inv.rE (I:Inv X ah σ H s) (hf:A.frames=X.A.frames):Inv (X.rE A xe) ah σ H s :=
 ⟨⟨I.ok.mod,I.ok.kind,I.ok.glob,I.ok.blt,I.ok.above,I.ok.inj,I.ok.has,I.ok.F1,(fun h=>absurd (show false=true from h) (by decide)),hf.trans I.ok.frames,I.ok.G0,I.ok.Qq,I.ok.bs,I.ok.yK,I.ok.zx,I.ok.BO,I.ok.oA,I.ok.Bf⟩,
   I.os,I.bare,I.base,I.loc,I.cell,I.free,I.om,I.pin,I.bh,I.len⟩
theorem Inv.XG (I:Inv (X.rE A xe) ah σ H s) (hd:X.calm=true->X.A.handled=none) (hf:X.A.frames=A.frames):Inv X ah σ H s :=
 ⟨⟨I.ok.mod,I.ok.kind,I.ok.glob,I.ok.blt,I.ok.above,I.ok.inj,I.ok.has,I.ok.F1,hd,hf.trans I.ok.frames,I.ok.G0,I.ok.Qq,I.ok.bs,I.ok.yK,I.ok.zx,I.ok.BO,I.ok.oA,I.ok.Bf⟩,
   I.os,I.bare,I.base,I.loc,I.cell,I.free,I.om,I.pin,I.bh,I.len⟩
end
theorem Un.on {fs:List Addr} {H H':Hp}{h h1 h2 B:Heap} (U:Un fs [] H H' h h1) (mC:∀ b o,h.get? b=some o->b ∉ fs->∃ o',B.get? b=some o') (k1:∀ b o,B.get? b=some o->h1.get? b=some o) (k2:∀ b o,B.get? b=some o->h2.get? b=some o)
  (sl:h1.UpToSlots h2) (nf:∀ b∈fs,∃ o,h1.get? b=some o∧∀ vs,o.data ≠ .fields vs):Un fs [] H H' h h2:=by
 refine⟨fun b o q n hb hx =>?_,fun b o q n hb hx =>?_,U.free,fun b o q hx =>?_,U.sE,U.qL,U.qD⟩
 ·have q2:=U.keep b o q n hb hx
  obtain⟨o',e⟩:=mC b o q hb
  have e1:=k1 _ _ e
  rw[q2]at e1
  cases e1
  exact k2 _ _ e
 ·obtain⟨s1,q1⟩:=U.slot b o q n hb hx
  obtain⟨ob,q3,d⟩:=nf b hb
  rw[q1]at q3
  cases q3
  obtain⟨s4,q4⟩:=sl b _ q1 d
  exact⟨s4,q4⟩
 ·by_cases hb:b∈fs
  ·obtain⟨ob,q3,d⟩:=nf b hb
   obtain⟨s4,q4⟩:=sl b _ q3 d
   exact⟨_,q4⟩
  ·obtain⟨o',e⟩:=mC b o q hb
   exact⟨_,k2 _ _ e⟩
theorem Un.more {fs:List Addr} {H H':Hp}{h h2:Heap}{a:Addr}{o:HO} (U:Un fs [] H H' h h2) (hn:h.get? a=none) (hH:H' a=none):Un fs [] H (upd H' a o) h h2:=by
 have ne:∀ b u,h.get? b=some u->b≠a:=fun b u q z=>by rw[z,hn]at q;cases q
 refine⟨U.keep,U.slot,fun b u q n hx=>by rw[aF (ne b u q)];exact U.free b u q n hx,U.there,fun b xs q =>?_,fun b u xs q =>?_,fun b ps q =>?_⟩
 ·have e:=U.sE b xs q
  rw[aF (bX e hH)];exact e
 ·have e:=U.qL b u xs q
  rw[aF (bX e hH)];exact e
 ·obtain⟨m,e⟩:=U.qD b ps q
  exact⟨m,by rw[aF (bX e hH)];exact e⟩
section
variable {X:Cx}{ah:List (Addr × Obj)}{σ : St} {H0 H':Hp} {s0 s':Shared}{ea C:Addr}{a0:Value}{B h5:Heap}{env:Env}{outer:List Env}
theorem Ds (I:Inv X ah σ H0 s0) (fl:jL B X.stack ea (.ref C) a0 s'.heap) (os:s'.os=s0.os) (bare:AllBare s'.gens) (bh:gC X.prog X.w H' B) (un:Un (iF X.stack) [] H0 H' s0.heap s'.heap)
  (mC:∀ b o,s0.heap.get? b=some o->b ∉ iF X.stack->∃ o',B.get? b=some o') (k5:∀ b o,B.get? b=some o->h5.get? b=some o) (sl:s'.heap.UpToSlots h5) (he:∃ o vs,h5.get? ea=some o∧o.cls = .ref C∧o.data = .fields vs) :
  Inv X ah σ (upd H' ea (XO ea C)) { s' with heap:=h5 }∧H' ea=none:=by
 have hn:H' ea=none:=bh.Sn fl.2.1
 have fm:∀ b∈iF X.stack,∃ o,s'.heap.get? b=some o∧∀ vs,o.data ≠ .fields vs:=fun b hb=>(fl.2.2.1.mem hb).2
 obtain⟨oe,vs,h1,h2,h3⟩:=he
 have new:s0.heap.get? ea=none:=by
  cases q:s0.heap.get? ea with
  | none=>rfl
  | some o =>
   by_cases hb:ea∈iF X.stack
   ·obtain⟨ob,q3,d⟩:=fm ea hb
    obtain⟨s4,q4⟩:=sl ea _ q3 d
    rw[h1]at q4
    cases q4
    exact absurd h3 (d vs)
   ·obtain⟨o',e⟩:=mC ea o q hb
    rw[fl.2.1]at e;cases e
 refine⟨Inv.Vd (s' := { s' with heap:=h5 }) I os ((un.on mC fl.1 k5 sl fm).more new hn) ?_ bare (fun b z=>absurd z (by simp)),hn⟩
 intro b u e
 have tup:∀ c xs,H' c=some (.tup xs)->upd H' ea (XO ea C) c=some (.tup xs):=fun c xs z=>by rw[aF (bX z hn)];exact z
 have own:∀ c y,H' c=some (.own y)->upd H' ea (XO ea C) c=some (.own y):=fun c y z=>by rw[aF (bX z hn)];exact z
 by_cases hb:b=ea
 ·subst hb
  rw[aE]at e
  cases e
  refine⟨⟨oe,h1,h2⟩,⟨oe,h1⟩,fun g1 g2 ⟨o,z1,z2⟩ k=>⟨o,k o z1,z2⟩⟩
 ·rw[aF hb]at e
  exact(bh b u e).uw (fun c v hc q=>k5 _ _ q) (fun c z=>own c b z) tup
end
def aaQ (X:Cx) (ah:List (Addr × Obj)) (σ : St) (E:XK) (xe:Value->Shared->Prop):Prop := ∀ (H0:Hp) (s0:Shared) (e:Value) (s':Shared),Inv X ah σ H0 s0->qk X.prog X.w X.stack H0 s0 E e s'->xe e s'
def PEt (X:Cx) (e:Expr) (t:XK->TE):Prop := ∀ (E:XK) (ah:List (Addr × Obj)) (s:Shared) (σ : St) (H:Hp) (Q:VK) (xe:Value->Shared->Prop),aaQ X ah σ E xe->Inv X ah σ H s->t E σ H Q ->
 wpAny (model X.prog X.w) X.A (eval e X.env) (EP X ah σ Q) xe s
def PSt (X:Cx) (st:List Stmt) (t:XK->TS):Prop := ∀ (E:XK) (ah:List (Addr × Obj)) (s:Shared) (σ : St) (H:Hp) (D:Ends) (xe:Value->Shared->Prop),aaQ X ah σ E xe->Inv X ah σ H s->t E D σ H ->
 wpAny (model X.prog X.w) X.A (execs st X.env) (SP X ah D) xe s
section
variable {X:Cx}{k:Nat}{f:Addr}{fd:FuncData}{ps:List Str}{sp:Sp}{jw:List V}{ds:List Value}{x:Str}{p pos:Pos}{e:Expr}{es:List Expr}{t:TA}
theorem VL {CX:wk}{E:XK}{xe:Value->Shared->Prop}{ah:List (Addr × Obj)}{σ : St}{H:Hp}{s:Shared}{Q:VK}{us:List Value}{vs:List V} (F:lC X.prog X.w X.K X.mg X.base CX k f fd ps sp) (hr:eZ k X.A) (hb:Binds X.K fd ps ds) (hd:Vals jw ds)
  (I:Inv X ah σ H s) (hx:∀ e s',CX X.stack H s E e s'->xe e s') (r:Vals vs us) (h:sp (vs ++ jw) H Q E):wpAny (model X.prog X.w) X.A (call (.ref f) us) (EP X ah σ Q) xe s:=by
 have r2:Vals (vs ++ jw) (us ++ ds):=r.append hd
 have hl:(us ++ ds).length=ps.length:=by rw[<- r2.length];exact F.len _ _ _ _ h
 refine wpAny_call (codeAny_mono (F.run X.A X.stack s H ⟨us, []⟩ (us ++ ds) (vs ++ jw) Q E hr I.S9 (hb s us I.kI hl) r2 h) fun r s' hq =>?_)
 cases r with
 | error e=>exact hx e s' hq
 | ok fl =>
  cases fl with
  | ret u=>exact I.after hq
  | next=>exact dA hq
  | brk=>exact dA hq
  | cont=>exact dA hq
theorem RY (F:lC X.prog X.w X.K X.mg X.base (qk X.prog X.w) k f fd ps sp) (hr:eZ k X.A) (hg:Gl X x) (hm:X.mg x=some (.ref f)) (hk:dw X.K (.ref f)=true) (hb:Binds X.K fd ps ds) (hd:Vals jw ds)
  (ha:PA X.HJ (e :: es) t) (rY:(x == ("__debug__" : Str))=false:=by decide) (he:starEach (e :: es) X.env=(false,eval e X.env) :: starEach es X.env:=by rfl) (my:(backTo pos (starEach es X.env)).any (·.1)=false:=by rfl) :
  PEt X (.Call (.Name x p) (e :: es) [] pos) (fun E=>tO sp jw E t):=by
 intro E ah s σ H Q xe W I h
 refine wpAny_Call_Name_kw (wW I hg hm ?_ rY)
 refine m8 (h₀ := X.base) I.ok.mod.CO hk (wpAny_mono (ha pos ah s σ H _ (I.uq _) h) (fun us s1 ⟨vs,H1,I1,r,q⟩=>⟨I1.mP.kI,?_⟩) fun _ _ z=>dA z) he my
 exact VL F hr hb hd I1.mP (fun e s' hq=>W H1 s1 e s' I1.mP hq) r q
end
theorem CQ {M:Model}{A:Around}{E:Value->Shared->Prop} {R R':Str->Shared->Prop} (h:∀ z s,R z s->R' z s):∀ {l:List (Sem Value)}{acc:Str}{s:Shared},Joins M A E l acc R s->Joins M A E l acc R' s
 | [],acc,s,q=>h _ _ q
 | x :: r,acc,s,q=>wpAny_mono q (fun v s1 ⟨y,t,e,hz,q1⟩=>⟨y,t,e,hz,CQ h q1⟩) fun _ _ z=>z
section
variable {X:Cx}
abbrev TJ:=St->Hp->(Hp->Prop)->Prop
def PJ (X:Cx) (es:List Expr) (t:TJ):Prop := ∀ (ah:List (Addr × Obj)) (s:Shared) (σ : St) (H:Hp) (acc:Str) (Q:Hp->Prop),Inv X ah σ H s->acc.length+1000 * es.length<=100000 ->
 t σ H Q->Joins (model X.prog X.w) X.A X.xe (evalEach es X.env) acc (fun ic s1=>ic.length<=100000∧∃ H1,Inv X ah σ H1 s1∧Q H1) s
def afI:TJ:=fun _ H Q=>Q H
def abY (te:TE) (t:TJ):TJ:=fun σ H Q=>te σ H fun x H1=>∃ z,x = .str z∧z.length<=1000∧t σ H1 Q
theorem X0:PJ X [] afI:=fun ah s σ H acc R I hl h=>⟨by simpa using hl,H,I,h⟩
theorem Ar {e:Expr}{es:List Expr}{te:TE}{t:TJ} (he:PE X e te) (hr:PJ X es t) (hs:evalEach (e :: es) X.env=eval e X.env :: evalEach es X.env:=by rfl):PJ X (e :: es) (abY te t):=by
 intro ah s σ H acc R I hl h
 rw[hs]
 rw[bV]at hl
 refine bF (he ah s σ H _ I h) fun v s1 ⟨x,H1,I1,rx,z,ex,hz,q⟩ =>?_
 subst ex
 obtain⟨tk,rfl⟩:=rx
 have eg:(acc ++ z).length=acc.length+z.length:=AK _ _
 refine⟨z,tk,O,by rw[eg];exact bq (by omega:_<=100000) (by decide),hr ah s1 σ H1 (acc ++ z) R I1 (by rw[eg];omega) q⟩
def Vz (n:Nat) (t:TJ):TE:=fun σ H Q=>n<=90∧t σ H fun H1=>∀ z:Str,Q (.str z) H1
theorem O0 {a b:Expr}{r:List Expr}{t:TJ}{pos:Pos} (h:PJ X (a :: b :: r) t):PE X (.JoinedStr (a :: b :: r) pos) (Vz (a :: b :: r).length t):=by
 intro ah s σ H Q I hw
 obtain⟨hn,hq⟩:=hw
 refine wpAny_JoinedStr (CQ (fun z s1 ⟨hz,H1,I1,q⟩=>⟨bq hz (by decide),⟨.str z,H1,I1.tok _,⟨_,O⟩,q z⟩⟩) (h ah s σ H F8 _ I ?_ hq))
 show 0+_<=_
 omega
def aby (tv:TE):TE:=fun σ H Q=>tv σ H fun x H1=>∃ i,x = .int i∧i.natAbs.log2 < 1920∧Q (.str (toString i)) H1
theorem K6 {v:Expr}{tv:TE}{pos:Pos} (h:PE X v tv):PE X (.FormattedValue v (-1) none pos) (aby tv):=by
 intro ah s σ H Q I hw
 refine FormattedValue_plain (bF (h ah s σ H _ I hw) fun u s1 ⟨x,H1,I1,rx,i,ex,hi,q⟩ =>?_)
 subst ex
 obtain⟨tk,rfl⟩:=rx
 exact formatField_int_small hi ⟨.str _,H1,I1.tok _,⟨_,O⟩,q⟩
end
theorem Ah.okE {P:Program}{w:World}{K:ao}{mg:Str->Option Value}{base:Heap}{x qual:Str}{st:Stmt}{f:Addr}{fd:FuncData}{N ps:List Str}{k:Nat}{sp:Sp} (F:Ah K x qual st f fd) (S:cF N ps (aX st)) (len:∀ vs H Q E,sp vs H Q E->vs.length=ps.length)
  (nB:∀ (cO:Value) (A:Around) (outer:List Env) (s:Shared) (H:Hp) (vs:List V) (Q:VK) (E:XK),eZ k (A.deeper (envOfC qual (aX st) s.heap.objs.size f cO))->sp vs H Q E ->
   ∃ t,pV (dQ (qk P w) P w K mg base N qual (aX st) f cO A outer s H E) (fT st) t∧t { nx:=fun _ H'=>Q .cJ H',rt:=Q } (start N vs) H):lC P w K mg base (qk P w) (k+1) f fd ps sp:=by
 obtain⟨oc,od,kV,doc,pm,an,cO,ct,yA,rfl,lk,mZ⟩:=F.ex
 exact NO lk mZ S len fun A outer s H vs Q E hr yE=>nB cO A outer s H vs Q E hr yE
structure EW (P:Program) (w:World) (K:ao) (mg:Str->Option Value) (base:Heap) (k:Nat) (x:Str) (ps:List Str) (sp:Sp):Prop where
 ex:∃ f fd,lC P w K mg base (qk P w) k f fd ps sp∧mg x=some (.ref f)∧dw K (.ref f)=true∧Binds K fd ps []
structure lU (P:Program) (w:World) (K:ao) (mg:Str->Option Value) (base:Heap) (k:Nat) (C:Addr) (m:Str) (ps:List Str) (sp:Sp):Prop where
 ex:∃ f fd,lC P w K mg base (qk P w) k f fd ps sp∧Meth K C m f∧Binds K fd ps []
structure N1 (P:Program) (w:World) (K:ao) (mg:Str->Option Value) (base:Heap) (k:Nat) (x:Str) (C:Addr) (ps:List Str) (sp:Sp):Prop where
 ex:∃ f fd,lC P w K mg base (qk P w) k f fd ps sp∧mg x=some (.ref C)∧Mk K C f∧Binds K fd ps []
structure ni (K:ao) (C:Addr) (m qual:Str) (st:Stmt) (ps:List Str):Prop where
 ex:∃ f fd,Ah K m qual st f fd∧Meth K C m f∧Binds K fd ps []
structure N5 (K:ao) (mg:Str->Option Value) (x:Str) (C:Addr) (qual:Str) (st:Stmt) (ps:List Str):Prop where
 ex:∃ f fd,Ah K "__init__" qual st f fd∧mg x=some (.ref C)∧Mk K C f∧Binds K fd ps []
section
variable {P:Program}{w:World}{K:ao}{mg:Str->Option Value}{base:Heap}{x m qual:Str}{C:Addr}{st:Stmt}{N ps:List Str}{k:Nat}{sp:Sp}
theorem ni.has (D:ni K C m qual st ps) (S:cF N ps (aX st)) (len:∀ vs H Q E,sp vs H Q E->vs.length=ps.length)
  (nB:∀ (f:Addr) (cO:Value) (A:Around) (outer:List Env) (s:Shared) (H:Hp) (vs:List V) (Q:VK) (E:XK),eZ k (A.deeper (envOfC qual (aX st) s.heap.objs.size f cO))->sp vs H Q E ->
   ∃ t,pV (dQ (qk P w) P w K mg base N qual (aX st) f cO A outer s H E) (fT st) t∧t { nx:=fun _ H'=>Q .cJ H',rt:=Q } (start N vs) H):lU P w K mg base (k+1) C m ps sp:=by
 obtain⟨f,fd,F,hm,hb⟩:=D.ex
 exact⟨f,fd,F.okE S len (nB f),hm,hb⟩
theorem N5.has (D:N5 K mg x C qual st ps) (S:cF N ps (aX st)) (len:∀ vs H Q E,sp vs H Q E->vs.length=ps.length)
  (nB:∀ (f:Addr) (cO:Value) (A:Around) (outer:List Env) (s:Shared) (H:Hp) (vs:List V) (Q:VK) (E:XK),eZ k (A.deeper (envOfC qual (aX st) s.heap.objs.size f cO))->sp vs H Q E ->
   ∃ t,pV (dQ (qk P w) P w K mg base N qual (aX st) f cO A outer s H E) (fT st) t∧t { nx:=fun _ H'=>Q .cJ H',rt:=Q } (start N vs) H):N1 P w K mg base (k+1) x C ps sp:=by
 obtain⟨f,fd,F,hm,hb⟩:=D.ex
 exact⟨f,fd,F.okE S len (nB f),hm,hb⟩
end
section
variable {X:Cx} {k k':Nat}{x m:Str}{C:Addr}{ps:List Str}{sp:Sp}{p pos dv:Pos}{e o:Expr}{es:List Expr}{ta:TE}{t:TA}{E:XK}
theorem R8 (h:EW X.prog X.w X.K X.mg X.base k x ps sp) (hr:eZ k' X.A) (hk:k<=k') (hx:Passes (qk X.prog X.w) X E) (hg:Gl X x) (ha:PA X (e :: es) t) (rY:(x == ("__debug__" : Str))=false:=by decide)
  (he:starEach (e :: es) X.env=(false,eval e X.env) :: starEach es X.env:=by rfl) (my:(backTo pos (starEach es X.env)).any (·.1)=false:=by rfl) :
  PE X (.Call (.Name x p) (e :: es) [] pos) (tO sp [] E t):=by
 obtain⟨f,fd,F,hm,IT,hb⟩:=h.ex
 exact K7 F (hr.mono hk) hg hm IT hb .nil hx ha rY he my
theorem OY (h:EW X.prog X.w X.K X.mg X.base k x ps sp) (hr:eZ k' X.A) (hk:k<=k') (hg:Gl X x) (ha:PA X.HJ (e :: es) t) (rY:(x == ("__debug__" : Str))=false:=by decide)
  (he:starEach (e :: es) X.env=(false,eval e X.env) :: starEach es X.env:=by rfl) (my:(backTo pos (starEach es X.env)).any (·.1)=false:=by rfl) :
  PEt X (.Call (.Name x p) (e :: es) [] pos) (fun E=>tO sp [] E t):=by
 obtain⟨f,fd,F,hm,IT,hb⟩:=h.ex
 exact RY F (hr.mono hk) hg hm IT hb .nil ha rY he my
theorem tQ {pl:Sem Bool} (h:lU X.prog X.w X.K X.mg X.base k C m ps sp) (c:xt X.K C) (hr:eZ k' X.A) (hk:k<=k') (hx:Passes (qk X.prog X.w) X E) (he:PE X o ta) (ha:PA X (e :: es) t)
  (iW:starEach (e :: es) X.env=(false,eval e X.env) :: starEach es X.env:=by rfl) (my:(backTo pos (starEach es X.env)).any (·.1)=false:=by rfl)
  (ht:eval (.Call (.Attribute o m dv) (e :: es) [] pos) X.env=(do
   let ov <- eval o X.env
   standAt dv.atName
   let (f,first) <- holding [ov] (getMethod ov m pl)
   callWith pos f first (backTo pos (starEach (e :: es) X.env)) (backToKw pos (keywordEach [] X.env))):=by rfl) :
  PE X (.Call (.Attribute o m dv) (e :: es) [] pos) (GB C m sp [] E ta t):=by
 obtain⟨f,fd,F,hm,hb⟩:=h.ex
 exact VW he c hm F (hr.mono hk) hb .nil hx ha iW my ht
theorem X3 {pl:Sem Bool} (h:lU X.prog X.w X.K X.mg X.base k C m ps sp) (c:xt X.K C) (hr:eZ k' X.A) (hk:k<=k') (hx:Passes (qk X.prog X.w) X E) (he:PE X o ta)
  (ht:eval (.Call (.Attribute o m dv) [] [] pos) X.env=(do
   let ov <- eval o X.env
   standAt dv.atName
   let (f,first) <- holding [ov] (getMethod ov m pl)
   callWith pos f first (backTo pos (starEach [] X.env)) (backToKw pos (keywordEach [] X.env))):=by rfl) :
  PE X (.Call (.Attribute o m dv) [] [] pos) (GB C m sp [] E ta sF):=by
 obtain⟨f,fd,F,hm,hb⟩:=h.ex
 exact R5 he c hm F (hr.mono hk) hb .nil hx ht
theorem R6 (h:N1 X.prog X.w X.K X.mg X.base k x C ps sp) (hr:eZ k' X.A) (hk:k+1<=k') (hx:Passes (qk X.prog X.w) X E) (hg:Gl X x) (ha:PA X (e :: es) t) (rY:(x == ("__debug__" : Str))=false:=by decide)
  (he:starEach (e :: es) X.env=(false,eval e X.env) :: starEach es X.env:=by rfl) (my:(backTo pos (starEach es X.env)).any (·.1)=false:=by rfl) :
  PE X (.Call (.Name x p) (e :: es) [] pos) (TL C sp [] E t):=by
 obtain⟨f,fd,F,hm,M,hb⟩:=h.ex
 exact VX M F (hr.mono hk) hg hm hb .nil hx ha rY he my
end
section
variable {X:Cx}
end
theorem vT {K:ao}{a:Addr}{xs ys:List V}{te:TE}{σ : St}{caps:List (Str × Nat)}{H:Hp}{Q:VK} (hS:bD K H a xs) (hz:xs.length<=1000) (hy:ys.length=xs.length)
  (A8:∀ (i:Nat) (x y:V),xs[i]? = some x->ys[i]? = some y->∀ H',bu H H'->∀ Q':VK,(∀ iY,bu H' iY->Q' y iY)->te (some x :: jV σ caps) H' Q') (hq:∀ D H',H D=none->bu H H'->H' D=some (.lst ys)->Q (.ref D) H') :
  yu (Itt K a) (bw 0) te (bY 1 none ++ jV σ caps) H Q:=by
 intro D hD
 refine⟨fun i m τ zs H'=>m=xs.length - i∧i<=xs.length∧(∃ o, τ = o :: jV σ caps)∧zs=ys.take i∧bu H H'∧H' D=some (.lst zs),⟨xs.length,by simp,bA _,⟨none,O⟩,by simp,bf hD _,aE⟩,?_⟩
 rintro i m τ zs H' ⟨rfl,hi,⟨o,rfl⟩,rfl,sm,r9⟩
 refine⟨r9,?_⟩
 by_cases cU:i < xs.length
 ·refine .inr ⟨⟨xs,xs[i],sm.tup hS,by simp[cU]⟩,?_,fun x iY y =>?_⟩
  ·rw[cj]
   exact c6 (by omega)
  obtain⟨e,y⟩:=y
  subst e
  have hx:=y xs (sm.tup hS)
  have hyi:ys[i]? = some ys[i]:=aj (by omega)
  show te (some x :: jV σ caps) _ _
  refine A8 i x ys[i] hx hyi _ sm _ (fun H2 s2 =>?_)
  refine⟨s2 _ _ r9,xs.length - (i+1),by omega,O,cU,⟨_,O⟩,?_,(sm.trans s2).put hD,?_⟩
  ·rw[iz,hyi];rfl
  ·rw[aE]
 ·have e:i=xs.length:=by omega
  subst e
  refine .inl ⟨⟨xs,sm.tup hS,au _⟩,?_⟩
  rw[<- hy,bB]at r9
  exact hq D H' hD sm r9
inductive D where
 | cJ | int (i:Int) | str (x:Str) | tup (ds:List D) | lst (ds:List D)
instance:DecidableEq D:=fun _ _=>iM _
mutual
def D.deep:D->Nat
 | .tup ds=>D.dW ds+1
 | .lst ds=>D.dW ds+1
 | .cJ=>0
 | .int _=>0
 | .str _=>0
def D.dW:List D->Nat
 | []=>0
 | d :: ds=>max d.deep (D.dW ds)
end
theorem uY:∀ {ds:List D}{d:D},d∈ds->d.deep<=D.dW ds
 | e :: ds,d,h=>by
  rw[D.dW]
  rcases aY.mp h with rfl | h
  ·omega
  ·have:=uY h;omega
mutual
def bW (h:Heap):D->Value->Prop
 | .cJ,u=>u=di
 | .int i,u=>(∃ t,u=m6 i t)∨∃ b,u=eJ b∧i=(if b then 1 else 0)
 | .str x,u=>∃ t,u=o9 x t
 | .tup ds,u=>∃ a us,u=aQ a∧h.IsTuple a us.toArray∧eC h ds us
 | .lst ds,u=>∃ a us,u=aQ a∧h.IsList a us.toArray∧eC h ds us
def eC (h:Heap):List D->List Value->Prop
 | [],us=>us = []
 | d :: ds,us=>∃ u ei,us=u :: ei∧bW h d u∧eC h ds ei
end
mutual
def Den (H:Hp):D->V->Prop
 | .cJ,v=>v = .cJ
 | .int i,v=>v = .int i∨∃ b,v = .bl b∧i=(if b then 1 else 0)
 | .str x,v=>v = .str x
 | .tup ds,v=>∃ a vs,v = .ref a∧H a=some (.tup vs)∧nU H ds vs
 | .lst ds,v=>∃ a vs,v = .ref a∧H a=some (.lst vs)∧nU H ds vs
def nU (H:Hp):List D->List V->Prop
 | [],vs=>vs = []
 | d :: ds,vs=>∃ v jk,vs=v :: jk∧Den H d v∧nU H ds jk
end
theorem gZ {h:Heap}:∀ {ds:List D}{us:List Value},eC h ds us->us.length=ds.length
 | [],us,r=>by rw[eC]at r;subst r;rfl
 | d :: ds,us,r=>by
  rw[eC]at r
  obtain⟨u,ei,rfl,_,r⟩:=r
  rw[bV,bV,gZ r]
theorem oC {h:Heap}:∀ {ds:List D}{us:List Value}{j:Nat}{d:D},eC h ds us->ds[j]? = some d->∃ u,us[j]? = some u∧bW h d u
 | [],us,j,d,r,e=>by simp at e
 | c :: ds,us,0,d,r,e=>by
  rw[eC]at r
  obtain⟨u,ei,rfl,r1,_⟩:=r
  simp at e;subst e
  exact⟨u,O,r1⟩
 | c :: ds,us,j+1,d,r,e=>by
  rw[eC]at r
  obtain⟨u,ei,rfl,_,r⟩:=r
  obtain⟨u',e',r'⟩:=oC (j:=j) (d:=d) r (by simpa using e)
  exact⟨u',by simpa using e',r'⟩
theorem j7 {H:Hp}{d:D}{v:V}{ds:List D}{vs:List V} (r:Den H d v) (q:nU H ds vs):nU H (d :: ds) (v :: vs):=by
 rw[nU];exact⟨v,vs,O,r,q⟩
theorem uX {H:Hp}:nU H [] []:=by rw[nU]
mutual
theorem o8 {P:Program}{w:World}{H:Hp}{h:Heap} (ok:gC P w H h):∀ {d:D}{v:V}{u:Value},Den H d v->RelV v u->bW h d u
 | .cJ,v,u,r,q=>by rw[Den]at r;subst r;rw[bW];exact q
 | .int i,v,u,r,q=>by
  rw[Den]at r
  rw[bW]
  rcases r with rfl | ⟨b,rfl,e⟩
  ·exact .inl q
  ·exact .inr ⟨b,q,e⟩
 | .str x,v,u,r,q=>by rw[Den]at r;subst r;rw[bW];exact q
 | .tup ds,v,u,r,q=>by
  rw[Den]at r
  obtain⟨a,vs,rfl,e,r⟩:=r
  rw[bW]
  obtain⟨_,its,rv,p⟩:=(show dy P w H h a (.tup vs) from ok a _ e)
  exact⟨a,its,q,p.tup,BQ ok r rv⟩
 | .lst ds,v,u,r,q=>by
  rw[Den]at r
  obtain⟨a,vs,rfl,e,r⟩:=r
  rw[bW]
  obtain⟨_,its,n,rv,p⟩:=(show dy P w H h a (.lst vs) from ok a _ e)
  exact⟨a,its,q,⟨_,p,O,n,O⟩,BQ ok r rv⟩
theorem BQ {P:Program}{w:World}{H:Hp}{h:Heap} (ok:gC P w H h):∀ {ds:List D}{vs:List V}{us:List Value},nU H ds vs->Vals vs us->eC h ds us
 | [],vs,us,r,q=>by rw[nU]at r;subst r;cases q;rw[eC]
 | d :: ds,vs,us,r,q=>by
  rw[nU]at r
  obtain⟨v,jk,rfl,r1,r⟩:=r
  cases q with
  | cons q1 q2 =>
   rw[eC]
   exact⟨_,_,O,o8 ok r1 q1,BQ ok r q2⟩
end
theorem KJ {h:Heap}{a:Addr}{x y:Array Value} (p:h.IsTuple a x) (q:h.IsTuple a y):x=y:=by
 obtain⟨o,e,_,n,d⟩:=p
 obtain⟨o',e',_,n',d'⟩:=q
 rw[e]at e';cases e'
 rw[d]at d'
 injection d'
theorem Wh {h:Heap}{a:Addr}{x y:Array Value} (p:h.IsList a x) (q:h.IsList a y):x=y:=by
 obtain⟨o,e,_,n,d⟩:=p
 obtain⟨o',e',_,n',d'⟩:=q
 rw[e]at e';cases e'
 rw[d]at d'
 injection d'
theorem Li {h:Heap}{a:Addr}{x y:Array Value} (p:h.IsList a x) (q:h.IsTuple a y):False:=by
 obtain⟨o,e,c,n,d⟩:=p
 obtain⟨o',e',c',n',d'⟩:=q
 rw[e]at e';cases e'
 rw[c]at c'
 exact absurd (jy c') (by decide)
mutual
theorem ye {h:Heap}:∀ {d e:D}{u:Value},bW h d u->bW h e u->d=e
 | .cJ,e,u,r,q=>by
  rw[bW]at r;subst r
  cases e with
  | cJ=>rfl
  | int i=>rw[bW]at q;rcases q with⟨t,z⟩ | ⟨b,z,_⟩ <;> cases z
  | str x=>rw[bW]at q;obtain⟨t,z⟩:=q;cases z
  | tup es=>rw[bW]at q;obtain⟨a,us,z,_⟩:=q;cases z
  | lst es=>rw[bW]at q;obtain⟨a,us,z,_⟩:=q;cases z
 | .int i,e,u,r,q=>by
  rw[bW]at r
  cases e with
  | cJ=>rw[bW]at q;subst q;rcases r with⟨t,z⟩ | ⟨b,z,_⟩ <;> cases z
  | int j =>
   rw[bW]at q
   rcases r with⟨t,rfl⟩ | ⟨b,rfl,hb⟩ <;> rcases q with⟨t',z⟩ | ⟨b',z,tH⟩ <;> cases z
   ·rfl
   ·rw[hb,tH]
  | str x=>rw[bW]at q;obtain⟨t,rfl⟩:=q;rcases r with⟨t,z⟩ | ⟨b,z,_⟩ <;> cases z
  | tup es=>rw[bW]at q;obtain⟨a,us,rfl,_⟩:=q;rcases r with⟨t,z⟩ | ⟨b,z,_⟩ <;> cases z
  | lst es=>rw[bW]at q;obtain⟨a,us,rfl,_⟩:=q;rcases r with⟨t,z⟩ | ⟨b,z,_⟩ <;> cases z
 | .str x,e,u,r,q=>by
  rw[bW]at r
  obtain⟨t,rfl⟩:=r
  cases e with
  | cJ=>rw[bW]at q;cases q
  | int i=>rw[bW]at q;rcases q with⟨t,z⟩ | ⟨b,z,_⟩ <;> cases z
  | str x=>rw[bW]at q;obtain⟨t,z⟩:=q;cases z;rfl
  | tup es=>rw[bW]at q;obtain⟨a,us,z,_⟩:=q;cases z
  | lst es=>rw[bW]at q;obtain⟨a,us,z,_⟩:=q;cases z
 | .tup ds,e,u,r,q=>by
  rw[bW]at r
  obtain⟨a,us,rfl,p,r⟩:=r
  cases e with
  | cJ=>rw[bW]at q;cases q
  | int i=>rw[bW]at q;rcases q with⟨t,z⟩ | ⟨b,z,_⟩ <;> cases z
  | str x=>rw[bW]at q;obtain⟨t,z⟩:=q;cases z
  | tup es =>
   rw[bW]at q;obtain⟨a',ei,z,p',q⟩:=q;cases z
   have e:us=ei:=by have:=KJ p p';simpa using this
   subst e
   rw[zS r q]
  | lst es=>rw[bW]at q;obtain⟨a',ei,z,p',_⟩:=q;cases z;exact absurd p (fun p=>Li p' p)
 | .lst ds,e,u,r,q=>by
  rw[bW]at r
  obtain⟨a,us,rfl,p,r⟩:=r
  cases e with
  | cJ=>rw[bW]at q;cases q
  | int i=>rw[bW]at q;rcases q with⟨t,z⟩ | ⟨b,z,_⟩ <;> cases z
  | str x=>rw[bW]at q;obtain⟨t,z⟩:=q;cases z
  | tup es=>rw[bW]at q;obtain⟨a',ei,z,p',_⟩:=q;cases z;exact absurd p (fun p=>Li p p')
  | lst es =>
   rw[bW]at q;obtain⟨a',ei,z,p',q⟩:=q;cases z
   have e:us=ei:=by have:=Wh p p';simpa using this
   subst e
   rw[zS r q]
theorem zS {h:Heap}:∀ {ds es:List D}{us:List Value},eC h ds us->eC h es us->ds=es
 | [],es,us,r,q=>by
  rw[eC]at r;subst r
  cases es with
  | nil=>rfl
  | cons e es=>rw[eC]at q;obtain⟨u,ei,z,_⟩:=q;cases z
 | d :: ds,es,us,r,q=>by
  rw[eC]at r
  obtain⟨u,ei,rfl,r1,r⟩:=r
  cases es with
  | nil=>rw[eC]at q;cases q
  | cons e es =>
   rw[eC]at q;obtain⟨u',MM,z,q1,q⟩:=q
   cases z
   rw[ye r1 q1,zS r q]
end
theorem yf {p:Prop} [Decidable p] {b:Bool} (h:p↔b=true):b=decide p:=by
 cases b with
 | true=>exact(decide_eq_true (h.mpr rfl)).symm
 | false=>exact(decide_eq_false fun z=>bb (h.mp z)).symm
theorem JK (ds es:List D):((bN (min ds.length es.length)).all (fun j=>decide (ds[j]? = es[j]?)) && ds.length == es.length)=decide (ds=es):=by
 refine yf ⟨fun h=>by subst h;simp,fun h =>?_⟩
 rw[gU,iS]at h
 have hl:ds.length=es.length:=eq_of_beq h.2
 refine d8 fun j =>?_
 by_cases hj:j < ds.length
 ·exact of_decide_eq_true (h.1 j (cI.mpr (by omega)))
 ·rw[eU (by omega),eU (by omega)]
theorem Mb (ds es:List D) (hl:ds.length=es.length):(bN ds.length).all (fun j=>decide (ds[j]? = es[j]?))=decide (ds=es):=by
 have:=JK ds es
 rw[<- hl,Nat.min_self]at this
 simpa using this
section
open SeqAt
variable {A:Around}{s:Shared}
theorem bK {u v:Value}{b c:Bool} (h:EqAt A s u v b) (e:b=c):EqAt A s u v c:=e ▸ h
theorem Jt:∀ (n:Nat) {d e:D}{A:Around}{u v:Value},d.deep<=n->bW s.heap d u->bW s.heap e v->A.units+n < cLine->EqAt A s u v (decide (d=e)):=by
 intro n
 induction n with
 | zero =>?_
 | succ n ih =>?_
 all_goals intro d e A u v hn r q hu
 all_goals have l5:A.units < cLine:=by omega
 all_goals cases d with
  | cJ =>
   rw[bW]at r;subst r
   cases e with
   | cJ=>rw[bW]at q;subst q;exact bK (EqAt.same _) (decide_eq_true rfl).symm
   | int j =>
    rw[bW]at q
    rcases q with⟨t,rfl⟩ | ⟨b,rfl,_⟩
    ·exact bK (EqAt.none_int j t) (decide_eq_false nofun).symm
    ·exact bK (EqAt.none_bool b) (decide_eq_false nofun).symm
   | str y=>rw[bW]at q;obtain⟨t,rfl⟩:=q;exact bK (EqAt.none_str y t) (decide_eq_false nofun).symm
   | tup es=>rw[bW]at q;obtain⟨a,us,rfl,p,_⟩:=q;exact bK (EqAt.none_tuple p l5) (decide_eq_false nofun).symm
   | lst es=>rw[bW]at q;obtain⟨a,us,rfl,p,_⟩:=q;exact bK (EqAt.none_list p l5) (decide_eq_false nofun).symm
  | int i =>
   rw[bW]at r
   cases e with
   | cJ =>
    rw[bW]at q;subst q
    rcases r with⟨t,rfl⟩ | ⟨b,rfl,_⟩
    ·exact bK (EqAt.int_none i t) (decide_eq_false nofun).symm
    ·exact bK (EqAt.bool_none b) (decide_eq_false nofun).symm
   | int j =>
    rw[bW]at q
    have key:∀ x y:Int,(x == y)=decide (D.int x=D.int y):=fun x y=>yf ⟨fun z=>by cases z;simp,fun z=>by rw[eq_of_beq z]⟩
    rcases r with⟨t,rfl⟩ | ⟨b,rfl,hb⟩ <;> rcases q with⟨t',rfl⟩ | ⟨b',rfl,tH⟩
    ·exact bK (EqAt.int_int i t j t') (key i j)
    ·rw[tH];exact bK (EqAt.int_bool i t b') (key _ _)
    ·rw[hb];exact bK (EqAt.bool_int b j t') (key _ _)
    ·rw[hb,tH];exact bK (EqAt.bool_bool b b') (by rw[<- key];cases b <;> cases b' <;> rfl)
   | str y =>
    rw[bW]at q;obtain⟨t,rfl⟩:=q
    rcases r with⟨t',rfl⟩ | ⟨b,rfl,_⟩
    ·exact bK (EqAt.int_str i t' y t) (decide_eq_false nofun).symm
    ·exact bK (EqAt.bool_str b y t) (decide_eq_false nofun).symm
   | tup es =>
    rw[bW]at q;obtain⟨a,us,rfl,p,_⟩:=q
    rcases r with⟨t',rfl⟩ | ⟨b,rfl,_⟩
    ·exact bK (EqAt.int_tuple i t' p l5) (decide_eq_false nofun).symm
    ·exact bK (EqAt.bool_tuple b p l5) (decide_eq_false nofun).symm
   | lst es =>
    rw[bW]at q;obtain⟨a,us,rfl,p,_⟩:=q
    rcases r with⟨t',rfl⟩ | ⟨b,rfl,_⟩
    ·exact bK (EqAt.int_list i t' p l5) (decide_eq_false nofun).symm
    ·exact bK (EqAt.bool_list b p l5) (decide_eq_false nofun).symm
  | str x =>
   rw[bW]at r;obtain⟨t',rfl⟩:=r
   cases e with
   | cJ=>rw[bW]at q;subst q;exact bK (EqAt.str_none x t') (decide_eq_false nofun).symm
   | int j =>
    rw[bW]at q
    rcases q with⟨t,rfl⟩ | ⟨b,rfl,_⟩
    ·exact bK (EqAt.str_int x t' j t) (decide_eq_false nofun).symm
    ·exact bK (EqAt.str_bool x t' b) (decide_eq_false nofun).symm
   | str y =>
    rw[bW]at q;obtain⟨t,rfl⟩:=q
    exact bK (EqAt.str_str x t' y t) (yf ⟨fun z=>by cases z;simp,fun z=>by rw[eq_of_beq z]⟩)
   | tup es=>rw[bW]at q;obtain⟨a,us,rfl,p,_⟩:=q;exact bK (EqAt.str_tuple x t' p l5) (decide_eq_false nofun).symm
   | lst es=>rw[bW]at q;obtain⟨a,us,rfl,p,_⟩:=q;exact bK (EqAt.str_list x t' p l5) (decide_eq_false nofun).symm
  | tup ds =>?_
  | lst ds =>?_
 ·rw[D.deep]at hn;omega
 ·rw[D.deep]at hn;omega
 ·rw[D.deep]at hn
  have r0:=r
  rw[bW]at r
  obtain⟨a,us,rfl,p,r⟩:=r
  cases e with
  | cJ=>rw[bW]at q;subst q;exact bK (EqAt.tuple_none p l5) (decide_eq_false nofun).symm
  | int j =>
   rw[bW]at q
   rcases q with⟨t,rfl⟩ | ⟨b,rfl,_⟩
   ·exact bK (EqAt.tuple_int j t p l5) (decide_eq_false nofun).symm
   ·exact bK (EqAt.tuple_bool b p l5) (decide_eq_false nofun).symm
  | str y=>rw[bW]at q;obtain⟨t,rfl⟩:=q;exact bK (EqAt.tuple_str y t p l5) (decide_eq_false nofun).symm
  | tup es =>
   have q0:=q
   rw[bW]at q
   obtain⟨b,ei,rfl,p',q⟩:=q
   by_cases i6:a=b
   ·subst i6
    rw[ye r0 q0]
    exact bK (EqAt.same _) (decide_eq_true rfl).symm
   ·refine bK (EqAt.of_refs i6 (RcAt.tuples (e:=fun j=>decide (ds[j]? = es[j]?)) p p' l5 fun j h1 h2 =>?_)) ?_
    ·have l1:=gZ r
     have l2:=gZ q
     have Qk:j < us.length:=by simpa using h1
     have Qi:j < ei.length:=by simpa using h2
     have e1:=aj (l:=ds) (i:=j) (by omega)
     have e2:=aj (l:=es) (i:=j) (by omega)
     obtain⟨u,f1,g1⟩:=oC r e1
     obtain⟨v,f2,g2⟩:=oC q e2
     have z1:us.toArray[j]=u:=by rw[aj Qk]at f1;simpa using f1
     have z2:ei.toArray[j]=v:=by rw[aj Qi]at f2;simpa using f2
     rw[z1,z2]
     have:=ih (d:=ds[j]) (e:=es[j]) (A:=A.in1) (by have:=uY (gg (l:=ds) (n:=j) (by omega));omega) g1 g2 (by show A.units+1+n < cLine;omega)
     refine bK this ?_
     rw[e1,e2]
     exact decide_eq_decide.mpr ⟨fun z=>by rw[z],fun z=>aH z⟩
    ·have:=JK ds es
     simp only[aN,gZ r,gZ q]
     rw[this]
     exact decide_eq_decide.mpr ⟨fun z=>by rw[z],fun z=>by injection z⟩
  | lst es=>rw[bW]at q;obtain⟨b,ei,rfl,p',_⟩:=q;exact bK (EqAt.tuple_list p p' l5) (decide_eq_false nofun).symm
 ·rw[D.deep]at hn
  have r0:=r
  rw[bW]at r
  obtain⟨a,us,rfl,p,r⟩:=r
  cases e with
  | cJ=>rw[bW]at q;subst q;exact bK (EqAt.list_none p l5) (decide_eq_false nofun).symm
  | int j =>
   rw[bW]at q
   rcases q with⟨t,rfl⟩ | ⟨b,rfl,_⟩
   ·exact bK (EqAt.list_int j t p l5) (decide_eq_false nofun).symm
   ·exact bK (EqAt.list_bool b p l5) (decide_eq_false nofun).symm
  | str y=>rw[bW]at q;obtain⟨t,rfl⟩:=q;exact bK (EqAt.list_str y t p l5) (decide_eq_false nofun).symm
  | tup es=>rw[bW]at q;obtain⟨b,ei,rfl,p',_⟩:=q;exact bK (EqAt.list_tuple p p' l5) (decide_eq_false nofun).symm
  | lst es =>
   have q0:=q
   rw[bW]at q
   obtain⟨b,ei,rfl,p',q⟩:=q
   have l1:=gZ r
   have l2:=gZ q
   by_cases i6:a=b
   ·subst i6
    rw[ye r0 q0]
    exact bK (EqAt.same _) (decide_eq_true rfl).symm
   by_cases hl:ds.length=es.length
   ·refine bK (EqAt.of_refs i6 (RcAt.lists (e:=fun j=>decide (ds[j]? = es[j]?)) p p' (by simp only[aN];omega) l5 fun j h1 h2 =>?_)) ?_
    ·have Qk:j < us.length:=by simpa using h1
     have Qi:j < ei.length:=by simpa using h2
     have e1:=aj (l:=ds) (i:=j) (by omega)
     have e2:=aj (l:=es) (i:=j) (by omega)
     obtain⟨u,f1,g1⟩:=oC r e1
     obtain⟨v,f2,g2⟩:=oC q e2
     have z1:us.toArray[j]=u:=by rw[aj Qk]at f1;simpa using f1
     have z2:ei.toArray[j]=v:=by rw[aj Qi]at f2;simpa using f2
     rw[z1,z2]
     have:=ih (d:=ds[j]) (e:=es[j]) (A:=A.in1) (by have:=uY (gg (l:=ds) (n:=j) (by omega));omega) g1 g2 (by show A.units+1+n < cLine;omega)
     refine bK this ?_
     rw[e1,e2]
     exact decide_eq_decide.mpr ⟨fun z=>by rw[z],fun z=>aH z⟩
    ·have:=Mb ds es hl
     simp only[aN,l1]
     rw[this]
     exact decide_eq_decide.mpr ⟨fun z=>by rw[z],fun z=>by injection z⟩
   ·refine bK (EqAt.of_refs i6 (RcAt.lists_lengths p p' (by simp only[aN];simp;omega) l5)) ?_
    exact(decide_eq_false (fun z=>hl (by injection z with z;rw[z]))).symm
end
section
variable {X:Cx}
inductive Rb (x:V) (y:V) (H:Hp) (Q:VK):Prop
 | mk:∀ ds es,(((Den H (.tup ds) x∧Den H (.tup es) y)∨(Den H (.lst ds) x∧Den H (.lst es) y)))->(D.dW ds<=150)->(Q (.bl (decide (ds=es))) H)->Rb x y H Q
def afk:R2:=fun x y H Q=>Rb x y H Q
theorem Dp {A:Around}{s:Shared}{ds es:List D}{us ei:List Value} (hu:A.units+151 < cLine) (hd:D.dW ds<=150) (r:eC s.heap ds us) (q:eC s.heap es ei) (j:Nat) (h1:j < us.toArray.size) (h2:j < ei.toArray.size) :
  pS A.in1 s us.toArray[j] ei.toArray[j] (decide (ds[j]? = es[j]?)):=by
 have l1:=gZ r
 have l2:=gZ q
 have Qk:j < us.length:=by simpa using h1
 have Qi:j < ei.length:=by simpa using h2
 have e1:=aj (l:=ds) (i:=j) (by omega)
 have e2:=aj (l:=es) (i:=j) (by omega)
 obtain⟨u,f1,g1⟩:=oC r e1
 obtain⟨v,f2,g2⟩:=oC q e2
 have z1:us.toArray[j]=u:=by rw[aj Qk]at f1;simpa using f1
 have z2:ei.toArray[j]=v:=by rw[aj Qi]at f2;simpa using f2
 rw[z1,z2]
 refine bK (Jt 150 (by have:=uY (gg (l:=ds) (n:=j) (by omega));omega) g1 g2 (by show A.units+1+150 < cLine;omega)) ?_
 rw[e1,e2]
 exact decide_eq_decide.mpr ⟨fun z=>by rw[z],fun z=>aH z⟩
theorem HG (hu:X.A.units+151 < cLine):l6 X (compareOp .Eq) afk:=by
 intro ah s σ H x y v u Q I rx ry h
 obtain⟨ds,es,hh,hd,q⟩:=h
 have l5:X.A.units < cLine:=by omega
 rcases hh with⟨h1,h2⟩ | ⟨h1,h2⟩
 ·have g1:=o8 I.bh h1 rx
  have g2:=o8 I.bh h2 ry
  rw[bW]at g1 g2
  obtain⟨a,us,rfl,p,r⟩:=g1
  obtain⟨b,ei,rfl,p',r'⟩:=g2
  refine SeqAt.eq_tupleAt (e:=fun j=>decide (ds[j]? = es[j]?)) p p' l5 (Dp hu hd r r') ?_
  refine⟨.bl (decide (ds=es)),H,I,?_,q⟩
  have:=JK ds es
  simp only[aN,gZ r,gZ r']
  rw[this]
  rfl
 ·have g1:=o8 I.bh h1 rx
  have g2:=o8 I.bh h2 ry
  rw[bW]at g1 g2
  obtain⟨a,us,rfl,p,r⟩:=g1
  obtain⟨b,ei,rfl,p',r'⟩:=g2
  have l1:=gZ r
  have l2:=gZ r'
  by_cases hl:ds.length=es.length
  ·refine SeqAt.eq_listAt (e:=fun j=>decide (ds[j]? = es[j]?)) p p' (by simp only[aN];omega) l5 (Dp hu hd r r') ?_
   refine⟨.bl (decide (ds=es)),H,I,?_,q⟩
   have:=Mb ds es hl
   simp only[aN,l1]
   rw[this]
   rfl
  ·refine SeqAt.eq_list_lengthsAt p p' (by simp only[aN];simp;omega) l5 ⟨.bl (decide (ds=es)),H,I,?_,q⟩
   rw[decide_eq_false (fun z=>hl (by rw[z]))]
   rfl
inductive Ra (neg:Bool) (x:V) (y:V) (H:Hp) (Q:VK):Prop
 | mk:∀ d ds,(Den H d x)->((Den H (.lst ds) y∨Den H (.tup ds) y))->(D.dW ds<=150)->(Q (.bl (if neg then !decide (d∈ds) else decide (d∈ds))) H)->Ra neg x y H Q
def afj (neg:Bool):R2:=fun x y H Q=>Ra neg x y H Q
def LV (h:Heap) (d:D) (y:Value):Bool := @decide (bW h d y) (iM _)
theorem Qt {h:Heap}{d e:D}{y:Value} (r:bW h e y):LV h d y=decide (e=d):=by
 unfold LV
 by_cases z:e=d
 ·subst z;rw[decide_eq_true rfl];exact @decide_eq_true _ (iM _) r
 ·rw[decide_eq_false z];exact @decide_eq_false _ (iM _) fun q=>z (ye r q)
theorem FW {h:Heap}:∀ {ds:List D}{us:List Value}{u:Value},eC h ds us->u∈us->∃ d∈ds,bW h d u
 | [],us,u,r,m=>by rw[eC]at r;subst r;cases m
 | d :: ds,us,u,r,m=>by
  rw[eC]at r
  obtain⟨v,ei,rfl,r1,r⟩:=r
  rcases aY.mp m with rfl | m
  ·exact⟨d,bg,r1⟩
  ·obtain⟨e,he,q⟩:=FW r m
   exact⟨e,aW _ he,q⟩
theorem EO {h:Heap}{d:D}:∀ {ds:List D}{us:List Value},eC h ds us->us.any (LV h d)=decide (d∈ds)
 | [],us,r=>by rw[eC]at r;subst r;simp
 | e :: ds,us,r=>by
  rw[eC]at r
  obtain⟨v,ei,rfl,r1,r⟩:=r
  rw[sW,EO r,Qt r1]
  refine yf ⟨fun z =>?_,fun z =>?_⟩
  ·rcases aY.mp z with rfl | z
   ·simp
   ·rw[decide_eq_true z];simp
  ·rw[DS]at z
   rcases z with z | z
   ·rw[of_decide_eq_true z];exact bg
   ·exact aW _ (of_decide_eq_true z)
theorem O4 (hu:X.A.units+151 < cLine):l6 X (compareOp .NotIn) (afj true):=by
 intro ah s σ H x y v u Q I rx ry h
 obtain⟨d,ds,h1,h2,hd,q⟩:=h
 have g1:=o8 I.bh h1 rx
 have el:∀ us:List Value,eC s.heap ds us->∀ y,y∈us.toArray->pS X.A.in1 s y v (LV s.heap d y):=fun us r y hy=>by
  obtain⟨e,he,r1⟩:=FW r (by simpa using hy)
  refine bK (Jt 150 (by have:=uY he;omega) r1 g1 (by show X.A.units+1+150 < cLine;omega)) (Qt r1).symm
 rcases h2 with h2 | h2
 ·have g2:=o8 I.bh h2 ry
  rw[bW]at g2
  obtain⟨b,ei,rfl,p',r'⟩:=g2
  refine SeqAt.notIn_listAt (LV s.heap d) p' (el ei r') ⟨.bl (!decide (d∈ds)),H,I,?_,q⟩
  rw[<- EO r']
  show eJ _=eJ _
  rw[B4]
 ·have g2:=o8 I.bh h2 ry
  rw[bW]at g2
  obtain⟨b,ei,rfl,p',r'⟩:=g2
  refine SeqAt.notIn_tupleAt (LV s.heap d) p' (el ei r') ⟨.bl (!decide (d∈ds)),H,I,?_,q⟩
  rw[<- EO r']
  show eJ _=eJ _
  rw[B4]
end
section
variable {κ : Type} [DecidableEq κ]
def bR (kvs:List (κ × V)) (k : κ):Option V:=(kvs.find? fun kv=>decide (kv.1=k)).map (·.2)
def eP (kvs:List (κ × V)) (k : κ) (v:V):List (κ × V) :=
 if (kvs.any fun kv=>decide (kv.1=k))=true then kvs.map (fun kv=>if kv.1=k then (kv.1,v) else kv) else kvs ++ [(k,v)]
def lP (kvs:List (κ × V)) (k : κ):List (κ × V):=kvs.filter fun kv=>decide (kv.1≠k)
theorem xx {k : κ}:bR ([]:List (κ × V)) k=none:=rfl
theorem eO {p : κ × V}{r:List (κ × V)}{k : κ} (e:p.1=k):bR (p :: r) k=some p.2:=by simp[bR,ir,e]
theorem eD {p : κ × V}{r:List (κ × V)}{k : κ} (e:¬ p.1=k):bR (p :: r) k=bR r k:=by simp[bR,ir,e]
theorem lH (k : κ):∀ kvs:List (κ × V),(kvs.any fun kv=>decide (kv.1=k))=(bR kvs k).isSome
 | []=>rfl
 | p :: r=>by
  rw[sW]
  by_cases e:p.1=k
  ·simp only[eO e,decide_eq_true e,Bool.true_or,Option.isSome_some]
  ·rw[eD e,decide_eq_false e,Bool.false_or];exact lH k r
theorem GQ (k j : κ) (y:V):∀ kvs:List (κ × V),bR (kvs.map fun kv=>if kv.1=k then (kv.1,y) else kv) j=(bR kvs j).map fun x=>if j=k then y else x
 | []=>rfl
 | p :: r=>by
  have ih:=GQ k j y r
  rw[aS]
  by_cases h:p.1=k
  ·rw[if_pos h]
   by_cases e:p.1=j
   ·rw[eO (p:=(p.1,y)) e,eO e,pW,if_pos (e.symm.trans h)]
   ·rw[eD (p:=(p.1,y)) e,eD e,ih]
  ·rw[if_neg h]
   by_cases e:p.1=j
   ·rw[eO (p:=p) e,eO e,pW,if_neg (fun z=>h (e.trans z))]
   ·rw[eD (p:=p) e,eD e,ih]
theorem vE (k j : κ) (y:V):∀ kvs:List (κ × V),bR kvs k=none->bR (kvs ++ [(k,y)]) j=if j=k then some y else bR kvs j
 | [],_=>by
  by_cases e:k=j
  ·rw[if_pos e.symm];exact eO (p:=(k,y)) e
  ·rw[if_neg (fun z=>e z.symm)];exact eD (p:=(k,y)) e
 | p :: r,hn=>by
  rw[vm]
  have hk:¬ p.1=k:=fun z=>by rw[eO z]at hn;cases hn
  rw[eD hk]at hn
  have ih:=vE k j y r hn
  by_cases e:p.1=j
  ·rw[eO e,eO e,if_neg (fun z=>hk (e.trans z))]
  ·rw[eD e,eD e,ih]
theorem mO (kvs:List (κ × V)) (k j : κ) (y:V):bR (eP kvs k y) j=if j=k then some y else bR kvs j:=by
 unfold eP
 by_cases a:(kvs.any fun kv=>decide (kv.1=k))=true
 ·rw[if_pos a,GQ]
  rw[lH]at a
  by_cases e:j=k
  ·obtain⟨x,hx⟩:=jG.mp a
   rw[if_pos e,e,hx,pW,if_pos rfl]
  ·rw[if_neg e]
   cases bR kvs j with
   | none=>rfl
   | some x=>rw[pW,if_neg e]
 ·rw[if_neg a]
  refine vE k j y kvs ?_
  rw[lH]at a
  cases q:bR kvs k with
  | none=>rfl
  | some x=>rw[q]at a;exact(a rfl).elim
theorem wz (kvs:List (κ × V)) (k : κ) (v:V):(eP kvs k v).length<=kvs.length+1:=by
 unfold eP
 split
 ·rw[ar];omega
 ·rw[aK,bV,mH];omega
theorem mU {kvs:List (κ × V)}{k : κ} (v:V) (h:bR kvs k=none):eP kvs k v=kvs ++ [(k,v)]:=by
 unfold eP
 rw[lH,h]
 exact if_neg (by decide)
theorem jW.oU {o:Option V}{u:Option Value} (r:jW o u):o.isSome=u.isSome:=by
 cases o with
 | none=>cases u with
  | none=>rfl
  | some _=>exact(show False from r).elim
 | some _=>cases u with
  | none=>exact(show False from r).elim
  | some _=>rfl
theorem jW.getD {o:Option V}{u:Option Value}{d:V} {d':Value} (r:jW o u) (rd:RelV d d'):RelV (o.getD d) (u.getD d'):=by
 cases o with
 | none=>cases u with
  | none=>exact rd
  | some _=>exact(show False from r).elim
 | some _=>cases u with
  | none=>exact(show False from r).elim
  | some _=>exact r
theorem KV.val {kvs:List (κ × V)}{vs:List (κ × Value)} (r:KV kvs vs) (k : κ):jW (bR kvs k) (valueAt vs k):=by
 unfold KV at r
 induction r with
 | nil=>exact fq
 | @cons p q ps qs h t ih =>
  obtain⟨h1,h2⟩:=h
  by_cases e:p.1=k
  ·have e':q.1=k:=h1.symm.trans e
   have b:valueAt (q :: qs) k=some q.2:=by simp[valueAt,ir,e']
   rw[eO e,b];exact h2
  ·have e':¬ q.1=k:=fun z=>e (h1.trans z)
   have b:valueAt (q :: qs) k=valueAt qs k:=by simp[valueAt,ir,e']
   rw[eD e,b];exact ih
theorem KV.any {kvs:List (κ × V)}{vs:List (κ × Value)} (r:KV kvs vs) (k : κ):(kvs.any fun kv=>decide (kv.1=k))=vs.any fun kv=>decide (kv.1=k):=by
 unfold KV at r
 induction r with
 | nil=>rfl
 | cons h t ih=>rw[sW,sW,ih,h.1]
theorem KV.Ht {kvs:List (κ × V)}{vs:List (κ × Value)} (r:KV kvs vs) (k : κ) {y:V}{u:Value} (ry:RelV y u) :
  KV (kvs.map fun kv=>if kv.1=k then (kv.1,y) else kv) (vs.map fun kv=>if kv.1=k then (kv.1,u) else kv):=by
 unfold KV at r ⊢
 induction r with
 | nil=>exact .nil
 | @cons p q ps qs h t ih =>
  rw[aS,aS]
  refine .cons ?_ ih
  obtain⟨h1,h2⟩:=h
  by_cases e:p.1=k
  ·rw[if_pos e,if_pos (h1.symm.trans e)];exact⟨h1,ry⟩
  ·rw[if_neg e,if_neg (fun z=>e (h1.trans z))];exact⟨h1,h2⟩
theorem KV.put {kvs:List (κ × V)}{vs:List (κ × Value)} (r:KV kvs vs) (k : κ) {y:V}{u:Value} (ry:RelV y u):KV (eP kvs k y) (stored vs k u):=by
 unfold eP stored
 rw[r.any k]
 by_cases e:(vs.any fun kv=>decide (kv.1=k))=true
 ·rw[if_pos e,if_pos e];exact r.Ht k ry
 ·rw[if_neg e,if_neg e];exact rm r ⟨O,ry⟩
theorem KV.drop {kvs:List (κ × V)}{vs:List (κ × Value)} (r:KV kvs vs) (k : κ):KV (lP kvs k) (without vs k):=by
 unfold KV at r ⊢
 unfold lP without
 induction r with
 | nil=>exact .nil
 | @cons p q ps qs h t ih =>
  obtain⟨h1,h2⟩:=h
  rw[oJ,oJ]
  by_cases e:p.1=k
  ·have a:¬ decide (p.1≠k)=true:=by simp[e]
   have b:¬ decide (q.1≠k)=true:=by simp[h1.symm.trans e]
   rw[if_neg a,if_neg b];exact ih
  ·have e':¬ q.1=k:=fun z=>e (h1.trans z)
   have a:decide (p.1≠k)=true:=by simp[e]
   have b:decide (q.1≠k)=true:=by simp[e']
   rw[if_pos a,if_pos b];exact .cons ⟨h1,h2⟩ ih
theorem KV.keys {kvs:List (κ × V)}{vs:List (κ × Value)} (r:KV kvs vs):kvs.map (·.1)=vs.map (·.1):=by
 unfold KV at r
 induction r with
 | nil=>rfl
 | cons h t ih=>rw[aS,aS,ih,h.1]
theorem KV.length {kvs:List (κ × V)}{vs:List (κ × Value)} (r:KV kvs vs):kvs.length=vs.length:=aP r
theorem Tb (kvs:List (κ × V)) (k : κ):(lP kvs k).length<=kvs.length:=jh _ _
end
theorem xS {P:Program}{w:World}{k:Key}{u:Value} (r:RelV (kV k) u):(du P w).is k u=true:=by
 cases k with
 | inl i=>obtain⟨t,e⟩:=(show ∃ t,u=m6 i t from r);subst e;exact Kt P w i t
 | inr x=>obtain⟨t,e⟩:=(show ∃ t,u=o9 x t from r);subst e;exact Ks P w x t
theorem Fv {P:Program}{w:World}:∀ {ks:List Key}{us:List Value},Vals (ks.map kV) us->ItemsAre (du P w) ks us
 | [],_,r=>by rw[fB]at r;cases r;exact .nil
 | k :: ks,_,r=>by
  rw[aS]at r
  cases r with
  | cons h t=>exact .cons (xS h) (Fv t)
abbrev KT (H:Hp):List (List Key × V)->List (List Key × Addr × Value)->Prop:=Paired fun p q=>p.1=q.1∧H q.2.1=some (.tup (p.1.map kV))∧RelV p.2 q.2.2
theorem KT.val {H:Hp}{kvs:List (List Key × V)}{xs:List (List Key × Addr × Value)} (r:KT H kvs xs) (k:List Key):jW (bR kvs k) ((atKey xs k).map (·.2)):=by
 induction r with
 | nil=>exact fq
 | @cons p q ps qs h t ih =>
  obtain⟨h1,_,h2⟩:=h
  by_cases e:p.1=k
  ·have e':q.1=k:=h1.symm.trans e
   have b:atKey (q :: qs) k=some q.2:=by simp[atKey,ir,e']
   rw[eO e,b];exact h2
  ·have e':¬ q.1=k:=fun z=>e (h1.trans z)
   have b:atKey (q :: qs) k=atKey qs k:=by simp[atKey,ir,e']
   rw[eD e,b];exact ih
theorem KT.Ht {H:Hp}{kvs:List (List Key × V)}{xs:List (List Key × Addr × Value)} (r:KT H kvs xs) (k:List Key) {y:V}{u:Value} (ry:RelV y u) :
  KT H (kvs.map fun kv=>if kv.1=k then (kv.1,y) else kv) (xs.map (putAt k u)):=by
 induction r with
 | nil=>exact .nil
 | @cons p q ps qs h t ih =>
  rw[aS,aS]
  refine .cons ?_ ih
  obtain⟨h1,h2,h3⟩:=h
  unfold putAt
  by_cases e:p.1=k
  ·rw[if_pos e,if_pos (h1.symm.trans e)];exact⟨h1,h2,ry⟩
  ·rw[if_neg e,if_neg (fun z=>e (h1.trans z))];exact⟨h1,h2,h3⟩
theorem KT.put {H:Hp}{kvs:List (List Key × V)}{xs:List (List Key × Addr × Value)} (r:KT H kvs xs) (k:List Key) {b:Addr}{y:V}{u:Value} (hb:H b=some (.tup (k.map kV))) (ry:RelV y u) :
  KT H (eP kvs k y) (storedH xs k b u):=by
 have e:(kvs.any fun kv=>decide (kv.1=k))=(atKey xs k).isSome:=by
  rw[lH,(r.val k).oU,kM]
 unfold eP storedH
 rw[e]
 by_cases q:(atKey xs k).isSome=true
 ·rw[if_pos q,if_pos q];exact r.Ht k ry
 ·rw[if_neg q,if_neg q];exact rm r ⟨O,hb,ry⟩
theorem KT.keeps {H H':Hp}{kvs:List (List Key × V)}{xs:List (List Key × Addr × Value)} (r:KT H kvs xs) (ht:∀ b ys,H b=some (.tup ys)->H' b=some (.tup ys)):KT H' kvs xs :=
 Paired.uI r fun _ _ z=>⟨z.1,ht _ _ z.2.1,z.2.2⟩
section
variable {P:Program}{w:World}{H:Hp}{h:Heap}{a:Addr}
theorem T5 {u:HO} (ok:gC P w H h) (e:Rd H a u):dy P w H h a u:=e.ok ok
theorem Dl {kvs:List (Key × V)} (ok:gC P w H h) (e:Rd H a (.dK kvs)):kvs.length<=sizeLine∧(a == sysModules)=false∧∃ vs,KV kvs vs∧h.DictOf (du P w) a vs :=
 show dy P w H h a (.dK kvs) from T5 ok e
theorem GJ {kvs:List (Key × V)} (ok:gC P w H h) (e:H a=some (.dK kvs)):kvs.length<=sizeLine∧(a == sysModules)=false∧∃ vs,KV kvs vs∧h.DictOf (du P w) a vs:=Dl ok (.inl e)
theorem zD {ks:List Key} (ok:gC P w H h) (e:H a=some (.tup (ks.map kV))):(tupleKind (du P w)).is h ks a:=by
 obtain⟨_,its,r,o,h1,h2,n,h3,_⟩:=(show dy P w H h a (.tup (ks.map kV)) from ok a _ e)
 exact⟨o,its.toArray,n,h1,h2,h3,by simpa using Fv r⟩
theorem Dh {kvs:List (List Key × V)} (ok:gC P w H h) (e:Rd H a (.dT kvs)):kvs.length<=sizeLine∧(a == sysModules)=false ∧
  ∃ xs,KT H kvs xs∧h.DictOfH (tupleKind (du P w)) a xs:=by
 obtain⟨z,y,xs,r,o,es,ep,h1,h2,h3,h4,h5⟩:=(show dy P w H h a (.dT kvs) from T5 ok e)
 refine⟨z,y,xs,r,o,es,ep,h1,h2,h3,h4,fun x hx =>?_,h5⟩
 have all:∀ {l:List (List Key × V)}{m:List (List Key × Addr × Value)},KT H l m->∀ x∈m,(tupleKind (du P w)).is h x.1 x.2.1:=by
  intro l m q
  induction q with
  | nil=>intro x hx;exact nomatch hx
  | @cons p q ps qs hq t ih =>
   intro x hx
   rcases aY.mp hx with e | hx
   ·subst e
    exact zD ok (by rw[<- hq.1];exact hq.2.1)
   ·exact ih x hx
 exact all r x hx
theorem acf {kvs:List (List Key × V)} (ok:gC P w H h) (e:H a=some (.dT kvs)):kvs.length<=sizeLine∧(a == sysModules)=false ∧
  ∃ xs,KT H kvs xs∧h.DictOfH (tupleKind (du P w)) a xs:=Dh ok (.inl e)
end
def vz (H:Hp) (a:Addr) (y:V) (r:Option V):Prop :=
 (∃ kvs k,Rd H a (.dK kvs)∧y=kV k∧r=bR kvs k)∨∃ kvs k b,Rd H a (.dT kvs)∧y = .ref b∧H b=some (.tup (k.map kV))∧r=bR kvs k
def Ca (H:Hp) (a:Addr) (y v:V) (H':Hp):Prop :=
 (∃ kvs k,H a=some (.dK kvs)∧y=kV k∧kvs.length < sizeLine∧H'=upd H a (.dK (eP kvs k v))) ∨
 ∃ kvs k b,H a=some (.dT kvs)∧y = .ref b∧H b=some (.tup (k.map kV))∧kvs.length < sizeLine∧H'=upd H a (.dT (eP kvs k v))
theorem vz.k {H:Hp}{a:Addr}{kvs:List (Key × V)}{k:Key} (e:H a=some (.dK kvs)):vz H a (kV k) (bR kvs k) := .inl ⟨kvs,k,.inl e,O,O⟩
theorem Ca.k {H:Hp}{a:Addr}{kvs:List (Key × V)}{k:Key}{v:V} (e:H a=some (.dK kvs)) (hl:kvs.length < sizeLine):Ca H a (kV k) v (upd H a (.dK (eP kvs k v))) := .inl ⟨kvs,k,e,O,hl,O⟩
section
variable {X:Cx}{ah:List (Addr × Obj)}{σ : St}{H:Hp}{s:Shared}{a:Addr}{y v:V}{u r:Value}{o:Option V}{A:Around}{E:Value->Shared->Prop}
theorem Inv.big (I:Inv X ah σ H s):sysModules < s.heap.objs.size:=by
 have h:mainGlobals < s.heap.objs.size:=(I.mod.glob.keeps I.bk).lt
 exact Ac (by decide) h
theorem QC {Q:Value->Shared->Prop} (hu:A.units+1 < cLine) (I:Inv X ah σ H s) (g:vz H a y (some v)) (ry:RelV y u) (h:∀ w' s',Inv X ah σ H s'->RelV v w'->Q w' s') :
  wpAny (model X.prog X.w) A (getItem (.ref a) u) Q E s:=by
 rcases g with⟨kvs,k,e,ey,l⟩ | ⟨kvs,k,b,e,ey,eb,l⟩
 ·subst ey
  obtain⟨z,hd,vs,c7,dd⟩:=Dl I.bh e
  obtain⟨w',hw,kW⟩:=jW.some_of (v:=v) (o:=valueAt vs k) (by rw[l];exact c7.val k)
  exact wpAny_getItem_of (xS ry) dd.mapOf hw (h w' _ (I.tok _) kW)
 ·subst ey
  cases (show u=aQ b from ry)
  obtain⟨z,hd,xs,c7,dd⟩:=Dh I.bh e
  obtain⟨w',hw,kW⟩:=jW.some_of (v:=v) (o:=(atKey xs k).map (·.2)) (by rw[l];exact c7.val k)
  obtain⟨p,hp,oX⟩:=ck.mp hw
  refine wpAny_getItem_heap (tupleKind_room_in1 hu) (zD I.bh eb) dd hp ?_
  rw[oX]
  exact h w' _ (I.tok _) kW
theorem WA {Q:Value->Shared->Prop} (hu:A.units+1 < cLine) (I:Inv X ah σ H s) (g:vz H a y o) (ry:RelV y u) (h:∀ s',Inv X ah σ H s'->Q (.bool (!o.isSome)) s') :
  wpAny (model X.prog X.w) A (compareOp .NotIn u (.ref a)) Q E s:=by
 rcases g with⟨kvs,k,e,ey,l⟩ | ⟨kvs,k,b,e,ey,eb,l⟩
 ·subst ey
  obtain⟨z,hd,vs,c7,dd⟩:=Dl I.bh e
  refine wpAny_notIn_of (xS ry) hd dd.mapOf ?_
  rw[<- (c7.val k).oU, <- l]
  exact h _ (I.tok _)
 ·subst ey
  cases (show u=aQ b from ry)
  obtain⟨z,hd,xs,c7,dd⟩:=Dh I.bh e
  refine wpAny_notIn_heap (tupleKind_room_in1 hu) (zD I.bh eb) hd dd ?_
  have q:=(c7.val k).oU
  rw[kM]at q
  rw[<- q, <- l]
  exact h _ (I.tok _)
theorem uk {h':Heap} {t':Nat}{ob:HO} (I:Inv X ah σ H s) (mu:Q0 (H a)) (hs:cq a s.heap h') (he:∃ q,h'.get? a=some q) (new:dy X.prog X.w (upd H a ob) h' a ob) :
  Inv X ah σ (upd H a ob) { s with heap:=h',toks:=t' } :=
 I.write (x:=a) (e:=a) mu (.inl rfl) (fun b q hb z=>(hs.2 b hb).trans z) he new
theorem JA {P:Program}{w:World} {H':Hp} {h':Heap}{kvs:List (Key × V)}{vs:List (Key × Value)} (z:kvs.length<=sizeLine) (hd:(a == sysModules)=false) (c7:KV kvs vs) (dd:h'.DictOf (du P w) a vs) :
  dy P w H' h' a (.dK kvs):=⟨z,hd,vs,c7,dd⟩
theorem QB {H':Hp}{Q:Unit->Shared->Prop} (hu:A.units+1 < cLine) (I:Inv X ah σ H s) (g:Ca H a y v H') (ry:RelV y u) (rv:RelV v r) (h:∀ s',Inv X ah σ H' s'->Q () s') :
  wpAny (model X.prog X.w) A (setItem (.ref a) u r) Q E s:=by
 rcases g with⟨kvs,k,e,ey,l,eH⟩ | ⟨kvs,k,b,e,ey,eb,l,eH⟩
 ·subst ey eH
  obtain⟨z,hd,vs,c7,dd⟩:=GJ I.bh e
  have hz:vs.length<=sizeLine:=by rw[<- c7.length];exact z
  have hl:(eP kvs k v).length<=sizeLine:=by have:=wz kvs k v;omega
  refine wpAny_setItem_pairs (hsz:=hz) (xS ry) dd fun h' zT hs=>h _ ?_
  have he:∃ q,h'.get? a=some q:=let ⟨q,_,_,hq,_⟩:=zT; ⟨q,hq⟩
  exact uk I (by rw[e];exact fq) hs he (JA hl hd (c7.put k rv) zT)
 ·subst ey eH
  cases (show u=aQ b from ry)
  obtain⟨z,hd,xs,c7,dd⟩:=acf I.bh e
  have hz:xs.length<=sizeLine:=by rw[<- aP c7];exact z
  have hl:(eP kvs k v).length<=sizeLine:=by have:=wz kvs k v;omega
  refine wpAny_setItem_heap (hsz:=hz) (tupleKind_room_in1 hu) (zD I.bh eb) dd fun h' zT hs=>h _ ?_
  obtain⟨q,es,ep,hq,h2,h3,h4,_,h5⟩:=zT
  refine uk I (by rw[e];exact fq) hs ⟨q,hq⟩ ⟨hl,hd,_,(c7.put k eb rv).keeps fun c ys ec =>?_,q,es,ep,hq,h2,h3,h4,h5⟩
  rw[aF (a9 ec e nofun)]
  exact ec
end
section
variable {X:Cx}{ah:List (Addr × Obj)}{σ : St}{H:Hp}{s:Shared}{a:Addr}{kvs:List (Key × V)}{k:Key}{u:Value}{A:Around}{E:Value->Shared->Prop}
theorem ach {v:V}{more:List Value}{Q:Value->Shared->Prop} (I:Inv X ah σ H s) (e:H a=some (.dK kvs)) (ry:RelV (kV k) u) (l:bR kvs k=some v) (hm:more = []∨∃ x,more = [x])
  (h:∀ w' s',Inv X ah σ (upd H a (.dK (lP kvs k))) s'->RelV v w'->Q w' s'):wpAny (model X.prog X.w) A (call (.builtin "dict.pop") (.ref a :: u :: more)) Q E s:=by
 obtain⟨z,hd,vs,c7,dd⟩:=GJ I.bh e
 obtain⟨w',hw,kW⟩:=jW.some_of (v:=v) (o:=valueAt vs k) (by rw[<- l];exact c7.val k)
 have hp:(keyPart u).isSome=true:=by
  cases k with
  | inl i=>obtain⟨t,q⟩:=(show ∃ t,u=m6 i t from ry);subst q;rfl
  | inr x=>obtain⟨t,q⟩:=(show ∃ t,u=o9 x t from ry);subst q;rfl
 have ha:argsOk "dict.pop" ⟨.ref a :: u :: more, []⟩:=by
  rcases hm with q | ⟨x,q⟩
  ·subst q;exact PySem.F.args_dict_pop_2 _ _
  ·subst q;exact PySem.F.args_dict_pop_3 _ _ _
 refine call_meetsIn xj dd.typeIs PySem.F.entry_dict_pop ha (meets_dict_pop_there (du X.prog X.w) a (xS ry) more hm hp)
  ⟨vs,w',dd,by rw[<- c7.length];exact z,hw,fun h' zT hs=>h w' _ ?_ kW⟩
 have he:∃ q,h'.get? a=some q:=let ⟨q,_,_,hq,_⟩:=zT; ⟨q,hq⟩
 exact uk I (by rw[e];exact fq) hs he (JA (bq (Tb kvs k) z) hd (c7.drop k) zT)
end
def NZ (i:Expr):Prop := ∀ ov iv,subscripted i false ov iv=operate [ov,iv] (getItem ov iv)
theorem uc {prog:Program}{w:World}{A:Around}{E:Value->Shared->Prop}{s:Shared}{env:Env}{value slice:Expr}{pos:Pos}{T id:String}{Q:Value->Shared->Prop}
  (hl:typeLookup (.type T) "__getitem__" = pure (some (.builtin id))) (hs:NZ slice)
  (h:wpAny (model prog w) A (eval value env) (fun o eE => wpAny (model prog w) A (eval slice env) (fun i hX => hX.TypeIs o T∧wpAny (model prog w) A (getItem o i) Q E hX) E eE) E s) :
  wpAny (model prog w) A (eval (.Subscript value slice pos) env) Q E s:=by
 refine Subscript_ (wpAny_mono h (fun o eE iI => wpAny_mono iI (fun i hX sJ =>?_) fun _ _ x=>x) fun _ _ x=>x)
 obtain⟨hT,sJ⟩:=sJ
 unfold subscriptTail
 refine wpAny_bind ?_
 rw[getitemInPython_of_ne hT.not_modules]
 refine wpAny_bind (wpAny_specialOf hT hl ?_)
 have fin:wpAny (model prog w) A (subscripted slice false o i) (fun r mq => wpAny (model prog w) A (letTemporaryGo value o r >>= fun _=>pure r) Q E mq) E hX := by
  rw[hs o i]
  exact wpAny_operating (wpAny_mono sJ (fun r mq Iu => wpAny_bind (wpAny_letTemporaryGo (wpAny_pure Iu))) fun _ _ x=>x)
 first
  | exact wpAny_pure (wpAny_bind fin)
  | exact wpAny_bind (wpAny_pure (wpAny_bind fin))
  | exact wpAny_bind fin
theorem Kv {X:Cx}{ah:List (Addr × Obj)}{σ : St}{H:Hp}{s:Shared}{a:Addr}{y:V}{o:Option V} (I:Inv X ah σ H s) (g:vz H a y o):s.TypeIs (.ref a) "dict" := by
 rcases g with⟨kvs,k,e,_,_⟩ | ⟨kvs,k,b,e,_,_,_⟩
 ·obtain⟨_,_,vs,_,dd⟩:=Dl I.bh e
  exact dd.typeIs
 ·obtain⟨_,_,xs,_,dd⟩:=Dh I.bh e
  exact dd.typeIs
inductive Mu (Q:VK) (x:V) (y:V) (H2:Hp):Prop
 | mk:∀ a v,(x = .ref a)->(vz H2 a y (some v))->(Q v H2)->Mu Q x y H2
def abz (td ty:TE):TE:=fun σ H Q=>td σ H fun x H1=>ty σ H1 fun y H2=>Mu Q x y H2
inductive Ge (Q:VK) (y:V) (x:V) (H2:Hp):Prop
 | mk:∀ a o,(x = .ref a)->(vz H2 a y o)->(Q (.bl (!o.isSome)) H2)->Ge Q y x H2
def VA (ty td:TE):TE:=fun σ H Q=>ty σ H fun y H1=>td σ H1 fun x H2=>Ge Q y x H2
inductive Mw (D:Ends) (σ : St) (v:V) (x:V) (y:V) (H3:Hp):Prop
 | mk:∀ a H4,(x = .ref a)->(Ca H3 a y v H4)->(D.nx σ H4)->Mw D σ v x y H3
def abH (td ty tv:TE):TS:=fun D σ H=>tv σ H fun v H1=>td σ H1 fun x H2=>ty σ H2 fun y H3=>Mw D σ v x y H3
section
variable {X:Cx}{o i e value:Expr}{pos oy Rt:Pos}{td ty tv:TE}
theorem VY (hu:X.A.units+1 < cLine) (ho:PE X o td) (hi:PE X i ty) (hs:NZ i):PE X (.Subscript o i pos) (abz td ty):=by
 intro ah s σ H Q I h
 refine uc mF.lookup hs (bF (ho ah s σ H _ I h) fun u s1 ⟨x,H1,I1,rx,q1⟩=>bF (hi ah s1 σ H1 _ I1 q1) fun iv s2 ⟨y,H2,I2,ry,a,v,ex,g,q2⟩ =>?_)
 subst ex
 obtain rfl:u=aQ a:=rx
 exact⟨Kv I2 g,QC hu I2 g ry fun w' s3 I3 kW=>⟨v,H2,I3,kW,q2⟩⟩
theorem O2 (hu:X.A.units+1 < cLine) (hi:PE X i ty) (ho:PE X o td):PC X .NotIn i o (VA ty td):=by
 intro ah s σ H Q I h
 refine bF (hi ah s σ H _ I h) fun iv s1 ⟨y,H1,I1,ry,q1⟩=>bF (ho ah s1 σ H1 _ I1 q1) fun u s2 ⟨x,H2,I2,rx,a,ov,ex,g,q2⟩ =>?_
 subst ex
 obtain rfl:u=aQ a:=rx
 exact WA hu I2 g ry fun s3 I3=>⟨.bl (!ov.isSome),H2,I3,O,q2⟩
theorem El (hu:X.A.units+1 < cLine) (ho:PE X o td) (hi:PE X i ty) (hv:PE X value tv) (hs:swapsWith value (some (.Subscript o i oy)) pos.line X.env=pure false) :
  PS X (.Assign [.Subscript o i oy] value pos) (abH td ty tv):=by
 intro ah s σ H D I h
 refine wpAny_Assign_Subscript (bF (hv ah s σ H _ I h) fun r s1 ⟨v,H1,I1,rv,q1⟩=>bF (ho ah s1 σ H1 _ I1 q1) fun u s2 ⟨x,H2,I2,rx,q2⟩=>bF (hi ah s2 σ H2 _ I2 q2) fun iv s3 ⟨y,H3,I3,ry,a,H4,ex,g,q3⟩ =>?_) hs
 subst ex
 obtain rfl:u=aQ a:=rx
 exact QB hu I3 g ry rv fun s4 I4=>⟨σ,H4,I4,q3⟩
end
theorem Td {P:Program}{w:World}{H:Hp} (h:Heap) (hb:sysModules < h.objs.size):dy P w H (h.push { cls := .type "dict",data := .dict #[] }) h.objs.size (.dK []) :=
 ⟨bA _,beq_eq_false_iff_ne.mpr (cM (bH hb)), [],.nil,Heap.DictOf.new h⟩
def Xe:TE:=fun _ H Q=>∀ p,H p=none->Q (.ref p) (upd H p (.dK []))
section
variable {X:Cx}{pos:Pos}
theorem HE:PE X (.Dict [] [] pos) Xe:=fun ah s σ H Q I h =>
 wpAny_Dict_empty ⟨.ref s.heap.objs.size,_,I.laid (a:=s.heap.objs.size) (o := .dK []) (t':=s.toks) (fun _ _ q=>az _ q) (au _) (Td s.heap I.big),O,h _ (I.bh.fresh (au _))⟩
end
structure M1 (X:Cx) (o:Expr) (m:Str) (dv:Pos) (e:Expr) (de:Pos):Prop where
 base:attributeBase o m X.env (eval o X.env)=eval o X.env
 dR:((backTo de (starEach [e] X.env)).all (fun x => !x.1) && (backToKw de (keywordEach [] X.env)).all (fun x=>x.1.isSome)
  && decide (([e]:List Expr).length+([]:List Keyword).length+(if ([]:List Keyword).isEmpty then 0 else 1) < 30))=true
 line:(dv.endLine == de.line)=true
 trees:backTo de (starEach [e] X.env) = [(false,eval e X.env)]
structure M2 (X:Cx) (o:Expr) (m:Str) (dv:Pos) (e f:Expr) (de:Pos):Prop where
 base:attributeBase o m X.env (eval o X.env)=eval o X.env
 dR:((backTo de (starEach [e,f] X.env)).all (fun x => !x.1) && (backToKw de (keywordEach [] X.env)).all (fun x=>x.1.isSome)
  && decide (([e,f]:List Expr).length+([]:List Keyword).length+(if ([]:List Keyword).isEmpty then 0 else 1) < 30))=true
 line:(dv.endLine == de.line)=true
 trees:backTo de (starEach [e,f] X.env) = [(false,eval e X.env),(false,eval f X.env)]
def IsD (H:Hp) (a:Addr):Prop:=(∃ kvs,Rd H a (.dK kvs))∨∃ kvs,Rd H a (.dT kvs)
theorem YK {X:Cx}{ah:List (Addr × Obj)}{σ : St}{H:Hp}{s:Shared}{a:Addr} (I:Inv X ah σ H s) (d:IsD H a) :
  s.TypeIs (.ref a) "dict" ∧ (∀ b,aQ a = .ref b->∃ ob,s.heap.get? b=some ob∧ob.dict=none)∧(a == sysModules)=false:=by
 rcases d with⟨kvs,e⟩ | ⟨kvs,e⟩
 ·obtain⟨_,hd,vs,_,dd⟩:=Dl I.bh e
  refine⟨dd.typeIs,fun b q =>?_,hd⟩
  cases q
  obtain⟨ob,_,_,h1,h2,_⟩:=dd
  exact⟨ob,h1,h2.2.1⟩
 ·obtain⟨_,hd,xs,_,dd⟩:=Dh I.bh e
  refine⟨dd.typeIs,fun b q =>?_,hd⟩
  cases q
  obtain⟨ob,_,_,h1,h2,_⟩:=dd
  exact⟨ob,h1,h2.2.1⟩
section
variable {X:Cx}{ah:List (Addr × Obj)}{σ : St}{H:Hp}{s:Shared}{a:Addr}{y d:V}{u r:Value}{o:Option V}{A:Around}{E:Value->Shared->Prop}
end
def Xc (td ty:TE):TE:=fun σ H Q=>td σ H fun x H1=>∃ a,x = .ref a∧IsD H1 a∧ty σ H1 fun y H2=>∃ kvs k v,H2 a=some (.dK kvs)∧y=kV k∧bR kvs k=some v∧Q v (upd H2 a (.dK (lP kvs k)))
section
variable {X:Cx}{o e f:Expr}{dv de:Pos}{td ty tx:TE}
theorem HD (ho:PE X o td) (he:PE X e ty) (m:M1 X o "pop" dv e de):PE X (.Call (.Attribute o "pop" dv) [e] [] de) (Xc td ty):=by
 intro ah s σ H Q I h
 refine wpAny_Call_method m.base m.dR m.line gw xj PySem.F.type_dict_pop (bF (ho ah s σ H _ I h) fun u s1 ⟨x,H1,I1,rx,a,ex,d,q1⟩ =>?_)
 subst ex
 obtain rfl:u=aQ a:=rx
 obtain⟨t1,t2,_⟩:=YK I1 d
 refine⟨t1,t2,?_⟩
 rw[m.trees]
 refine eG rfl (iw (gh (bF (he ah s1 σ H1 _ I1 q1) fun iv s2 ⟨y,H2,I2,ry,kvs,k,v,ea,ey,l,q2⟩=>jr ?_)))
 subst ey
 exact ach I2 ea ry l (.inl rfl) fun w' s3 I3 kW=>⟨v,_,I3,kW,q2⟩
end
section
variable {X:Cx}{ah:List (Addr × Obj)}{σ : St}{H:Hp}{s:Shared}{a:Addr}{kvs:List (Key × V)}{A:Around}{E:Value->Shared->Prop}
end
section
variable {X:Cx}{ah:List (Addr × Obj)}{σ : St}{H:Hp}{s:Shared}{a:Addr}{y:V}{u:Value}{A:Around}{E:Value->Shared->Prop}
end
abbrev NK:=List (Sum Key (List Key))
def kD:Key->D
 | .inl i => .int i
 | .inr x => .str x
def iD:Sum Key (List Key)->D
 | .inl k=>kD k
 | .inr l => .tup (l.map kD)
def Fo (k:NK):D := .tup (k.map iD)
theorem PB {a b:Key} (e:kD a=kD b):a=b:=by
 cases a with
 | inl i=>cases b with
  | inl j=>have e':D.int i=D.int j:=e;injection e' with e';rw[e']
  | inr y=>exact nomatch (show D.int i=D.str y from e)
 | inr x=>cases b with
  | inl j=>exact nomatch (show D.str x=D.int j from e)
  | inr y=>have e':D.str x=D.str y:=e;injection e' with e';rw[e']
theorem tS {α β : Type}{f : α -> β} (hf:∀ a b,f a=f b->a=b):∀ {x y:List α},x.map f=y.map f->x=y
 | [], [],_=>rfl
 | [],_ :: _,e=>by simp at e
 | _ :: _, [],e=>by simp at e
 | a :: xs,b :: ys,e=>by
  rw[aS,aS]at e
  injection e with e1 e2
  rw[hf _ _ e1,tS hf e2]
theorem YS {a b:Sum Key (List Key)} (e:iD a=iD b):a=b:=by
 cases a with
 | inl i=>cases b with
  | inl j=>rw[PB e]
  | inr y=>cases i <;> exact nomatch e
 | inr x=>cases b with
  | inl j=>cases j <;> exact nomatch e
  | inr y =>
   have e':D.tup (x.map kD)=D.tup (y.map kD):=e
   injection e' with e'
   rw[tS (fun _ _=>PB) e']
theorem Wc {a b:NK} (e:Fo a=Fo b):a=b:=by
 have e':D.tup (a.map iD)=D.tup (b.map iD):=e
 injection e' with e'
 exact tS (fun _ _=>YS) e'
section
variable (P:Program) (w:World)
def ft (h:Heap):NK->List Value->Prop
 | [],us=>us = []
 | .inl k :: ks,us=>∃ u ei,us=u :: ei∧(du P w).is k u=true∧ft h ks ei
 | .inr l :: ks,us=>∃ b ei,us=aQ b :: ei∧IsTupleKey (du P w) h l b∧ft h ks ei
def qf (h:Heap) (k:NK) (a:Addr):Prop := ∃ us:List Value,IsTup h a us.toArray∧ft P w h k us
def qX:Sum Key (List Key)->Int
 | .inl k=>(du P w).hash k
 | .inr l=>tupleKeyHash (du P w) l
def wX:Sum Key (List Key)->Nat
 | .inl _=>1
 | .inr l=>l.length+1
def HP (k:NK):Int:=reduceHash (fP (k.map (qX P w)))
def Ew (k:NK):Nat:=(k.map wX).sum+1
end
section
variable {P:Program}{w:World} {h h':Heap}
theorem ft.inj:∀ {x y:NK}{us:List Value},ft P w h x us->ft P w h y us->x=y
 | [], [],us,_,_=>rfl
 | [],.inl k :: ks,us,r,q=>by rw[ft]at r;rw[ft]at q;subst r;obtain⟨_,_,z,_⟩:=q;cases z
 | [],.inr k :: ks,us,r,q=>by rw[ft]at r;rw[ft]at q;subst r;obtain⟨_,_,z,_⟩:=q;cases z
 | .inl k :: ks, [],us,r,q=>by rw[ft]at r;rw[ft]at q;subst q;obtain⟨_,_,z,_⟩:=r;cases z
 | .inr k :: ks, [],us,r,q=>by rw[ft]at r;rw[ft]at q;subst q;obtain⟨_,_,z,_⟩:=r;cases z
 | .inl k :: ks,.inl l :: ls,us,r,q=>by
  rw[ft]at r;rw[ft]at q
  obtain⟨u,ei,rfl,r1,r⟩:=r
  obtain⟨u',MM,z,q1,q⟩:=q
  cases z
  rw[(du P w).inj _ _ _ r1 q1,ft.inj r q]
 | .inr k :: ks,.inr l :: ls,us,r,q=>by
  rw[ft]at r;rw[ft]at q
  obtain⟨u,ei,rfl,r1,r⟩:=r
  obtain⟨u',MM,z,q1,q⟩:=q
  cases z
  rw[r1.inj q1,ft.inj r q]
 | .inl k :: ks,.inr l :: ls,us,r,q=>by
  rw[ft]at r;rw[ft]at q
  obtain⟨u,ei,rfl,r1,r⟩:=r
  obtain⟨u',MM,z,q1,q⟩:=q
  cases z
  rcases fE r1 with⟨i,t,_,e⟩ | ⟨x,t,_,e⟩ <;> cases e
 | .inr k :: ks,.inl l :: ls,us,r,q=>by
  rw[ft]at r;rw[ft]at q
  obtain⟨u,ei,rfl,r1,r⟩:=r
  obtain⟨u',MM,z,q1,q⟩:=q
  cases z
  rcases fE q1 with⟨i,t,_,e⟩ | ⟨x,t,_,e⟩ <;> cases e
theorem ft.keeps {d:Addr}{o:Obj} {es ep} (ho:h.get? d=some o) (hd:o.data = .dict es ep) (hs:cq d h h'):∀ {k:NK}{us:List Value},ft P w h k us->ft P w h' k us
 | [],us,r=>by rw[ft]at r ⊢;exact r
 | .inl k :: ks,us,r=>by
  rw[ft]at r ⊢
  obtain⟨u,ei,e,r1,r⟩:=r
  exact⟨u,ei,e,r1,ft.keeps ho hd hs r⟩
 | .inr k :: ks,us,r=>by
  rw[ft]at r ⊢
  obtain⟨u,ei,e,r1,r⟩:=r
  exact⟨u,ei,e,r1.keeps ho hd hs,ft.keeps ho hd hs r⟩
theorem qf.inj {x y:NK}{a:Addr} (r:qf P w h x a) (q:qf P w h y a):x=y:=by
 obtain⟨us,p,r⟩:=r
 obtain⟨ei,p',q⟩:=q
 have e:us=ei:=by have:=KJ p p';simpa using this
 subst e
 exact r.inj q
theorem qf.keeps {k:NK}{a d:Addr}{o:Obj} {es ep} (r:qf P w h k a) (ho:h.get? d=some o) (hd:o.data = .dict es ep) (hs:cq d h h'):qf P w h' k a:=by
 obtain⟨us,⟨o',e',c',n',d'⟩,r⟩:=r
 have gv:a≠d:=by
  rintro rfl
  rw[ho]at e';cases e'
  rw[hd]at d';cases d'
 exact⟨us,⟨o',(hs.2 a gv).trans e',c',n',d'⟩,r.keeps ho hd hs⟩
theorem Im {k:Key}{u:Value} (r:(du P w).is k u=true):bW h (kD k) u:=by
 rcases fE r with⟨i,t,rfl,rfl⟩ | ⟨x,t,rfl,rfl⟩
 ·show bW h (.int i) _
  rw[bW];exact .inl ⟨t,O⟩
 ·show bW h (.str x) _
  rw[bW];exact⟨t,O⟩
theorem Nu {ks:List Key}{us:List Value} (r:ItemsAre (du P w) ks us):eC h (ks.map kD) us:=by
 induction r with
 | nil=>rw[fB,eC]
 | cons r1 _ ih=>rw[aS,eC];exact⟨_,_,O,Im r1,ih⟩
theorem ft.EL:∀ {k:NK}{us:List Value},ft P w h k us->eC h (k.map iD) us
 | [],us,r=>by rw[ft]at r;rw[fB,eC];exact r
 | .inl k :: ks,us,r=>by
  rw[ft]at r
  obtain⟨u,ei,e,r1,r⟩:=r
  rw[aS,eC]
  exact⟨u,ei,e,Im r1,ft.EL r⟩
 | .inr k :: ks,us,r=>by
  rw[ft]at r
  obtain⟨b,ei,e,⟨o,its,n,g,c,d,i⟩,r⟩:=r
  rw[aS,eC]
  refine⟨_,ei,e,?_,ft.EL r⟩
  show bW h (.tup (k.map kD)) _
  rw[bW]
  exact⟨b,its.toList,O,⟨o,g,c,n,by simpa using d⟩,Nu i⟩
theorem qf.EL {k:NK}{a:Addr} (r:qf P w h k a):bW h (Fo k) (.ref a):=by
 obtain⟨us,p,r⟩:=r
 rw[Fo,bW]
 exact⟨a,us,O,p,r.EL⟩
theorem BH:∀ l:List Key,D.dW (l.map kD)=0
 | []=>by rw[fB,D.dW]
 | .inl k :: ks=>by rw[aS,D.dW,BH ks];show max (D.deep (.int k)) 0=0;rw[D.deep];rfl
 | .inr k :: ks=>by rw[aS,D.dW,BH ks];show max (D.deep (.str k)) 0=0;rw[D.deep];rfl
theorem xO:∀ l:NK,D.dW (l.map iD)<=1
 | []=>by rw[fB,D.dW];omega
 | .inl (.inl k) :: ks=>by rw[aS,D.dW];have:=xO ks;show max (D.deep (.int k)) _<=1;rw[D.deep];omega
 | .inl (.inr k) :: ks=>by rw[aS,D.dW];have:=xO ks;show max (D.deep (.str k)) _<=1;rw[D.deep];omega
 | .inr l :: ks=>by rw[aS,D.dW];have:=xO ks;show max (D.deep (.tup (l.map kD))) _<=1;rw[D.deep,BH];omega
theorem Wb (k:NK):(Fo k).deep<=2:=by rw[Fo,D.deep];have:=xO k;omega
end
section
variable {P:Program}{w:World}{A:Around}{E:Value->Shared->Prop}{s:Shared}
theorem Cd {x y:NK}{a b:Addr}{Q:Bool->Shared->Prop} (hu:A.units+5 < cLine) (hx:qf P w s.heap x a) (hy:qf P w s.heap y b) (h:Q (decide (x=y)) s) :
  wpAny (model P w) A (eqBool (.ref a) (.ref b)) Q E s:=by
 refine Jt 2 (Wb x) hx.EL hy.EL (by omega) P w E Q ?_
 have e:decide (Fo x=Fo y)=decide (x=y):=decide_eq_decide.mpr ⟨Wc,fun z=>by rw[z]⟩
 rw[e];exact h
theorem M5 {K:Type} [DecidableEq K] {knd:KeyKind P w K} (n:Nat) {ks:List K}{a:Addr}{Q:Bool->Shared->Prop} (hk:IsTupleKey knd s.heap ks a) (h:Q true s):wpAny (model P w) A (eqIsQuiet (n+1) (.ref a)) Q E s:=by
 have hT:=hk.typeIs
 obtain⟨o,cf,m,ho,_,hd,hi⟩:=hk
 unfold eqIsQuiet
 refine wpAny_bind (wpAny_specialOf hT F.slot_tuple_eq.lookup ?_)
 show wpAny _ _ (isInstance (.ref a) (.type "tuple") >>= _) _ _ s
 refine wpAny_bind (wpAny_isInstance hT isSubtype_tuple_tuple ?_)
 simp only[ou,dP,if_false]
 refine wpAny_bind (wpAny_seqItems ho hd ?_)
 refine wpAny_bind ?_
 show wpAny _ _ (forIn cf _ _) _ _ s
 rw[<- sD]
 refine wpAny_forIn_list _ (fun rest r s'=>r.1=none∧s'=s∧∀ v∈rest,carriedByValue v=true) _ ?_ ?_ _ _ ⟨O,O,hi.byValue⟩
 ·rintro v rest r s' ⟨hr,rfl,iR⟩
  rw[eqIsQuiet_byValue _ (iR v bg)]
  refine wpAny_bind (wpAny_pure ?_)
  simp only[ou,dP,if_false]
  exact wpAny_pure ⟨O,O,fun u CY=>iR u (aW _ CY)⟩
 ·rintro⟨r1,r2⟩ s' ⟨hr,rfl,_⟩
  simp only at hr
  subst hr
  exact wpAny_pure h
theorem RP {k:NK}{a:Addr}{Q:Bool->Shared->Prop} (hk:qf P w s.heap k a) (h:Q true s):wpAny (model P w) A (eqIsQuiet 8 (.ref a)) Q E s:=by
 obtain⟨us,p,hi⟩:=hk
 have hT:s.TypeIs (.ref a) "tuple" := p.typeIs
 obtain⟨o,ho,_,m,hd⟩:=p
 unfold eqIsQuiet
 refine wpAny_bind (wpAny_specialOf hT F.slot_tuple_eq.lookup ?_)
 show wpAny _ _ (isInstance (.ref a) (.type "tuple") >>= _) _ _ s
 refine wpAny_bind (wpAny_isInstance hT isSubtype_tuple_tuple ?_)
 simp only[ou,dP,if_false]
 refine wpAny_bind (wpAny_seqItems ho hd ?_)
 refine wpAny_bind ?_
 show wpAny _ _ (forIn us.toArray _ _) _ _ s
 rw[<- sD]
 refine wpAny_forIn_list _ (fun rest r s'=>r.1=none∧s'=s∧∃ left,ft P w s.heap left rest) _ ?_ ?_ _ _ ⟨O,O,k,by simpa using hi⟩
 ·rintro v rest r s' ⟨hr,rfl,left,hl⟩
  cases left with
  | nil=>rw[ft]at hl;cases hl
  | cons i left =>
   cases i with
   | inl k =>
    rw[ft]at hl
    obtain⟨u,ei,e,r1,hl⟩:=hl
    cases e
    rw[eqIsQuiet_byValue _ ((du P w).byValue _ _ r1)]
    refine wpAny_bind (wpAny_pure ?_)
    simp only[ou,dP,if_false]
    exact wpAny_pure ⟨O,O,left,hl⟩
   | inr l =>
    rw[ft]at hl
    obtain⟨b,ei,e,r1,hl⟩:=hl
    cases e
    refine wpAny_bind (M5 6 r1 ?_)
    simp only[ou,dP,if_false]
    exact wpAny_pure ⟨O,O,left,hl⟩
 ·rintro⟨r1,r2⟩ s' ⟨hr,rfl,_⟩
  simp only at hr
  subst hr
  exact wpAny_pure h
theorem Cc {k:NK}{a:Addr}{Q:Int->Shared->Prop} (hu:A.units+5 < cLine) (hk:qf P w s.heap k a) (h:Q (HP P w k) { s with toks:=s.toks+Ew k }) :
  wpAny (model P w) A (pyHash (.ref a)) Q E s:=by
 obtain⟨us,p,hi⟩:=hk
 have hT:s.TypeIs (.ref a) "tuple" := p.typeIs
 obtain⟨o,ho,_,n,hd⟩:=p
 unfold pyHash
 first | unfold pyHashByItsType | skip
 first | refine wpAny_bind (wpAny_cRoomFor_or (.inr (by omega)) ?_) | skip
 refine wpAny_bind (wpAny_specialOf hT nR.lookup ?_)
 show wpAny _ _ (if (some (Value.builtin "tuple.__hash__") == some di)=true then _ else _) Q E s
 rw[if_neg (by rw[beq_builtin_none];exact bb)]
 refine wpAny_bind (wpAny_specialOf hT nR.lookup ?_)
 show wpAny _ _ (callSpecialIfBoundUnlessNone? (.ref a) "__hash__" _ >>= _) Q E s
 refine wpAny_bind (wpAny_callSpecialIfBoundUnlessNone?_slot hT nR (wpAny_call_entry nR hT F.entry_tuple_hash ?_ (F.args_tuple_hash_1 _)))
 show wpAny _ _ (tq (.ref a) >>= _) _ _ s
 refine wpAny_bind (wpAny_tupleItemsOf ho hd ?_)
 refine wpAny_bind ?_
 rw[<- sD]
 refine wpAny_forIn_list _
  (fun rest (b:Array Int) s'=>∃ done left:NK,k=done ++ left∧ft P w s.heap left rest∧b.toList=done.map (qX P w)∧s'={ s with toks:=s.toks+(done.map wX).sum })
  _ ?_ ?_ _ _ ⟨[],k,O,by simpa using hi,O,O⟩
 ·rintro x rest b s' ⟨done,left,rfl,hl,hb,rfl⟩
  cases left with
  | nil=>rw[ft]at hl;cases hl
  | cons i left =>
   cases i with
   | inl k =>
    rw[ft]at hl
    obtain⟨u,ei,e,r1,hl⟩:=hl
    cases e
    refine wpAny_bind ((du P w).pyHash r1 ?_)
    first
     | exact wpAny_pure ⟨done ++ [.inl k],left,by simp,hl,by simp[hb,qX],by simp[jZ,wX]⟩
     | exact wpAny_bind (wpAny_pure (wpAny_pure ⟨done ++ [.inl k],left,by simp,hl,by simp[hb,qX],by simp[jZ,wX]⟩))
   | inr l =>
    rw[ft]at hl
    obtain⟨c,ei,e,r1,hl⟩:=hl
    cases e
    refine wpAny_bind (wpAny_pyHash_tuple (by show A.units+1 < cLine;omega) r1 ?_)
    first
     | exact wpAny_pure ⟨done ++ [.inr l],left,by simp,hl,by simp[hb,qX],by simp[jZ,wX]⟩
     | exact wpAny_bind (wpAny_pure (wpAny_pure ⟨done ++ [.inr l],left,by simp,hl,by simp[hb,qX],by simp[jZ,wX]⟩))
 ·rintro b s' ⟨done,left,rfl,hl,hb,rfl⟩
  have e:left = []:=by
   cases left with
   | nil=>rfl
   | cons i left=>cases i <;> rw[ft]at hl <;> obtain⟨_,_,z,_⟩:=hl <;> cases z
  subst e
  rw[da]at h
  show wpAny _ _ (retInt (fP b.toList)) _ _ _
  rw[hb]
  refine wpAny_ret_mkInt ?_
  show wpAny _ _ (if (decide (-(2:Int) ^ 63<=fP (done.map (qX P w))) && decide (fP (done.map (qX P w)) < 2 ^ 63))=true then _ else _) Q E _
  unfold HP reduceHash Ew at h
  by_cases hr:(decide (-(2:Int) ^ 63<=fP (done.map (qX P w))) && decide (fP (done.map (qX P w)) < 2 ^ 63))=true
  ·rw[if_pos hr]
   rw[if_pos hr]at h
   exact wpAny_pure (by simpa [jZ] using h)
  ·rw[if_neg hr]
   rw[if_neg hr]at h
   exact wpAny_bind (wpAny_rule (wpAny_pure (by simpa [jZ] using h)))
end
def kZ (P:Program) (w:World):HeapKind P w NK where
 is:=qf P w
 hash:=HP P w
 draws:=Ew
 room:=fun A=>A.units+5 < cLine
 inj:=fun hx hy=>hx.inj hy
 keeps:=fun x ho hd hs=>x.keeps ho hd hs
 pyHash:=fun hu hk h=>Cc hu hk h
 eqBool:=fun hu hx hy h=>Cd hu hx hy h
 quiet:=fun hk h=>RP hk h
section
variable {prog:Program}{w:World}{K:Type} [DecidableEq K] {knd:HeapKind prog w K}{A:Around}{E:Value->Shared->Prop}{s:Shared}{d a:Addr}{k:K}{xs:List (K × Addr × Value)}
theorem tN {dflt:Value}{Q:Value->Shared->Prop} (hu:knd.room A) (uO:knd.is s.heap k a) (hm:s.heap.DictOfH knd d xs)
  (Y6:∀ p,atKey xs k=some p->Q p.2 { s with toks:=s.toks+knd.draws k })
  (SX:atKey xs k=none->∀ h',h'.DictOfH knd d (xs ++ [(k,a,dflt)])->cq d s.heap h'->Q dflt { s with heap:=h',toks:=s.toks+knd.draws k })
  (hsz:xs.length<=sizeLine):wpAny (model prog w) A (dictSetDefault d (.ref a) dflt) Q E s:=by
 obtain⟨o,es,ep,ho,hc,hd,he,his,hn⟩:=hm
 unfold dictSetDefault
 try with_reducible refine wpAny_holding ?_
 refine wpAny_bind (knd.pyHash hu uO ?_)
 refine wpAny_bind (wpAny_dictFind_heap (s := { s with toks:=s.toks+knd.draws k }) hu uO ho hd he his hn ?_ ?_)
 ·intro qr
  have afU:k ∉ xs.map (·.1):=not_mem_keys_of_get qr
  refine wpAny_bind (wpAny_rule (wpAny_bind (wpAny_updateDictKeys (hz:=by have e:=size_of_entries he;omega) (s := { s with toks:=s.toks+knd.draws k }) ho hd (wpAny_pure (SX (atKey_none_of_get qr) _ ⟨_,_,ep+1,dZ _ ho (Obj.isFreed_of_dict (yn hd _)),
   hc.mapDictKeys _,yn hd _,?_,?_,?_⟩ (cW ..))))))
  ·simp[he,entryOfKey]
  ·intro x hx
   rcases aA.mp hx with hx | hx
   ·exact knd.keeps (his x hx) ho hd (cW ..)
   ·simp only[aB]at hx
    subst hx
    exact knd.keeps uO ho hd (cW ..)
  ·rw[c9,eK]
   refine⟨hn,by simp,?_⟩
   intro x hx y hy
   simp only[aS,fB,aB]at hy
   subst hy
   exact fun e=>afU (e ▸ hx)
 ·intro j p hj
  refine wpAny_bind (wpAny_dictEntries (s := { s with toks:=s.toks+knd.draws k }) ho hd ?_)
  rw[entry_at he j,hj]
  exact wpAny_bind (wpAny_rule (wpAny_pure (Y6 p (atKey_of_get hn hj))))
end
section
variable {prog:Program}{w:World}{K:Type} [DecidableEq K] (knd:HeapKind prog w K) (d a:Addr)
theorem wy (hd:(d == sysModules)=false) (dflt:Value) :
  MeetsIn prog w (Builtin.«dict.setdefault» ⟨[.ref d,.ref a,dflt], []⟩) (fun A R s=>knd.room A.in1∧∃ k xs,knd.is s.heap k a∧s.heap.DictOfH knd d xs∧xs.length<=sizeLine ∧
   (∀ p,atKey xs k=some p->R (.ok (.ret p.2)) { s with toks:=s.toks+knd.draws k }) ∧
   (atKey xs k=none->∀ h',h'.DictOfH knd d (xs ++ [(k,a,dflt)])->cq d s.heap h'->R (.ok (.ret dflt)) { s with heap:=h',toks:=s.toks+knd.draws k })) :=
 .of_wp fun A R s ⟨hu,k,xs,uO,hm,hz,h1,h2⟩=>by
  unfold Builtin.«dict.setdefault»
  refine wpAny_bind ?_
  unfold Builtin.Dict.keyAndDefault
  refine wpAny_bind (wpAny_notOrdered_dict hm.typeIs ?_)
  show wpAny _ _ (pure (d,aQ a,some dflt)) _ _ s
  refine wpAny_pure ?_
  show wpAny _ _ (if (d == sysModules)=true then _ else (dictSetDefault d (.ref a) dflt >>= _)) _ _ s
  rw[if_neg (by rw[hd];exact bb)]
  exact wpAny_bind (tN hu uO hm (fun p hp=>wpAny_pure ⟨p.2,O,h1 p hp⟩) (fun hn h' w4 lF=>wpAny_pure ⟨dflt,O,h2 hn h' w4 lF⟩) hz)
end
section
variable {X:Cx}{scope:Scope}{own:List Str}{caps:List (Str × Nat)}{ah:List (Addr × Obj)}{σ : St}{H:Hp}{s:Shared}{fp:List Addr}
theorem Tg {prog:Program}{w:World}{A:Around}{R:Result->Shared->Prop}{jD mQ iter rF:Expr}{pos:Pos}{it acc:Value}{env:Env} (Iv:Nat->Shared->Prop)
  (turn:∀ n s,Iv n s->wpAny (model prog w) A (pyNext it) (fun r eE => match r with
   | none=>R (.ok .next) eE
   | some v=>wpAny (model prog w) A (letOwnedTupleGo mQ it v) (fun _ hX => wpAny (model prog w) A (assign mQ env v) (fun _ mq => wpAny (model prog w) A (isTrue rF env (eval rF env)) (fun ok MW => if ok=true then wpAny (model prog w) A (eval jD env) (fun x GZ =>
       wpAny (model prog w) A (call (.builtin "list.append") [acc,x]) (fun _ GY => ∃ m,m < n∧Iv m GY) (fun _ _=>False) GZ) (fun _ _=>False) MW else ∃ m,m < n∧Iv m MW) (fun _ _=>False) mq) (fun _ _=>False) hX) (fun _ _=>False) eE) (fun _ _=>False) s)
  (n:Nat) (h:Iv n s):codeAny (model prog w) A (.compLoop (.ListComp jD [⟨mQ,iter, [rF],0⟩] scope pos) 0 it acc env) R s:=by
 refine codeAny_loop rfl Iv (fun n s hI =>?_) n h
 show wpAny _ A ((compTurn (.ListComp jD [⟨mQ,iter, [rF],0⟩] scope pos) 0 it acc env).onRaise (fun x=>do noteFrame x env;theTreesLotGoes x)) _ _ s
 refine wpAny_noted ?_
 rw[compTurn_list]
 refine wpAny_bind (wpAny_standAt (wpAny_bind (wpAny_mono (turn n s hI) (fun r eE iI =>?_) fun _ _ z=>z.elim)))
 cases r with
 | none=>exact wpAny_pure iI
 | some v =>
  refine wpAny_bind (wpAny_mono iI (fun _ hX sJ => wpAny_bind (wpAny_mono sJ (fun _ mq Iu => wpAny_bind (wpAny_tests_one (wpAny_mono Iu (fun ok MW Nx =>?_) fun _ _ z=>z.elim))) fun _ _ z=>z.elim)) fun _ _ z=>z.elim)
  cases ok with
  | true =>
   have Nw:=(if_pos rfl:(if true=true then _ else _)=_) ▸ Nx
   exact wpAny_bind (wpAny_bind (wpAny_mono Nw (fun x GZ Ny => wpAny_bind (wpAny_mono Ny (fun _ GY BI => wpAny_pure (wpAny_pure ⟨O,BI⟩)) fun _ _ z=>z.elim)) fun _ _ z=>z.elim))
  | false =>
   have Nw:∃ m,m < n∧Iv m MW := Nx
   exact wpAny_bind (wpAny_pure (wpAny_pure ⟨O,Nw⟩))
def Gi (J:It) (g:TG) (ct:TT) (te:TE) (WQ:St) (H1:Hp) (Q:VK):Prop := ∀ D,H1 D=none->∃ W:Nat->Nat->St->List V->Hp->Prop,
 (∃ m,W 0 m WQ [] (upd H1 D (.lst []))) ∧
 ∀ i m τ ys H,W i m τ ys H->H D=some (.lst ys)∧((J.stop i H∧Q (.ref D) H)∨(J.go i H∧ys.length < sizeLine∧∀ x H',J.yX i H x H'->g x τ H' fun rq H2=>ct rq H2 fun b H4=>if b=true then te rq H4 fun y H3 =>
  H3 D=some (.lst ys)∧∃ m',m' < m∧W (i+1) m' rq (ys ++ [y]) (upd H3 D (.lst (ys ++ [y]))) else ∃ m',m' < m∧W (i+1) m' rq ys H4))
def GX (wi:TI) (g:TG) (ct:TT) (te:TE) (k:Nat) (caps:List (Str × Nat)):TE:=fun σ H Q=>wi σ H fun J H1=>Gi J g ct te (bY k none ++ jV σ caps) H1 Q
theorem Dr {tg jD iter rF:Expr}{wi:TI}{g:TG}{ct:TT}{te:TE}{pos p2:Pos}{use:Option (Value->Sem Unit)}{Q:VK} {Q':Value->Shared->Prop} (S:kr X scope own caps) (hi:PI X tg iter wi) (hc:X.calm=true)
  (hg:∀ fp s H,PG (dS X scope (own ++ caps.map (·.1)) fp s H) tg g) (P7:∀ fp s H,PT (dS X scope (own ++ caps.map (·.1)) fp s H) rF ct) (he:∀ fp s H,PE (dS X scope (own ++ caps.map (·.1)) fp s H) jD te)
  (I:Inv X ah σ H s) (h:GX wi g ct te own.length caps σ H Q)
  (fin:∀ D C H5 s5,Inv X ah σ H5 s5->Q (.ref D) H5->(∃ m,s5.heap.Ns C m)->H5 C=none->C≠X.env.locals->X.kR.heap.objs.size<=C->(∀ x c,X.env.cells.lookup x=some c->c≠C)->(∀ p∈X.pn ++ ah,p.1≠C) ->
   compPost (model X.prog X.w) X.A X.xe use Q' (.ref D) C (.ok .next) s5)
  (hs:∀ x,foldedSetIterable iter X.env x=pure x:=by intro _;rfl) :
  wpAny (model X.prog X.w) X.A (comprehension (.ListComp jD [⟨tg,iter, [rF],0⟩] scope pos) scope X.env p2 (newList []) false (eval iter X.env) use) Q' X.xe s:=by
 have NH:closureFor scope X.env=pure (i7 X.env.cells scope.names []):=zU fun y hy hk=>I.ok.has y.1 (.inl (S.frees y hy hk))
 refine wpAny_comprehension_free (g:=⟨tg,iter, [rF],0⟩) (gs := []) rfl hs NH S.kind S.locs (bF (hi ah s σ H _ I h) fun v s1 h1=>bF h1 fun Up s2 h2 =>?_)
 obtain⟨it,fp,tn,J,H2,e,I2,T,zc,f2,R⟩:=h2
 subst e
 refine wpAny_newObj_type (wpAny_newFunctionEnv S.CC (by intro y hy;simp at hy) (fun iI IQ ID =>?_) S.kind)
 have fr2:H2 s2.heap.objs.size=none:=I2.bh.fresh (au _)
 obtain⟨W,⟨m0,w0⟩,turn⟩:=R s2.heap.objs.size fr2
 have I3:Inv X ah σ (upd H2 s2.heap.objs.size (.lst [])) { s2 with heap:=s2.heap.push { cls := .type "list",dict:=none,data := .seq ([]:List Value).toArray } }:=I2.Sv (its := []) (t':=s2.toks) .nil (bA _)
 have zy:∀ b∈fp,b < s2.heap.objs.size:=fun b hb=>by
  obtain⟨o,ho,_⟩:=T.obj _ _ zc b hb
  exact aV ho
 have f3:∀ b∈fp,nQ X ah (upd H2 s2.heap.objs.size (.lst [])) b:=fun b hb=>⟨by rw[aF (bH (zy b hb))];exact(f2 b hb).1,(f2 b hb).2⟩
 generalize wY:({ s2 with heap:=s2.heap.push { cls := .type "list",dict:=none,data := .seq ([]:List Value).toArray } }:Shared)=s3 at I3
 have YV:s3.heap.objs.size=s2.heap.objs.size+1:=by rw[<- wY];exact fG _ _
 have SH:∀ b o,s2.heap.get? b=some o->s3.heap.get? b=some o:=fun b o e=>by rw[<- wY];exact az _ e
 have Ph:∀ b∈fp,b < s3.heap.objs.size:=fun b hb=>by rw[YV];exact kN (zy b hb)
 have EE:iI.Ns s3.heap.objs.size (fun x=>([]:List (Str × Value)).reverse.lookup x):=by rw[<- wY];exact IQ
 have Ij:∀ b o,s3.heap.get? b=some o->iI.get? b=some o:=fun b o e=>by
  have hb:b≠s3.heap.objs.size:=bH (aV e)
  rw[<- wY]at e hb
  exact ID.extBut b o hb (az _ e)
 have J1:=Dq S I3 f3 Ph (t:=s2.toks+([]:List (Str × Value)).length) EE Ij
 have OA:tn 0 iI := T.keep _ _ _ zc fun b hb o e=>Ij b o (SH b o e)
 -- pj loop
 have loop:∀ mq : Shared,mq = { s3 with heap:=iI,toks:=s2.toks+([]:List (Str × Value)).length } ->
   codeAny (model X.prog X.w) X.A (.compLoop (.ListComp jD [⟨tg,iter, [rF],0⟩] scope pos) 0 (.ref it) (.ref s2.heap.objs.size) (dS X scope (own ++ caps.map (·.1)) fp s3 (upd H2 s2.heap.objs.size (.lst []))).env)
    (compPost (model X.prog X.w) X.A X.xe use Q' (.ref s2.heap.objs.size) s3.heap.objs.size) mq := by
  rintro mq rfl
  refine Tg (fun n s'=>∃ i τ ys H',Inv (dS X scope (own ++ caps.map (·.1)) fp s3 (upd H2 s2.heap.objs.size (.lst []))) [] τ H' s'∧tn i s'.heap∧(∀ b∈fp,H' b=none)∧W i n τ ys H') ?_ m0
   ⟨0,_, [],_,J1,OA,fun b hb=>(f3 b hb).1,w0⟩
  rintro n s' ⟨i, τ,ys,H',J',mT,Qn,w'⟩
  have fY:∀ {iY:Hp},(∀ b∈fp,iY b=none)->∀ b∈fp,nQ (dS X scope (own ++ caps.map (·.1)) fp s3 (upd H2 s2.heap.objs.size (.lst []))) [] iY b:=fun hn b hb =>
   ⟨hn b hb,bH (Ph b hb),fun z=>by
     rcases aY.mp (I3.za b z) with e | e
     ·exact(f3 b hb).2.1 e
     ·exact(f3 b hb).2.2.1 e,.inl hb,fun x c e=>(f3 b hb).2.2.2.2.1 x c (j8 e),(fun p hp=>by cases hp)⟩
  obtain⟨hD,tt⟩:=turn i n τ ys H' w'
  rcases tt with⟨stop,qn⟩ | ⟨go,eg,step⟩
  ·refine bF (T.done (dS X scope (own ++ caps.map (·.1)) fp s3 (upd H2 s2.heap.objs.size (.lst []))) rfl rfl rfl hc i [] s' τ H' (fun _ _=>False) J' (fY Qn) mT stop) fun r s4 ⟨hr,J4⟩ =>?_
   subst hr
   obtain⟨m4,Zo,_⟩:=J4.loc
   have I5:=FY I3 J4 f3
   refine fin _ _ _ s4 I5 qn ⟨m4,Zo⟩ J4.free ?_ ?_ (fun x c e z =>?_) fun p hp z =>?_
   ·exact jH I3.lt
   ·exact I3.sz
   ·obtain⟨v,q⟩:=I3.cell x c e
    rw[z]at q
    exact absurd q.lt (eM _)
   ·have q:=(I3.pin p hp).1
    rw[z]at q
    exact absurd (aV q) (eM _)
  ·refine bF (T.item (dS X scope (own ++ caps.map (·.1)) fp s3 (upd H2 s2.heap.objs.size (.lst []))) rfl rfl rfl hc i [] s' τ H' (fun _ _=>False) J' (fY Qn) mT go) fun r s4 ⟨u,hr,h4⟩ =>?_
   subst hr
   refine bF h4 fun _ s5 ⟨x,H5,J5,r5,y5,zb,Qm⟩ =>?_
   have J5':=J5.pinned (fY Qm) (T.obj _ _ zb)
   have CP:∀ {wK:St}{H8:Hp}{s8:Shared},Inv (dS X scope (own ++ caps.map (·.1)) fp s3 (upd H2 s2.heap.objs.size (.lst []))) ([] ++ zu fp s5.heap) wK H8 s8->tn (i+1) s8.heap∧∀ b∈fp,H8 b=none:=fun {wK H8 s8} J8=>by
    refine⟨T.keep _ _ _ zb fun b hb o e=>(J8.pin (b,o) (cz _ (cz _ (nz hb e)))).1,fun b hb =>?_⟩
    obtain⟨o,e,d⟩:=T.obj _ _ zb b hb
    exact(J8.pin (b,o) (cz _ (cz _ (nz hb e)))).2.1
   refine bF (hg fp s3 _ _ s5 τ H5 x u _ J5' r5 (step x H5 y5)) fun _ s6 ⟨wK,H6,J6,q6⟩ =>?_
   refine bF (P7 fp s3 _ _ s6 wK H6 _ J6 q6) fun ok s9 ⟨H9,J9,q9⟩ =>?_
   cases ok with
   | false =>
    obtain⟨m',w4,w9⟩:=(show ∃ m',m' < n∧W (i+1) m' wK ys H9 from q9)
    exact⟨m',w4,i+1, wK,ys,_,J9.qC,(CP J9).1,(CP J9).2,w9⟩
   | true =>
    refine bF (he fp s3 _ _ s9 wK H9 _ J9 q9) fun yv s7 ⟨y,H7,J7,r7,hD7,m',w4,w7⟩ =>?_
    refine bF (f6 (X:=dS X scope (own ++ caps.map (·.1)) fp s3 (upd H2 s2.heap.objs.size (.lst []))) _ s7 wK H7 (.ref s2.heap.objs.size) [y] _ [yv] (fun _ H8=>H8=upd H7 s2.heap.objs.size (.lst (ys ++ [y]))) J7 rfl (.cons r7 .nil) ⟨_,ys,y,O,O,hD7,eg,O⟩) fun _ s8 ⟨_,H8,J8,_,e8⟩ =>?_
    subst e8
    exact⟨m',w4,i+1, wK,ys ++ [y],_,J8.qC,(CP J8).1,(CP J8).2,w7⟩
 have C3:=loop _ rfl
 subst wY
 exact codeAny_compStart_list C3 (T.self _ 0 _ _ _ OA C3)
theorem R7 {tg jD iter rF:Expr}{wi:TI}{g:TG}{ct:TT}{te:TE}{pos:Pos} (S:kr X scope own caps) (hi:PI X tg iter wi) (hc:X.calm=true)
  (hg:∀ fp s H,PG (dS X scope (own ++ caps.map (·.1)) fp s H) tg g) (P7:∀ fp s H,PT (dS X scope (own ++ caps.map (·.1)) fp s H) rF ct) (he:∀ fp s H,PE (dS X scope (own ++ caps.map (·.1)) fp s H) jD te)
  (hs:∀ x,foldedSetIterable iter X.env x=pure x:=by intro _;rfl):PE X (.ListComp jD [⟨tg,iter, [rF],0⟩] scope pos) (GX wi g ct te own.length caps):=by
 intro ah s σ H Q I h
 rw[eval_ListComp]
 refine Dr (use:=none) (Q:=Q) S hi hc hg P7 he I h (fun D C H5 s5 I5 q ⟨m,hn⟩ hC hL hz iJ BJ =>?_) hs
 refine⟨m,hn,fun h' lF =>?_⟩
 exact⟨.ref D,H5,I5.turned (t':=s5.toks) (fun b o hb e=>(lF.2 b hb).trans e) hC hL (.inr hz) iJ BJ,O,q⟩
theorem Kq {i:Nat}{y:Str}{tg jD iter rF:Expr}{wi:TI}{g:TG}{ct:TT}{te:TE}{pos G2 py:Pos} (hN:X.N.Nodup) (ZA:X.N[i]? = some y) (hy:X.env.scope.names.lookup y=some .local) (S:kr X scope own caps) (hi:PI X tg iter wi) (hc:X.calm=true)
  (hg:∀ fp s H,PG (dS X scope (own ++ caps.map (·.1)) fp s H) tg g) (P7:∀ fp s H,PT (dS X scope (own ++ caps.map (·.1)) fp s H) rF ct) (he:∀ fp s H,PE (dS X scope (own ++ caps.map (·.1)) fp s H) jD te)
  (Y8:swapsWith (.ListComp jD [⟨tg,iter, [rF],0⟩] scope pos) (some (.Name y py)) G2.line X.env=pure true)
  (hs:∀ x,foldedSetIterable iter X.env x=pure x:=by intro _;rfl):PS X (.Assign [.Name y py] (.ListComp jD [⟨tg,iter, [rF],0⟩] scope pos) G2) (MV (GX wi g ct te own.length caps) (bw i)):=by
 intro ah s σ H D I h
 rw[exec_Assign_Name_used _ _ _ _ Y8]
 refine wpAny_bind (wpAny_standAt (wpAny_bind ?_))
 show wpAny _ X.A (do let _ <- comprehension (.ListComp jD [⟨tg,iter, [rF],0⟩] scope pos) scope X.env _ (newList []) false (eval iter X.env) (some (assign (.Name y py) X.env))) _ _ s
 refine wpAny_bind (wpAny_mono (Dr (use:=some (assign (.Name y py) X.env)) (Q:=fun x H1=>D.nx (σ.set i (some x)) H1) (Q':=fun _ s'=>SP X ah D .next s') S hi hc hg P7 he I h (fun A C H5 s5 I5 q ⟨m,hn⟩ hC hL hz iJ BJ =>?_) hs)
  (fun _ s' hq=>wpAny_pure (wpAny_pure hq)) fun _ _ e=>e)
 show wpAny _ X.A (assign (.Name y py) X.env (.ref A)) _ _ _
 refine wpAny_assign_Name (y4 I5 hN ZA (.inl hy) (v := .ref A) rfl (fun s6 I6 ⟨a,Lx,ha⟩ =>?_) (.inr hy))
 have ZV:C≠a:=by
  rcases ha with ha | ha
  ·rw[ha];exact hL
  ·exact fun z=>iJ y a ha z.symm
 refine⟨m,hn.sameBut Lx ZV,fun h' lF =>?_⟩
 exact⟨_,H5,I6.turned (t':=s6.toks) (fun b o hb e=>(lF.2 b hb).trans e) hC hL (.inr hz) iJ BJ,q⟩
end
def nJ (H:Hp):NK->List V->Prop
 | [],vs=>vs = []
 | .inl k :: ks,vs=>∃ jk,vs=kV k :: jk∧nJ H ks jk
 | .inr l :: ks,vs=>∃ b jk,vs=V.ref b :: jk∧H b=some (.tup (l.map kV))∧nJ H ks jk
def fA (H:Hp) (k:NK) (a:Addr):Prop := ∃ vs,H a=some (.tup vs)∧nJ H k vs
theorem nJ.keep {H H':Hp} (ht:∀ b ys,H b=some (.tup ys)->H' b=some (.tup ys)):∀ {k:NK}{vs:List V},nJ H k vs->nJ H' k vs
 | [],vs,r=>by rw[nJ]at r ⊢;exact r
 | .inl k :: ks,vs,r=>by
  rw[nJ]at r ⊢
  obtain⟨jk,e,r⟩:=r
  exact⟨jk,e,nJ.keep ht r⟩
 | .inr l :: ks,vs,r=>by
  rw[nJ]at r ⊢
  obtain⟨b,jk,e,q,r⟩:=r
  exact⟨b,jk,e,ht _ _ q,nJ.keep ht r⟩
theorem fA.keep {H H':Hp}{k:NK}{a:Addr} (ht:∀ b ys,H b=some (.tup ys)->H' b=some (.tup ys)) (r:fA H k a):fA H' k a:=by
 obtain⟨vs,e,r⟩:=r
 exact⟨vs,ht _ _ e,r.keep ht⟩
section
variable {P:Program}{w:World}{H:Hp}{h:Heap}
theorem HN (ok:gC P w H h):∀ {k:NK}{vs:List V}{us:List Value},nJ H k vs->Vals vs us->ft P w h k us
 | [],vs,us,r,q=>by rw[nJ]at r;subst r;cases q;rw[ft]
 | .inl k :: ks,vs,us,r,q=>by
  rw[nJ]at r
  obtain⟨jk,rfl,r⟩:=r
  cases q with
  | cons q1 q2=>rw[ft];exact⟨_,_,O,xS q1,HN ok r q2⟩
 | .inr l :: ks,vs,us,r,q=>by
  rw[nJ]at r
  obtain⟨b,jk,rfl,e,r⟩:=r
  cases q with
  | cons q1 q2 =>
   rw[ft]
   cases (show _=aQ b from q1)
   exact⟨b,_,O,zD ok e,HN ok r q2⟩
theorem oS {k:NK}{a:Addr} (ok:gC P w H h) (r:fA H k a):qf P w h k a:=by
 obtain⟨vs,e,r⟩:=r
 obtain⟨_,its,rv,p⟩:=(show dy P w H h a (.tup vs) from ok a _ e)
 exact⟨its,p.tup,HN ok r rv⟩
end
abbrev KN (H:Hp):List (NK × V)->List (NK × Addr × Value)->Prop:=Paired fun p q=>p.1=q.1∧fA H p.1 q.2.1∧RelV p.2 q.2.2
theorem KN.val {H:Hp}{kvs:List (NK × V)}{xs:List (NK × Addr × Value)} (r:KN H kvs xs) (k:NK):jW (bR kvs k) ((atKey xs k).map (·.2)):=by
 induction r with
 | nil=>exact fq
 | @cons p q ps qs h t ih =>
  obtain⟨h1,_,h2⟩:=h
  by_cases e:p.1=k
  ·have e':q.1=k:=h1.symm.trans e
   have b:atKey (q :: qs) k=some q.2:=by simp[atKey,ir,e']
   rw[eO e,b];exact h2
  ·have e':¬ q.1=k:=fun z=>e (h1.trans z)
   have b:atKey (q :: qs) k=atKey qs k:=by simp[atKey,ir,e']
   rw[eD e,b];exact ih
theorem KN.keeps {H H':Hp}{kvs:List (NK × V)}{xs:List (NK × Addr × Value)} (r:KN H kvs xs) (ht:∀ b ys,H b=some (.tup ys)->H' b=some (.tup ys)):KN H' kvs xs :=
 Paired.uI r fun _ _ z=>⟨z.1,z.2.1.keep ht,z.2.2⟩
def DN (P:Program) (w:World) (H:Hp) (a:Addr) (kvs:List (NK × V)):Prop:=kvs.length<=sizeLine∧(a == sysModules)=false∧∃ (xs:List (NK × Addr × Value)) (o:Obj) (es:Array DictEntry) (ep:Nat),
 H a=some (.ext fun h=>h.get? a=some o)∧KN H kvs xs∧o.ExactDict∧o.data = .dict es ep∧es.toList=xs.map (entryOfKey (kZ P w))∧(xs.map (·.1)).Nodup
theorem DN.keep {P:Program}{w:World} {H H':Hp}{a:Addr}{kvs:List (NK × V)} (d:DN P w H a kvs) (ha:∀ φ,H a=some (.ext φ)->H' a=some (.ext φ)) (ht:∀ b ys,H b=some (.tup ys)->H' b=some (.tup ys)):DN P w H' a kvs:=by
 obtain⟨z,hd,xs,o,es,ep,e,r,q⟩:=d
 exact⟨z,hd,xs,o,es,ep,ha _ e,r.keeps ht,q⟩
theorem DN.same {P:Program}{w:World} {H H':Hp}{a:Addr}{kvs:List (NK × V)} (d:DN P w H a kvs) (sm:bu H H'):DN P w H' a kvs:=d.keep (fun φ => sm _ _) (fun b ys=>sm _ _)
theorem DN.ext {P:Program}{w:World}{H:Hp}{a:Addr}{kvs:List (NK × V)} (d:DN P w H a kvs):∃ φ,H a=some (.ext φ):=by
 obtain⟨_,_,xs,o,es,ep,e,_⟩:=d
 exact⟨_,e⟩
theorem tW {P:Program}{w:World}{H:Hp}{h:Heap}{a:Addr}{kvs:List (NK × V)} (ok:gC P w H h) (d:DN P w H a kvs):kvs.length<=sizeLine∧(a == sysModules)=false ∧
  ∃ xs,KN H kvs xs∧h.DictOfH (kZ P w) a xs:=by
 obtain⟨z,hd,xs,o,es,ep,e,r,h2,h3,h4,h5⟩:=d
 obtain⟨h1,_⟩:=(show dy P w H h a (.ext fun h=>h.get? a=some o) from ok a _ e)
 refine⟨z,hd,xs,r,o,es,ep,h1,h2,h3,h4,fun x hx =>?_,h5⟩
 have all:∀ {l:List (NK × V)}{m:List (NK × Addr × Value)},KN H l m->∀ x∈m,(kZ P w).is h x.1 x.2.1:=by
  intro l m q
  induction q with
  | nil=>intro x hx;exact nomatch hx
  | @cons p q ps qs hq t ih =>
   intro x hx
   rcases aY.mp hx with e | hx
   ·subst e
    exact oS ok (by rw[<- hq.1];exact hq.2.1)
   ·exact ih x hx
 exact all r x hx
theorem Jr {P:Program}{w:World}{H:Hp}{h:Heap}{a:Addr}{o:Obj} (e:h.get? a=some o):dy P w H h a (.ext fun h=>h.get? a=some o):=⟨e,⟨o,e⟩,fun h1 h2 e1 k=>k o e1⟩
section
variable {X:Cx}{ah:List (Addr × Obj)}{σ : St}{H:Hp}{s:Shared}{a b:Addr}{kvs Nn:List (NK × V)}{k:NK}{y v:V}{u r:Value}{A:Around}{E:Value->Shared->Prop}
theorem Jx {h':Heap} {t':Nat}{KD:List (NK × Addr × Value)} (I:Inv X ah σ H s) (d:DN X.prog X.w H a kvs) (hs:cq a s.heap h') (dd:h'.DictOfH (kZ X.prog X.w) a KD) (c7:KN H Nn KD) (hl:Nn.length<=sizeLine) :
  ∃ φ,Inv X ah σ (upd H a (.ext φ)) { s with heap:=h',toks:=t' }∧DN X.prog X.w (upd H a (.ext φ)) a Nn:=by
 obtain⟨Ky,e0⟩:=d.ext
 have hd:=d.2.1
 obtain⟨q,es,ep,hq,h2,h3,h4,_,h5⟩:=dd
 have ht:∀ c ys,H c=some (.tup ys)->(upd H a (.ext fun h=>h.get? a=some q)) c=some (.tup ys):=fun c ys ec=>by
  rw[aF (a9 ec e0 nofun)]
  exact ec
 exact⟨_,uk I (by rw[e0];exact fq) hs ⟨q,hq⟩ (Jr hq),hl,hd,KD,q,es,ep,aE,c7.keeps ht,h2,h3,h4,h5⟩
theorem KN.snoc {xs:List (NK × Addr × Value)} (c7:KN H kvs xs) (nk:fA H k b) (rv:RelV v r):KN H (kvs ++ [(k,v)]) (xs ++ [(k,b,r)]):=rm c7 ⟨O,nk,rv⟩
theorem Gs {Q:Value->Shared->Prop} (hu:A.units+10 < cLine) (I:Inv X ah σ H s) (d:DN X.prog X.w H a kvs) (nk:fA H k b) (rv:RelV v r) (hl:kvs.length < sizeLine)
  (h1:∀ v' w' s',bR kvs k=some v'->RelV v' w'->Inv X ah σ H s'->Q w' s') (h2:bR kvs k=none->∀ φ s',Inv X ah σ (upd H a (.ext φ)) s'->DN X.prog X.w (upd H a (.ext φ)) a (kvs ++ [(k,v)])->Q r s') :
  wpAny (model X.prog X.w) A (call (.builtin "dict.setdefault") [.ref a,.ref b,r]) Q E s:=by
 obtain⟨z,hd,xs,c7,dd⟩:=tW I.bh d
 have hz:xs.length<=sizeLine:=by rw[<- aP c7];exact z
 have ro:=c7.val k
 refine call_meetsIn qR dd.typeIs PySem.F.entry_dict_setdefault (PySem.F.args_dict_setdefault_3 _ _ _) (wy (kZ X.prog X.w) a b hd r)
  ⟨(show A.units+1+5 < cLine by omega),k,xs,oS I.bh nk,dd,hz,fun p hp =>?_,fun hn h' zT hs =>?_⟩
 ·rw[hp]at ro
  cases e:bR kvs k with
  | none=>rw[e]at ro;exact ro.elim
  | some v'=>rw[e]at ro;exact h1 v' _ _ e ro (I.tok _)
 ·rw[hn]at ro
  cases e:bR kvs k with
  | some v'=>rw[e]at ro;exact ro.elim
  | none =>
   obtain⟨φ,I',d'⟩:=Jx (t':=s.toks+(kZ X.prog X.w).draws k) I d hs zT (c7.snoc nk rv) (by rw[aK];exact hl)
   exact h2 e φ _ I' d'
end
def abt (P:Program) (w:World) (td ty tx:TE):TE:=fun σ H Q=>td σ H fun x H1=>∃ a,x = .ref a∧(∃ kvs,DN P w H1 a kvs)∧ty σ H1 fun y H2=>tx σ H2 fun z H3=>∃ kvs k b,DN P w H3 a kvs∧y = .ref b∧fA H3 k b∧kvs.length < sizeLine ∧
 (∀ v,bR kvs k=some v->Q v H3)∧(bR kvs k=none->∀ φ,DN P w (upd H3 a (.ext φ)) a (kvs ++ [(k,z)])->Q z (upd H3 a (.ext φ)))
theorem zF {X:Cx}{ah:List (Addr × Obj)}{σ : St}{H:Hp}{s:Shared}{a:Addr} (I:Inv X ah σ H s) (d:∃ kvs,DN X.prog X.w H a kvs) :
  s.TypeIs (.ref a) "dict" ∧ (∀ b,aQ a = .ref b->∃ ob,s.heap.get? b=some ob∧ob.dict=none)∧(a == sysModules)=false:=by
 obtain⟨kvs,e⟩:=d
 obtain⟨_,hd,xs,_,dd⟩:=tW I.bh e
 refine⟨dd.typeIs,fun b q =>?_,hd⟩
 cases q
 obtain⟨ob,_,_,h1,h2,_⟩:=dd
 exact⟨ob,h1,h2.2.1⟩
section
variable {X:Cx}{o e f:Expr}{dv de:Pos}{td ty tx:TE}
theorem En (hu:X.A.units+10 < cLine) (ho:PE X o td) (he:PE X e ty) (hf:PE X f tx) (m:M2 X o "setdefault" dv e f de):PE X (.Call (.Attribute o "setdefault" dv) [e,f] [] de) (abt X.prog X.w td ty tx):=by
 intro ah s σ H Q I h
 refine wpAny_Call_method m.base m.dR m.line gw qR PySem.F.type_dict_setdefault (bF (ho ah s σ H _ I h) fun u s1 ⟨x,H1,I1,rx,a,ex,d,q1⟩ =>?_)
 subst ex
 obtain rfl:u=aQ a:=rx
 obtain⟨t1,t2,_⟩:=zF I1 d
 refine⟨t1,t2,?_⟩
 rw[m.trees]
 refine eG rfl (iw (gh (bF (he ah s1 σ H1 _ I1 q1) fun iv s2 ⟨y,H2,I2,ry,q2⟩ =>
  gh (bF (hf ah s2 σ H2 _ I2 q2) fun fv s3 ⟨z,H3,I3,rz,kvs,k,b,d3,ey,nk,hl,q3,q4⟩=>jr ?_))))
 subst ey
 obtain rfl:iv=aQ b:=ry
 exact Gs hu I3 d3 nk rz hl (fun v' w' s4 e4 r4 I4=>⟨v',H3,I4,r4,q3 v' e4⟩) fun hn φ s4 I4 d4=>⟨z,_,I4,rz,q4 hn φ d4⟩
def Xd (P:Program) (w:World):TE:=fun _ H Q=>∀ p φ,H p=none->DN P w (upd H p (.ext φ)) p []->Q (.ref p) (upd H p (.ext φ))
theorem mV {pos:Pos}:PE X (.Dict [] [] pos) (Xd X.prog X.w):=by
 intro ah s σ H Q I h
 have hd:(s.heap.objs.size == sysModules)=false:=beq_eq_false_iff_ne.mpr (cM (bH I.big))
 refine wpAny_Dict_empty ⟨.ref s.heap.objs.size,_,I.laid (a:=s.heap.objs.size) (o := .ext fun h=>h.get? s.heap.objs.size=some { cls := .type "dict",data := .dict #[] }) (t':=s.toks) (fun _ _ q=>az _ q) (au _) (Jr (aR _ rfl)),O,h _ _ (I.bh.fresh (au _)) ?_⟩
 exact⟨bA _,hd, [],_, #[],0,aE,.nil,⟨O,O,O⟩,O,O,df⟩
end
end L2
namespace Sw
inductive TM (S:Type) where
 | num (n:Int) | name (x:S) | of (x:S) (as:List Nat)
section
variable {S:Type}
inductive Eqv (ts:List (TM S)) (es:List (Nat × Nat)):Nat->Nat->Prop where
 | refl (i:Nat):Eqv ts es i i
 | symm {i j:Nat}:Eqv ts es i j->Eqv ts es j i
 | trans {i j k:Nat}:Eqv ts es i j->Eqv ts es j k->Eqv ts es i k
 | eR {i j:Nat}:(i,j)∈es->Eqv ts es i j
 | same {i j:Nat}{t:TM S}:ts[i]? = some t->ts[j]? = some t->Eqv ts es i j
 | NU {i j:Nat}{x:S}{as bs:List Nat}:ts[i]? = some (.of x as)->ts[j]? = some (.of x bs)->as.length=bs.length->(∀ (k a b:Nat),as[k]? = some a->bs[k]? = some b->Eqv ts es a b)->Eqv ts es i j
def nE (ls:List Nat):Prop := ∀ k v:Nat,ls[k]? = some v->v<=k∧ls[v]? = some v
def lX (hi lo v:Nat):Nat:=if v=hi then lo else v
def jn (ls:List Nat) (hi lo:Nat):List Nat:=ls.map (lX hi lo)
theorem pI {ls:List Nat}{hi lo k:Nat}:(jn ls hi lo)[k]? = (ls[k]?).map (lX hi lo):=by unfold jn;rw[aG]
theorem PF {ls:List Nat}{hi lo:Nat}:(jn ls hi lo).length=ls.length:=by unfold jn;rw[ar]
theorem LR {ls:List Nat}{hi lo:Nat} (g:nE ls) (zI:ls[lo]? = some lo) (hl:lo < hi):nE (jn ls hi lo):=by
 intro k v h
 rw[pI]at h
 cases e:ls[k]? with
 | none=>rw[e]at h;cases h
 | some u =>
  rw[e]at h
  have h':lX hi lo u=v:=aH h
  obtain⟨g1,g2⟩:=g k u e
  unfold lX at h'
  by_cases hu:u=hi
  ·rw[if_pos hu]at h'
   subst h'
   refine⟨by omega,?_⟩
   rw[pI,zI]
   show some (lX hi lo lo)=some lo
   unfold lX
   rw[if_neg (by omega)]
  ·rw[if_neg hu]at h'
   subst h'
   refine⟨g1,?_⟩
   rw[pI,g2]
   show some (lX hi lo u)=some u
   unfold lX
   rw[if_neg hu]
def Sound (ts:List (TM S)) (es:List (Nat × Nat)) (ls:List Nat):Prop := ∀ k v:Nat,ls[k]? = some v->Eqv ts es k v
theorem Hf {ts:List (TM S)}{es:List (Nat × Nat)}{ls:List Nat}{hi lo:Nat} (h:Sound ts es ls) (e:Eqv ts es hi lo):Sound ts es (jn ls hi lo):=by
 intro k v q
 rw[pI]at q
 cases z:ls[k]? with
 | none=>rw[z]at q;cases q
 | some u =>
  rw[z]at q
  have h':lX hi lo u=v:=aH q
  have:=h k u z
  unfold lX at h'
  by_cases hu:u=hi
  ·rw[if_pos hu]at h'
   subst h' hu
   exact .trans this e
  ·rw[if_neg hu]at h'
   subst h'
   exact this
def Keeps (ls gu:List Nat):Prop := ∀ i j v:Nat,ls[i]? = some v->ls[j]? = some v->∃ u,gu[i]? = some u∧gu[j]? = some u
theorem Nr (ls:List Nat):Keeps ls ls:=fun i j v h1 h2=>⟨v,h1,h2⟩
theorem Keeps.trans {a b c:List Nat} (h:Keeps a b) (h':Keeps b c):Keeps a c:=fun i j v h1 h2=>by
 obtain⟨u,e1,e2⟩:=h i j v h1 h2
 exact h' i j u e1 e2
theorem SJ (ls:List Nat) (hi lo:Nat):Keeps ls (jn ls hi lo):=fun i j v h1 h2=>⟨lX hi lo v,by rw[pI,h1];rfl,by rw[pI,h2];rfl⟩
theorem KR {hi lo:Nat} (hl:lo<=hi):∀ ls:List Nat,(ls.map (lX hi lo)).sum<=ls.sum
 | []=>au _
 | v :: ls=>by
  have:=KR hl ls
  rw[aS,sU,sU]
  have h1:lX hi lo v<=v:=by unfold lX;split <;> omega
  omega
theorem Ox {hi lo:Nat} (hl:lo < hi):∀ {ls:List Nat},hi∈ls->(jn ls hi lo).sum < ls.sum
 | v :: ls,h=>by
  unfold jn
  rw[aS,sU,sU]
  have h1:lX hi lo v<=v:=by unfold lX;split <;> omega
  have h2:=KR (hi:=hi) (lo:=lo) (by omega) ls
  rcases aY.mp h with e | e
  ·have:lX hi lo v < v:=by unfold lX;rw[if_pos e.symm];omega
   omega
  ·have:=Ox hl e
   unfold jn at this
   omega
def yB (ls:List Nat) (hi lo m:Nat):List Nat:=ls.mapIdx fun k v=>if k < m then lX hi lo v else v
theorem uH {ls:List Nat}{hi lo m k:Nat}:(yB ls hi lo m)[k]? = (ls[k]?).map fun v=>if k < m then lX hi lo v else v:=by unfold yB;rw[List.getElem?_mapIdx]
theorem Lg {ls:List Nat}{hi lo m:Nat}:(yB ls hi lo m).length=ls.length:=by unfold yB;rw[List.length_mapIdx]
theorem Pf {ls:List Nat}{hi lo:Nat} (g:nE ls):yB ls hi lo hi=ls:=by
 refine d8 fun k =>?_
 rw[uH]
 cases e:ls[k]? with
 | none=>rfl
 | some v =>
  have:=(g k v e).1
  show some _=some _
  dsimp only
  by_cases hk:k < hi
  ·rw[if_pos hk];unfold lX;rw[if_neg (by omega)]
  ·rw[if_neg hk]
theorem We {ls:List Nat}{hi lo m v:Nat} (h:ls[m]? = some v):(yB ls hi lo m).set m (lX hi lo v)=yB ls hi lo (m+1):=by
 have hm:=(ai.mp h).1
 refine d8 fun k =>?_
 rw[AQ,uH,uH,Lg]
 by_cases hk:m=k
 ·subst hk
  rw[if_pos rfl,if_pos hm,h]
  show some _=some _
  dsimp only
  rw[if_pos (by omega)]
 ·rw[if_neg hk]
  cases e:ls[k]? with
  | none=>rfl
  | some u =>
   show some _=some _
   dsimp only
   by_cases h1:k < m
   ·rw[if_pos h1,if_pos (by omega)]
   ·rw[if_neg h1,if_neg (by omega)]
theorem Sq {ls:List Nat}{hi lo m v:Nat} (h:ls[m]? = some v) (hv:v≠hi):yB ls hi lo (m+1)=yB ls hi lo m:=by
 refine d8 fun k =>?_
 rw[uH,uH]
 by_cases hk:k=m
 ·subst hk
  rw[h]
  show some _=some _
  dsimp only
  rw[if_pos (by omega),if_neg (by omega)]
  unfold lX
  rw[if_neg hv]
 ·cases e:ls[k]? with
  | none=>rfl
  | some u =>
   show some _=some _
   dsimp only
   by_cases h1:k < m
   ·rw[if_pos h1,if_pos (by omega)]
   ·rw[if_neg h1,if_neg (by omega)]
theorem Wf {ls:List Nat}{hi lo m:Nat} (h:ls.length<=m):yB ls hi lo m=jn ls hi lo:=by
 refine d8 fun k =>?_
 rw[uH,pI]
 cases e:ls[k]? with
 | none=>rfl
 | some u =>
  have:=(ai.mp e).1
  show some _=some _
  dsimp only
  rw[if_pos (by omega)]
def mk (ls:List Nat):TM S->TM S
 | .num n => .num n
 | .name x => .name x
 | .of x as => .of x (as.map fun a=>ls.getD a 0)
def DB (ts:List (TM S)) (es:List (Nat × Nat)):TM S->TM S->Prop
 | .of x as,.of y vs=>x=y∧as.length=vs.length∧∀ k a v:Nat,as[k]? = some a->vs[k]? = some v->Eqv ts es a v
 | t,m=>t=m
theorem E6 {ts:List (TM S)}{es:List (Nat × Nat)}{ls:List Nat} (h:Sound ts es ls):∀ {t:TM S},(∀ x as,t = .of x as->∀ a∈as,a < ls.length)->DB ts es t (mk ls t)
 | .num n,_=>rfl
 | .name x,_=>rfl
 | .of x as,hb=>by
  refine⟨O,by rw[ar],fun k a v h1 h2 =>?_⟩
  rw[aG,h1]at h2
  have e:ls.getD a 0=v:=aH h2
  have ha:=hb x as rfl a (ak h1)
  rw[bc,aj ha]at e
  refine h a v ?_
  rw[aj ha, <- e]
  rfl
theorem MX {ts:List (TM S)}{es:List (Nat × Nat)}{i j:Nat}{t u m:TM S} (hi:ts[i]? = some t) (hj:ts[j]? = some u) (h1:DB ts es t m) (h2:DB ts es u m):Eqv ts es i j:=by
 cases t with
 | num n =>
  have e:TM.num n=m:=h1
  subst e
  cases u with
  | num k=>cases (show TM.num k=TM.num n from h2);exact .same hi hj
  | name y=>cases (show TM.name y=TM.num n from h2)
  | of y bs=>cases (show TM.of y bs=TM.num n from h2)
 | name x =>
  have e:TM.name x=m:=h1
  subst e
  cases u with
  | num k=>cases (show TM.num k=TM.name x from h2)
  | name y=>cases (show TM.name y=TM.name x from h2);exact .same hi hj
  | of y bs=>cases (show TM.of y bs=TM.name x from h2)
 | of x as =>
  cases m with
  | num k=>cases (show TM.of x as=TM.num k from h1)
  | name y=>cases (show TM.of x as=TM.name y from h1)
  | of y vs =>
   obtain⟨rfl,l1,q1⟩:=h1
   cases u with
   | num k=>cases (show TM.num k=TM.of x vs from h2)
   | name z=>cases (show TM.name z=TM.of x vs from h2)
   | of z bs =>
    obtain⟨rfl,l2,q2⟩:=h2
    refine .NU hi hj (by omega) fun k a b ha hb =>?_
    have hk:k < vs.length:=by have:=(ai.mp ha).1;omega
    exact .trans (q1 k a _ ha (aj hk)) (.symm (q2 k b _ hb (aj hk)))
def Kj (ts:List (TM S)) (es:List (Nat × Nat)) (ls:List Nat):Prop :=
 ls.length=ts.length∧nE ls∧Sound ts es ls∧∀ i j:Nat,i < ts.length->j < ts.length->Eqv ts es i j->ls[i]? = ls[j]?
def tD (ts:List (TM S)):Prop := ∀ (i:Nat) (x:S) (as:List Nat),ts[i]? = some (.of x as)->∀ a∈as,a < i
theorem Tf {ts:List (TM S)}{es:List (Nat × Nat)}{ls:List Nat} (ha:tD ts) (he:∀ a b:Nat,(a,b)∈es->a < ts.length∧b < ts.length) (hl:ls.length=ts.length)
  (h1:∀ a b:Nat,(a,b)∈es->ls[a]? = ls[b]?) (h2:∀ (i j:Nat) (t u:TM S),ts[i]? = some t->ts[j]? = some u->mk ls t=mk ls u->ls[i]? = ls[j]?) {i j:Nat} (h:Eqv ts es i j):ls[i]? = ls[j]? := by
 induction h with
 | refl i=>rfl
 | symm _ ih=>exact ih.symm
 | trans _ _ Ir Fx=>exact Ir.trans Fx
 | eR h=>exact h1 _ _ h
 | same q1 q2=>exact h2 _ _ _ _ q1 q2 rfl
 | @NU i j x as bs q1 q2 UB _ ih =>
  refine h2 _ _ _ _ q1 q2 ?_
  have e:as.map (fun a=>ls.getD a 0)=bs.map (fun a=>ls.getD a 0):=by
   refine d8 fun k =>?_
   rw[aG,aG]
   by_cases hk:k < as.length
   ·have e1:=aj (l:=as) hk
    have e2:=aj (l:=bs) (show k < bs.length by omega)
    have:=ih k _ _ e1 e2
    rw[e1,e2]
    show some (ls.getD _ 0)=some (ls.getD _ 0)
    rw[bc,bc,this]
   ·rw[eU (by omega),eU (by omega)]
  show TM.of x _=TM.of x _
  rw[e]
theorem Ws (n:Nat):nE (bN n):=fun k v h=>by
 have hk:k < (bN n).length:=(ai.mp h).1
 rw[cR]at hk
 rw[iP hk]at h
 cases h
 exact⟨au _,iP hk⟩
theorem RE (ts:List (TM S)) (es:List (Nat × Nat)) (n:Nat):Sound ts es (bN n):=fun k v h=>by
 have hk:k < (bN n).length:=(ai.mp h).1
 rw[cR]at hk
 rw[iP hk]at h
 cases h
 exact .refl _
end
end Sw
namespace L2
open PySem PySem.Spec PyProof.Rows
section
variable {X:Cx}
inductive xp (xs:List V) (H:Hp) (Q:VK):Prop
 | mk:∀ (j:Int),(xs = [.int j])->(∀ p,H p=none->Q (.ref p) (upd H p (.zo 0 j)))->xp xs H Q
theorem JH:nG X (.type "range") (fun xs H Q=>xp xs H Q):=by
 intro ah s σ H xs us Q I r h
 obtain⟨j,rfl,q⟩:=h
 obtain⟨u,rfl,ru⟩:=vals1 r
 obtain⟨t,rfl⟩:=ru
 exact call_range_1 ⟨.ref s.heap.objs.size,_,I.laid (a:=s.heap.objs.size) (o := .zo 0 j) (fun _ _ q=>az _ q) (au _) ⟨_,_,_,aR _ rfl⟩,O,q _ (I.bh.fresh (au _))⟩
inductive wg (xs:List V) (H:Hp) (Q:VK):Prop
 | mk:∀ (p:Addr) (n:Nat),(xs = [.ref p])->(H p=some (.zo 0 (n:Int)))->(n<=1000000)->(∀ l,H l=none->Q (.ref l) (upd H l (.lst ((bN n).map fun i:Nat=>V.int (i:Int)))))->wg xs H Q
theorem Gu (hc:X.calm=true):nG X (.type "list") (fun xs H Q=>wg xs H Q):=by
 intro ah s σ H xs us Q I r h
 obtain⟨p,n,rfl,hp,hn,q⟩:=h
 obtain⟨u,rfl,ru⟩:=vals1 r
 cases (show u=aQ p from ru)
 obtain⟨t,t',t'',e⟩:=(show dy X.prog X.w H s.heap p (.zo 0 (n:Int)) from I.bh p _ hp)
 have hz:vC 0 (n:Int) 1=n:=by rw[rangeSize_one];split <;> omega
 refine call_list_range (I.ok.hd hc) e (small_one (by omega) (by omega) (by omega) (by omega)) hz (by omega) fun h' tk agy c' kp hS S4 =>?_
 refine⟨.ref s.heap.objs.size,_,I.laid kp (au _) (show dy X.prog X.w _ h' _ (.lst ((bN n).map fun i:Nat=>V.int (i:Int))) from ⟨?_,agy.toList,c',?_,by simpa using hS⟩),O,q _ (I.bh.fresh (au _))⟩
 ·rw[ar,cR]
  exact bq hn (by decide)
 ·refine Oh (by rw[ar,cR,dB];exact S4.1.symm) fun j x v hx hv =>?_
  obtain⟨t2,nH⟩:=S4.2 j v (by rw[<- fV];exact hv)
  rw[aG]at hx
  have hj:j < n:=by
   have:=(ai.mp hv).1
   rw[dB,S4.1]at this
   exact this
  rw[iP hj]at hx
  have ex:V.int ((j:Nat):Int)=x:=aH hx
  rw[<- ex,nH]
  exact⟨t2,by congr 1;omega⟩
where
 Oh:∀ {xs:List V}{us:List Value},xs.length=us.length->(∀ (j:Nat) x u,xs[j]? = some x->us[j]? = some u->RelV x u)->Vals xs us
 | [], [],_,_ => .nil
 | [],_ :: _,h,_=>by cases h
 | _ :: _, [],h,_=>by cases h
 | x :: xs,u :: us,h,f => .cons (f 0 x u rfl rfl) (Oh (by simpa using h) fun j a b ha hb=>f (j+1) a b (by simpa using ha) (by simpa using hb))
end
theorem mn {k:Nat}{A:Around} (hr:eZ k A):A.units+10 < cLine:=by have:=hr.un;omega
theorem Gy {k:Nat}{A:Around} (hr:eZ k A):A.units+151 < cLine:=by have:=hr.un;omega
theorem Kw {lo:Int}{n:Nat}{ct:TT}{te:TE}{σ : St}{caps:List (Str × Nat)}{H:Hp}{Q:VK} (f:Int->Option V) (hn:n<=1000)
  (A8:∀ (i:Nat),i < n->∀ H',bu H H'->∀ (R:Bool->Hp->Prop),(R (f (lo+i)).isSome H')->ct (some (.int (lo+i)) :: jV σ caps) H' R)
  (hev:∀ (i:Nat) v,i < n->f (lo+i)=some v->∀ H',bu H H'->∀ Q':VK,Q' v H'->te (some (.int (lo+i)) :: jV σ caps) H' Q')
  (hq:∀ D,H D=none->Q (.ref D) (upd H D (.lst ((bN n).filterMap fun i:Nat=>f (lo+i))))) :
  Gi (Gh lo n) (bw 0) ct te (bY 1 none ++ jV σ caps) H Q:=by
 intro D hD
 refine⟨fun i m τ zs H'=>m=n - i∧i<=n∧(∃ o, τ = o :: jV σ caps)∧zs=(bN i).filterMap (fun i:Nat=>f (lo+i))∧H'=upd H D (.lst zs),⟨n,by simp,bA _,⟨none,O⟩,by simp,O⟩,?_⟩
 rintro i m τ zs H' ⟨rfl,hi,⟨o,rfl⟩,rfl,rfl⟩
 refine⟨aE,?_⟩
 have sm:∀ zs,bu H (upd H D (.lst zs)):=fun zs=>bf hD _
 by_cases cU:i < n
 ·refine .inr ⟨cU,?_,fun x iY y =>?_⟩
  ·refine c6 (bq (List.length_filterMap_le _ _) ?_)
   rw[cR];omega
  obtain⟨e,e2⟩:=y
  subst e e2
  show ct (some (.int (lo+(i:Int))) :: jV σ caps) _ _
  refine A8 i cU _ (sm _) _ ?_
  have step:(bN (i+1)).filterMap (fun i:Nat=>f (lo+i))=(bN i).filterMap (fun i:Nat=>f (lo+i)) ++ (match f (lo+i) with | some v => [v] | none => []):=by
   rw[kf,List.filterMap_append]
   congr 1
   rw[jS,List.filterMap_nil]
   cases f (lo+(i:Int)) <;> rfl
  cases e:f (lo+(i:Int)) with
  | none =>
   rw[e]at step
   refine⟨n - (i+1),by omega,O,cU,⟨_,O⟩,?_,O⟩
   rw[step,da]
  | some v =>
   rw[e]at step
   refine hev i v cU e _ (sm _) _ ?_
   refine⟨aE,n - (i+1),by omega,O,cU,⟨_,O⟩,step.symm,?_⟩
   rw[DX]
 ·have e:i=n:=by omega
  subst e
  exact .inl ⟨au _,hq D hD⟩
end L2
namespace Sw
open PySem L2
abbrev Tm:=TM Str
abbrev nV (n:Nat):V:=V.int (n:Int)
abbrev aa (a:Addr):Option V:=some (.ref a)
abbrev aU (a:Nat):Option V:=some (nV a)
def mr (H:Hp):Tm->V->Prop
 | .num n,v=>∃ a,v = .ref a∧H a=some (.tup [.str "num",.int n])
 | .name x,v=>∃ a,v = .ref a∧H a=some (.tup [.str "name",.str x])
 | .of x as,v=>∃ a b,v = .ref a∧H a=some (.tup [.str "of",.str x,.ref b])∧H b=some (.tup (as.map nV))
theorem mr.keep {H H':Hp} (ht:∀ b ys,H b=some (.tup ys)->H' b=some (.tup ys)):∀ {t:Tm}{v:V},mr H t v->mr H' t v
 | .num n,v,h=>by obtain⟨a,e,h⟩:=h;exact⟨a,e,ht _ _ h⟩
 | .name x,v,h=>by obtain⟨a,e,h⟩:=h;exact⟨a,e,ht _ _ h⟩
 | .of x as,v,h=>by obtain⟨a,b,e,h,h2⟩:=h;exact⟨a,b,e,ht _ _ h,ht _ _ h2⟩
theorem mr.same {H H':Hp}{t:Tm}{v:V} (sm:bu H H') (h:mr H t v):mr H' t v:=h.keep fun b ys=>sm _ _
abbrev kJ (H:Hp):List V->List Tm->Prop:=Paired fun v t=>mr H t v
theorem ow {H H':Hp}{us:List V}{ts:List Tm} (ht:∀ b ys,H b=some (.tup ys)->H' b=some (.tup ys)) (h:kJ H us ts):kJ H' us ts:=Paired.uI h fun _ _ z=>z.keep ht
theorem fh {H H':Hp}{us:List V}{ts:List Tm} (sm:bu H H') (h:kJ H us ts):kJ H' us ts:=ow (fun b ys=>sm _ _) h
theorem wM {H:Hp}:∀ {us:List V}{ts:List Tm}{i:Nat}{v:V},kJ H us ts->us[i]? = some v->∃ t,ts[i]? = some t∧mr H t v
 | _,_,_,_,.nil,e=>by simp at e
 | _,_,0,_,.cons h _,e=>by simp at e;subst e;exact⟨_,O,h⟩
 | _,_,i+1,v,.cons _ r,e=>by
  obtain⟨t,e',h⟩:=wM (i:=i) (v:=v) r (by simpa using e)
  exact⟨t,by simpa using e',h⟩
theorem Ru {H:Hp}{us:List V}{ts:List Tm}{v:V}{t:Tm} (h:kJ H us ts) (q:mr H t v):kJ H (us ++ [v]) (ts ++ [t]):=rm h q
def i5:Tm->NK
 | .num n => [.inl (.inr "num"),.inl (.inl n)]
 | .name x => [.inl (.inr "name"),.inl (.inr x)]
 | .of x as => [.inl (.inr "of"),.inl (.inr x),.inr (as.map fun n:Nat=>(.inl (n:Int):Key))]
theorem GU:∀ {t u:Tm},i5 t=i5 u->t=u
 | .num n,.num m,e=>by unfold i5 at e;simp at e;rw[e]
 | .name x,.name y,e=>by unfold i5 at e;simp at e;rw[e]
 | .of x as,.of y bs,e=>by
  unfold i5 at e
  simp only[wd,yN,yM,and_true,true_and]at e
  rw[e.1]
  have:=tS (f:=fun n:Nat=>(.inl (n:Int):Key)) (fun a b h=>by have h:=gG h;omega) e.2
  rw[this]
 | .num n,.name y,e=>by
  unfold i5 at e
  simp only[wd,yN,yM]at e
  exact absurd e.1 (by decide)
 | .name n,.num y,e=>by
  unfold i5 at e
  simp only[wd,yN,yM]at e
  exact absurd e.1 (by decide)
 | .num n,.of y bs,e=>by unfold i5 at e;simp at e
 | .name n,.of y bs,e=>by unfold i5 at e;simp at e
 | .of y bs,.num n,e=>by unfold i5 at e;simp at e
 | .of y bs,.name n,e=>by unfold i5 at e;simp at e
theorem abQ (as:List Nat):as.map nV=(as.map fun n:Nat=>(.inl (n:Int):Key)).map kV:=by
 rw[gH];rfl
theorem mr.key {H:Hp}:∀ {t:Tm}{v:V},mr H t v->∃ b,v = .ref b∧fA H (i5 t) b
 | .num n,v,h=>by
  obtain⟨a,e,h⟩:=h
  refine⟨a,e,_,h,?_⟩
  exact⟨_,O,_,O,O⟩
 | .name x,v,h=>by
  obtain⟨a,e,h⟩:=h
  refine⟨a,e,_,h,?_⟩
  exact⟨_,O,_,O,O⟩
 | .of x as,v,h=>by
  obtain⟨a,b,e,h,h2⟩:=h
  refine⟨a,e,_,h,?_⟩
  rw[abQ]at h2
  exact⟨_,O,_,O,b,_,O,h2,O⟩
def yx:Tm->D
 | .num n => .tup [.str "num",.int n]
 | .name x => .tup [.str "name",.str x]
 | .of x as => .tup [.str "of",.str x,.tup (as.map fun n:Nat => .int (n:Int))]
theorem FV {H:Hp}:∀ as:List Nat,nU H (as.map fun n:Nat=>D.int (n:Int)) (as.map nV)
 | []=>by rw[fB,fB];exact uX
 | a :: as=>by rw[aS,aS];exact j7 (by rw[Den];exact .inl rfl) (FV as)
theorem mr.den {H:Hp}:∀ {t:Tm}{v:V},mr H t v->Den H (yx t) v
 | .num n,v,h=>by
  obtain⟨a,e,h⟩:=h
  rw[yx,Den]
  exact⟨a,_,e,h,j7 (by rw[Den]) (j7 (by rw[Den];exact .inl rfl) uX)⟩
 | .name x,v,h=>by
  obtain⟨a,e,h⟩:=h
  rw[yx,Den]
  exact⟨a,_,e,h,j7 (by rw[Den]) (j7 (by rw[Den]) uX)⟩
 | .of x as,v,h=>by
  obtain⟨a,b,e,h,h2⟩:=h
  rw[yx,Den]
  exact⟨a,_,e,h,j7 (by rw[Den]) (j7 (by rw[Den]) (j7 (by rw[Den];exact⟨b,_,O,h2,FV as⟩) uX))⟩
theorem Vv {H:Hp}{us:List V}{ts:List Tm} (h:kJ H us ts):nU H (ts.map yx) us:=by
 induction h with
 | nil=>exact uX
 | cons h _ ih=>rw[aS];exact j7 h.den ih
theorem Fw:∀ as:List Nat,D.dW (as.map fun n:Nat=>D.int (n:Int))=0
 | []=>by rw[fB,D.dW]
 | a :: as=>by rw[aS,D.dW,Fw as,D.deep];rfl
theorem Vw:∀ t:Tm,(yx t).deep<=2
 | .num n=>by rw[yx,D.deep,D.dW,D.dW,D.dW,D.deep,D.deep];decide
 | .name n=>by rw[yx,D.deep,D.dW,D.dW,D.dW,D.deep,D.deep];decide
 | .of x as=>by rw[yx,D.deep,D.dW,D.dW,D.dW,D.dW,D.deep,D.deep,D.deep,Fw];decide
theorem GS:∀ ts:List Tm,D.dW (ts.map yx)<=2
 | []=>by rw[fB,D.dW];omega
 | t :: ts=>by rw[aS,D.dW];have:=GS ts;have:=Vw t;omega
def dD (L:Addr) (H H':Hp):Prop := ∀ c o,c≠L->H c=some o->H' c=some o
theorem dD.refl (L:Addr) (H:Hp):dD L H H:=fun _ _ _ h=>h
theorem dD.trans {L:Addr}{H H1 H2:Hp} (a:dD L H H1) (b:dD L H1 H2):dD L H H2:=fun c o n h=>b c o n (a c o n h)
theorem dD.same {L:Addr}{H H1 H2:Hp} (a:dD L H H1) (b:bu H1 H2):dD L H H2:=fun c o n h=>b c o (a c o n h)
theorem dD.put {L:Addr}{H H1:Hp}{o:HO} (a:dD L H H1):dD L H (upd H1 L o):=fun c u n h=>by rw[aF n];exact a c u n h
theorem dD.new {L p:Addr}{H H1:Hp}{o:HO} (a:dD L H H1) (hp:H p=none):dD L H (upd H1 p o):=fun c u n h=>by rw[aF (bX h hp)];exact a c u n h
theorem dD.tup {L:Addr}{H H1:Hp}{ls:List V} (a:dD L H H1) (hL:H L=some (.lst ls)):∀ b ys,H b=some (.tup ys)->H1 b=some (.tup ys):=fun b ys h=>a b _ (a9 h hL nofun) h
def Rl (H:Hp) (v:V) (e:Nat × Nat):Prop := ∃ a rest,v = .ref a∧H a=some (.tup (nV e.1 :: nV e.2 :: rest))
abbrev N3 (H:Hp):List V->List (Nat × Nat)->Prop:=Paired (Rl H)
theorem Jw {H:Hp}:∀ {us:List V}{ts:List (Nat × Nat)}{i:Nat}{v:V},N3 H us ts->us[i]? = some v->∃ t,ts[i]? = some t∧Rl H v t
 | _,_,_,_,.nil,e=>by simp at e
 | _,_,0,_,.cons h _,e=>by simp at e;subst e;exact⟨_,O,h⟩
 | _,_,i+1,v,.cons _ r,e=>by
  obtain⟨t,e',h⟩:=Jw (i:=i) (v:=v) r (by simpa using e)
  exact⟨t,by simpa using e',h⟩
theorem gX {t rest:TS}{D:Ends}{σ : St}{H:Hp} (R:St->Hp->Prop) (key:∀ br H',R br H'->rest D br H') (h:∀ {N:St->Hp->Prop},(∀ br H',R br H'->N br H')->t { D with nx:=N } σ H):W5 t rest D σ H:=h key
theorem jP {ls:List Nat}{k v:Nat} (h:ls[k]? = some v):tI (ls.map nV) (k:Int)=some (nV v):=aL (by rw[aG,h];rfl)
theorem Yl {ls:List Nat}{k v:Nat}:(ls.map nV).set k (nV v)=(ls.set k v).map nV:=by rw[List.map_set]
def abc:Str := "abcdefghijklmnopqrstuvwxyz"
def Ih (i:Int):Str:=⟨#[abc.cps.toList.getD (i % 26).toNat 97]⟩
theorem WK (i:Int):tI abc.cps.toList (i % 26)=some (abc.cps.toList.getD (i % 26).toNat 97):=by
 have h0:0<=i % 26:=mK _ (by decide)
 have h1:i % 26 < 26:=su _ (by decide)
 have hl:abc.cps.toList.length=26:=by decide +kernel
 have hi:(i % 26).toNat < abc.cps.toList.length:=by omega
 have z:tI abc.cps.toList (((i % 26).toNat:Nat):Int)=some abc.cps.toList[(i % 26).toNat]:=aL (aj hi)
 have e:(((i % 26).toNat:Nat):Int)=i % 26:=by omega
 rw[e]at z
 rw[z,bc,aj hi]
 rfl
theorem gj {α β : Type}{R : α -> β -> Prop}:∀ {xs KD:List α} {ys ys':List β},Paired R xs ys->Paired R KD ys'->Paired R (xs ++ KD) (ys ++ ys')
 | _,_,_,_,.nil,h=>h
 | _,_,_,_,.cons h r,q => .cons h (gj r q)
end Sw
namespace L2
open PySem PySem.Spec PyProof.Rows
section
variable {prog:Program}{w:World}{K:Type} [DecidableEq K] {knd:HeapKind prog w K}{A:Around}{E:Value->Shared->Prop}{s:Shared}{d:Addr}{xs:List (K × Addr × Value)}
theorem CK (hd:(d == sysModules)=false) :
  MeetsIn prog w (Builtin.«dict.__len__» ⟨[.ref d], []⟩) (fun _ R s=>∃ xs,s.heap.DictOfH knd d xs∧R (.ok (.ret (.int xs.length s.toks))) { s with toks:=s.toks+1 }) :=
 .of_wp fun A R s ⟨xs,hm,h⟩=>by
  obtain⟨o,es,ep,ho,hc,af4,he,hk,hn⟩:=hm
  show wpAny _ _ (dictSize d >>= _) _ _ s
  unfold dictSize
  refine wpAny_bind (wpAny_bind (wpAny_dictEntries ho af4 (wpAny_pure ?_)))
  show wpAny _ _ (Builtin.Dict.pendingCount d >>= _) _ _ s
  refine wpAny_bind (wpAny_pendingCount_other hd ?_)
  refine wpAny_ret_mkInt ?_
  rw[pY,size_of_entries he];exact h
theorem Pm {Q:Value->Shared->Prop} (hd:(d == sysModules)=false) (hm:s.heap.DictOfH knd d xs) (NF:(xs.length:Int) < 2 ^ 63)
  (h:Q (.int xs.length (s.toks+1)) { s with toks:=s.toks+1+1 }):wpAny (model prog w) A (Builtin.«len» ⟨[.ref d], []⟩) (fun fin s'=>∃ r,fin = .done (.ret r)∧Q r s') E s:=by
 unfold Builtin.«len»
 refine wpAny_bind (m:=oneArg "len" _) (wpAny_pure ?_)
 refine wpAny_bind (m:=callSpecial? (.ref d) (eS "__len__")) (wpAny_callSpecial?_slot (name:=eS "__len__") hm.typeIs F.slot_dict_len
  (call_meetsIn F.slot_dict_len hm.typeIs F.entry_dict_len (F.args_dict_len_1 _) (CK (knd:=knd) hd) ⟨xs,hm,?_⟩))
 show wpAny _ _ _ _ _ { s with toks:=s.toks+1 }
 refine wpAny_bind (wpAny_holding (wpAny_pure ?_))
 refine wpAny_bind (wpAny_letGo ?_)
 show wpAny _ _ (if ((xs.length:Nat):Int) < 0 then _ else _) _ _ _
 rw[if_neg (by omega)]
 show wpAny _ _ (if ((xs.length:Nat):Int) ≥ 2 ^ 63 then _ else _) _ _ _
 rw[if_neg (by omega)]
 exact wpAny_bind (wpAny_mkInt (wpAny_pure ⟨_,O,h⟩))
theorem QH {Q:Value->Shared->Prop} (hd:(d == sysModules)=false) (hm:s.heap.DictOfH knd d xs) (NF:(xs.length:Int) < 2 ^ 63)
  (h:Q (.int xs.length (s.toks+1)) { s with toks:=s.toks+1+1 }):wpAny (model prog w) A (call (.builtin "len") [.ref d]) Q E s :=
 Calls.call_function_entry kind_len plain_len entry_len (args_len1 _) (Pm hd hm NF h)
end
section
variable {X:Cx}{ah:List (Addr × Obj)}{σ : St}{H:Hp}{s:Shared}{a b:Addr}{kvs Nn:List (NK × V)}{k:NK}{y v:V}{u r:Value}{A:Around}{E:Value->Shared->Prop}
theorem KN.Ht {xs:List (NK × Addr × Value)} (r:KN H kvs xs) (k:NK) {y:V}{u:Value} (ry:RelV y u) :
  KN H (kvs.map fun kv=>if kv.1=k then (kv.1,y) else kv) (xs.map (putAt k u)):=by
 induction r with
 | nil=>exact .nil
 | @cons p q ps qs h t ih =>
  rw[aS,aS]
  refine .cons ?_ ih
  obtain⟨h1,h2,h3⟩:=h
  unfold putAt
  by_cases e:p.1=k
  ·rw[if_pos e,if_pos (h1.symm.trans e)];exact⟨h1,h2,ry⟩
  ·rw[if_neg e,if_neg (fun z=>e (h1.trans z))];exact⟨h1,h2,h3⟩
theorem KN.put {xs:List (NK × Addr × Value)} (r:KN H kvs xs) (k:NK) {b:Addr}{y:V}{u:Value} (hb:fA H k b) (ry:RelV y u) :
  KN H (eP kvs k y) (storedH xs k b u):=by
 have e:(kvs.any fun kv=>decide (kv.1=k))=(atKey xs k).isSome:=by
  rw[lH,(r.val k).oU,kM]
 unfold eP storedH
 rw[e]
 by_cases q:(atKey xs k).isSome=true
 ·rw[if_pos q,if_pos q];exact r.Ht k ry
 ·rw[if_neg q,if_neg q];exact rm r ⟨O,hb,ry⟩
theorem Dk {Q:Value->Shared->Prop} (hu:A.units+10 < cLine) (I:Inv X ah σ H s) (d:DN X.prog X.w H a kvs) (nk:fA H k b) (l:bR kvs k=some v) (h:∀ w' s',Inv X ah σ H s'->RelV v w'->Q w' s') :
  wpAny (model X.prog X.w) A (getItem (.ref a) (.ref b)) Q E s:=by
 obtain⟨z,hd,xs,c7,dd⟩:=tW I.bh d
 obtain⟨w',hw,kW⟩:=jW.some_of (v:=v) (o:=(atKey xs k).map (·.2)) (by rw[<- l];exact c7.val k)
 obtain⟨p,hp,oX⟩:=ck.mp hw
 refine wpAny_getItem_heap (show A.units+1+5 < cLine by omega) (oS I.bh nk) dd hp ?_
 rw[oX]
 exact h w' _ (I.tok _) kW
theorem acg {Q:Value->Shared->Prop} (hu:A.units+10 < cLine) (I:Inv X ah σ H s) (d:DN X.prog X.w H a kvs) (nk:fA H k b) (h:∀ s',Inv X ah σ H s'->Q (.bool (bR kvs k).isSome) s') :
  wpAny (model X.prog X.w) A (compareOp .In (.ref b) (.ref a)) Q E s:=by
 obtain⟨z,hd,xs,c7,dd⟩:=tW I.bh d
 refine wpAny_in_heap (show A.units+1+5 < cLine by omega) (oS I.bh nk) hd dd ?_
 have q:=(c7.val k).oU
 rw[kM]at q
 rw[<- q]
 exact h _ (I.tok _)
theorem Tc {Q:Value->Shared->Prop} (hu:A.units+10 < cLine) (I:Inv X ah σ H s) (d:DN X.prog X.w H a kvs) (nk:fA H k b) (h:∀ s',Inv X ah σ H s'->Q (.bool (!(bR kvs k).isSome)) s') :
  wpAny (model X.prog X.w) A (compareOp .NotIn (.ref b) (.ref a)) Q E s:=by
 obtain⟨z,hd,xs,c7,dd⟩:=tW I.bh d
 refine wpAny_notIn_heap (show A.units+1+5 < cLine by omega) (oS I.bh nk) hd dd ?_
 have q:=(c7.val k).oU
 rw[kM]at q
 rw[<- q]
 exact h _ (I.tok _)
theorem Dj {Q:Unit->Shared->Prop} (hu:A.units+10 < cLine) (I:Inv X ah σ H s) (d:DN X.prog X.w H a kvs) (nk:fA H k b) (rv:RelV v r) (hl:kvs.length < sizeLine)
  (h:∀ φ s',Inv X ah σ (upd H a (.ext φ)) s'->DN X.prog X.w (upd H a (.ext φ)) a (eP kvs k v)->Q () s') :
  wpAny (model X.prog X.w) A (setItem (.ref a) (.ref b) r) Q E s:=by
 obtain⟨z,hd,xs,c7,dd⟩:=tW I.bh d
 have hz:xs.length<=sizeLine:=by rw[<- aP c7];exact z
 have UB:(eP kvs k v).length<=sizeLine:=by have:=wz kvs k v;omega
 refine wpAny_setItem_heap (hsz:=hz) (show A.units+1+5 < cLine by omega) (oS I.bh nk) dd fun h' zT hs =>?_
 obtain⟨φ,I',d'⟩:=Jx (t':=s.toks+(kZ X.prog X.w).draws k) I d hs zT (c7.put k nk rv) UB
 exact h φ _ I' d'
theorem Wx {Q:Value->Shared->Prop} (hu:A.units+10 < cLine) (I:Inv X ah σ H s) (d:DN X.prog X.w H a kvs) (nk:fA H k b) (h:∀ w' s',Inv X ah σ H s'->RelV ((bR kvs k).getD .cJ) w'->Q w' s') :
  wpAny (model X.prog X.w) A (call (.builtin "dict.get") [.ref a,.ref b]) Q E s:=by
 obtain⟨z,hd,xs,c7,dd⟩:=tW I.bh d
 exact call_meetsIn lA dd.typeIs wG (PySem.F.args_dict_get_2 _ _) (meetsH_dict_get (kZ X.prog X.w) a b hd) ⟨(show A.units+1+5 < cLine by omega),k,xs,oS I.bh nk,dd,h _ _ (I.tok _) ((c7.val k).getD rfl)⟩
theorem aaA {Q:Value->Shared->Prop} (I:Inv X ah σ H s) (d:DN X.prog X.w H a kvs) (h:∀ t s',Inv X ah σ H s'->Q (.int kvs.length t) s'):wpAny (model X.prog X.w) A (call (.builtin "len") [.ref a]) Q E s:=by
 obtain⟨z,hd,xs,c7,dd⟩:=tW I.bh d
 have e:=aP c7
 refine QH hd dd (by rw[<- e];rw[sizeLine_eq]at z;omega) ?_
 rw[<- e]
 exact h _ _ (I.tok _)
end
inductive Ms (P:Program) (w:World) (Q:VK) (x:V) (y:V) (H2:Hp):Prop
 | mk:∀ a b kvs k v,(x = .ref a)->(y = .ref b)->(DN P w H2 a kvs)->(fA H2 k b)->(bR kvs k=some v)->(Q v H2)->Ms P w Q x y H2
def abx (P:Program) (w:World) (td ty:TE):TE:=fun σ H Q=>td σ H fun x H1=>ty σ H1 fun y H2=>Ms P w Q x y H2
inductive Q1 (P:Program) (w:World) (Q:VK) (y:V) (x:V) (H2:Hp):Prop
 | mk:∀ a b kvs k,(x = .ref a)->(y = .ref b)->(DN P w H2 a kvs)->(fA H2 k b)->(Q (.bl (bR kvs k).isSome) H2)->Q1 P w Q y x H2
def aeX (P:Program) (w:World) (ty td:TE):TE:=fun σ H Q=>ty σ H fun y H1=>td σ H1 fun x H2=>Q1 P w Q y x H2
inductive Gd (P:Program) (w:World) (Q:VK) (y:V) (x:V) (H2:Hp):Prop
 | mk:∀ a b kvs k,(x = .ref a)->(y = .ref b)->(DN P w H2 a kvs)->(fA H2 k b)->(Q (.bl (!(bR kvs k).isSome)) H2)->Gd P w Q y x H2
def Vy (P:Program) (w:World) (ty td:TE):TE:=fun σ H Q=>ty σ H fun y H1=>td σ H1 fun x H2=>Gd P w Q y x H2
inductive Mv (P:Program) (w:World) (D:Ends) (σ : St) (v:V) (x:V) (y:V) (H3:Hp):Prop
 | mk:∀ a b kvs k,(x = .ref a)->(y = .ref b)->(DN P w H3 a kvs)->(fA H3 k b)->(kvs.length < sizeLine)->(∀ φ,DN P w (upd H3 a (.ext φ)) a (eP kvs k v)->D.nx σ (upd H3 a (.ext φ)))->Mv P w D σ v x y H3
def abG (P:Program) (w:World) (td ty tv:TE):TS:=fun D σ H=>tv σ H fun v H1=>td σ H1 fun x H2=>ty σ H2 fun y H3=>Mv P w D σ v x y H3
inductive JW (P:Program) (w:World) (ty:TE) (σ : St) (Q:VK) (x:V) (H1:Hp):Prop
 | mk:∀ a,(x = .ref a)->((∃ kvs,DN P w H1 a kvs))->(ty σ H1 fun y H2=>∃ b kvs k,y = .ref b∧DN P w H2 a kvs∧fA H2 k b∧Q ((bR kvs k).getD .cJ) H2)->JW P w ty σ Q x H1
def W8 (P:Program) (w:World) (td ty:TE):TE:=fun σ H Q=>td σ H fun x H1=>JW P w ty σ Q x H1
section
variable {X:Cx}{o i e f value:Expr}{pos oy dv de:Pos}{td ty tv:TE}
theorem FQ {ah:List (Addr × Obj)}{σ : St}{H:Hp}{s:Shared}{a:Addr}{kvs:List (NK × V)} (I:Inv X ah σ H s) (d:DN X.prog X.w H a kvs):s.TypeIs (.ref a) "dict" := (zF I ⟨kvs,d⟩).1
theorem Eo (hu:X.A.units+10 < cLine) (ho:PE X o td) (hi:PE X i ty) (hs:NZ i):PE X (.Subscript o i pos) (abx X.prog X.w td ty):=by
 intro ah s σ H Q I h
 refine uc mF.lookup hs (bF (ho ah s σ H _ I h) fun u s1 ⟨x,H1,I1,rx,q1⟩=>bF (hi ah s1 σ H1 _ I1 q1) fun iv s2 ⟨y,H2,I2,ry,a,b,kvs,k,v,ex,ey,d,nk,l,q2⟩ =>?_)
 subst ex ey
 obtain rfl:u=aQ a:=rx
 obtain rfl:iv=aQ b:=ry
 exact⟨FQ I2 d,Dk hu I2 d nk l fun w' s3 I3 kW=>⟨v,H2,I3,kW,q2⟩⟩
theorem X6 (hu:X.A.units+10 < cLine) (hi:PE X i ty) (ho:PE X o td):PC X .In i o (aeX X.prog X.w ty td):=by
 intro ah s σ H Q I h
 refine bF (hi ah s σ H _ I h) fun iv s1 ⟨y,H1,I1,ry,q1⟩=>bF (ho ah s1 σ H1 _ I1 q1) fun u s2 ⟨x,H2,I2,rx,a,b,kvs,k,ex,ey,d,nk,q2⟩ =>?_
 subst ex ey
 obtain rfl:u=aQ a:=rx
 obtain rfl:iv=aQ b:=ry
 exact acg hu I2 d nk fun s3 I3=>⟨.bl (bR kvs k).isSome,H2,I3,O,q2⟩
theorem Fl (hu:X.A.units+10 < cLine) (hi:PE X i ty) (ho:PE X o td):PC X .NotIn i o (Vy X.prog X.w ty td):=by
 intro ah s σ H Q I h
 refine bF (hi ah s σ H _ I h) fun iv s1 ⟨y,H1,I1,ry,q1⟩=>bF (ho ah s1 σ H1 _ I1 q1) fun u s2 ⟨x,H2,I2,rx,a,b,kvs,k,ex,ey,d,nk,q2⟩ =>?_
 subst ex ey
 obtain rfl:u=aQ a:=rx
 obtain rfl:iv=aQ b:=ry
 exact Tc hu I2 d nk fun s3 I3=>⟨.bl (!(bR kvs k).isSome),H2,I3,O,q2⟩
theorem wR (hu:X.A.units+10 < cLine) (ho:PE X o td) (hi:PE X i ty) (hv:PE X value tv) (hs:swapsWith value (some (.Subscript o i oy)) pos.line X.env=pure false) :
  PS X (.Assign [.Subscript o i oy] value pos) (abG X.prog X.w td ty tv):=by
 intro ah s σ H D I h
 refine wpAny_Assign_Subscript (bF (hv ah s σ H _ I h) fun r s1 ⟨v,H1,I1,rv,q1⟩=>bF (ho ah s1 σ H1 _ I1 q1) fun u s2 ⟨x,H2,I2,rx,q2⟩=>bF (hi ah s2 σ H2 _ I2 q2) fun iv s3 ⟨y,H3,I3,ry,a,b,kvs,k,ex,ey,d,nk,hl,q3⟩ =>?_) hs
 subst ex ey
 obtain rfl:u=aQ a:=rx
 obtain rfl:iv=aQ b:=ry
 exact Dj hu I3 d nk rv hl fun φ s4 I4 d4=>⟨σ,_,I4,q3 φ d4⟩
theorem R1 (hu:X.A.units+10 < cLine) (ho:PE X o td) (he:PE X e ty) (m:M1 X o "get" dv e de):PE X (.Call (.Attribute o "get" dv) [e] [] de) (W8 X.prog X.w td ty):=by
 intro ah s σ H Q I h
 refine wpAny_Call_method m.base m.dR m.line gw lA xi (bF (ho ah s σ H _ I h) fun u s1 ⟨x,H1,I1,rx,a,ex,d,q1⟩ =>?_)
 subst ex
 obtain rfl:u=aQ a:=rx
 obtain⟨t1,t2,_⟩:=zF I1 d
 refine⟨t1,t2,?_⟩
 rw[m.trees]
 refine eG rfl (iw (gh (bF (he ah s1 σ H1 _ I1 q1) fun iv s2 ⟨y,H2,I2,ry,b,kvs,k,ey,d2,nk,q2⟩=>jr ?_)))
 subst ey
 obtain rfl:iv=aQ b:=ry
 exact Wx hu I2 d2 nk fun w' s3 I3 kW=>⟨_,H2,I3,kW,q2⟩
inductive Bm (kP:Program) (kw:World) (xs:List V) (H:Hp) (Q:VK):Prop
 | mk:∀ p kvs,(xs = [.ref p])->(DN kP kw H p kvs)->(Q (.int kvs.length) H)->Bm kP kw xs H Q
theorem QG:nG X (.builtin "len") (fun xs H Q=>Bm X.prog X.w xs H Q):=by
 intro ah s σ H xs us Q I r h
 obtain⟨p,kvs,rfl,d,q⟩:=h
 obtain⟨u,rfl,ru⟩:=vals1 r
 cases ru
 exact aaA I d fun t s' I'=>⟨.int kvs.length,H,I',⟨t,O⟩,q⟩
end
theorem KG:∀ {bs:List Bool}{us:List Value},Vals (bs.map V.bl) us->us=bs.map eJ
 | [],_,r=>by cases r;rfl
 | b :: bs,_,r=>by
  rw[aS]at r
  cases r with
  | cons h t=>rw[KG t,aS,show _=eJ b from h]
section
variable {X:Cx}
inductive Bn (kK:ao) (xs:List V) (H:Hp) (Q:VK):Prop
 | mk:∀ (p:Addr) (bs:List Bool),(xs = [.ref p])->(aZ kK H p (bs.map V.bl))->(Q (.bl (bs.all id)) H)->Bn kK xs H Q
theorem vW (hc:X.calm=true):nG X (.builtin "all") (fun xs H Q=>Bn X.K xs H Q):=by
 intro ah s σ H xs us Q I r h
 obtain⟨p,bs,rfl,hq,q⟩:=h
 obtain⟨u,rfl,ru⟩:=vals1 r
 cases ru
 obtain⟨its,rv,pl,hz⟩:=I.list hq
 have e:=KG rv
 subst e
 have cU:p < s.heap.objs.size:=by obtain⟨_,e,_⟩:=pl.isList;exact aV e
 refine call_all_walk (wpAny_pyIter_list pl.isList ?_)
 refine⟨_,_,_,_,_,_,fun i=>bs.getD i false,O,Walks.list (A:=X.A.in1) (I.ok.hd hc) _ p (bH cU) (bs.map eJ).toArray,⟨⟨_,aR _ rfl,O,O⟩,pl.isList.push _⟩,fun i v s' Q' E' hv hQ' =>?_,fun h' tk hk =>?_⟩
 ·have uL:(bs.map eJ)[i]? = some v:=by simpa using hv
  rw[aG]at uL
  cases e:bs[i]? with
  | none=>rw[e]at uL;cases uL
  | some b =>
   rw[e]at uL
   have e1:eJ b=v:=aH uL
   subst e1
   have e2:bs.getD i false=b:=by rw[bc,e];rfl
   have hQ2:Q' b s':=e2 ▸ hQ'
   exact wpAny_truthy_bool hQ2
 ·have ea:(bN (bs.map eJ).toArray.size).all (fun i=>bs.getD i false)=bs.all id:=by
   have hs:(bs.map eJ).toArray.size=bs.length:=by simp
   rw[hs,fQ,iS,iS]
   constructor
   ·intro h b hb
    obtain⟨i,hi⟩:=xn.mp hb
    have hl:=(ai.mp hi).1
    have:=h i (cI.mpr hl)
    rw[bc,hi]at this
    exact this
   ·intro h i hi
    have hl:=cI.mp hi
    have e:=aj hl
    rw[bc,e]
    exact h _ (gg hl)
  rw[ea]
  exact⟨.bl (bs.all id),H,I.kept fun b o e=>old_kept hk b o e,O,q⟩
variable {o:Expr}{dv de:Pos}{td:TE}
end
def Rm (P:Program) (w:World) (a:Addr) (o:Obj) (kvs:List (Key × V)):Prop:=kvs.length<=sizeLine∧(a == sysModules)=false∧∃ (vs:List (Key × Value)) (ep:Nat),KV kvs vs∧∀ h:Heap,h.get? a=some o->h.DictAt (du P w) a vs ep
def Ext (a:Addr) (o:Obj):HO := .ext fun h=>h.get? a=some o
theorem Inv.freeze {X:Cx}{ah:List (Addr × Obj)}{σ : St}{H:Hp}{s:Shared}{a:Addr}{kvs:List (Key × V)} (I:Inv X ah σ H s) (e:H a=some (.dK kvs)):∃ o,Rm X.prog X.w a o kvs∧Inv X ah σ (upd H a (Ext a o)) s:=by
 obtain⟨z,hd,vs,c7,dd⟩:=GJ I.bh e
 obtain⟨o,es,ep,ho,r⟩:=dd
 refine⟨o,⟨z,hd,vs,ep,c7,fun h hh=>⟨o,es,hh,r⟩⟩,?_⟩
 exact uk (h':=s.heap) (t':=s.toks) I (by rw[e];exact fq) (AS _ _) ⟨o,ho⟩ (Jr ho)
theorem mB {P:Program}{w:World}{H:Hp}{h:Heap}{a:Addr}{o:Obj} (ok:gC P w H h) (e:H a=some (Ext a o)):h.get? a=some o:=(show dy P w H h a (.ext fun h=>h.get? a=some o) from ok a _ e).1
def Rj (a:Addr) (o:Obj) (kvs:List (Key × V)):It :=
 ⟨fun i H=>i < kvs.length∧H a=some (Ext a o),fun i H x H'=>H'=H∧∃ kv,kvs[i]? = some kv∧x=kV kv.1,fun i H=>kvs.length<=i∧H a=some (Ext a o)⟩
theorem abX {P:Program}{w:World}{k:Key}{u:Value} (h:(du P w).is k u=true):RelV (kV k) u:=by
 rcases fE (show xR k u=true from h) with⟨i,t,rfl,rfl⟩ | ⟨x,t,rfl,rfl⟩
 ·exact⟨t,O⟩
 ·exact⟨t,O⟩
theorem KV.at {kvs:List (Key × V)}{vs:List (Key × Value)} (r:KV kvs vs) {i:Nat}{k:Key}{u:Value} (e:vs[i]? = some (k,u)):∃ v,kvs[i]? = some (k,v):=by
 have h1:=r.keys
 have h2:(kvs.map (·.1))[i]? = some k:=by rw[h1,aG,e];rfl
 rw[aG]at h2
 cases e3:kvs[i]? with
 | none=>rw[e3]at h2;cases h2
 | some p=>rw[e3]at h2;obtain⟨k',v⟩:=p;have:=aH h2;subst this;exact⟨v,O⟩
theorem Ot {P:Program}{w:World}{K:ao}{tg:Expr} (a it:Addr) {o:Obj}{kvs:List (Key × V)}{vs:List (Key × Value)}{ep:Nat} (c7:KV kvs vs) (hx:∀ h:Heap,h.get? a=some o->h.DictAt (du P w) a vs ep) :
  Turn P w K tg (Rj a o kvs) [it] it (fun i h=>h.IsKeyIter it a i vs.length ep) where
 mem:=by simp
 obj:=fun i h st b hb=>by
  have e:b=it:=by simpa using hb
  subst e
  obtain⟨o,e,c,d⟩:=st
  exact⟨o,e,fun v z=>by rw[d]at z;cases z⟩
 keep:=fun i h h' st k=>st.at fun o e=>k it (by simp) o e
 item:=by
  intro X hP hw hK hc i ah s σ H E I hf st hg
  subst hP hw hK
  obtain⟨hi,ha⟩:=hg
  have hl:=c7.length
  obtain⟨⟨k,u⟩,hv⟩:∃ p,vs[i]? = some p:=⟨vs[i]'(by omega),aj (by omega)⟩
  obtain⟨v,cZ⟩:=c7.at hv
  obtain⟨f0,f1,f2,f3,f4,f5⟩:=hf it (by simp)
  refine wpAny_pyNext_dict_item st (hx _ (mB I.bh ha)) hv fun key h' uO mT sb =>?_
  have I1:Inv X ah σ H { s with heap:=h' }:=I.turned (t':=s.toks) (fun b o hb e=>(sb.2 b hb).trans e) f0 f1 f3 f4 f5
  obtain⟨o,e,c,d⟩:=id mT
  exact⟨key,O,AF (s := { s with heap:=h' }) e c d (by decide) ⟨kV k,H,I1,abX uO,⟨O,(k,v),cZ,O⟩,mT,fun b hb=>(hf b hb).1⟩⟩
 done:=by
   intro X hP hw hK hc i ah s σ H E I hf st hg
   subst hP hw hK
   obtain⟨hi,ha⟩:=hg
   have hl:=c7.length
   obtain⟨f0,f1,f2,f3,f4,f5⟩:=hf it (by simp)
   exact wpAny_pyNext_dict_end (I.ok.hd hc) st (hx _ (mB I.bh ha)) (eU (by omega)) fun h' eb=>⟨O,I.turned (t':=s.toks) (fun b o hb e=>eb b o hb e) f0 f1 f3 f4 f5⟩
 self:=fun _ _ _ _ _ st h=>wpAny_pyIter_keyiter st h
def ab5 (P:Program) (w:World) (tl:TE):TI:=fun σ H R=>tl σ H fun x H1=>∃ a kvs,x = .ref a∧H1 a=some (.dK kvs)∧∀ o,Rm P w a o kvs->R (Rj a o kvs) (upd H1 a (Ext a o))
section
variable {X:Cx}{tg l:Expr}{tl:TE}
theorem VT (hl:PE X l tl):PI X tg l (ab5 X.prog X.w tl):=by
 intro ah s σ H R I h
 refine bF (hl ah s σ H _ I h) fun v s1 ⟨x,H0,I0,r1,q1⟩ =>?_
 obtain⟨a,kvs,e,ea0,q⟩:=q1
 subst e
 cases r1
 obtain⟨o,dx,I1⟩:=I0.freeze ea0
 have q:=q o dx
 have ea:(upd H0 a (Ext a o)) a=some (Ext a o):=aE
 generalize upd H0 a (Ext a o)=H1 at I1 q ea
 obtain⟨z,hd,vs,ep,c7,hx⟩:=dx
 refine wpAny_pyIter_dict hd (hx _ (mB I1.bh ea)) ?_
 refine⟨s1.heap.objs.size, [s1.heap.objs.size],_,_,H1,O,I1.kept (t':=s1.toks) fun b o e=>az _ e,Ot a _ c7 hx,⟨_,aR _ rfl,O,O⟩,fun b hb =>?_,q⟩
 have e:b=s1.heap.objs.size:=by simpa using hb
 subst e
 exact I1.xZ (au _) (I1.bh.fresh (au _))
end
theorem S7 {a:Addr}{o:Obj}{kvs:List (Key × V)}{g:TG}{tb:TS}{D:Ends}{σ : St}{H:Hp} (Pv:Nat->St->Hp->Prop) (h0:Pv 0 σ H) (hl:∀ i σ H,i<=kvs.length->Pv i σ H->H a=some (Ext a o))
  (hs:∀ i (kv:Key × V) σ H,kvs[i]? = some kv->Pv i σ H->g (kV kv.1) σ H fun j0 H2=>tb { D with nx:=Pv (i+1),ct:=Pv (i+1),bk:=D.nx } j0 H2) (hd:∀ σ H,Pv kvs.length σ H->D.nx σ H) :
  ∃ W:Nat->Nat->St->Hp->Prop,(∃ m,W 0 m σ H)∧∀ i m σ H,W i m σ H ->
   ((Rj a o kvs).stop i H∧D.nx σ H)∨((Rj a o kvs).go i H∧∃ N:St->Hp->Prop,(∀ br H',N br H'->∃ m',m' < m∧W (i+1) m' br H')∧∀ x H',(Rj a o kvs).yX i H x H'->g x σ H' fun j0 H2=>tb { D with nx:=N,ct:=N,bk:=D.nx } j0 H2):=by
 refine⟨fun i m σ H=>m=kvs.length - i∧i<=kvs.length∧Pv i σ H,⟨kvs.length,by simp,bA _,h0⟩,?_⟩
 rintro i m σ H ⟨rfl,hi,hp⟩
 by_cases cU:i < kvs.length
 ·refine .inr ⟨⟨cU,hl i σ H hi hp⟩,Pv (i+1),fun br H' h'=>⟨kvs.length - (i+1),by omega,O,cU,h'⟩,?_⟩
  rintro x H' ⟨rfl,kv,cZ,rfl⟩
  exact hs i kv σ _ cZ hp
 ·have e:i=kvs.length:=by omega
  subst e
  exact .inl ⟨⟨au _,hl _ σ H hi hp⟩,hd σ H hp⟩
def abp (P:Program) (w:World) (td ty:TE):TE:=fun σ H Q=>td σ H fun x H1=>ty σ H1 fun y H2=>∃ a o kvs k v,x = .ref a∧y=kV k∧H2 a=some (Ext a o)∧Rm P w a o kvs∧bR kvs k=some v∧Q v H2
theorem VV {X:Cx}{o i:Expr}{pos:Pos}{td ty:TE} (ho:PE X o td) (hi:PE X i ty) (hs:NZ i):PE X (.Subscript o i pos) (abp X.prog X.w td ty):=by
 intro ah s σ H Q I h
 refine uc mF.lookup hs (bF (ho ah s σ H _ I h) fun u s1 ⟨x,H1,I1,rx,q1⟩=>bF (hi ah s1 σ H1 _ I1 q1) fun iv s2 ⟨y,H2,I2,ry,a,ob,kvs,k,v,ex,ey,ea,⟨z,hd,vs,ep,c7,hx⟩,l,q2⟩ =>?_)
 subst ex ey
 obtain rfl:u=aQ a:=rx
 have dd:=(hx _ (mB I2.bh ea)).dictOf
 obtain⟨w',hw,kW⟩:=jW.some_of (v:=v) (o:=valueAt vs k) (by rw[<- l];exact c7.val k)
 exact⟨dd.typeIs,wpAny_getItem_of (xS ry) dd.mapOf hw ⟨v,H2,I2.tok _,kW,q2⟩⟩
section
variable {X:Cx}{ah:List (Addr × Obj)}{σ : St}{H:Hp}{s:Shared}{a:Addr}{kvs:List (Key × V)}{k:Key}{v:V}{u r:Value}{A:Around}{E:Value->Shared->Prop}
end
section
variable {X:Cx}{o e f:Expr}{dv de:Pos}{td ty tx:TE}
end
theorem vZ:bootBuiltins "all" = some (.builtin "all"):=by decide +kernel
end L2
namespace Sw
open PySem L2
end Sw
namespace PySem
section
variable {prog:Program}{w:World}{A:Around}{E:Value->Shared->Prop}{s:Shared}
end
section
variable {prog:Program}{w:World}{A:Around}{s:Shared}{R:Result->Shared->Prop}{I l:Addr}{cf:Array Value}
end
section
variable {prog:Program}{w:World}{A:Around}{E:Value->Shared->Prop}{s:Shared}{I l:Addr}{cf:Array Value}
end
end PySem
namespace L2
open PySem PySem.Spec PyProof.Rows
theorem zw {X:Cx}:Passes (qk X.prog X.w) X E0:=fun ah σ H s e s' I h=>by
 obtain⟨_,_,_,_,_,_,_,_,_,_,_,_,_,_,q⟩:=h
 exact dA q
section
variable {X:Cx}
end
section
variable {P:Program}{w:World}{A:Around}{s:Shared}
open SeqAt MeetsSeq MeetsSeq2 MeetsSeq3 SeqRoads2
open AutoSeq1 (wpAny_loadPart')
theorem Bq {kvs:List (Key × V)} (hn:(kvs.map (·.1)).Nodup):∀ kv∈kvs,bR kvs kv.1=some kv.2:=by
 induction kvs with
 | nil=>intro kv h;cases h
 | cons p r ih =>
  intro kv h
  rw[aS,bQ]at hn
  rcases aY.mp h with rfl | h
  ·exact eO rfl
  ·rw[eD (fun e=>hn.1 (by rw[e];exact bj.mpr ⟨kv,h,O⟩))]
   exact ih hn.2 kv h
end
end L2
namespace L2
open PySem PySem.W PySem.Calls PyProof.Rows
theorem Of {ns:List Int}{c:Int}:c∈ns->zX (.int c)<=Dy (ns.map v5):=by
 induction ns with
 | nil=>intro h;cases h
 | cons n ns ih =>
  intro h
  rw[aS,Dy]
  rcases aY.mp h with rfl | h
  ·omega
  ·have:=ih h;omega
theorem Ti {ns:List Int} (h:WData.layableAll [Dz (ns.map v5)]=true):∀ c∈ns,yU c<=1048576:=fun c hc=>by
 have h1:WData.layable (Dz (ns.map v5))=true:=iS.mp h _ bg
 have h2:=of_decide_eq_true (gq.mp h1).2
 rw[zX]at h2
 have h3:=Of hc
 rw[zX]at h3
 show (if c == 0 then 0 else c.natAbs.log2+1)<=1048576
 have:(2:Nat) ^ 20=1048576:=by decide
 omega
end L2
namespace L2
open PySem PySem.Spec PyProof.Rows
section
variable {X:Cx}{k:Nat}{y:Str}{p pos:Pos}{e:Expr}{es:List Expr}{tv:TE}{t:TA}
end
section
variable {prog:Program}{w:World}{A:Around}{R:Result->Shared->Prop}{I:Addr}{fp wr:List Addr}{n:Nat}{P:Nat->Value->Prop}{St:Nat->Heap->Prop}{kw:List (Str × Value)}{G:Heap->Prop}
end
section
variable {X:Cx}{e:Expr}{te:TE}{p pos kp cp:Pos}{j:Nat}
end
section
variable {P:Program}{w:World}{K:ao}{mg:Str->Option Value}{base:Heap}{x m qual:Str}{st:Stmt}{N ps:List Str}{k:Nat}{sp:Sp}
end
section
variable {X:Cx} {k k':Nat}{x m:Str}{ps:List Str}{sp:Sp}{p pos dv:Pos}{e:Expr}{es:List Expr}{t:TA}{E:XK}
end
section
variable {prog:Program}{w:World}{A:Around}{R:Result->Shared->Prop}{I:Addr}{fp wr:List Addr}{n:Nat}{P:Nat->Value->Prop}{St:Nat->Heap->Prop}{kw:List (Str × Value)}{G:Heap->Prop}
end
section
variable {X:Cx}{e:Expr}{te:TE}{p pos kp cp:Pos}{j:Nat}{d:Int}
end
end L2
namespace HT
open PySem PySem.Spec PyProof.Rows
section
variable {prog:Program}{w:World}{A:Around}{E:Value->Shared->Prop}{s:Shared}
end
end HT
namespace L2
open PySem PySem.Spec PyProof.Rows
section
variable {X:Cx}
theorem OX {K:ao}{x y:Str}{p1 p2 pos:Pos}{k:Nat} (hK:X.K=K) (hc:X.calm=true) (hN:X.N.Nodup) (h0:X.N[0]? = some x) (h1:X.N[1]? = some y) (hx:X.env.scope.names.lookup x=some .local) (hy:X.env.scope.names.lookup y=some .local) :
  PG X (.Tuple [.Name x p1,.Name y p2] k pos) (aam K 2 (NN (bw 0) (NN (bw 1) aan))):=by
 subst hK
 exact lY hc (dH (bL hN h0 (.inl hx) (.inr hx)) (dH (bL hN h1 (.inl hy) (.inr hy)) jX))
end
def abq (K:ao) (CH:Addr) (tb:XK->TS) (th:TS):TS:=fun D σ H =>
 tb (fun cls _ H'=>∃ C,cls = .ref C∧xh K (.ref C) (.ref CH)=some true∧∀ ea,H' ea=none->th D σ (upd H' ea (XO ea C))) D σ H
theorem VO {X:Cx}{body:List Stmt}{tb:XK->TS}{th:TS}{x:Str}{CH:Addr}{aaJ : Stmt}{TU:List Stmt}{np IH pos:Pos} (iW:X.stack=X.env :: X.outer∧X.env.frame=some X.env.locals)
  (hg:Gl X x) (hm:X.mg x=some (.ref CH)) (hb:PSt X body tb)
  (hh:∀ ea:Addr,pV (X.rE (X.A.mark (some (.ref ea))) fun _ _=>False) (aaJ :: TU) th) (hd:(x == ("__debug__" : Str))=false:=by decide) :
  PS X (.Try body [.ExceptHandler (some (.Name x np)) none (aaJ :: TU) IH] [] [] pos) (abq X.K CH tb th):=by
 intro ah s σ H D I h
 refine wpAny_Try_except (wpAny_mono (hb _ ah s σ H D _ ?W I h) (fun f s1 q =>?_) fun _ _ z=>z)
 case W =>
  intro H0 s0 e s' I0 hx
  obtain⟨ea,C,a0,B,H',rfl,fl,os,bare,bh,un,mC,_,_,C',hc,hex,hth⟩:=hx
  cases hc
  have P1:X.A.frames=some (X.env :: X.outer):=by rw[I0.ok.frames,iW.1]
  have fl0:jL B (X.env :: X.outer) ea (.ref C) a0 s'.heap:=by rw[<- iW.1];exact fl
  refine wpAny_looks_onW P1 iW.2 fl0 fun Ny Wq T2 =>?_
  refine wpAny_landsW Wq fun BI NP TZ =>?_
  obtain⟨o5,vs5,g1,g2,g3,_⟩:=NP.first
  obtain⟨I5,P4⟩:=Ds (h5:=BI) I0 fl os bare bh un mC NP.1 (T2.trans TZ) ⟨o5,vs5,g1,g2,g3⟩
  have J5:Inv (X.rE (X.A.mark (some (.ref ea))) fun _ _=>False) ah σ (upd H' ea (XO ea C)) { s' with heap:=BI }:=I5.rE rfl
  refine wpAny_handleBy_cons (codeAny_handlers_test (wW J5 hg hm ?_ hd)) (by intro q;cases q)
  have LT:yP (model X.prog X.w) BI (typeOf (.ref ea)) (.ref C):=g2 ▸ (yP.ld g1).andThen .now
  refine(PySem.W.exm_one (M:=model X.prog X.w) I5.kI LT hex).at ?_
  show codeAny _ _ _ _ _
  refine codeAny_handlers_suite ?_
  refine lands_againW NP fun Nx U6 abD =>?_
  obtain⟨o6,vs6,j1,j2,j3,_⟩:=U6.first
  obtain⟨I6,_⟩:=Ds (h5:=Nx) I0 fl os bare bh un mC U6.1 ((T2.trans TZ).trans abD) ⟨o6,vs6,j1,j2,j3⟩
  refine wpAny_mono (hh ea ah _ _ _ _ (I6.rE rfl) (hth ea P4)) (fun f s8 q8 =>?_) fun _ _ z=>dA z
  have back:∀ {br iY}{s9:Shared},Inv (X.rE (X.A.mark (some (.ref ea))) fun _ _=>False) ah br iY s9->Inv X ah br iY s9:=fun J=>J.XG I0.ok.hd rfl
  cases f with
  | next =>
   obtain⟨br,iY,J,q⟩:=q8
   exact⟨_,_,back J,q⟩
  | brk =>
   obtain⟨br,iY,J,q⟩:=q8
   exact⟨_,_,back J,q⟩
  | cont =>
   obtain⟨br,iY,J,q⟩:=q8
   exact⟨_,_,back J,q⟩
  | ret u =>
   obtain⟨v, br,iY,J,r,q⟩:=q8
   exact⟨v,_,_,back J,r,q⟩
 cases f with
 | next=>exact wpAny_execs_nil q
 | brk=>exact q
 | cont=>exact q
 | ret u=>exact q
section
variable {X:Cx}
end
end L2
namespace Sw
open PySem L2
theorem OK (x:Str) (lo hi:Option Int):(g6 x lo hi).cps.toList=(x.cps.toList.drop (HT.cX x.length 0 lo)).take (HT.cX x.length x.length hi - HT.cX x.length 0 lo):=by
 have hx:x.cps.toList.length=x.length:=by simp[Str.length]
 obtain⟨h1,h2,h3⟩:=zg lo hi x.length
 have ha:HT.cX x.length 0 lo<=x.length:=HT.Ho _ _ (bA _) _
 have hb:HT.cX x.length x.length hi<=x.length:=HT.Ho _ _ (au _) _
 have e:sA lo hi 1 x.length=sliceRange ((HT.cX x.length 0 lo:Nat):Int) ((HT.cX x.length x.length hi:Nat):Int) 1:=by
  rw[<- h1, <- h2]
  unfold sA sliceBounds
  rfl
 have e2:((sliceRange ((HT.cX x.length 0 lo:Nat):Int) ((HT.cX x.length x.length hi:Nat):Int) 1).filterMap (x.cps[·]?))=(x.cps.toList.drop (HT.cX x.length 0 lo)).take (HT.cX x.length x.length hi - HT.cX x.length 0 lo):=by
  rw[sliceRange_one,pick_run]
 unfold g6
 rw[e]
 split
 ·rename_i hc
  have hl:(sliceRange ((HT.cX x.length 0 lo:Nat):Int) ((HT.cX x.length x.length hi:Nat):Int) 1).length=x.length:=by simpa using hc
  rw[sliceRange_one,ar,cR]at hl
  have ea:HT.cX x.length 0 lo=0∨x.length=0:=by omega
  rcases ea with ea | ea
  ·rw[ea,Nat.sub_zero]at hl ⊢
   rw[EU,hl, <- hx,bB]
  ·have:x.cps.toList = []:=nM.mp (hx.trans ea)
   rw[this];simp
 ·show (_:List Nat).toArray.toList=_
  rw[e2]
end Sw
namespace L2
open PySem PySem.Spec PyProof.Rows
section
variable {X:Cx}
end
section
variable {prog:Program}{w:World}{A:Around}{E:Value->Shared->Prop}{s:Shared}
end
section
variable {M:Model}{A:Around}{E:Value->Shared->Prop}{qn nm:Str}{N C:Addr}{bm bs:List Value}{hdct ab:Bool}{sn:List Str}{sub:List Value}{col:Option Bool}{dd:Option Addr}{k0 k1 k2 k3 k5:Option Value}{Nb:String}
end
section
variable {prog:Program}{w:World}{A:Around}{E:Value->Shared->Prop}{s:Shared}{env:Env}{qn nm:Str}{N C:Addr}{bm bs:List Value}{hdct ab:Bool}{sn:List Str}{sub:List Value}{col:Option Bool}{dd:Option Addr}{k0 k1 k2 k3 k5:Option Value}{Nb:String}
end
section
variable {prog:Program}{w:World}{A:Around}{E:Value->Shared->Prop}{s:Shared}{env:Env}{qn nm:Str}{N C:Addr}{bm bs bmB:List Value}{hdct ab:Bool}{sn:List Str}{sub:List Value}{col:Option Bool}{dd:Option Addr}{k0 k1 k2 k3 k5:Option Value}{B Nb ahH:String}
end
section
variable {M:Model}{A:Around}{E:Value->Shared->Prop}{s:Shared}
end
section
variable {P:Program}{w:World}{K:ao}{mg:Str->Option Value}{base:Heap}{N:List Str}{qual:Str}{scope:Scope}{f:Addr}{cO:Value}{A:Around}{outer:List Env}{s0:Shared}{H0:Hp}{E:XK}{ea C:Addr}
end
section
variable {X:Cx}{ah:List (Addr × Obj)}{σ : St} {H0 H':Hp} {s0 s':Shared}{ea C:Addr}{a0:Value}{B h5:Heap}{m:Option Addr}
end
section
variable {X:Cx} {k k':Nat}{m:Str}{C:Addr}{ps:List Str}{jw:List V}{sp:Sp}{pos dv:Pos}{e o:Expr}{es:List Expr}{ta:TE}{t:TA}{pl:Sem Bool}
end
section
variable {prog:Program}{w:World}{K:Type} [DecidableEq K] {knd:HeapKind prog w K}{A:Around}{E:Value->Shared->Prop}{s:Shared}{d a:Addr}{k:K}{xs:List (K × Addr × Value)}
end
section
variable {prog:Program}{w:World}{K:Type} [DecidableEq K] (knd:HeapKind prog w K) (d a:Addr)
end
section
variable {X:Cx}{ah:List (Addr × Obj)}{σ : St}{H:Hp}{s:Shared}{a b:Addr}{kvs:List (NK × V)}{k:NK}{v:V}{A:Around}{E:Value->Shared->Prop}
end
section
variable {X:Cx}{o e:Expr}{dv de:Pos}{td ty:TE}
end
theorem KV.wL {kvs:List (Key × V)}{vs:List (Key × Value)} (r:KV kvs vs):∀ {i:Nat}{k:Key}{u:Value},vs[i]? = some (k,u)->∃ kv,kvs[i]? = some kv∧RelV kv.2 u:=by
 unfold KV at r
 induction r with
 | nil=>intro i k u h;simp at h
 | @cons p q ps qs h t ih =>
  intro i k u e
  cases i with
  | zero=>simp at e;subst e;exact⟨p,O,h.2⟩
  | succ i=>simpa using ih (by simpa using e)
section
variable {prog:Program}{w:World}{A:Around}{E:Value->Shared->Prop}{s:Shared}
theorem DY {α : Type}{Q : α -> Shared->Prop} (hh:A.handled=none) (hE:∀ h' e,(∀ c o,s.heap.get? c=some o->h'.get? c=some o)->(∃ o,h'.get? e=some o∧o.cls = .type "StopIteration")->E (.ref e) { s with heap:=h' }) :
  wpAny (model prog w) A (Cb:Sem α) Q E s:=by
 show wpAny _ _ (newExc (.type "StopIteration") [] >>= _) _ _ _
 simp only[newExc,newTuple]
 refine wpAny_bind ?_
 wp_walk
 simp only[raiseNew]
 refine wpAny_bind (wpAny_handled ?_)
 rw[hh]
 refine wpAny_bind (wpAny_pure (wpAny_throw ?_))
 exact hE _ _ (fun c o e=>az _ (az _ e)) ⟨_,aR _ rfl,O⟩
theorem CD {it t:Addr}{i:Nat}{cf:Array Value}{x:Value}{Q:Value->Shared->Prop} (fS:s.heap.IsTupleIter it t i) (ht:s.heap.IsTuple t cf) (hx:cf[i]? = some x)
  (hQ:∀ h',h'.IsTupleIter it t (i+1)->cq it s.heap h'->Q x { s with heap:=h' }):wpAny (model prog w) A (eI (.ref it)) Q E s:=by
 obtain⟨o,ho,hc,hd⟩:=id fS
 obtain⟨ol,Zh,_,nl,ZI⟩:=ht
 unfold eI
 refine wpAny_bind (wpAny_callSpecial?_slot (name:=eS "__next__") fS.typeIs jj (wpAny_call_entry jj fS.typeIs sx ?_ (qT _)))
 wp_walk using wpAny_field ho hd (x := .ref t) rfl,wpAny_field ho hd (x := .int i 0) rfl,wpAny_seqItems Zh ZI
 rw[cx,hx]
 refine wpAny_bind (wpAny_setField ho hd (by simp) (wpAny_pure ⟨x,O,wpAny_pure (hQ _ ?_ (cW ..))⟩))
 exact⟨_,dZ _ ho (jg (dO hd _)),(nO ..).trans hc,by rw[dO hd];simp[rawInt]⟩
theorem Pc {it t:Addr}{i:Nat}{cf:Array Value}{Q:Value->Shared->Prop} (hh:A.handled=none) (fS:s.heap.IsTupleIter it t i) (ht:s.heap.IsTuple t cf) (hx:cf[i]? = none)
  (hE:∀ h' e,rp it s.heap h'->(∃ o,h'.get? e=some o∧o.cls = .type "StopIteration")->E (.ref e) { s with heap:=h' }):wpAny (model prog w) A (eI (.ref it)) Q E s:=by
 obtain⟨o,ho,hc,hd⟩:=id fS
 obtain⟨ol,Zh,_,nl,ZI⟩:=ht
 unfold eI
 refine wpAny_bind (wpAny_callSpecial?_slot (name:=eS "__next__") fS.typeIs jj (wpAny_call_entry jj fS.typeIs sx ?_ (qT _)))
 wp_walk using wpAny_field ho hd (x := .ref t) rfl,wpAny_field ho hd (x := .int i 0) rfl,wpAny_seqItems Zh ZI
 rw[cx,hx]
 refine wpAny_bind (wpAny_rule (wpAny_bind (wpAny_setField ho hd (by simp) ?_)))
 exact DY hh fun h' e hk he=>hE h' e (fun c o n q=>hk c o ((cW ..).extBut c o n q)) he
structure ZT (z TI TO i1 i2 t1 t2:Addr) (f0:Value) (k:Nat) (h:Heap):Prop where
 hz:IsZip h z TI TO f0
 xb:IsPair h TI (.ref i1) (.ref i2)
 zN:∃ a b,IsPair h TO a b
 h1:h.IsTupleIter i1 t1 k
 h2:h.IsTupleIter i2 t2 k
structure GK (z TO i1 i2:Addr) (h h':Heap):Prop where
 but:∀ c o,c≠z->c≠TO->c≠i1->c≠i2->h.get? c=some o->h'.get? c=some o
theorem mR {it t c:Addr}{k:Nat} {h h':Heap} (x:h.IsTupleIter it t k) (e:rp c h h') (n:it≠c):h'.IsTupleIter it t k:=let ⟨o,a,b,d⟩:=x; ⟨o,e it o n a,b,d⟩
theorem yZ {t c:Addr}{xs:Array Value} {h h':Heap} (x:h.IsTuple t xs) (e:rp c h h') (n:t≠c):h'.IsTuple t xs:=let ⟨o,a,b,m,d⟩:=x; ⟨o,e t o n a,b,m,d⟩
theorem N9 {z TI TO i1 i2 t1 t2:Addr}{k:Nat}{xs ys:Array Value}{x y:Value}{Q:Value->Shared->Prop} (D:ZipApart z TI TO i1 i2 t1 t2) (Z:ZT z TI TO i1 i2 t1 t2 .none k s.heap)
  (l1:s.heap.IsTuple t1 xs) (l2:s.heap.IsTuple t2 ys) (hx:xs[k]? = some x) (hy:ys[k]? = some y)
  (hQ:∀ h',ZT z TI TO i1 i2 t1 t2 (rawInt s.heap.objs.size) (k+1) h'->IsPair h' s.heap.objs.size x y->GK z TO i1 i2 s.heap h'->Q (.ref s.heap.objs.size) { s with heap:=h' }) :
  wpAny (model prog w) A (Builtin.«zip.__next__» ⟨[.ref z], []⟩) (fun fin s'=>∃ v,fin = .done (.ret v)∧Q v s') E s:=by
 obtain⟨hz,xb,⟨a,b,zN⟩,h1,h2⟩:=Z
 refine(show wpAny _ _ (field (.ref z) 2 >>= _) _ _ _ from wpAny_bind (wpAny_field hz rfl (x := .bool false) rfl (show wpAny _ _ (field (.ref z) 3 >>= _) _ _ _ from wpAny_bind (wpAny_field hz rfl (x := .ref TI) rfl (wpAny_bind (wpAny_seqItems xb rfl ?_))))))
 refine(show wpAny _ _ (gn (.ref z) >>= _) _ _ _ from wpAny_bind ?_)
 unfold gn
 refine wpAny_bind (wpAny_field hz rfl (x := .none) rfl (wpAny_pure ?_));simp only[if_true]
 refine wpAny_bind (wpAny_rule (wpAny_bind (wpAny_field hz rfl (x := .ref TO) rfl (wpAny_bind (wpAny_setField_rec hz (by simp) fun g1 z1 s1 =>?_)))))
 have z1:IsZip g1 z TI TO .ellipsis:=z1
 refine wpAny_bind ?_
 simp only[DJ,B2,ET,wc];refine wpAny_bind (wpAny_bind (wpAny_onRaise ?_))
 refine(show wpAny _ _ (eI (.ref i1) >>= _) _ _ _ from wpAny_bind (CD (mR h1 s1.extBut D.i1z) (yZ l1 s1.extBut D.l1z) hx fun g2 n1 s2=>wpAny_pure ?_))
 have o2:IsPair g2 TO a b:=s2.extBut _ _ D.TOi1 (s1.extBut _ _ D.TOz zN)
 refine wpAny_bind (wpAny_seqItems o2 rfl (wpAny_bind (wpAny_updateSeq_pair o2 fun g3 o3 s3=>wpAny_bind (wpAny_letGo (wpAny_pure (wpAny_bind (wpAny_bind (wpAny_onRaise ?_))))))))
 have o3:IsPair g3 TO x b:=o3
 refine(show wpAny _ _ (eI (.ref i2) >>= _) _ _ _ from wpAny_bind (CD (mR (mR (mR h2 s1.extBut D.i2z) s2.extBut D.i12.symm) s3.extBut D.TOi2.symm)
  (yZ (yZ (yZ l2 s1.extBut D.l2z) s2.extBut D.l2i1) s3.extBut D.l2TO) hy fun g4 n2 s4=>wpAny_pure ?_))
 have o4:IsPair g4 TO x b:=s4.extBut _ _ D.TOi2 o3
 refine wpAny_bind (wpAny_seqItems o4 rfl (wpAny_bind (wpAny_updateSeq_pair o4 fun g5 o5 s5=>wpAny_bind (wpAny_letGo (wpAny_pure (wpAny_pure (wpAny_bind (wpAny_seqItems (show IsPair g5 TO x y from o5) rfl (wpAny_bind (wpAny_newTuple ?_)))))))))) 
 have o5:IsPair g5 TO x y:=o5
 have sz:g5.objs.size=s.heap.objs.size:=by rw[s5.1,s4.1,s3.1,s2.1,s1.1]
 have z5:IsZip g5 z TI TO .ellipsis:=s5.extBut _ _ D.TOz.symm (s4.extBut _ _ D.i2z.symm (s3.extBut _ _ D.TOz.symm (s2.extBut _ _ D.i1z.symm z1)))
 have k5:∀ c o,c≠z->c≠TO->c≠i1->c≠i2->s.heap.get? c=some o->g5.get? c=some o:=fun c o c1 c2 c3 c4 e=>s5.extBut _ _ c2 (s4.extBut _ _ c4 (s3.extBut _ _ c2 (s2.extBut _ _ c3 (s1.extBut _ _ c1 e))))
 have n15:g5.IsTupleIter i1 t1 (k+1):=mR (mR (mR n1 s3.extBut D.TOi1.symm) s4.extBut D.i12) s5.extBut D.TOi1.symm
 have n25:g5.IsTupleIter i2 t2 (k+1):=mR n2 s5.extBut D.TOi2.symm
 have zlt:z < g5.objs.size:=aV z5
 refine(show wpAny _ _ (nj (.ref z) (.ref g5.objs.size) >>= _) _ _ _ from wpAny_bind ?_)
 unfold nj
 refine wpAny_bind (wpAny_setField_rec (show IsZip (g5.push { cls := .type "tuple",data := .seq #[x,y] }) z TI TO .ellipsis from az _ z5) (by simp) fun g7 z7 s7 =>?_)
 refine wpAny_setField_rec (show IsZip g7 z TI TO (rawInt g5.objs.size) from z7) (by simp) fun g8 z8 s8 =>?_
 have z8:IsZip g8 z TI TO (rawInt g5.objs.size):=z8
 have up:∀ c o,c≠z->g5.get? c=some o->g8.get? c=some o:=fun c o c1 e=>s8.extBut _ _ c1 (s7.extBut _ _ c1 (az _ e))
 have t8:IsPair g8 g5.objs.size x y:=s8.extBut _ _ (jH zlt) (s7.extBut _ _ (jH zlt) (aR _ rfl))
 have i8:IsPair g8 TI (.ref i1) (.ref i2):=up _ _ D.TIz (k5 _ _ D.TIz D.TITO D.TIi1 D.TIi2 xb)
 refine wpAny_pure ⟨_,O,?_⟩
 rw[sz]at z8 t8
 show Q (.ref g5.objs.size) _
 rw[sz]
 refine hQ g8 ⟨z8,i8,⟨_,_,up _ _ D.TOz o5⟩,?_,?_⟩ t8 ⟨fun c o c1 c2 c3 c4 e=>up c o c1 (k5 c o c1 c2 c3 c4 e)⟩
 ·exact let ⟨o,q,r⟩:=n15; ⟨o,up _ o D.i1z q,r⟩
 ·exact let ⟨o,q,r⟩:=n25; ⟨o,up _ o D.i2z q,r⟩
theorem Rn {z TI TO i1 i2 t1 t2:Addr}{k:Nat}{xs:Array Value}{Q:Fin->Shared->Prop} (hh:A.handled=none) (D:ZipApart z TI TO i1 i2 t1 t2) (Z:ZT z TI TO i1 i2 t1 t2 .none k s.heap)
  (l1:s.heap.IsTuple t1 xs) (hx:xs[k]? = none) (hE:∀ h' e,GK z TO i1 i2 s.heap h'->(∃ o,h'.get? e=some o∧o.cls = .type "StopIteration")->E (.ref e) { s with heap:=h' }) :
  wpAny (model prog w) A (Builtin.«zip.__next__» ⟨[.ref z], []⟩) Q E s:=by
 obtain⟨hz,xb,⟨a,b,zN⟩,h1,h2⟩:=Z
 refine(show wpAny _ _ (field (.ref z) 2 >>= _) _ _ _ from wpAny_bind (wpAny_field hz rfl (x := .bool false) rfl (show wpAny _ _ (field (.ref z) 3 >>= _) _ _ _ from wpAny_bind (wpAny_field hz rfl (x := .ref TI) rfl (wpAny_bind (wpAny_seqItems xb rfl ?_))))))
 refine(show wpAny _ _ (gn (.ref z) >>= _) _ _ _ from wpAny_bind ?_)
 unfold gn
 refine wpAny_bind (wpAny_field hz rfl (x := .none) rfl (wpAny_pure ?_));simp only[if_true]
 refine wpAny_bind (wpAny_rule (wpAny_bind (wpAny_field hz rfl (x := .ref TO) rfl (wpAny_bind (wpAny_setField_rec hz (by simp) fun g1 z1 s1 =>?_)))))
 have z1:IsZip g1 z TI TO .ellipsis:=z1
 refine wpAny_bind ?_
 simp only[DJ,B2,ET,wc];refine wpAny_bind (wpAny_bind (wpAny_onRaise ?_))
 refine(show wpAny _ _ (eI (.ref i1) >>= _) _ _ _ from wpAny_bind (Pc hh (mR h1 s1.extBut D.i1z) (yZ l1 s1.extBut D.l1z) hx fun g2 e s2 he =>?_))
 obtain⟨oe,Zj,UO⟩:=he
 have z2:IsZip g2 z TI TO .ellipsis:=s2 _ _ D.i1z.symm z1
 have ne:e≠z:=fun q=>by subst q;rw[z2]at Zj;cases Zj;exact absurd (jy UO) (by decide)
 exact wpAny_setField_rec z2 (by simp) fun g3 _ s3=>hE g3 e ⟨fun c o c1 _ c3 _ q=>s3.extBut _ _ c1 (s2 _ _ c3 (s1.extBut _ _ c1 q))⟩ ⟨oe,s3.extBut _ _ ne Zj,UO⟩
theorem N8 {z TI TO i1 i2 t1 t2:Addr}{k:Nat}{xs ys:Array Value}{x y:Value}{Q:Option Value->Shared->Prop} (D:ZipApart z TI TO i1 i2 t1 t2) (Z:ZT z TI TO i1 i2 t1 t2 .none k s.heap)
  (l1:s.heap.IsTuple t1 xs) (l2:s.heap.IsTuple t2 ys) (hx:xs[k]? = some x) (hy:ys[k]? = some y)
  (hQ:∀ h',ZT z TI TO i1 i2 t1 t2 (rawInt s.heap.objs.size) (k+1) h'->IsPair h' s.heap.objs.size x y->GK z TO i1 i2 s.heap h'->Q (some (.ref s.heap.objs.size)) { s with heap:=h' }) :
  wpAny (model prog w) A (pyNext (.ref z)) Q E s:=by
 have ty:s.TypeIs (.ref z) "zip" := ⟨_,Z.hz,O⟩
 unfold pyNext
 exact wpAny_bind (wpAny_attempt (wpAny_callSpecial?_slot (name:=eS "__next__") ty qh (wpAny_call_entry qh ty F.entry_zip_next (N9 D Z l1 l2 hx hy fun h' a b c=>wpAny_pure (hQ h' a b c)) (AU _))))
theorem Oa {z TI TO i1 i2 t1 t2:Addr}{k:Nat}{xs:Array Value}{Q:Option Value->Shared->Prop} (hh:A.handled=none) (D:ZipApart z TI TO i1 i2 t1 t2) (Z:ZT z TI TO i1 i2 t1 t2 .none k s.heap)
  (l1:s.heap.IsTuple t1 xs) (hx:xs[k]? = none) (hQ:∀ h',GK z TO i1 i2 s.heap h'->Q none { s with heap:=h' }):wpAny (model prog w) A (pyNext (.ref z)) Q E s:=by
 have ty:s.TypeIs (.ref z) "zip" := ⟨_,Z.hz,O⟩
 unfold pyNext
 refine wpAny_bind (wpAny_attempt (wpAny_callSpecial?_slot (name:=eS "__next__") ty qh (wpAny_call_entry qh ty F.entry_zip_next (Rn hh D Z l1 hx fun h' e hk he =>?_) (AU _))))
 exact let ⟨o,ho,hc⟩:=he;wpAny_bind (wpAny_isInstance (T := "StopIteration") (b:=true) ⟨o,ho,hc⟩ isSubtype_stop (wpAny_pure (hQ _ hk)))
end
abbrev KC (h:Heap) (a:Addr):Heap:=h.push { cls := .type "tuple_iterator",data := .fields #[.ref a,.int 0 0] }
abbrev Tx (h:Heap) (a b:Addr):Heap:=KC (KC h a) b
abbrev Tw (h:Heap) (a b:Addr):Heap:=(Tx h a b).push { cls := .type "tuple",data := .seq #[.ref h.objs.size,.ref (KC h a).objs.size] }
abbrev Tv (h:Heap) (a b:Addr):Heap:=(Tw h a b).push { cls := .type "tuple",data := .seq #[.none,.none] }
abbrev KA (h:Heap) (a b:Addr):Heap:=(Tv h a b).push { cls := .type "zip",data := .fields #[.none,.bool false,.bool false,.ref (Tx h a b).objs.size,.ref (Tw h a b).objs.size] }
theorem MJ (a b:Addr) (xs ys:Array Value):Meets (Builtin.«zip.__new__» ⟨[.type "zip",.ref a,.ref b], []⟩) (fun _ R s=>s.heap.IsTuple a xs∧s.heap.IsTuple b ys ∧
   R (.ok (.ret (.ref (Tv s.heap a b).objs.size))) { s with heap:=KA s.heap a b }) :=
 .of_wp fun prog w A R s h=>by
  obtain⟨hp,g,d,tk,os⟩:=s;obtain⟨ha,hb,h⟩:=h
  have sub:=sub_zip
  have A1:Heap.IsTuple (Shared.heap ⟨hp,g,d,tk,os⟩) a xs:=ha
  have B1:Heap.IsTuple (Shared.heap ⟨KC hp a,g,d,tk,os⟩) b ys:=let ⟨o,e,r⟩:=hb; ⟨o,az _ e,r⟩
  wp_walk using wpAny_pyIter_tuple A1,wpAny_pyIter_tuple B1
  exact⟨_,O,h⟩
section
variable {prog:Program}{w:World}{A:Around}{E:Value->Shared->Prop}{s:Shared}
theorem Ob {a b:Addr}{xs ys:Array Value}{Q:Value->Shared->Prop} (ha:s.heap.IsTuple a xs) (hb:s.heap.IsTuple b ys)
  (h:∀ h',ZT (s.heap.objs.size+4) (s.heap.objs.size+2) (s.heap.objs.size+3) s.heap.objs.size (s.heap.objs.size+1) a b .none 0 h'->(∀ c o,s.heap.get? c=some o->h'.get? c=some o)->Q (.ref (s.heap.objs.size+4)) { s with heap:=h' }) :
  wpAny (model prog w) A (call (.type "zip") [.ref a,.ref b]) Q E s:=by
 refine callType_new F.called_zip (by decide) (F.typeCall_zip_2 _ _) (F.newCall_zip_2 _ _) (fun obj=>F.args_object_init_3 obj _ _) F.entry_zip_new (MJ a b xs ys) ⟨ha,hb,?_⟩
 have e1:(KC s.heap a).objs.size=s.heap.objs.size+1:=fG ..
 have e2:(Tx s.heap a b).objs.size=s.heap.objs.size+2:=by rw[fG,e1]
 have e3:(Tw s.heap a b).objs.size=s.heap.objs.size+3:=by rw[fG,e2]
 have e4:(Tv s.heap a b).objs.size=s.heap.objs.size+4:=by rw[fG,e3]
 have up {h:Heap}{c:Addr}{o p:Obj} (x:h.get? c=some o):(h.push p).get? c=some o:=az _ x
 have q5:(KA s.heap a b).get? (Tv s.heap a b).objs.size=some _:=aR _ rfl
 have q4:(KA s.heap a b).get? (Tw s.heap a b).objs.size=some _:=up (aR _ rfl)
 have q3:(KA s.heap a b).get? (Tx s.heap a b).objs.size=some _:=up (up (aR _ rfl))
 have q2:(KA s.heap a b).get? (KC s.heap a).objs.size=some _:=up (up (up (aR _ rfl)))
 have q1:(KA s.heap a b).get? s.heap.objs.size=some _:=up (up (up (up (aR _ rfl))))
 show _∧_
 rw[e2,e3,e4]at q5
 rw[e1,e2]at q3
 rw[e3]at q4
 rw[e1]at q2
 rw[e4]
 exact⟨⟨_,q5,O⟩,h _ ⟨q5,q3,⟨_,_,q4⟩,⟨_,q1,O,O⟩,⟨_,q2,O,O⟩⟩ fun c o x=>up (up (up (up (up x))))⟩
end
section
variable {X:Cx}{ah:List (Addr × Obj)}{σ : St}{H:Hp}{s:Shared} {h':Heap}
theorem Inv.Vu {ch:List Addr} {t':Nat} (I:Inv X ah σ H s) (k:∀ b o,b ∉ ch->s.heap.get? b=some o->h'.get? b=some o) (hf:∀ b∈ch,nQ X ah H b):Inv X ah σ H { s with heap:=h',toks:=t' }:=by
 have Pb:∀ b u,H b=some u->b ∉ ch:=fun b u e z=>by rw[(hf b z).1]at e;cases e
 refine I.step (g':=s.gens) (d':=s.drawn) (ch:=ch) (fun b hb =>?_) (fun b o _ _ hc e _=>k b o hc e) (fun b o _ _ hc e _=>⟨o.slots,k b o hc e⟩) (fun _ _ _ _ n=>n)
  (fun b o hc e=>⟨o,k b o hc e⟩) (fun _ _ e=>e) (fun _ _ _ e=>e) (fun b ps e=>⟨#[],by rw[e];simp⟩) (fun m hm =>?_) (fun b u e =>?_) I.bare
 ·obtain⟨_,f1,_,f3,f4,f5⟩:=hf b hb
  exact⟨f3,f1,f4,f5⟩
 ·obtain⟨o,es,ep,ho,r⟩:=hm
  exact⟨o,es,ep,k _ o (fun z=>(hf _ z).2.1 rfl) ho,r⟩
 ·refine(I.bh b u e).uw (fun c v hc q=>k c v ?_ q) (fun _ q=>q) fun _ _ q=>q
  rcases hc with z | z
  ·rw[z];exact Pb b u e
  ·exact Pb c _ z
end
def Rh (K:ao) (a b:Addr):It :=
 ⟨fun i H=>∃ xs ys x y,bD K H a xs∧bD K H b ys∧xs[i]? = some x∧ys[i]? = some y,
  fun i H r H'=>∃ p u v,H p=none∧r = .ref p∧(∀ xs,bD K H a xs->xs[i]? = some u)∧(∀ ys,bD K H b ys->ys[i]? = some v)∧H'=upd H p (.tup [u,v]),
  fun i H=>∃ xs,bD K H a xs∧xs.length=i⟩
theorem Om {P:Program}{w:World}{K:ao}{BP:List Expr}{k:Nat}{tp:Pos} (a b z TI TO i1 i2:Addr) (D:ZipApart z TI TO i1 i2 a b) :
  Turn P w K (.Tuple BP k tp) (Rh K a b) [z,TI,TO,i1,i2] z (ZT z TI TO i1 i2 a b .none) where
 mem:=by simp
 obj:=fun i h st c hc=>by
  obtain⟨hz,xb,⟨x,y,zN⟩,⟨o1,q1,_,d1⟩,⟨o2,q2,_,d2⟩⟩:=st
  simp only[aY,cY,or_false]at hc
  rcases hc with rfl | rfl | rfl | rfl | rfl
  ·exact⟨_,hz,fun v e=>nomatch (show Bp _=wj v from e)⟩
  ·exact⟨_,xb,fun v e=>nomatch (show Data.seq _ _=wj v from e)⟩
  ·exact⟨_,zN,fun v e=>nomatch (show Data.seq _ _=wj v from e)⟩
  ·exact⟨o1,q1,fun v e=>by rw[d1]at e;cases e⟩
  ·exact⟨o2,q2,fun v e=>by rw[d2]at e;cases e⟩
 keep:=fun i h h' st k=>by
  obtain⟨hz,xb,⟨x,y,zN⟩,⟨o1,q1,r1⟩,⟨o2,q2,r2⟩⟩:=st
  exact⟨k z (by simp) _ hz,k TI (by simp) _ xb,⟨x,y,k TO (by simp) _ zN⟩,⟨o1,k i1 (by simp) _ q1,r1⟩,⟨o2,k i2 (by simp) _ q2,r2⟩⟩
 item:=by
  intro X hP hw hK hc i ah s σ H E I hf st hg
  subst hP hw hK
  obtain⟨xs,ys,x,y,hq,hr,hx,hy⟩:=hg
  obtain⟨its,rv,p,_⟩:=I.tuple hq
  obtain⟨YI,rv',p',_⟩:=I.tuple hr
  obtain⟨u,hu,ru⟩:=rv.get hx
  obtain⟨v,hv,kW⟩:=rv'.get hy
  refine N8 D st (show s.heap.IsTuple a its.toArray from p) (show s.heap.IsTuple b YI.toArray from p') (x:=u) (y:=v) (by simpa using hu) (by simpa using hv) fun h1 Z1 T1 L1 =>?_
  have cU:∀ c o,s.heap.get? c=some o->c≠s.heap.objs.size:=fun c o e=>bH (aV e)
  have zl:=cU z _ st.hz
  refine⟨_,O,wpAny_letOwnedTupleGo_zip Z1.hz fun h2 CV jT =>?_⟩
  have ext:=jT.extBut
  have kk:∀ c o,c ∉ [z,TI,TO,i1,i2]->s.heap.get? c=some o->h2.get? c=some o:=fun c o hc q=>by
   have c1:c≠z:=fun e=>hc (by simp[e])
   exact ext _ _ c1 (L1.but c o c1 (fun e=>hc (by simp[e])) (fun e=>hc (by simp[e])) (fun e=>hc (by simp[e])) q)
  have zc:ZT z TI TO i1 i2 a b .none (i+1) h2:=by
   obtain⟨_,xb,⟨x',y',zN⟩,n1,n2⟩:=Z1
   exact⟨CV,ext _ _ D.TIz xb,⟨x',y',ext _ _ D.TOz zN⟩,mR n1 ext D.i1z,mR n2 ext D.i2z⟩
  refine⟨.ref s.heap.objs.size,upd H s.heap.objs.size (.tup [x,y]),?_,O,⟨_,x,y,I.bh.fresh (au _),O,fun zs hz=>by rw[I.yY hz hq];exact hx,fun zs hz=>by rw[I.yY hz hr];exact hy,O⟩,zc,fun c hc =>?_⟩
  ·refine I.Cf (ch := [z,TI,TO,i1,i2]) (t':=s.toks) kk hf (au _) ⟨by show 2<=sizeLine;decide, [u,v],.cons ru (.cons kW .nil),?_⟩
   exact⟨_,ext _ _ zl.symm T1,O,_,O,O⟩
  ·have:c≠s.heap.objs.size:=by
    obtain⟨_,xb,⟨_,_,zN⟩,⟨_,q1,_⟩,⟨_,q2,_⟩⟩:=st
    simp only[aY,cY,or_false]at hc
    rcases hc with rfl | rfl | rfl | rfl | rfl
    ·exact zl
    ·exact cU _ _ xb
    ·exact cU _ _ zN
    ·exact cU _ _ q1
    ·exact cU _ _ q2
   rw[aF this]
   exact(hf c hc).1
 done:=by
   intro X hP hw hK hc i ah s σ H E I hf st hg
   subst hP hw hK
   obtain⟨xs,hq,hx⟩:=hg
   obtain⟨its,rv,p,_⟩:=I.tuple hq
   have hl:=rv.length
   refine Oa (I.ok.hd hc) D st (show s.heap.IsTuple a its.toArray from p) (by simp;omega) fun h1 L1=>⟨O,?_⟩
   refine I.Vu (ch := [z,TI,TO,i1,i2]) (t':=s.toks) (fun c o hc q=>L1.but c o (fun e=>hc (by simp[e])) (fun e=>hc (by simp[e])) (fun e=>hc (by simp[e])) (fun e=>hc (by simp[e])) q) hf
 self:=fun _ _ _ _ _ st h=>wpAny_pyIter_zip st.hz h
inductive MB (K:ao) (R:It->Hp->Prop) (vs:List V) (H1:Hp):Prop
 | mk:∀ a b xs ys,(vs = [.ref a,.ref b])->(bD K H1 a xs)->(bD K H1 b ys)->(R (Rh K a b) H1)->MB K R vs H1
def ab0 (K:ao) (ta:TA):TI:=fun σ H R=>ta σ H fun vs H1=>MB K R vs H1
theorem boot_zip:bootBuiltins "zip" = some (.type "zip"):=by decide +kernel
section
variable {X:Cx}
theorem Em {l m:Expr}{ta:TA}{BP:List Expr}{k:Nat}{tp p pos:Pos} (hg:Gl X "zip") (hm:X.mg "zip" = none) (ha:PA X [l,m] ta)
  (he:starEach (l :: [m]) X.env=(false,eval l X.env) :: starEach [m] X.env:=by rfl) (my:(backTo pos (starEach [m] X.env)).any (·.1)=false:=by rfl) :
  PI X (.Tuple BP k tp) (.Call (.Name "zip" p) [l,m] [] pos) (ab0 X.K ta):=by
 intro ah s σ H R I h
 refine Call_ (pH I hg hm boot_zip (gA (bF (ha pos ah s σ H _ I h) fun us s1 ⟨vs,H1,I1,r1,q1⟩ =>?_) he my))
 obtain⟨a,b,xs,ys,e,hq,hr,q⟩:=q1
 subst e
 obtain⟨u,v,rfl,ru,rv⟩:=vals2 r1
 cases ru;cases rv
 obtain⟨its,_,pa,_⟩:=I1.tuple hq
 obtain⟨YI,_,pb,_⟩:=I1.tuple hr
 have la:a < s1.heap.objs.size:=let ⟨_,e,_⟩:=pa; aV e
 have lb:b < s1.heap.objs.size:=let ⟨_,e,_⟩:=pb; aV e
 refine Ob (show s1.heap.IsTuple a its.toArray from pa) (show s1.heap.IsTuple b YI.toArray from pb) fun h1 Z1 hk =>?_
 have I2:Inv X ah σ H1 { s1 with heap:=h1 }:=I1.kept (t':=s1.toks) hk
 have fp:∀ c,s1.heap.objs.size<=c->nQ X ah H1 c:=fun c hc=>I1.xZ hc (I1.bh.fresh hc)
 refine wpAny_pyIter_zip (s := { s1 with heap:=h1 }) Z1.hz ⟨_, [s1.heap.objs.size+4,s1.heap.objs.size+2,s1.heap.objs.size+3,s1.heap.objs.size,s1.heap.objs.size+1],_,_,H1,O,I2,Om a b _ _ _ _ _ (zipApart_new la lb),Z1,fun c hc =>?_,q⟩
 simp only[aY,cY,or_false]at hc
 rcases hc with rfl | rfl | rfl | rfl | rfl
 ·exact fp _ (jK ..)
 ·exact fp _ (jK ..)
 ·exact fp _ (jK ..)
 ·exact fp _ (au _)
 ·exact fp _ (jK ..)
end
theorem S6 {K:ao}{a b:Addr}{xs ys:List V}{g:TG}{tb:TS}{D:Ends}{σ : St}{H:Hp} (eg:xs.length=ys.length) (Pv:Nat->St->Hp->Prop) (h0:Pv 0 σ H)
  (hl:∀ i σ H,i<=xs.length->Pv i σ H->bD K H a xs∧bD K H b ys)
  (hs:∀ i x y p σ H,xs[i]? = some x->ys[i]? = some y->Pv i σ H->H p=none->g (.ref p) σ (upd H p (.tup [x,y])) fun j0 H2=>tb { D with nx:=Pv (i+1),ct:=Pv (i+1),bk:=D.nx } j0 H2) (hd:∀ σ H,Pv xs.length σ H->D.nx σ H) :
  ∃ W:Nat->Nat->St->Hp->Prop,(∃ m,W 0 m σ H)∧∀ i m σ H,W i m σ H ->
   ((Rh K a b).stop i H∧D.nx σ H)∨((Rh K a b).go i H∧∃ N:St->Hp->Prop,(∀ br H',N br H'->∃ m',m' < m∧W (i+1) m' br H')∧∀ x H',(Rh K a b).yX i H x H'->g x σ H' fun j0 H2=>tb { D with nx:=N,ct:=N,bk:=D.nx } j0 H2):=by
 refine⟨fun i m σ H=>m=xs.length - i∧i<=xs.length∧Pv i σ H,⟨xs.length,by simp,bA _,h0⟩,?_⟩
 rintro i m σ H ⟨rfl,hi,p⟩
 obtain⟨q,q'⟩:=hl i σ H hi p
 by_cases cU:i < xs.length
 ·have afV:i < ys.length:=by omega
  refine .inr ⟨⟨xs,ys,xs[i],ys[i],q,q',by simp[cU],by simp[afV]⟩,Pv (i+1),fun br H' p'=>⟨xs.length - (i+1),by omega,O,cU,p'⟩,fun x H' y =>?_⟩
  obtain⟨pa,u,v,oW,rfl,hu,hv,rfl⟩:=y
  exact hs i u v pa σ H (hu xs q) (hv ys q') p oW
 ·have e:i=xs.length:=by omega
  subst e
  exact .inl ⟨⟨xs,q,O⟩,hd σ H p⟩
theorem Inv.aeS {X:Cx}{ah:List (Addr × Obj)}{σ : St}{H:Hp}{s:Shared}{a:Addr}{o:Obj}{kvs:List (Key × V)} (I:Inv X ah σ H s) (e:H a=some (Ext a o)) (d:Rm X.prog X.w a o kvs):Inv X ah σ (upd H a (.dK kvs)) s:=by
 obtain⟨z,hd,vs,ep,c7,hx⟩:=d
 have ho:=mB I.bh e
 obtain⟨o',es,h1,h2⟩:=hx _ ho
 exact uk (h':=s.heap) (t':=s.toks) I (by rw[e];exact fq) (AS _ _) ⟨o,ho⟩ (JA z hd c7 ⟨o',es,ep,h1,h2⟩)
inductive aaU (P:Program) (w:World) (N:St->Hp->Prop) (σ : St) (H:Hp):Prop
 | mk (a:Addr) (o:Obj) (kvs:List (Key × V)) (e:H a=some (Ext a o)) (d:Rm P w a o kvs) (q:N σ (upd H a (.dK kvs))):aaU P w N σ H
def abr (P:Program) (w:World) (t:TS):TS:=fun D σ H=>t { D with nx:=aaU P w D.nx } σ H
theorem VP {X:Cx}{st:Stmt}{t:TS} (h:PS X st t):PS X st (abr X.prog X.w t):=by
 intro ah s σ H D I ht
 refine bF (h ah s σ H _ I ht) fun f s' hf =>?_
 cases f with
 | next =>
  obtain⟨br,H',I',a,o,kvs,e,d,q⟩:=hf
  exact⟨br,_,I'.aeS e d,q⟩
 | _=>exact hf
section
variable {prog:Program}{w:World}{A:Around}{E:Value->Shared->Prop}{s:Shared}
theorem Fj {it d:Addr}{i ep:Nat}{es:Array DictEntry}{od:Obj}{Q:Option Value->Shared->Prop} (fS:s.heap.IsKeyIter it d i es.size ep) (pL:s.heap.get? d=some od) (gx:od.data = .dict es ep) (cU:i < es.size)
  (hQ:∀ h',h'.IsKeyIter it d (i+1) es.size ep->cq it s.heap h'->Q (some es[i].key) { s with heap:=h' }):wpAny (model prog w) A (pyNext (.ref it)) Q E s:=by
 obtain⟨o,ho,hc,hd⟩:=id fS
 have xV:gp "dict_keyiterator" = false:=by decide
 have EF:(s.heap.update it (gM (·.setIfInBounds 1 (rawInt ((i:Int)+1))))).IsKeyIter it d (i+1) es.size ep :=
  ⟨_,dZ _ ho (jg (dO hd _)),(nO ..).trans hc,by rw[dO hd];simp[rawInt]⟩
 unfold pyNext
 refine wpAny_bind (wpAny_attempt (wpAny_callSpecial?_slot (name:=eS "__next__") fS.typeIs gm (wpAny_call_entry gm fS.typeIs qm ?_ (qi _))))
 refine wpAny_bind (wpAny_pure (wpAny_bind (wpAny_bind (wpAny_bind (wpAny_typeNameOfWhole_keyiter fS.typeIs (wpAny_pure (wpAny_bind (wpAny_fieldsOf ho hd ?_))))))))
 rw[xV]
 show wpAny _ _ (if (aQ d == di)=true then _ else _) _ _ s
 rw[if_neg (show ¬ ((aQ d == di)=true) from bb)]
 refine wpAny_bind (wpAny_pure (wpAny_bind (wpAny_dictEntries pL gx ?_)))
 rw[if_neg (by simp)]
 refine wpAny_bind (wpAny_pure (wpAny_bind (wpAny_dictEpoch pL gx ?_)))
 rw[if_neg (by simp)]
 refine wpAny_pure ?_
 simp only[show ¬ ((i:Int) < 0) from by omega,if_false,cx,hU cU]
 refine wpAny_bind (wpAny_bind (wpAny_typeNameOfWhole_keyiter fS.typeIs (wpAny_pure (wpAny_bind (wpAny_isOneOf_keyiter fS.typeIs ?_)))))
 show wpAny _ _ (setField (.ref it) 1 (rawInt ((i:Int)+1)) >>= _) _ _ s
 refine wpAny_bind (wpAny_setField ho hd (by simp) (wpAny_bind (wpAny_holding ?_)))
 refine wpAny_bind (wpAny_isOneOf_keyiter (s := { s with heap:=s.heap.update it (gM (·.setIfInBounds 1 (rawInt ((i:Int)+1)))) }) EF.typeIs ?_)
 show wpAny _ _ (pure es[i].key) _ _ _
 exact wpAny_pure (wpAny_pure ⟨_,O,wpAny_pure (hQ _ EF (cW ..))⟩)
theorem Hx {it d:Addr}{i ep:Nat}{es:Array DictEntry}{od:Obj}{Q:Option Value->Shared->Prop} (hh:A.handled=none) (fS:s.heap.IsKeyIter it d i es.size ep) (pL:s.heap.get? d=some od) (gx:od.data = .dict es ep) (IZ:es.size<=i)
  (hQ:∀ h',rp it s.heap h'->Q none { s with heap:=h' }):wpAny (model prog w) A (pyNext (.ref it)) Q E s:=by
 obtain⟨o,ho,hc,hd⟩:=id fS
 have xV:gp "dict_keyiterator" = false:=by decide
 unfold pyNext
 refine wpAny_bind (wpAny_attempt (wpAny_callSpecial?_slot (name:=eS "__next__") fS.typeIs gm (wpAny_call_entry gm fS.typeIs qm ?_ (qi _))))
 refine wpAny_bind (wpAny_pure (wpAny_bind (wpAny_bind (wpAny_bind (wpAny_typeNameOfWhole_keyiter fS.typeIs (wpAny_pure (wpAny_bind (wpAny_fieldsOf ho hd ?_))))))))
 rw[xV]
 show wpAny _ _ (if (aQ d == di)=true then _ else _) _ _ s
 rw[if_neg (show ¬ ((aQ d == di)=true) from bb)]
 refine wpAny_bind (wpAny_pure (wpAny_bind (wpAny_dictEntries pL gx ?_)))
 rw[if_neg (by simp)]
 refine wpAny_bind (wpAny_pure (wpAny_bind (wpAny_dictEpoch pL gx ?_)))
 rw[if_neg (by simp)]
 refine wpAny_pure ?_
 simp only[show ¬ ((i:Int) < 0) from by omega,if_false,cx,kH IZ]
 refine wpAny_bind (wpAny_bind (wpAny_typeNameOfWhole_keyiter fS.typeIs (wpAny_pure ?_)))
 show wpAny _ _ (setField (.ref it) 0 .none >>= _) _ _ s
 refine wpAny_bind (wpAny_setField ho hd (by simp) ?_)
 refine DY (s := { s with heap:=_ }) (show A.in1.handled=none from hh) fun h' e hk he =>?_
 refine wpAny_bind (wpAny_isInstance (T := "StopIteration") (b:=true) (let ⟨o,a,b⟩:=he; ⟨o,a,b⟩) isSubtype_stop (wpAny_pure (hQ _ fun c o' n q=>hk c o' ((cW ..).extBut c o' n q))))
theorem OS {it d:Addr}{i ep:Nat}{es:Array DictEntry}{od:Obj}{Q:Option Value->Shared->Prop} (fS:s.heap.IsValIter it d i es.size ep) (pL:s.heap.get? d=some od) (gx:od.data = .dict es ep) (cU:i < es.size)
  (hQ:∀ h',h'.IsValIter it d (i+1) es.size ep->cq it s.heap h'->Q (some es[i].val) { s with heap:=h' }):wpAny (model prog w) A (pyNext (.ref it)) Q E s:=by
 obtain⟨o,ho,hc,hd⟩:=id fS
 have xV:gp "dict_valueiterator" = false:=by decide
 have EF:(s.heap.update it (gM (·.setIfInBounds 1 (rawInt ((i:Int)+1))))).IsValIter it d (i+1) es.size ep :=
  ⟨_,dZ _ ho (jg (dO hd _)),(nO ..).trans hc,by rw[dO hd];simp[rawInt]⟩
 unfold pyNext
 refine wpAny_bind (wpAny_attempt (wpAny_callSpecial?_slot (name:=eS "__next__") fS.typeIs fO (wpAny_call_entry fO fS.typeIs pe ?_ (oN _))))
 refine wpAny_bind (wpAny_pure (wpAny_bind (wpAny_bind (wpAny_bind (wpAny_typeNameOfWhole_valiter fS.typeIs (wpAny_pure (wpAny_bind (wpAny_fieldsOf ho hd ?_))))))))
 rw[xV]
 show wpAny _ _ (if (aQ d == di)=true then _ else _) _ _ s
 rw[if_neg (show ¬ ((aQ d == di)=true) from bb)]
 refine wpAny_bind (wpAny_pure (wpAny_bind (wpAny_dictEntries pL gx ?_)))
 rw[if_neg (by simp)]
 refine wpAny_bind (wpAny_pure (wpAny_bind (wpAny_dictEpoch pL gx ?_)))
 rw[if_neg (by simp)]
 refine wpAny_pure ?_
 simp only[show ¬ ((i:Int) < 0) from by omega,if_false,cx,hU cU]
 refine wpAny_bind (wpAny_bind (wpAny_typeNameOfWhole_valiter fS.typeIs (wpAny_pure (wpAny_bind (wpAny_isOneOf_valiter fS.typeIs ?_)))))
 show wpAny _ _ (setField (.ref it) 1 (rawInt ((i:Int)+1)) >>= _) _ _ s
 refine wpAny_bind (wpAny_setField ho hd (by simp) (wpAny_bind (wpAny_holding ?_)))
 refine wpAny_bind (wpAny_isOneOf_valiter (s := { s with heap:=s.heap.update it (gM (·.setIfInBounds 1 (rawInt ((i:Int)+1)))) }) EF.typeIs ?_)
 show wpAny _ _ (Gx (.ref it) _ >>= _) _ _ _
 refine wpAny_bind (wpAny_isOneOf_valiter (s := { s with heap:=s.heap.update it (gM (·.setIfInBounds 1 (rawInt ((i:Int)+1)))) }) EF.typeIs ?_)
 show wpAny _ _ (pure es[i].val) _ _ _
 exact wpAny_pure (wpAny_pure ⟨_,O,wpAny_pure (hQ _ EF (cW ..))⟩)
theorem RN {it d:Addr}{i ep:Nat}{es:Array DictEntry}{od:Obj}{Q:Option Value->Shared->Prop} (hh:A.handled=none) (fS:s.heap.IsValIter it d i es.size ep) (pL:s.heap.get? d=some od) (gx:od.data = .dict es ep) (IZ:es.size<=i)
  (hQ:∀ h',rp it s.heap h'->Q none { s with heap:=h' }):wpAny (model prog w) A (pyNext (.ref it)) Q E s:=by
 obtain⟨o,ho,hc,hd⟩:=id fS
 have xV:gp "dict_valueiterator" = false:=by decide
 unfold pyNext
 refine wpAny_bind (wpAny_attempt (wpAny_callSpecial?_slot (name:=eS "__next__") fS.typeIs fO (wpAny_call_entry fO fS.typeIs pe ?_ (oN _))))
 refine wpAny_bind (wpAny_pure (wpAny_bind (wpAny_bind (wpAny_bind (wpAny_typeNameOfWhole_valiter fS.typeIs (wpAny_pure (wpAny_bind (wpAny_fieldsOf ho hd ?_))))))))
 rw[xV]
 show wpAny _ _ (if (aQ d == di)=true then _ else _) _ _ s
 rw[if_neg (show ¬ ((aQ d == di)=true) from bb)]
 refine wpAny_bind (wpAny_pure (wpAny_bind (wpAny_dictEntries pL gx ?_)))
 rw[if_neg (by simp)]
 refine wpAny_bind (wpAny_pure (wpAny_bind (wpAny_dictEpoch pL gx ?_)))
 rw[if_neg (by simp)]
 refine wpAny_pure ?_
 simp only[show ¬ ((i:Int) < 0) from by omega,if_false,cx,kH IZ]
 refine wpAny_bind (wpAny_bind (wpAny_typeNameOfWhole_valiter fS.typeIs (wpAny_pure ?_)))
 show wpAny _ _ (setField (.ref it) 0 .none >>= _) _ _ s
 refine wpAny_bind (wpAny_setField ho hd (by simp) ?_)
 refine DY (s := { s with heap:=_ }) (show A.in1.handled=none from hh) fun h' e hk he =>?_
 refine wpAny_bind (wpAny_isInstance (T := "StopIteration") (b:=true) (let ⟨o,a,b⟩:=he; ⟨o,a,b⟩) isSubtype_stop (wpAny_pure (hQ _ fun c o' n q=>hk c o' ((cW ..).extBut c o' n q))))
theorem Fi {d:Addr}{ep:Nat}{es:Array DictEntry}{od:Obj}{Q:Value->Shared->Prop} (hd:(d == sysModules)=false) (hT:s.TypeIs (.ref d) "dict") (pL:s.heap.get? d=some od) (gx:od.data = .dict es ep)
  (hQ:Q (.ref s.heap.objs.size) { s with heap:=s.heap.push { cls := .type "dict_keyiterator",data := .fields #[.ref d,.int 0 0,.int es.size 0,.int ep 0] } }):wpAny (model prog w) A (pyIter (.ref d)) Q E s:=by
 refine wpAny_pyIter_slot hT F.slot_dict_iter (wpAny_call_entry F.slot_dict_iter hT F.entry_dict_iter ?_ (F.args_dict_iter_1 _))
 unfold Builtin.«dict.__iter__» Builtin.Dict.dictSlotNone
 refine wpAny_bind (wpAny_bind (wpAny_notOrdered_dict hT (show wpAny _ _ (pure (aQ d)) _ _ s from wpAny_pure ?_)))
 show wpAny _ _ (lD d >>= _) _ _ s
 unfold lD
 rw[if_neg (by rw[hd];exact bb)]
 refine wpAny_bind (wpAny_pure (wpAny_bind (wpAny_dictEntries pL gx (wpAny_bind (wpAny_dictEpoch pL gx ?_)))))
 refine wpAny_bind (wpAny_newObj_type (wpAny_pure ⟨_,O, "dict_keyiterator",_,⟨_,aR _ rfl,O⟩,gm.lookup,?_⟩))
 simpa [rawInt] using hQ
theorem OR {v d:Addr}{ep:Nat}{es:Array DictEntry}{od:Obj}{Q:Value->Shared->Prop} (hv:s.heap.IsValuesView v d) (pL:s.heap.get? d=some od) (gx:od.data = .dict es ep)
  (hQ:Q (.ref s.heap.objs.size) { s with heap:=s.heap.push { cls := .type "dict_valueiterator",data := .fields #[.ref d,.int 0 0,.int es.size 0,.int ep 0] } }):wpAny (model prog w) A (pyIter (.ref v)) Q E s:=by
 obtain⟨ov,hov,hcv,hdv⟩:=id hv
 refine wpAny_pyIter_slot hv.typeIs vB (wpAny_call_entry vB hv.typeIs F.entry_dict_values_iter ?_ (F.args_dict_values_iter_1 _))
 unfold Builtin.«dict_values.__iter__» GN DR
 refine wpAny_bind (wpAny_pure (wpAny_bind (wpAny_bind (wpAny_field hov hdv (x := .ref d) rfl (wpAny_pure ?_)))))
 have xV:gp "dict_valueiterator" = false:=by decide
 refine wpAny_bind (wpAny_bind (wpAny_dictEntries pL gx (wpAny_bind (wpAny_dictEpoch pL gx ?_))))
 simp only[xV,dP,if_false]
 refine wpAny_newObj_type (wpAny_pure ⟨_,O, "dict_valueiterator",_,⟨_,aR _ rfl,O⟩,fO.lookup,?_⟩)
 simpa [rawInt] using hQ
theorem OQ {d:Addr} (hd:(d == sysModules)=false):MeetsIn prog w (Builtin.«dict.values» ⟨[.ref d], []⟩) (fun _ R s=>s.TypeIs (.ref d) "dict" ∧
   R (.ok (.ret (.ref s.heap.objs.size))) { s with heap:=s.heap.push { cls := .type "dict_values",data := .fields #[.ref d] } }) :=
 .of_wp fun A R s ⟨hT,h⟩=>by
  unfold Builtin.«dict.values»
  refine wpAny_bind ?_
  unfold Builtin.Dict.noArgs
  refine wpAny_bind (wpAny_notOrdered_dict hT (show wpAny _ _ (pure d) _ _ s from wpAny_pure ?_))
  show wpAny _ _ (lD d >>= _) _ _ s
  unfold lD
  rw[if_neg (by rw[hd];exact bb)]
  exact wpAny_bind (wpAny_pure (wpAny_bind (wpAny_newObj_type (wpAny_pure ⟨_,O,h⟩))))
end
def qB (P:Program) (w:World) (H:Hp) (a:Addr) (o:Obj) (kvs:List (NK × V)):Prop := ∃ (xs:List (NK × Addr × Value)) (es:Array DictEntry) (ep:Nat),H a=some (Ext a o)∧KN H kvs xs∧o.data = .dict es ep∧es.toList=xs.map (entryOfKey (kZ P w))
theorem DN.o {P:Program}{w:World}{H:Hp}{a:Addr}{kvs:List (NK × V)} (d:DN P w H a kvs):∃ o,qB P w H a o kvs:=by
 obtain⟨_,_,xs,o,es,ep,h1,h2,_,h4,h5,_⟩:=d
 exact⟨o,xs,es,ep,h1,h2,h4,h5⟩
theorem qB.keep {P:Program}{w:World} {H H':Hp}{a:Addr}{o:Obj}{kvs:List (NK × V)} (d:qB P w H a o kvs) (ha:H a=some (Ext a o)->H' a=some (Ext a o)) (ht:∀ b ys,H b=some (.tup ys)->H' b=some (.tup ys)):qB P w H' a o kvs:=by
 obtain⟨xs,es,ep,h1,h2,h3⟩:=d
 exact⟨xs,es,ep,ha h1,h2.keeps ht,h3⟩
theorem qB.same {P:Program}{w:World} {H H':Hp}{a:Addr}{o:Obj}{kvs:List (NK × V)} (d:qB P w H a o kvs) (s:bu H H'):qB P w H' a o kvs:=d.keep (s _ _) (fun b ys=>s _ _)
theorem entry_at {P:Program}{w:World}{H:Hp}{kvs:List (NK × V)}{xs:List (NK × Addr × Value)}{es:Array DictEntry} (r:KN H kvs xs) (he:es.toList=xs.map (entryOfKey (kZ P w))):es.size=kvs.length∧∀ i (h:i < es.size),∃ kv b,kvs[i]? = some kv∧es[i].key = .ref b∧fA H kv.1 b∧RelV kv.2 es[i].val:=by
 have l1:es.size=xs.length:=by rw[<- dB,he,ar]
 have l2:=aP r
 refine⟨by omega,fun i h =>?_⟩
 have hx:xs[i]? = some (xs[i]'(by omega)):=aj (by omega)
 have hk:kvs[i]? = some (kvs[i]'(by omega)):=aj (by omega)
 obtain⟨q,hq,e1,e2,e3⟩:=Paired.at r hk
 rw[hx]at hq
 cases hq
 have UL:es[i]=entryOfKey (kZ P w) (xs[i]'(by omega)):=by
  have:es.toList[i]? = (xs.map (entryOfKey (kZ P w)))[i]? := by rw[he]
  rw[aG,hx,fV,hU h]at this
  exact aH this
 exact⟨_,_,hk,by rw[UL];rfl,e2,by rw[UL];exact e3⟩
def J0 (P:Program) (w:World) (a:Addr) (o:Obj) (kvs:List (NK × V)):It :=
 ⟨fun i H=>i < kvs.length∧qB P w H a o kvs,fun i H x H'=>H'=H∧∃ kv b,kvs[i]? = some kv∧x = .ref b∧fA H kv.1 b,fun i H=>kvs.length<=i∧qB P w H a o kvs⟩
def JZ (P:Program) (w:World) (a:Addr) (o:Obj) (kvs:List (NK × V)):It :=
 ⟨fun i H=>i < kvs.length∧qB P w H a o kvs,fun i H x H'=>H'=H∧∃ kv,kvs[i]? = some kv∧x=kv.2,fun i H=>kvs.length<=i∧qB P w H a o kvs⟩
theorem MQ {P:Program}{w:World}{K:ao}{tg:Expr} (a it:Addr) {o:Obj}{kvs:List (NK × V)}{es:Array DictEntry}{ep:Nat} (gx:o.data = .dict es ep) :
  Turn P w K tg (J0 P w a o kvs) [it] it (fun i h=>h.IsKeyIter it a i es.size ep) where
 mem:=by simp
 obj:=fun i h st b hb=>by
  have e:b=it:=by simpa using hb
  subst e
  obtain⟨o,e,c,d⟩:=st
  exact⟨o,e,fun v z=>by rw[d]at z;cases z⟩
 keep:=fun i h h' st k=>st.at fun o e=>k it (by simp) o e
 item:=by
  intro X hP hw hK hc i ah s σ H E I hf st hg
  subst hP hw hK
  obtain⟨hi,xs,zP,Ju,hH,c7,uQ,gF⟩:=hg
  rw[gx]at uQ
  cases uQ
  obtain⟨hsz,A9⟩:=entry_at c7 gF
  obtain⟨kv,b,cZ,ek,nk,_⟩:=A9 i (by omega)
  obtain⟨f0,f1,f2,f3,f4,f5⟩:=hf it (by simp)
  refine Fj st (mB I.bh hH) gx (by omega) fun h' mT sb =>?_
  have I1:Inv X ah σ H { s with heap:=h' }:=I.turned (t':=s.toks) (fun b o hb e=>(sb.2 b hb).trans e) f0 f1 f3 f4 f5
  obtain⟨o,e,c,d⟩:=id mT
  exact⟨_,O,AF (s := { s with heap:=h' }) e c d (by decide) ⟨.ref b,H,I1,by rw[ek];rfl,⟨O,kv,b,cZ,O,nk⟩,mT,fun b hb=>(hf b hb).1⟩⟩
 done:=by
   intro X hP hw hK hc i ah s σ H E I hf st hg
   subst hP hw hK
   obtain⟨hi,xs,zP,Ju,hH,c7,uQ,gF⟩:=hg
   rw[gx]at uQ
   cases uQ
   obtain⟨hsz,_⟩:=entry_at c7 gF
   obtain⟨f0,f1,f2,f3,f4,f5⟩:=hf it (by simp)
   exact Hx (I.ok.hd hc) st (mB I.bh hH) gx (by omega) fun h' eb=>⟨O,I.turned (t':=s.toks) (fun b o hb e=>eb b o hb e) f0 f1 f3 f4 f5⟩
 self:=fun _ _ _ _ _ st h=>wpAny_pyIter_keyiter st h
theorem MN {P:Program}{w:World}{K:ao}{tg:Expr} (a it:Addr) {o:Obj}{kvs:List (NK × V)}{es:Array DictEntry}{ep:Nat} (gx:o.data = .dict es ep) :
  Turn P w K tg (JZ P w a o kvs) [it] it (fun i h=>h.IsValIter it a i es.size ep) where
 mem:=by simp
 obj:=fun i h st b hb=>by
  have e:b=it:=by simpa using hb
  subst e
  obtain⟨o,e,c,d⟩:=st
  exact⟨o,e,fun v z=>by rw[d]at z;cases z⟩
 keep:=fun i h h' st k=>st.at fun o e=>k it (by simp) o e
 item:=by
  intro X hP hw hK hc i ah s σ H E I hf st hg
  subst hP hw hK
  obtain⟨hi,xs,zP,Ju,hH,c7,uQ,gF⟩:=hg
  rw[gx]at uQ
  cases uQ
  obtain⟨hsz,A9⟩:=entry_at c7 gF
  obtain⟨kv,b,cZ,ek,nk,rv⟩:=A9 i (by omega)
  obtain⟨f0,f1,f2,f3,f4,f5⟩:=hf it (by simp)
  refine OS st (mB I.bh hH) gx (by omega) fun h' mT sb =>?_
  have I1:Inv X ah σ H { s with heap:=h' }:=I.turned (t':=s.toks) (fun b o hb e=>(sb.2 b hb).trans e) f0 f1 f3 f4 f5
  obtain⟨o,e,c,d⟩:=id mT
  exact⟨_,O,AF (s := { s with heap:=h' }) e c d (by decide) ⟨kv.2,H,I1,rv,⟨O,kv,cZ,O⟩,mT,fun b hb=>(hf b hb).1⟩⟩
 done:=by
   intro X hP hw hK hc i ah s σ H E I hf st hg
   subst hP hw hK
   obtain⟨hi,xs,zP,Ju,hH,c7,uQ,gF⟩:=hg
   rw[gx]at uQ
   cases uQ
   obtain⟨hsz,_⟩:=entry_at c7 gF
   obtain⟨f0,f1,f2,f3,f4,f5⟩:=hf it (by simp)
   exact RN (I.ok.hd hc) st (mB I.bh hH) gx (by omega) fun h' eb=>⟨O,I.turned (t':=s.toks) (fun b o hb e=>eb b o hb e) f0 f1 f3 f4 f5⟩
 self:=fun _ _ _ _ _ st h=>wpAny_pyIter_valiter st h
inductive JY (P:Program) (w:World) (R:It->Hp->Prop) (x:V) (H1:Hp):Prop
 | mk (a:Addr) (kvs:List (NK × V)) (e:x = .ref a) (ea:DN P w H1 a kvs) (q:∀ o,qB P w H1 a o kvs->R (J0 P w a o kvs) H1):JY P w R x H1
def YR (P:Program) (w:World) (tl:TE):TI:=fun σ H R=>tl σ H fun x H1=>JY P w R x H1
inductive JX (P:Program) (w:World) (R:It->Hp->Prop) (x:V) (H1:Hp):Prop
 | mk (a:Addr) (kvs:List (NK × V)) (e:x = .ref a) (ea:DN P w H1 a kvs) (q:∀ o,qB P w H1 a o kvs->R (JZ P w a o kvs) H1):JX P w R x H1
def YQ (P:Program) (w:World) (tl:TE):TI:=fun σ H R=>tl σ H fun x H1=>JX P w R x H1
theorem RX {X:Cx}{tg l:Expr}{tl:TE} (hl:PE X l tl):PI X tg l (YR X.prog X.w tl):=by
 intro ah s σ H R I h
 refine bF (hl ah s σ H _ I h) fun v s1 ⟨x,H1,I1,r1,q1⟩ =>?_
 obtain⟨a,kvs,e,d,q⟩:=q1
 subst e
 obtain rfl:v=aQ a:=r1
 obtain⟨o,Di⟩:=d.o
 have hT:=FQ I1 d
 have Lw:(a == sysModules)=false:=d.2.1
 have q:=q o Di
 obtain⟨xs,es,ep,hH,c7,gx,gF⟩:=Di
 refine Fi Lw hT (mB I1.bh hH) gx ?_
 refine⟨_, [_],_,_,H1,O,I1.kept (t':=s1.toks) fun b o e=>az _ e,MQ a _ gx,⟨_,aR _ rfl,O,O⟩,fun b hb =>?_,q⟩
 have e:b=s1.heap.objs.size:=by simpa using hb
 subst e
 exact I1.xZ (au _) (I1.bh.fresh (au _))
theorem RW {X:Cx}{tg o:Expr}{tl:TE}{dv de:Pos} (ho:PE X o tl) (pN:attributeBase o "values" X.env (eval o X.env)=eval o X.env:=by rfl) (pM:(dv.endLine == de.line)=true:=by rfl) :
  PI X tg (.Call (.Attribute o "values" dv) [] [] de) (YQ X.prog X.w tl):=by
 intro ah s σ H R I h
 refine wpAny_Call_method0_late pN pM (bF (ho ah s σ H _ I h) fun v s1 ⟨x,H1,I1,r1,q1⟩ =>?_)
 obtain⟨a,kvs,e,d,q⟩:=q1
 subst e
 obtain rfl:v=aQ a:=r1
 obtain⟨o,Di⟩:=d.o
 obtain⟨t1,t2,_⟩:=zF I1 ⟨kvs,d⟩
 have Lw:(a == sysModules)=false:=d.2.1
 have q:=q o Di
 obtain⟨xs,es,ep,hH,c7,gx,gF⟩:=Di
 refine⟨"dict", "dict.values",gw,jE,ve,t1,t2,eG rfl (qw ?_)⟩
 refine call_meetsIn jE t1 tZ (sS _) (OQ Lw) ⟨t1,?_⟩
 have kp:∀ b o',s1.heap.get? b=some o'->(s1.heap.push { cls := .type "dict_values",data := .fields #[.ref a] }).get? b=some o':=fun b o' e=>az _ e
 have I2:Inv X ah σ H1 { s1 with heap:=s1.heap.push { cls := .type "dict_values",data := .fields #[.ref a] } }:=I1.kept (t':=s1.toks) kp
 refine OR (d:=a) ⟨_,aR _ rfl,O,O⟩ (mB I2.bh hH) gx ?_
 refine⟨_, [_],_,_,H1,O,I2.kept (t':=s1.toks) fun b o e=>az _ e,MN a _ gx,⟨_,aR _ rfl,O,O⟩,fun b hb =>?_,q⟩
 have e:b=(s1.heap.push { cls := .type "dict_values",data := .fields #[.ref a] }).objs.size:=by simpa using hb
 subst e
 exact I2.xZ (au _) (I2.bh.fresh (au _))
section
variable {P:Program}{w:World}{a:Addr}{o:Obj}{kvs:List (NK × V)}{g:TG}{tb:TS}{D:Ends}{σ : St}{H:Hp}
theorem Qp (Pv:Nat->St->Hp->Prop) (h0:Pv 0 σ H) (hl:∀ i σ H,i<=kvs.length->Pv i σ H->qB P w H a o kvs)
  (hs:∀ i (kv:NK × V) b σ H,kvs[i]? = some kv->fA H kv.1 b->Pv i σ H->g (.ref b) σ H fun j0 H2=>tb { D with nx:=Pv (i+1),ct:=Pv (i+1),bk:=D.nx } j0 H2) (hd:∀ σ H,Pv kvs.length σ H->D.nx σ H) :
  ∃ W:Nat->Nat->St->Hp->Prop,(∃ m,W 0 m σ H)∧∀ i m σ H,W i m σ H ->
   ((J0 P w a o kvs).stop i H∧D.nx σ H)∨((J0 P w a o kvs).go i H∧∃ N:St->Hp->Prop,(∀ br H',N br H'->∃ m',m' < m∧W (i+1) m' br H')∧∀ x H',(J0 P w a o kvs).yX i H x H'->g x σ H' fun j0 H2=>tb { D with nx:=N,ct:=N,bk:=D.nx } j0 H2):=by
 refine⟨fun i m σ H=>m=kvs.length - i∧i<=kvs.length∧Pv i σ H,⟨kvs.length,by simp,bA _,h0⟩,?_⟩
 rintro i m σ H ⟨rfl,hi,hp⟩
 by_cases cU:i < kvs.length
 ·refine .inr ⟨⟨cU,hl i σ H hi hp⟩,Pv (i+1),fun br H' h'=>⟨kvs.length - (i+1),by omega,O,cU,h'⟩,?_⟩
  rintro x H' ⟨rfl,kv,b,cZ,rfl,nk⟩
  exact hs i kv b σ _ cZ nk hp
 ·have e:i=kvs.length:=by omega
  subst e
  exact .inl ⟨⟨au _,hl _ σ H hi hp⟩,hd σ H hp⟩
theorem Qo (Pv:Nat->St->Hp->Prop) (h0:Pv 0 σ H) (hl:∀ i σ H,i<=kvs.length->Pv i σ H->qB P w H a o kvs)
  (hs:∀ i (kv:NK × V) σ H,kvs[i]? = some kv->Pv i σ H->g kv.2 σ H fun j0 H2=>tb { D with nx:=Pv (i+1),ct:=Pv (i+1),bk:=D.nx } j0 H2) (hd:∀ σ H,Pv kvs.length σ H->D.nx σ H) :
  ∃ W:Nat->Nat->St->Hp->Prop,(∃ m,W 0 m σ H)∧∀ i m σ H,W i m σ H ->
   ((JZ P w a o kvs).stop i H∧D.nx σ H)∨((JZ P w a o kvs).go i H∧∃ N:St->Hp->Prop,(∀ br H',N br H'->∃ m',m' < m∧W (i+1) m' br H')∧∀ x H',(JZ P w a o kvs).yX i H x H'->g x σ H' fun j0 H2=>tb { D with nx:=N,ct:=N,bk:=D.nx } j0 H2):=by
 refine⟨fun i m σ H=>m=kvs.length - i∧i<=kvs.length∧Pv i σ H,⟨kvs.length,by simp,bA _,h0⟩,?_⟩
 rintro i m σ H ⟨rfl,hi,hp⟩
 by_cases cU:i < kvs.length
 ·refine .inr ⟨⟨cU,hl i σ H hi hp⟩,Pv (i+1),fun br H' h'=>⟨kvs.length - (i+1),by omega,O,cU,h'⟩,?_⟩
  rintro x H' ⟨rfl,kv,cZ,rfl⟩
  exact hs i kv σ _ cZ hp
 ·have e:i=kvs.length:=by omega
  subst e
  exact .inl ⟨⟨au _,hl _ σ H hi hp⟩,hd σ H hp⟩
end
section
variable {X:Cx}{ah:List (Addr × Obj)}{σ : St}{H:Hp}{s:Shared}{a b:Addr}{kvs:List (NK × V)}{k:NK}{v:V}{A:Around}{E:Value->Shared->Prop}
theorem Ww {Q:Value->Shared->Prop}{z:V}{r:Value} (hu:A.units+10 < cLine) (I:Inv X ah σ H s) (d:DN X.prog X.w H a kvs) (nk:fA H k b) (rz:RelV z r) (h:∀ w' s',Inv X ah σ H s'->RelV ((bR kvs k).getD z) w'->Q w' s') :
  wpAny (model X.prog X.w) A (call (.builtin "dict.get") [.ref a,.ref b,r]) Q E s:=by
 obtain⟨_,hd,xs,c7,dd⟩:=tW I.bh d
 exact call_meetsIn lA dd.typeIs wG (PySem.F.args_dict_get_3 _ _ _) (meetsH_dict_get_default (kZ X.prog X.w) a b hd r) ⟨(show A.units+1+5 < cLine by omega),k,xs,oS I.bh nk,dd,h _ _ (I.tok _) ((c7.val k).getD rz)⟩
end
inductive JV (P:Program) (w:World) (ty tx:TE) (σ : St) (Q:VK) (x:V) (H1:Hp):Prop
 | mk (a:Addr) (z0:x = .ref a) (z1:∃ kvs,DN P w H1 a kvs) (z2:ty σ H1 fun y H2=>tx σ H2 fun z H3=>∃ b kvs k,y = .ref b∧DN P w H3 a kvs∧fA H3 k b∧Q ((bR kvs k).getD z) H3):JV P w ty tx σ Q x H1
def W7 (P:Program) (w:World) (td ty tx:TE):TE:=fun σ H Q=>td σ H fun x H1=>JV P w ty tx σ Q x H1
theorem R0 {X:Cx}{o e f:Expr}{dv de:Pos}{td ty tx:TE} (hu:X.A.units+10 < cLine) (ho:PE X o td) (he:PE X e ty) (hf:PE X f tx) (m:M2 X o "get" dv e f de):PE X (.Call (.Attribute o "get" dv) [e,f] [] de) (W7 X.prog X.w td ty tx):=by
 intro ah s σ H Q I h
 refine wpAny_Call_method m.base m.dR m.line gw lA xi (bF (ho ah s σ H _ I h) fun u s1 ⟨x,H1,I1,rx,a,ex,d,q1⟩ =>?_)
 subst ex
 obtain rfl:u=aQ a:=rx
 obtain⟨t1,t2,_⟩:=zF I1 d
 refine⟨t1,t2,?_⟩
 rw[m.trees]
 refine eG rfl (iw (gh (bF (he ah s1 σ H1 _ I1 q1) fun iv s2 ⟨y,H2,I2,ry,q2⟩ =>
  gh (bF (hf ah s2 σ H2 _ I2 q2) fun fv s3 ⟨z,H3,I3,rz,b,kvs,k,ey,d3,nk,q3⟩=>jr ?_))))
 subst ey
 obtain rfl:iv=aQ b:=ry
 exact Ww hu I3 d3 nk rz fun w' s4 I4 kW=>⟨_,H3,I4,kW,q3⟩
def abK (P:Program) (w:World):V->V->Hp->VK->Prop:=fun o i H Q=>∃ a b kvs k v,o = .ref a∧i = .ref b∧DN P w H a kvs∧fA H k b∧bR kvs k=some v∧Q v H
def abI (P:Program) (w:World):V->V->V->Hp->(Hp->Prop)->Prop:=fun o i v H Q=>∃ a b kvs k,o = .ref a∧i = .ref b∧DN P w H a kvs∧fA H k b∧kvs.length < sizeLine∧∀ φ,DN P w (upd H a (.ext φ)) a (eP kvs k v)->Q (upd H a (.ext φ))
theorem aak {X:Cx} (hu:X.A.units+10 < cLine):aa6 X (abK X.prog X.w):=by
 intro ah s σ H o i ov iv Q I ro ri h
 obtain⟨a,b,kvs,k,v,rfl,rfl,d,nk,hv,q⟩:=h
 cases ro;cases ri
 exact Dk hu I d nk hv fun w' s3 I3 kW=>⟨v,H,I3,kW,q⟩
theorem Xu {X:Cx} (hu:X.A.units+10 < cLine):NY X (abI X.prog X.w):=by
 intro ah s σ H o i v ov iv u Q I ro ri rv h
 obtain⟨a,b,kvs,k,rfl,rfl,d,nk,hl,q⟩:=h
 cases ro;cases ri
 exact Dj hu I d nk rv hl fun φ s' I' d'=>⟨_,I',q φ d'⟩
section
variable {prog:Program}{w:World}{A:Around}{E:Value->Shared->Prop}{s:Shared}{R:Result->Shared->Prop}{I:Addr}{fp wr:List Addr}{n:Nat}{P:Nat->Value->Prop}{St:Nat->Heap->Prop}{C:Heap->Prop}{bt:Nat->Nat->Bool}
def N6 (prog:Program) (w:World) (A:Around) (C:Heap->Prop) (P:Nat->Value->Prop) (bt:Nat->Nat->Bool):Prop :=
 ∀ i j vi vj (s:Shared) (Q:Value->Shared->Prop) (E:Value->Shared->Prop),C s.heap->P i vi->P j vj->Q (.bool (bt i j)) s->wpAny (model prog w) A (richCompare .Lt vi vj) Q E s
def um (wr:List Addr) (S:Addr) (h h':Heap):Prop := ∀ b o,b ∉ wr->b≠S->h.get? b=some o->h'.get? b=some o
theorem Pg (W:Walks prog w A.in1 I fp wr n P St) (BL:N6 prog w A.in1 C P bt) (S:Addr) (FN:S ∉ fp) (hC:∀ h h',C h->um wr S h h'->C h') :
  ∀ (k j:Nat) (s:Shared) (vb:Value) (c:Nat),n - (j+1)=k->j+1<=n->St (j+1) s.heap->P (argBest bt j) vb->C s.heap ->
  s.heap.get? S=some { cls := .type "list",dict:=none,data := .seq #[vb,vb] c,slots := #[] } ->
  (∀ v h' tk,P (argBest bt (n - 1)) v->um wr S s.heap h'->R (.ok (.ret v)) { s with heap:=h',toks:=tk })->codeAny (model prog w) A (.builtin "min.loop" ⟨[.ref I,.none,.ref S], []⟩) R s:=by
 have UT:S ∉ wr:=fun h=>FN (W.sub _ h)
 have AD:(toString "min" ++ toString ".loop" : String) = "min.loop" := by decide
 intro k
 induction k with
 | zero =>
  intro j s vb c hk hj iW UU U5 hS hR
  have mz:j+1=n:=by omega
  refine codeAny_builtin vt ?_
  rw[ql iT _]
  refine(show wpAny _ A.in1 (seqItems? (.ref S) >>= _) _ _ s from wpAny_bind (wpAny_seqItems hS rfl (show wpAny _ A.in1 (tryCatch (pyNext (.ref I)) _ >>= _) _ _ s from wpAny_bind (wpAny_tryCatch (W.done s _ _ (mz ▸ iW) fun h' tk qt =>?_)))))
  have Bb:=qt S _ UT hS
  refine(show wpAny _ A.in1 (updateSeq S (fun _ => #[]) >>= _) _ _ _ from wpAny_bind (wpAny_updateSeq Bb rfl (wpAny_bind (wpAny_letGo (wpAny_pure ?_)))))
  exact hR vb _ tk (by rw[<- mz];exact UU) fun b o hbw rZ e=>(dt _ _ (cM rZ)).trans (qt b o hbw e)
 | succ k ih =>
  intro j s vb c hk hj iW UU U5 hS hR
  have cU:j+1 < n:=by omega
  refine codeAny_builtin vt ?_
  rw[ql iT _]
  refine(show wpAny _ A.in1 (seqItems? (.ref S) >>= _) _ _ s from wpAny_bind (wpAny_seqItems hS rfl (show wpAny _ A.in1 (tryCatch (pyNext (.ref I)) _ >>= _) _ _ s from wpAny_bind (wpAny_tryCatch (W.item (j+1) s _ _ cU iW fun v h' tk hP NA qt =>?_)))))
  have Bb:=qt S _ UT hS
  have kb:um wr S s.heap h':=fun b o hw _ e=>qt b o hw e
  have hC1:=hC _ _ U5 kb
  show wpAny _ A.in1 (tryCatch (holding [v,v] (richCompare .Lt v vb >>= _)) _ >>= _) _ _ _
  refine wpAny_bind (wpAny_tryCatch (wpAny_holding (wpAny_bind (BL (j+1) (argBest bt j) v vb { s with heap:=h',toks:=tk } _ _ hC1 hP UU ?_))))
  refine wpAny_bind (wpAny_holding (wpAny_truthy_bool ?_))
  refine wpAny_bind (wpAny_letGo (wpAny_pure ?_))
  cases hb:bt (j+1) (argBest bt j) with
  | true =>
   simp only[if_true]
   refine wpAny_bind (wpAny_updateSeq Bb rfl (wpAny_bind (wpAny_letGo ?_)))
   rw[AD]
   have ku:∀ b o,b≠S->h'.get? b=some o->(h'.update S (ik fun _ => #[v,v])).get? b=some o:=fun b o rZ e=>(dt _ _ (cM rZ)).trans e
   refine wpAny_pure ⟨plainId_quiet iT _,ih (j+1) _ v _ (by omega) cU (W.frame _ _ _ NA fun b Qa o e=>ku b o (fun z=>FN (by rw[<- z];exact Qa)) e) (by simp only[argBest,hb,if_true];exact hP) (hC _ _ hC1 fun b o _ rZ e=>ku b o rZ e) (dZ _ Bb rfl) fun v' Jo rG Qe IV =>?_⟩
   exact hR v' Jo rG Qe fun b o hw rZ e=>IV b o hw rZ (ku b o rZ (qt b o hw e))
  | false =>
   simp only[dP,if_false]
   refine wpAny_bind (wpAny_letGo ?_)
   rw[AD]
   refine wpAny_pure ⟨plainId_quiet iT _,ih (j+1) _ vb c (by omega) cU NA (by simp only[argBest,hb,dP,if_false];exact UU) hC1 Bb fun v' Jo rG Qe IV =>?_⟩
   exact hR v' Jo rG Qe fun b o hw rZ e=>IV b o hw rZ (qt b o hw e)
theorem Nf (W:Walks prog w A.in1 I fp wr n P St) (BL:N6 prog w A.in1 C P bt) (S:Addr) (FN:S ∉ fp) (hC:∀ h h',C h->um wr S h h'->C h') (hn:0 < n) {c:Nat} (iW:St 0 s.heap) (U5:C s.heap)
  (hS:s.heap.get? S=some { cls := .type "list",dict:=none,data := .seq #[] c,slots := #[] })
  (hR:∀ v h' tk,P (argBest bt (n - 1)) v->um wr S s.heap h'->R (.ok (.ret v)) { s with heap:=h',toks:=tk }):codeAny (model prog w) A (.builtin "min.loop" ⟨[.ref I,.none,.ref S], []⟩) R s:=by
 have UT:S ∉ wr:=fun h=>FN (W.sub _ h)
 have AD:(toString "min" ++ toString ".loop" : String) = "min.loop" := by decide
 refine codeAny_builtin vt ?_
 rw[ql iT _]
 refine(show wpAny _ A.in1 (seqItems? (.ref S) >>= _) _ _ s from wpAny_bind (wpAny_seqItems hS rfl (show wpAny _ A.in1 (tryCatch (pyNext (.ref I)) _ >>= _) _ _ s from wpAny_bind (wpAny_tryCatch (W.item 0 s _ _ hn iW fun v h' tk hP NA qt =>?_)))))
 have Bb:=qt S _ UT hS
 refine(show wpAny _ A.in1 (updateSeq S (fun _ => #[v,v]) >>= _) _ _ _ from wpAny_bind (wpAny_updateSeq Bb rfl ?_))
 rw[AD]
 have ku:∀ b o,b≠S->h'.get? b=some o->(h'.update S (ik fun _ => #[v,v])).get? b=some o:=fun b o rZ e=>(dt _ _ (cM rZ)).trans e
 refine wpAny_pure ⟨plainId_quiet iT _,Pg W BL S FN hC _ 0 _ v _ rfl hn (W.frame _ _ _ NA fun b Qa o e=>ku b o (fun z=>FN (by rw[<- z];exact Qa)) e) hP (hC _ _ U5 fun b o hw rZ e=>ku b o rZ (qt b o hw e)) (dZ _ Bb rfl) fun v' Jo rG Qe IV =>?_⟩
 exact hR v' Jo rG Qe fun b o hw rZ e=>IV b o hw rZ (ku b o rZ (qt b o hw e))
theorem QF {x:Value}{Q:Value->Shared->Prop}
  (h:wpAny (model prog w) A.in1 (pyIter x) (fun it hX => ∃ I fp wr n P St bt C,it = .ref I∧Walks prog w A.in1 I fp wr n P St∧St 0 hX.heap∧(∀ b∈fp,b < hX.heap.objs.size)∧0 < n∧N6 prog w A.in1 C P bt∧C hX.heap∧(∀ h h',C h->um wr hX.heap.objs.size h h'->C h')∧(∀ h o,C h->C (h.push o)) ∧
   ∀ v h' tk,P (argBest bt (n - 1)) v->(∀ b o,b ∉ wr->hX.heap.get? b=some o->h'.get? b=some o)->Q v { hX with heap:=h',toks:=tk }) E s) :
  wpAny (model prog w) A (call (.builtin "min") [x]) Q E s:=by
 have AD:(toString "min" ++ toString ".loop" : String) = "min.loop" := by decide
 refine call_function_tree F.kind_min F.plain_min F.entry_min (F.args_min1 _) ?_
 refine(show wpAny _ A.in1 (sC "min" ["key", "default"] 0 ⟨[], []⟩ >>= _) _ _ s from wpAny_bind (wpAny_of_eq (show sC "min" ["key", "default"] 0 ⟨[], []⟩=pure [none,none] from rfl) ?_))
 refine wpAny_bind (wpAny_pure (wpAny_bind (wpAny_mono h (fun it hX sJ =>?_) fun _ _ e=>e)))
 obtain⟨I,fp,wr,n,P,St,bt,C,rfl,W,iW,hfp,hn,BL,hC0,hC,hCp,hQ⟩:=sJ
 refine wpAny_bind (wpAny_newObj_type ?_)
 have FN:hX.heap.objs.size ∉ fp:=fun hm=>eM _ (hfp _ hm)
 rw[AD]
 refine wpAny_pure ⟨plainId_quiet iT _,Nf W BL hX.heap.objs.size FN hC hn (W.frame _ _ _ iW fun b _ o e=>az _ e) (hCp _ _ hC0) (aR _ rfl) fun v h' tk hP hk =>?_⟩
 refine hQ v h' tk hP fun b o hw e=>hk b o hw (fun z =>?_) (az _ e)
 have:=aV e
 rw[z]at this
 exact absurd this (eM _)
end
theorem EM {bt:Nat->Nat->Bool} (YL:∀ i,bt i i=false) (tr:∀ i j k,bt i j=true->bt j k=true->bt i k=true):∀ m,argBest bt m<=m∧∀ j,j<=m->bt j (argBest bt m)=false
 | 0=>⟨au _,fun j hj=>by rw[show j=0 by omega];exact YL 0⟩
 | m+1=>by
  obtain⟨h1,h2⟩:=EM YL tr m
  cases e:bt (m+1) (argBest bt m) with
  | true =>
   have eb:argBest bt (m+1)=m+1:=by rw[argBest,e];rfl
   rw[eb]
   refine⟨au _,fun j hj =>?_⟩
   rcases ke hj with q | q
   ·cases e2:bt j (m+1) with
    | false=>rfl
    | true=>have:=tr j (m+1) _ e2 e;rw[h2 j (by omega)]at this;cases this
   ·rw[q];exact YL _
  | false =>
   have eb:argBest bt (m+1)=argBest bt m:=by rw[argBest,e];rfl
   rw[eb]
   refine⟨by omega,fun j hj =>?_⟩
   rcases ke hj with q | q
   ·exact h2 j (by omega)
   ·rw[q];exact e
theorem Ig:∀ a:List Int,HT.lexLt a a=false
 | []=>rfl
 | x :: a=>by rw[HT.tT,if_pos rfl];exact Ig a
theorem Lm:∀ {a b c:List Int},HT.lexLt a b=true->HT.lexLt b c=true->HT.lexLt a c=true
 | [], [],_,h,_=>by cases h
 | [],_ :: _, [],_,h=>by cases h
 | [],_ :: _,_ :: _,_,_=>rfl
 | _ :: _, [],_,h,_=>by cases h
 | _ :: _,_ :: _, [],_,h=>by cases h
 | x :: a,y :: b,z :: c,h,h'=>by
  rw[HT.tT]at h h' ⊢
  by_cases e1:x=y
  ·rw[if_pos e1]at h
   by_cases e2:y=z
   ·rw[if_pos e2]at h'
    rw[if_pos (e1.trans e2)];exact Lm h h'
   ·rw[if_neg e2]at h'
    rw[if_neg (fun q=>e2 (e1 ▸ q))]
    rw[e1];exact h'
  ·rw[if_neg e1]at h
   have h:=of_decide_eq_true h
   by_cases e2:y=z
   ·rw[if_neg (fun q=>e1 (q.trans e2.symm))]
    exact decide_eq_true (by omega)
   ·rw[if_neg e2]at h'
    have h':=of_decide_eq_true h'
    rw[if_neg (by omega)]
    exact decide_eq_true (by omega)
inductive Mz (Q:VK) (x:V) (H1:Hp):Prop
 | mk (a:Addr) (kvs:List (Key × V)) (F:Nat->List Int) (e:x = .ref a) (ea:H1 a=some (.dK kvs)) (hn:0 < kvs.length) (hF:∀ i kv,kvs[i]? = some kv->∃ p,kv.2 = .ref p∧H1 p=some (.tup ((F i).map V.int)))
  (q:∀ i kv,kvs[i]? = some kv->(∀ j,j < kvs.length->HT.lexLt (F j) (F i)=false)->Q kv.2 H1):Mz Q x H1
def W9 (td:TE):TE:=fun σ H Q=>td σ H fun x H1=>Mz Q x H1
inductive MA (Q:VK) (x:V) (H1:Hp):Prop
 | mk (a:Addr) (kvs:List (Key × V)) (F:Nat->Int) (e:x = .ref a) (ea:H1 a=some (.dK kvs)) (hn:0 < kvs.length) (hF:∀ (i:Nat) (kv:Key × V),kvs[i]? = some kv->kv.2 = .int (F i))
  (q:∀ i,i < kvs.length->(∀ j,j < kvs.length->F i<=F j)->Q (.int (F i)) H1):MA Q x H1
def Xa (td:TE):TE:=fun σ H Q=>td σ H fun x H1=>MA Q x H1
section
variable {X:Cx}{o:Expr}{td:TE}{np dv de pos:Pos}
theorem Lh {ah:List (Addr × Obj)}{σ : St}{H:Hp}{s:Shared}{Q:VK} (hc:X.calm=true) (hg:Gl X "min") (hm:X.mg "min" = none) (I:Inv X ah σ H s) {R:V->Hp->Prop} (ho:wpAny (model X.prog X.w) X.A (eval o X.env) (EP X ah σ R) X.xe s)
  (pN:attributeBase o "values" X.env (eval o X.env)=eval o X.env) (pM:(dv.endLine == de.line)=true)
  (hR:∀ x H1 s1,R x H1->Inv X ah σ H1 s1->∃ a kvs,x = .ref a∧H1 a=some (.dK kvs)∧0 < kvs.length∧∀ vs,KV kvs vs->∃ bt C,N6 X.prog X.w X.A.in1 C (fun i v=>∃ k,vs[i]? = some (k,v)) bt∧C s1.heap∧(∀ h h',C h->(∀ b o,b < s1.heap.objs.size->h.get? b=some o->h'.get? b=some o)->C h') ∧
   ∀ v k,vs[argBest bt (vs.length - 1)]? = some (k,v)->∃ y,RelV y v∧Q y H1) :
  wpAny (model X.prog X.w) X.A (eval (.Call (.Name "min" np) [.Call (.Attribute o "values" dv) [] [] de] [] pos) X.env) (EP X ah σ Q) X.xe s:=by
 refine wpAny_Call_Name_kw (pH I hg hm sj ?_ (by decide) (by decide))
 refine pU ?_ rfl rfl
 rw[show starEach [.Call (.Attribute o "values" dv) [] [] de] X.env = [(false,eval (.Call (.Attribute o "values" dv) [] [] de) X.env)] from rfl]
 refine gh ?_
 refine wpAny_Call_method0_late pN pM (bF ho fun v s1 ⟨x,H1,I1,r1,q1⟩ =>?_)
 obtain⟨a,kvs,e,ea,hn,q⟩:=hR x H1 s1 q1 I1
 subst e
 obtain rfl:v=aQ a:=r1
 obtain⟨z,hd,vs,c7,dd⟩:=GJ I1.bh ea
 obtain⟨ep,A9⟩:=dd.dictAt
 obtain⟨bt,C,BL,hC0,hC,q⟩:=q vs c7
 have hob:∀ b,aQ a = .ref b->∃ o',s1.heap.get? b=some o'∧o'.dict=none:=fun b e=>by
  cases e
  obtain⟨o',es,h1,h2,_⟩:=A9
  exact⟨o',h1,h2.2.1⟩
 refine⟨"dict", "dict.values",gw,jE,ve,dd.typeIs,hob,eG rfl (qw ?_)⟩
 refine call_meetsIn jE dd.typeIs tZ (sS _) (meets_dict_values (du X.prog X.w) a hd) ⟨⟨vs,dd⟩,?_⟩
 refine jr ?_
 have cU:a < s1.heap.objs.size:=by obtain⟨o',es,h1,_⟩:=A9;exact aV h1
 have kp:∀ b o',s1.heap.get? b=some o'->(s1.heap.push { cls := .type "dict_values",data := .fields #[.ref a] }).get? b=some o':=fun b o' e=>az _ e
 refine QF ?_
 refine wpAny_pyIter_values (knd:=du X.prog X.w) (d:=a) (kvs:=vs) (ep:=ep) ⟨_,aR _ rfl,O,O⟩ (A9.at' fun o e=>kp _ _ e) ?_
 have jT:(s1.heap.push { cls := .type "dict_values",data := .fields #[.ref a] }).objs.size=s1.heap.objs.size+1:=fG ..
 have CL:∀ b o',s1.heap.get? b=some o'->((s1.heap.push { cls := .type "dict_values",data := .fields #[.ref a] }).push { cls := .type "dict_valueiterator",data := .fields #[.ref a,.int 0 0,.int vs.length 0,.int ep 0] }).get? b=some o':=fun b o' e=>az _ (kp b o' e)
 refine⟨_,_, [(s1.heap.push { cls := .type "dict_values",data := .fields #[.ref a] }).objs.size],vs.length,_,_,bt,C,O,Walks.dictValues (knd:=du X.prog X.w) (A:=X.A.in1) (I.ok.hd hc) _ a (by rw[jT];exact bH (kN cU)) vs ep,⟨⟨_,aR _ rfl,O,O⟩,A9.at' fun o e=>CL _ _ e⟩,fun b hb =>?_,by rw[<- c7.length];exact hn,BL,hC _ _ hC0 fun b o _ e=>CL b o e,fun h h' hh hk=>hC h h' hh fun b o hb e =>?_,fun h o hh=>hC h _ hh fun b o' _ e=>az _ e,fun v h' tk hP hk =>?_⟩
 ·have e3:=fG (s1.heap.push { cls := .type "dict_values",data := .fields #[.ref a] }) { cls := .type "dict_valueiterator",data := .fields #[.ref a,.int 0 0,.int vs.length 0,.int ep 0] }
  show b < (Heap.push _ _).objs.size
  rw[e3,jT]
  rcases aY.mp hb with rfl | hb
  ·rw[jT];exact vh _
  ·rw[aB.mp hb];exact kN (kN cU)
 ·refine hk b o (fun z =>?_) ?_ e
  ·rw[aB.mp z,jT]at hb;omega
  ·intro z
   have e3:=fG (s1.heap.push { cls := .type "dict_values",data := .fields #[.ref a] }) { cls := .type "dict_valueiterator",data := .fields #[.ref a,.int 0 0,.int vs.length 0,.int ep 0] }
   have z:b=(Heap.push (s1.heap.push { cls := .type "dict_values",data := .fields #[.ref a] }) { cls := .type "dict_valueiterator",data := .fields #[.ref a,.int 0 0,.int vs.length 0,.int ep 0] }).objs.size:=z
   rw[e3,jT]at z
   omega
 ·obtain⟨k,hP⟩:=hP
  obtain⟨y,ry,qy⟩:=q v k hP
  refine⟨y,H1,?_,ry,qy⟩
  exact I1.kept fun b o' e=>hk b o' (fun z=>by
   have:=aV e
   rw[aB.mp z,jT]at this;exact absurd this (Nat.not_lt_of_le (rn _))) (CL b o' e)
theorem R3 (hu:X.A.units+1 < cLine) (hc:X.calm=true) (hg:Gl X "min") (hm:X.mg "min" = none) (ho:PE X o td) (pN:attributeBase o "values" X.env (eval o X.env)=eval o X.env:=by rfl) (pM:(dv.endLine == de.line)=true:=by rfl) :
  PE X (.Call (.Name "min" np) [.Call (.Attribute o "values" dv) [] [] de] [] pos) (W9 td):=by
 intro ah s σ H Q I h
 refine Lh hc hg hm I (ho ah s σ H _ I h) pN pM fun x H1 s1 q1 I1 =>?_
 obtain⟨a,kvs,F,rfl,ea,hn,hF,q⟩:=q1
 refine⟨a,kvs,O,ea,hn,fun vs c7 =>?_⟩
 have hl:=c7.length
 have at_:∀ (i:Nat) (k:Key) (v:Value),vs[i]? = some (k,v)->∃ p,v=aQ p∧H1 p=some (.tup ((F i).map V.int))∧∃ kv,kvs[i]? = some kv∧kv.2 = .ref p:=fun i k v e=>by
  obtain⟨kv,cZ,rv⟩:=c7.wL e
  obtain⟨p,ep,hp⟩:=hF i kv cZ
  rw[ep]at rv
  exact⟨p,rv,hp,kv,cZ,ep⟩
 refine⟨fun i j=>HT.lexLt (F i) (F j),fun h=>∀ i k v,vs[i]? = some (k,v)->∃ p its,v=aQ p∧p < s1.heap.objs.size∧IsTup h p its.toArray∧IntsAre its (F i),?_,?_,?_,?_⟩
 ·rintro i j vi vj s' Q' E' hC ⟨ki,hi⟩ ⟨kj,hj⟩ hq
  obtain⟨p,its,rfl,_,p1,i1⟩:=hC i ki vi hi
  obtain⟨p',its',rfl,_,p2,i2⟩:=hC j kj vj hj
  exact HT.Nk (A:=X.A.in1) p1 p2 i1 i2 hu hq
 ·intro i k v e
  obtain⟨p,ev,hp,_⟩:=at_ i k v e
  obtain⟨its,rv,pt,_⟩:=I1.tuple (bD.of hp)
  refine⟨p,its,ev,?_,pt,intsAre_of rv⟩
  obtain⟨o,e,_⟩:=pt
  exact aV e
 ·intro h h' hC hk i k v e
  obtain⟨p,its,ev,lt,⟨o,e1,e2⟩,ii⟩:=hC i k v e
  exact⟨p,its,ev,lt,⟨o,hk p o lt e1,e2⟩,ii⟩
 ·intro v k e
  obtain⟨p,ev,hp,kv,cZ,ekv⟩:=at_ _ k v e
  obtain⟨h1,h2⟩:=EM (bt:=fun i j=>HT.lexLt (F i) (F j)) (fun i=>Ig (F i)) (fun i j k=>Lm) (vs.length - 1)
  refine⟨kv.2,by rw[ekv,ev];rfl,q _ kv cZ fun j hj=>h2 j (by omega)⟩
theorem R4 (hc:X.calm=true) (hg:Gl X "min") (hm:X.mg "min" = none) (ho:PE X o td) (pN:attributeBase o "values" X.env (eval o X.env)=eval o X.env:=by rfl) (pM:(dv.endLine == de.line)=true:=by rfl) :
  PE X (.Call (.Name "min" np) [.Call (.Attribute o "values" dv) [] [] de] [] pos) (Xa td):=by
 intro ah s σ H Q I h
 refine Lh hc hg hm I (ho ah s σ H _ I h) pN pM fun x H1 s1 q1 I1 =>?_
 obtain⟨a,kvs,F,rfl,ea,hn,hF,q⟩:=q1
 refine⟨a,kvs,O,ea,hn,fun vs c7 =>?_⟩
 have hl:=c7.length
 have at_:∀ (i:Nat) (k:Key) (v:Value),vs[i]? = some (k,v)->∃ t,v=m6 (F i) t:=fun i k v e=>by
  obtain⟨kv,cZ,rv⟩:=c7.wL e
  rw[hF i kv cZ]at rv
  exact rv
 refine⟨fun i j=>decide (F i < F j),fun _=>True,?_,trivial,fun _ _ _ _=>trivial,?_⟩
 ·rintro i j vi vj s' Q' E' _ ⟨ki,hi⟩ ⟨kj,hj⟩ hq
  obtain⟨t,rfl⟩:=at_ i ki vi hi
  obtain⟨t',rfl⟩:=at_ j kj vj hj
  exact HT.Hw _ _ _ _ _ _ _ _ _ _ hq
 ·intro v k e
  obtain⟨t,rfl⟩:=at_ _ k v e
  obtain⟨h1,h2⟩:=EM (bt:=fun i j=>decide (F i < F j)) (fun i=>decide_eq_false (Int.lt_irrefl _)) (fun i j k a b=>decide_eq_true (Int.lt_trans (of_decide_eq_true a) (of_decide_eq_true b))) (vs.length - 1)
  refine⟨.int _,⟨t,O⟩,q _ (by omega) fun j hj =>?_⟩
  have:=of_decide_eq_false (h2 j (by omega))
  omega
end
theorem yg {K:ao}{a:Addr}{xs:List V}{te:TE}{σ : St}{caps:List (Str × Nat)}{H:Hp}{Q:VK} (ob:HO) (hS:aZ K H a xs) (hz:xs.length<=1000)
  (A8:∀ x,x∈xs->∀ H',bu H H'->∀ Q':VK,(∀ b iY,H' b=none->bu H' iY->iY b=some ob->Q' (.ref b) iY)->te (some x :: jV σ caps) H' Q')
  (hq:∀ D H' (yL:List Addr),H D=none->bu H H'->H' D=some (.lst (yL.map V.ref))->yL.length=xs.length->yL.Nodup->(∀ b∈yL,H b=none∧H' b=some ob∧b≠D)->Q (.ref D) H') :
  yu (J2 K a) (bw 0) te (bY 1 none ++ jV σ caps) H Q:=by
 intro D hD
 refine⟨fun i m τ zs H'=>m=xs.length - i∧i<=xs.length∧(∃ o, τ = o :: jV σ caps)∧bu H H'∧H' D=some (.lst zs)∧∃ yL:List Addr,zs=yL.map V.ref∧yL.length=i∧yL.Nodup∧∀ b∈yL,H b=none∧H' b=some ob∧b≠D,
  ⟨xs.length,by simp,bA _,⟨none,O⟩,bf hD _,aE, [],O,O,df,fun b hb=>nomatch hb⟩,?_⟩
 rintro i m τ zs H' ⟨rfl,hi,⟨o,rfl⟩,sm,r9,yL,rfl,eg,rV,iR⟩
 refine⟨r9,?_⟩
 by_cases cU:i < xs.length
 ·refine .inr ⟨⟨xs,xs[i],sm.seq hS,by simp[cU]⟩,?_,fun x iY y =>?_⟩
  ·rw[ar,eg];exact c6 (by omega)
  ·obtain⟨e,y⟩:=y
   subst e
   have hx:=y xs (sm.seq hS)
   show te (some x :: jV σ caps) _ _
   refine A8 x (ak hx) _ sm _ fun b H2 hb s2 hb2 =>?_
   have oY:=s2 _ _ r9
   have nbD:b≠D:=fun z=>by rw[z,r9]at hb;cases hb
   have hbH:H b=none:=sm.free hb
   refine⟨oY,xs.length - (i+1),by omega,O,cU,⟨_,O⟩,(sm.trans s2).put hD,aE,yL ++ [b],by rw[c9];rfl,by rw[aK,eg];rfl,?_,fun c hc =>?_⟩
   ·rw[eK]
    refine⟨rV,bQ.mpr ⟨cY,df⟩,fun p hp q hq e =>?_⟩
    rw[e,aB.mp hq]at hp
    have:=(iR b hp).2.1
    rw[hb]at this;cases this
   ·rcases aA.mp hc with hc | hc
    ·obtain⟨h1,h2,h3⟩:=iR c hc
     exact⟨h1,by rw[aF h3];exact s2 _ _ h2,h3⟩
    ·rw[aB.mp hc]
     exact⟨hbH,by rw[aF nbD];exact hb2,nbD⟩
 ·have e:i=xs.length:=by omega
  subst e
  exact .inl ⟨⟨xs,sm.seq hS,au _⟩,hq D H' yL hD sm r9 eg rV iR⟩
end L2
namespace Sw
open PySem L2
abbrev cy:=Nat × Nat × Nat
def sumTo (f:Nat->Nat):Nat->Nat
 | 0=>0
 | n+1=>sumTo f n+f n
theorem uu {f g:Nat->Nat}:∀ {n:Nat},(∀ k,k < n->f k<=g k)->sumTo f n<=sumTo g n
 | 0,_=>au _
 | n+1,h=>by
  have h1:=uu (n:=n) fun k hk=>h k (by omega)
  have h2:=h n (by omega)
  show sumTo f n+f n<=sumTo g n+g n
  omega
theorem Ko {f g:Nat->Nat}{n:Nat} (h:∀ k,k < n->f k=g k):sumTo f n=sumTo g n :=
 DI (uu fun k hk=>m9 (h k hk)) (uu fun k hk=>m9 (h k hk).symm)
inductive hG (ts:List Tm) (es:List cy):Nat->Nat->Nat->Prop
 | refl (a:Nat):hG ts es a a 0
 | eR {a b w:Nat}:(a,b,w)∈es->hG ts es a b w
 | symm {a b n:Nat}:hG ts es a b n->hG ts es b a n
 | trans {a b c n m:Nat}:hG ts es a b n->hG ts es b c m->hG ts es a c (n+m)
 | ie {a b:Nat}{x:Str}{as bs:List Nat} (f:Nat->Nat):ts[a]? = some (.of x as)->ts[b]? = some (.of x bs)->as.length=bs.length->(∀ k u v:Nat,as[k]? = some u->bs[k]? = some v->hG ts es u v (f k))->hG ts es a b (1+sumTo f as.length)
abbrev Mx:=Nat->Nat->Option Nat
def Lt (M:Mx) (a b m:Nat):Prop := ∃ k,M a b=some k∧k<=m
theorem Lt.le {M:Mx} {a b m m':Nat} (h:Lt M a b m) (hm:m<=m'):Lt M a b m':=by
 obtain⟨k,e,hk⟩:=h
 exact⟨k,e,bq hk hm⟩
structure N2 (ts:List Tm) (es:List cy) (n:Nat) (M:Mx):Prop where
 diag:∀ a,a < n->M a a=some 0
 symm:∀ a b,M a b=M b a
 eR:∀ a b w,(a,b,w)∈es->Lt M a b w
 tri:∀ a b c k m,M a b=some k->M b c=some m->Lt M a c (k+m)
 ie:∀ a b x as bs (f:Nat->Nat),ts[a]? = some (.of x as)->ts[b]? = some (.of x bs)->as.length=bs.length->(∀ k u v:Nat,as[k]? = some u->bs[k]? = some v->Lt M u v (f k))->Lt M a b (1+sumTo f as.length)
theorem Jp {ts:List Tm}{es:List cy}{M:Mx} (g:N2 ts es ts.length M) (he:∀ a b w,(a,b,w)∈es->a < ts.length∧b < ts.length) (oz:tD ts) {a b n:Nat} (h:hG ts es a b n):(a=b∧ts.length<=a)∨Lt M a b n:=by
 induction h with
 | refl a =>
  by_cases ha:a < ts.length
  ·exact .inr ⟨0,g.diag a ha,au _⟩
  ·exact .inl ⟨O,by omega⟩
 | eR h=>exact .inr (g.eR _ _ _ h)
 | symm _ ih =>
  rcases ih with⟨rfl,hh⟩ | ⟨k,e,hk⟩
  ·exact .inl ⟨O,hh⟩
  ·exact .inr ⟨k,by rw[g.symm];exact e,hk⟩
 | @trans a b c n m h1 h2 Ir Fx =>
  rcases Ir with⟨rfl,h⟩ | ⟨k,e,hk⟩
  ·rcases Fx with⟨rfl,_⟩ | ⟨k,e,hk⟩
   ·exact .inl ⟨O,h⟩
   ·exact .inr ⟨k,e,by omega⟩
  ·rcases Fx with⟨rfl,h⟩ | ⟨k2,e2,UE⟩
   ·exact .inr ⟨k,e,by omega⟩
   ·obtain⟨k3,e3,Zv⟩:=g.tri _ _ _ _ _ e e2
    exact .inr ⟨k3,e3,by omega⟩
 | @ie a b x as bs f h1 h2 hl hk ih =>
  refine .inr (g.ie a b x as bs f h1 h2 hl fun k u v hu hv =>?_)
  rcases ih k u v hu hv with⟨rfl,h⟩ | h
  ·have:=oz a x as h1 u (ak hu)
   have:=(ai.mp h1).1
   omega
  ·exact h
def aO (ts:List Tm) (es:List cy) (a b:Nat):Option Nat :=
 @dite _ (∃ n,hG ts es a b n∧∀ m,hG ts es a b m->n<=m) (iM _) (fun h=>some (Classical.choose h)) fun _=>none
theorem SG {p:Nat->Prop}:(∃ n,p n)->∃ n,p n∧∀ m,p m->n<=m:=fun ⟨n,h⟩=>by
 induction n using v9 with
 | ind n ih =>
  by_cases hx:∃ m,m < n∧p m
  ·obtain⟨m,hm,hp⟩:=hx
   exact ih m hm hp
  ·exact⟨n,h,fun m hp=>oH fun z=>hx ⟨m,z,hp⟩⟩
theorem vP {ts:List Tm}{es:List cy}{a b n:Nat} (h:hG ts es a b n) (hm:∀ m,hG ts es a b m->n<=m):aO ts es a b=some n:=by
 have ex:∃ n,hG ts es a b n∧∀ m,hG ts es a b m->n<=m:=⟨n,h,hm⟩
 unfold aO
 rw[dif_pos ex]
 have:=xu ex
 congr 1
 exact DI (this.2 n h) (hm _ this.1)
theorem fb {ts:List Tm}{es:List cy}{a b n:Nat} (h:aO ts es a b=some n):hG ts es a b n∧∀ m,hG ts es a b m->n<=m:=by
 unfold aO at h
 split at h
 ·rename_i ex
  have:=xu ex
  rw[aH h]at this
  exact this
 ·cases h
theorem o7 {ts:List Tm}{es:List cy}{a b:Nat} (h:aO ts es a b=none) {n:Nat} (d:hG ts es a b n):False:=by
 obtain⟨k,h1,h2⟩:=SG ⟨n,d⟩
 rw[vP h1 h2]at h
 cases h
theorem Ql {ts:List Tm}{es:List cy}{M:Mx} (g:N2 ts es ts.length M) (he:∀ a b w,(a,b,w)∈es->a < ts.length∧b < ts.length) (oz:tD ts) (sound:∀ a b n,M a b=some n->hG ts es a b n) {a b:Nat} (ha:a < ts.length):M a b=aO ts es a b:=by
 cases e:M a b with
 | some n =>
  symm
  refine vP (sound a b n e) fun m hm =>?_
  rcases Jp g he oz hm with⟨rfl,h⟩ | ⟨k,ek,hk⟩
  ·omega
  ·rw[e]at ek;cases ek;exact hk
 | none =>
  symm
  cases e2:aO ts es a b with
  | none=>rfl
  | some n =>
   rcases Jp g he oz (fb e2).1 with⟨rfl,h⟩ | ⟨k,ek,hk⟩
   ·omega
   ·rw[e]at ek;cases ek
theorem Wz {ts:List Tm}{es:List cy}{a b n:Nat} (d:hG ts es a b n):Eqv ts (es.map fun e=>(e.1,e.2.1)) a b:=by
 induction d with
 | refl a=>exact .refl a
 | eR m=>exact .eR (bj.mpr ⟨_,m,O⟩)
 | symm _ ih=>exact .symm ih
 | trans _ _ i1 i2=>exact .trans i1 i2
 | ie f h1 h2 hl _ ih=>exact .NU h1 h2 hl ih
structure DE where
 a:Nat
 b:Nat
 k:Nat
 f:Bool
def DE.Pr (x:DE) (p q:Nat):Prop:=(x.a=p∧x.b=q)∨(x.a=q∧x.b=p)
theorem DE.Pr.symm {x:DE}{p q:Nat} (h:x.Pr p q):x.Pr q p:=h.elim .inr .inl
structure SS where
 L:Mx
 W:Mx
 Hd:Nat->Option (Nat × Nat)
 Sg:Mx
 St:Nat->List (Nat × Nat)
 dn:List DE
def SS.Dn (s:SS) (p q k:Nat):Prop := ∃ x∈s.dn,x.Pr p q∧x.k=k
def SS.zY (s:SS) (a b k:Nat):Prop := ∃ q k1 k2,k=k1+k2∧1<=k1∧1<=k2∧s.Dn a q k1∧s.Dn q b k2
structure SI (ts:List Tm) (es:List cy) (n:Nat) (s:SS):Prop where
 sym:∀ a b,s.L a b=s.L b a
 diag:∀ a,a < n->s.L a a=some 0
 yI:∀ a b k,s.L a b=some k->a < n∧b < n
 pos:∀ a b k,a≠b->s.L a b=some k->1<=k
 wl:∀ a b k,s.W a b=some k->a < b∧s.L a b=some k
 mC:∀ a b k,a < b->s.L a b=some k->s.W a b=some k∨∃ x∈s.dn,x.a=a∧x.b=b∧x.k=k
 dl:∀ x∈s.dn,x.a < x.b∧s.L x.a x.b=some x.k∧s.W x.a x.b=none
 mono:∀ x∈s.dn,∀ c d m,s.W c d=some m->x.k<=m
 ord:s.dn.Pairwise fun x y=>x.k<=y.k
 st:∀ b c k,(c,k)∈s.St b↔∃ x∈s.dn,x.Pr b c∧x.k=k∧x.f=true
 two:∀ a b k,s.W a b=some k->s.Sg a b=some k∨s.zY a b k
 Rr:∀ x∈s.dn,x.f=true∨s.zY x.a x.b x.k
 sound:∀ a b k,s.L a b=some k->hG ts es a b k
structure oK (s:SS):Prop where
 hn:∀ a,s.Hd a=none->∀ b,s.W a b=none
 hs:∀ a k b,s.Hd a=some (k,b)->s.W a b=some k∧∀ c m,s.W a c=some m->k<=m
def Ae (L L':Mx):Prop := ∀ a b k,L a b=some k->Lt L' a b k
theorem Ae.refl (L:Mx):Ae L L:=fun a b k e=>⟨k,e,au _⟩
theorem Ae.trans {L1 L2 L3:Mx} (h:Ae L1 L2) (h':Ae L2 L3):Ae L1 L3:=fun a b k e=>by
 obtain⟨m,e1,h1⟩:=h a b k e
 obtain⟨m2,e2,h2⟩:=h' a b m e1
 exact⟨m2,e2,by omega⟩
theorem Lt.mono {L L':Mx}{a b k:Nat} (h:Lt L a b k) (le:Ae L L'):Lt L' a b k:=by
 obtain⟨m,e,hm⟩:=h
 exact(le a b m e).le hm
theorem SI.Bg {ts:List Tm}{es:List cy}{n:Nat}{s:SS} (h:SI ts es n s) {p q k:Nat} (d:s.Dn p q k):s.L p q=some k∧p≠q:=by
 obtain⟨x,hx,hp,rfl⟩:=d
 obtain⟨h1,h2,_⟩:=h.dl x hx
 rcases hp with⟨rfl,rfl⟩ | ⟨rfl,rfl⟩
 ·exact⟨h2,by omega⟩
 ·exact⟨by rw[h.sym];exact h2,by omega⟩
def dE (M:Mx) (a b k:Nat):Mx:=fun x y=>if x=a∧y=b then some k else M x y
theorem wO {M:Mx}{a b k:Nat}:dE M a b k a b=some k:=if_pos ⟨O,O⟩
theorem jc {M:Mx}{a b k x y:Nat} (h:¬ (x=a∧y=b)):dE M a b k x y=M x y:=if_neg h
def mY:Option (Nat × Nat)->Nat->Bool
 | none,_=>true
 | some p,k=>decide (k < p.1)
theorem uP {o:Option (Nat × Nat)}{k:Nat}:mY o k=true↔∀ m h,o=some (m,h)->k < m:=by
 cases o with
 | none=>exact⟨fun _ m h e=>(by cases e),fun _=>rfl⟩
 | some p =>
  obtain⟨m,h⟩:=p
  show decide (k < m)=true↔_
  rw[decide_eq_true_iff]
  exact⟨fun z m' h' e=>by cases e;exact z,fun z=>z m h rfl⟩
def lZ (s:SS) (a b k:Nat) (sg:Bool):SS :=
 { s with
   L:=dE (dE s.L a b k) b a k
   W:=dE s.W (min a b) (max a b) k
   Hd:=fun x=>if x=min a b∧mY (s.Hd (min a b)) k=true then some (k,max a b) else s.Hd x
   Sg:=if sg then dE s.Sg (min a b) (max a b) k else s.Sg }
theorem Eu (s:SS) (a b k:Nat) (sg:Bool) (x y:Nat):(lZ s a b k sg).L x y=if (x=a∧y=b)∨(x=b∧y=a) then some k else s.L x y:=by
 show dE (dE s.L a b k) b a k x y=_
 unfold dE
 by_cases h1:x=b∧y=a
 ·rw[if_pos h1,if_pos (.inr h1)]
 ·rw[if_neg h1]
  by_cases h2:x=a∧y=b
  ·rw[if_pos h2,if_pos (.inl h2)]
  ·rw[if_neg h2,if_neg (fun z=>z.elim h2 h1)]
structure WL (ts:List Tm) (es:List cy) (n:Nat) (s:SS) (a b k:Nat) (sg:Bool):Prop where
 ne:a≠b
 la:a < n
 lb:b < n
 less:∀ m,s.L a b=some m->k < m
 top:∀ x∈s.dn,x.k<=k
 pos:1<=k
 Dm:hG ts es a b k
 RT:sg=true∨s.zY (min a b) (max a b) k
theorem Sj {ts:List Tm}{es:List cy}{n:Nat}{s:SS}{a b k:Nat}{sg:Bool} (h:SI ts es n s) (hh:oK s) (o:WL ts es n s a b k sg):SI ts es n (lZ s a b k sg)∧oK (lZ s a b k sg)∧Ae s.L (lZ s a b k sg).L:=by
 have hmm:min a b < max a b:=by have:=o.ne;omega
 have hL:∀ x y,(lZ s a b k sg).L x y=if (x=a∧y=b)∨(x=b∧y=a) then some k else s.L x y:=Eu s a b k sg
 have sM:∀ {x y:Nat},x < y->(((x=a∧y=b)∨(x=b∧y=a))↔(x=min a b∧y=max a b)):=fun {x y} Lq=>by
  constructor
  ·intro z;rcases z with⟨rfl,rfl⟩ | ⟨rfl,rfl⟩ <;> omega
  ·intro ⟨z1,z2⟩
   rcases gb a b with q | q
   ·exact .inl (by omega)
   ·exact .inr (by omega)
 have jo:∀ x∈s.dn, ¬ (x.a=min a b∧x.b=max a b):=fun x hx ⟨e1,e2⟩=>by
  obtain⟨h1,h2,_⟩:=h.dl x hx
  have hk:=o.top x hx
  have h3:s.L a b=some x.k:=by
   rcases gb a b with q | q
   ·rw[e1,e2,show min a b=a by omega,show max a b=b by omega]at h2;exact h2
   ·rw[e1,e2,show min a b=b by omega,show max a b=a by omega,h.sym]at h2;exact h2
  have:=o.less _ h3
  omega
 refine⟨⟨?_,?_,?_,?_,?_,?_,?_,?_,h.ord,h.st,?_,h.Rr,?_⟩,⟨?_,?_⟩,?_⟩
 ·intro x y
  rw[hL,hL]
  by_cases e:(x=a∧y=b)∨(x=b∧y=a)
  ·rw[if_pos e,if_pos (e.elim (fun z => .inr ⟨z.2,z.1⟩) fun z => .inl ⟨z.2,z.1⟩)]
  ·rw[if_neg e,if_neg (fun z=>e (z.elim (fun z => .inr ⟨z.2,z.1⟩) fun z => .inl ⟨z.2,z.1⟩)),h.sym]
 ·intro x hx
  rw[hL,if_neg (fun z=>by rcases z with⟨rfl,e⟩ | ⟨rfl,e⟩;exact o.ne e;exact o.ne e.symm)]
  exact h.diag x hx
 ·intro x y m e
  rw[hL]at e
  split at e
  ·rename_i c
   rcases c with⟨rfl,rfl⟩ | ⟨rfl,rfl⟩
   ·exact⟨o.la,o.lb⟩
   ·exact⟨o.lb,o.la⟩
  ·exact h.yI x y m e
 ·intro x y m gv e
  rw[hL]at e
  split at e
  ·cases e;exact o.pos
  ·exact h.pos x y m gv e
 ·intro x y m e
  have e:dE s.W (min a b) (max a b) k x y=some m:=e
  unfold dE at e
  split at e
  ·rename_i c
   cases e
   refine⟨by omega,?_⟩
   rw[hL,if_pos ((sM (by omega)).mpr c)]
  ·rename_i c
   obtain⟨h1,h2⟩:=h.wl x y m e
   refine⟨h1,?_⟩
   rw[hL,if_neg (fun z=>c ((sM h1).mp z))]
   exact h2
 ·intro x y m Lq e
  rw[hL]at e
  show dE s.W (min a b) (max a b) k x y=some m∨_
  split at e
  ·rename_i c
   have c:=(sM Lq).mp c
   unfold dE
   rw[if_pos c]
   exact .inl e
  ·rename_i c
   rw[jc (fun z=>c ((sM Lq).mpr z))]
   exact h.mC x y m Lq e
 ·intro x hx
  obtain⟨h1,h2,h3⟩:=h.dl x hx
  have c:=jo x hx
  refine⟨h1,?_,?_⟩
  ·rw[hL,if_neg (fun z=>c ((sM h1).mp z))];exact h2
  ·show dE s.W (min a b) (max a b) k x.a x.b=none
   rw[jc c];exact h3
 ·intro x hx c d m e
  have e:dE s.W (min a b) (max a b) k c d=some m:=e
  unfold dE at e
  split at e
  ·cases e;exact o.top x hx
  ·exact h.mono x hx c d m e
 ·intro x y m e
  have e:dE s.W (min a b) (max a b) k x y=some m:=e
  show (if sg then dE s.Sg (min a b) (max a b) k else s.Sg) x y=some m∨s.zY x y m
  unfold dE at e
  split at e
  ·rename_i c
   cases e
   obtain⟨rfl,rfl⟩:=c
   rcases o.RT with e | e
   ·rw[e,if_pos rfl,wO];exact .inl rfl
   ·exact .inr e
  ·rename_i c
   have q:=h.two x y m e
   cases sg with
   | false=>exact q
   | true=>rw[if_pos rfl,jc c];exact q
 ·intro x y m e
  rw[hL]at e
  split at e
  ·rename_i c
   cases e
   rcases c with⟨rfl,rfl⟩ | ⟨rfl,rfl⟩
   ·exact o.Dm
   ·exact .symm o.Dm
  ·exact h.sound x y m e
 ·intro x e y
  have e:(if x=min a b∧mY (s.Hd (min a b)) k=true then some (k,max a b) else s.Hd x)=none:=e
  split at e
  ·cases e
  ·rename_i c
   have hw:=hh.hn x e
   show dE s.W (min a b) (max a b) k x y=none
   by_cases ex:x=min a b∧y=max a b
   ·exact absurd ⟨ex.1,uP.mpr fun m h z=>by rw[<- ex.1,e]at z;cases z⟩ c
   ·rw[jc ex];exact hw y
 ·intro x m y e
  have e:(if x=min a b∧mY (s.Hd (min a b)) k=true then some (k,max a b) else s.Hd x)=some (m,y):=e
  split at e
  ·rename_i c
   cases e
   obtain⟨rfl,hc⟩:=c
   refine⟨wO,fun d m e =>?_⟩
   have e:dE s.W (min a b) (max a b) k (min a b) d=some m:=e
   unfold dE at e
   split at e
   ·cases e;exact au _
   ·cases hd:s.Hd (min a b) with
    | none=>rw[hh.hn _ hd d]at e;cases e
    | some p =>
     obtain⟨m',h'⟩:=p
     have:=uP.mp hc m' h' hd
     have:=(hh.hs _ _ _ hd).2 d m e
     omega
  ·rename_i c
   obtain⟨h1,h2⟩:=hh.hs x m y e
   by_cases ex:x=min a b
   ·have nl:¬ k < m:=fun z=>c ⟨ex,uP.mpr fun m' h' e'=>by rw[<- ex,e]at e';cases e';exact z⟩
    have ny:y≠max a b:=fun ey=>by
     rw[ex,ey]at h1
     have:=(h.wl _ _ _ h1).2
     have:s.L a b=some m:=by
      rcases gb a b with q | q
      ·rw[show min a b=a by omega,show max a b=b by omega]at this;exact this
      ·rw[show min a b=b by omega,show max a b=a by omega,h.sym]at this;exact this
     exact nl (o.less m this)
    refine⟨?_,fun d m' e' =>?_⟩
    ·show dE s.W (min a b) (max a b) k x y=some m
     rw[jc (fun z=>ny z.2)];exact h1
    ·have e':dE s.W (min a b) (max a b) k x d=some m':=e'
     unfold dE at e'
     split at e'
     ·cases e';omega
     ·exact h2 d m' e'
   ·refine⟨?_,fun d m' e' =>?_⟩
    ·show dE s.W (min a b) (max a b) k x y=some m
     rw[jc (fun z=>ex z.1)];exact h1
    ·have e':dE s.W (min a b) (max a b) k x d=some m':=e'
     rw[jc (fun z=>ex z.1)]at e'
     exact h2 d m' e'
 ·intro x y m e
  rw[show Lt (lZ s a b k sg).L x y m=∃ j,(lZ s a b k sg).L x y=some j∧j<=m from rfl,hL]
  split
  ·rename_i c
   refine⟨k,O,?_⟩
   have:s.L a b=some m:=by
    rcases c with⟨rfl,rfl⟩ | ⟨rfl,rfl⟩
    ·exact e
    ·rw[h.sym];exact e
   exact jJ (o.less m this)
  ·exact⟨m,e,au _⟩
structure AI (w:Nat->Option Nat) (hd:Option (Nat × Nat)):Prop where
 hn:hd=none->∀ y,w y=none
 hs:∀ k y,hd=some (k,y)->w y=some k∧∀ c m,w c=some m->k<=m
def hJ (M:Mx) (a b:Nat):Mx:=fun x y=>if x=a∧y=b then none else M x y
theorem yc {M:Mx}{a b x y k:Nat} (h:hJ M a b x y=some k):¬ (x=a∧y=b)∧M x y=some k:=by
 unfold hJ at h
 split at h
 ·cases h
 ·rename_i c;exact⟨c,h⟩
def pF (s:SS) (a b k:Nat) (f:Bool) (hd:Option (Nat × Nat)):SS :=
 { s with
   W:=hJ s.W a b
   Hd:=fun x=>if x=a then hd else s.Hd x
   dn:=s.dn ++ [⟨a,b,k,f⟩]
   St:=fun x=>if f=true then (if x=a then s.St a ++ [(b,k)] else if x=b then s.St b ++ [(a,k)] else s.St x) else s.St x }
theorem SS.zY.more {s s':SS}{a b k:Nat} (h:s.zY a b k) (hd:∀ x∈s.dn,x∈s'.dn):s'.zY a b k:=by
 obtain⟨q,k1,k2,e,h1,h2,⟨x,hx,px⟩,y,hy,py⟩:=h
 exact⟨q,k1,k2,e,h1,h2,⟨x,hd x hx,px⟩,y,hd y hy,py⟩
theorem OV {ts:List Tm}{es:List cy}{n:Nat}{s:SS}{a b k:Nat}{f:Bool}{hd:Option (Nat × Nat)} (h:SI ts es n s) (hh:oK s) (hw:s.W a b=some k) (least:∀ c d m,s.W c d=some m->k<=m) (hf:s.Sg a b=some k->f=true)
  (rh:AI (fun y=>hJ s.W a b a y) hd):SI ts es n (pF s a b k f hd)∧oK (pF s a b k f hd):=by
 obtain⟨i6,hL⟩:=h.wl a b k hw
 have sub:∀ x∈s.dn,x∈(pF s a b k f hd).dn:=fun x hx=>aA.mpr (.inl hx)
 have jo:∀ x∈s.dn, ¬ (x.a=a∧x.b=b):=fun x hx ⟨e1,e2⟩=>by
  have:=(h.dl x hx).2.2
  rw[e1,e2,hw]at this
  cases this
 refine⟨⟨h.sym,h.diag,h.yI,h.pos,?_,?_,?_,?_,?_,?_,?_,?_,h.sound⟩,⟨?_,?_⟩⟩
 ·intro x y m e
  exact h.wl x y m (yc e).2
 ·intro x y m Lq e
  rcases h.mC x y m Lq e with hq | ⟨z,hz,q⟩
  ·by_cases c:x=a∧y=b
   ·obtain⟨rfl,rfl⟩:=c
    rw[hw]at hq
    cases hq
    exact .inr ⟨_,aA.mpr (.inr (bx _)),O,O,O⟩
   ·refine .inl ?_
    show hJ s.W a b x y=some m
    unfold hJ
    rw[if_neg c];exact hq
  ·exact .inr ⟨z,sub z hz,q⟩
 ·intro x hx
  rcases aA.mp hx with hx | hx
  ·obtain⟨h1,h2,h3⟩:=h.dl x hx
   refine⟨h1,h2,?_⟩
   show hJ s.W a b x.a x.b=none
   unfold hJ
   split
   ·rfl
   ·exact h3
  ·rw[aB.mp hx]
   refine⟨i6,hL,?_⟩
   show hJ s.W a b a b=none
   unfold hJ
   rw[if_pos ⟨O,O⟩]
 ·intro x hx c d m e
  have e:=(yc e).2
  rcases aA.mp hx with hx | hx
  ·exact h.mono x hx c d m e
  ·rw[aB.mp hx];exact least c d m e
 ·show (s.dn ++ [_]).Pairwise _
  rw[yo]
  exact⟨h.ord,nK _ _,fun x hx y hy=>by rw[aB.mp hy];exact h.mono x hx a b k hw⟩
 ·intro p c m
  show (c,m)∈(if f=true then (if p=a then s.St a ++ [(b,k)] else if p=b then s.St b ++ [(a,k)] else s.St p) else s.St p)↔∃ x∈s.dn ++ [⟨a,b,k,f⟩],x.Pr p c∧x.k=m∧x.f=true
  have old:(c,m)∈s.St p↔∃ x∈s.dn,x.Pr p c∧x.k=m∧x.f=true:=h.st p c m
  have cut:(∃ x∈s.dn ++ [⟨a,b,k,f⟩],x.Pr p c∧x.k=m∧x.f=true)↔(∃ x∈s.dn,x.Pr p c∧x.k=m∧x.f=true)∨(((a=p∧b=c)∨(a=c∧b=p))∧k=m∧f=true):=by
   constructor
   ·rintro⟨x,hx,q⟩
    rcases aA.mp hx with hx | hx
    ·exact .inl ⟨x,hx,q⟩
    ·rw[aB.mp hx]at q;exact .inr q
   ·rintro(⟨x,hx,q⟩ | q)
    ·exact⟨x,aA.mpr (.inl hx),q⟩
    ·exact⟨_,aA.mpr (.inr (bx _)),q⟩
  rw[cut, <- old]
  by_cases ef:f=true
  ·rw[if_pos ef]
   by_cases e1:p=a
   ·subst e1
    rw[if_pos rfl,aA,aB]
    constructor
    ·rintro(q | q)
     ·exact .inl q
     ·cases q;exact .inr ⟨.inl ⟨O,O⟩,O,ef⟩
    ·rintro(q | ⟨q,rfl,_⟩)
     ·exact .inl q
     ·rcases q with⟨_,rfl⟩ | ⟨rfl,q⟩
      ·exact .inr rfl
      ·omega
   ·rw[if_neg e1]
    by_cases e2:p=b
    ·subst e2
     rw[if_pos rfl,aA,aB]
     constructor
     ·rintro(q | q)
      ·exact .inl q
      ·cases q;exact .inr ⟨.inr ⟨O,O⟩,O,ef⟩
     ·rintro(q | ⟨q,rfl,_⟩)
      ·exact .inl q
      ·rcases q with⟨q,_⟩ | ⟨rfl,_⟩
       ·exact absurd q.symm e1
       ·exact .inr rfl
    ·rw[if_neg e2]
     exact⟨.inl,fun q=>q.elim id fun ⟨q,_⟩=>by rcases q with⟨q,_⟩ | ⟨_,q⟩;exact absurd q.symm e1;exact absurd q.symm e2⟩
  ·rw[if_neg ef]
   exact⟨.inl,fun q=>q.elim id fun ⟨_,_,q⟩=>absurd q ef⟩
 ·intro x y m e
  rcases h.two x y m (yc e).2 with q | q
  ·exact .inl q
  ·exact .inr (q.more sub)
 ·intro x hx
  rcases aA.mp hx with hx | hx
  ·exact(h.Rr x hx).elim .inl fun q => .inr (q.more sub)
  ·rw[aB.mp hx]
   rcases h.two a b k hw with q | q
   ·exact .inl (hf q)
   ·exact .inr (q.more sub)
 ·intro x e y
  show hJ s.W a b x y=none
  have e:(if x=a then hd else s.Hd x)=none:=e
  split at e
  ·rename_i c;rw[c];exact rh.hn e y
  ·rename_i c
   unfold hJ
   rw[if_neg (fun z=>c z.1)]
   exact hh.hn x e y
 ·intro x m y e
  have e:(if x=a then hd else s.Hd x)=some (m,y):=e
  show hJ s.W a b x y=some m∧∀ c m',hJ s.W a b x c=some m'->m<=m'
  split at e
  ·rename_i c;rw[c];exact rh.hs m y e
  ·rename_i c
   have q:∀ y,hJ s.W a b x y=s.W x y:=fun y=>by unfold hJ;rw[if_neg (fun z=>c z.1)]
   obtain⟨h1,h2⟩:=hh.hs x m y e
   exact⟨by rw[q];exact h1,fun c m' e'=>h2 c m' (by rw[<- q];exact e')⟩
def less (L:Mx) (a b k:Nat):Bool:=match L a b with
 | none=>true
 | some m=>decide (k < m)
theorem SE {L:Mx}{a b k:Nat}:less L a b k=true↔∀ m,L a b=some m->k < m:=by
 unfold less
 split
 ·rename_i e;exact⟨fun _ m z=>(by rw[e]at z;cases z),fun _=>rfl⟩
 ·rename_i m e
  rw[decide_eq_true_iff]
  exact⟨fun z m' e'=>by rw[e]at e';cases e';exact z,fun z=>z m e⟩
theorem SD {L:Mx}{a b k:Nat} (h:less L a b k=false):Lt L a b k:=by
 unfold less at h
 split at h
 ·cases h
 ·rename_i m e
  exact⟨m,e,oH (of_decide_eq_false h)⟩
structure kG (ts:List Tm) (es:List cy) (n:Nat) (s s':SS):Prop where
 si:SI ts es n s'
 hd:oK s'
 le:Ae s.L s'.L
 dn:s'.dn=s.dn
 st:s'.St=s.St
theorem kG.refl {ts:List Tm}{es:List cy}{n:Nat}{s:SS} (h:SI ts es n s) (hh:oK s):kG ts es n s s:=⟨h,hh,Ae.refl _,O,O⟩
theorem kG.trans {ts:List Tm}{es:List cy}{n:Nat}{s s1 s2:SS} (h:kG ts es n s s1) (h':kG ts es n s1 s2):kG ts es n s s2:=⟨h'.si,h'.hd,h.le.trans h'.le,h'.dn.trans h.dn,h'.st.trans h.st⟩
def ji (s:SS) (a b k:Nat) (sg:Bool):SS:=if less s.L a b k=true then lZ s a b k sg else s
theorem Ci {ts:List Tm}{es:List cy}{n:Nat}{s:SS}{a b k:Nat}{sg:Bool} (h:SI ts es n s) (hh:oK s) (la:a < n) (lb:b < n) (top:∀ x∈s.dn,x.k<=k) (pos:1<=k) (Dm:hG ts es a b k) (RT:a≠b->sg=true∨s.zY (min a b) (max a b) k) :
  kG ts es n s (ji s a b k sg)∧Lt (ji s a b k sg).L a b k:=by
 unfold ji
 cases e:less s.L a b k with
 | false=>rw[if_neg (by decide)];exact⟨kG.refl h hh,SD e⟩
 | true =>
  rw[if_pos rfl]
  have hl:=SE.mp e
  have ne:a≠b:=fun z=>by subst z;have:=hl 0 (h.diag a la);omega
  obtain⟨h1,h2,h3⟩:=Sj h hh ⟨ne,la,lb,hl,top,pos,Dm,RT ne⟩
  exact⟨⟨h1,h2,h3,O,O⟩,k,by rw[Eu,if_pos (.inl ⟨O,O⟩)],au _⟩
theorem Rq {s:SS}{a b k:Nat} (h:s.zY a b k):s.zY (min a b) (max a b) k:=by
 rcases jb a b with q | q
 ·rw[iq q,jI q];exact h
 ·rw[gQ q,kd q]
  obtain⟨c,k1,k2,e,h1,h2,⟨x,hx,px,ex⟩,y,hy,py,ey⟩:=h
  exact⟨c,k2,k1,by omega,h2,h1,⟨y,hy,py.symm,ey⟩,x,hx,px.symm,ex⟩
def gY (a k:Nat) (s:SS) (l:List (Nat × Nat)):SS:=l.foldl (fun s e=>ji s a e.1 (k+e.2) false) s
theorem zB {ts:List Tm}{es:List cy}{n:Nat}{a b k:Nat}:∀ {l:List (Nat × Nat)}{s:SS},SI ts es n s->oK s->s.Dn a b k->(∀ x∈s.dn,x.k<=k)->(∀ e∈l,e∈s.St b) ->
  kG ts es n s (gY a k s l)∧∀ e∈l,Lt (gY a k s l).L a e.1 (k+e.2)
 | [],s,h,hh,_,_,_=>⟨kG.refl h hh,fun e he=>nomatch he⟩
 | (c,m) :: l,s,h,hh,d,top,sub=>by
  obtain⟨x,hx,px,ex,_⟩:=(h.st b c m).mp (sub _ bg)
  have d2:s.Dn b c m:=⟨x,hx,px,ex⟩
  obtain⟨l1,n1⟩:=h.Bg d
  obtain⟨l2,n2⟩:=h.Bg d2
  have p1:=h.pos _ _ _ n1 l1
  have p2:=h.pos _ _ _ n2 l2
  obtain⟨kp,lt⟩:=Ci (sg:=false) h hh (h.yI _ _ _ l1).1 (h.yI _ _ _ l2).2 (fun y hy=>bq (top y hy) (jK k m)) (by omega) (.trans (h.sound _ _ _ l1) (h.sound _ _ _ l2)) (fun _ => .inr (Rq ⟨b,k,m,O,p1,p2,d,d2⟩))
  have d':(ji s a c (k+m) false).Dn a b k:=by unfold SS.Dn;rw[kp.dn];exact d
  obtain⟨CL,zy⟩:=zB (l:=l) kp.si kp.hd d' (by rw[kp.dn];exact top) (by rw[kp.st];exact fun e he=>sub e (aW _ he))
  refine⟨kp.trans CL,fun e he =>?_⟩
  rcases aY.mp he with rfl | he
  ·exact lt.mono CL.le
  ·exact zy e he
def FA (s:SS) (m:Nat):Prop := ∀ i j x y,s.dn[i]? = some y->s.dn[j]? = some x->i < j->j < m->y.f=true->∀ p q r,x.Pr p q->y.Pr q r->Lt s.L p r (x.k+y.k)
theorem FA.keep {ts:List Tm}{es:List cy}{n:Nat} {s s':SS}{m:Nat} (h:FA s m) (k:kG ts es n s s'):FA s' m:=fun i j x y hi hj lt lm f p q r px py=>by
 rw[k.dn]at hi hj
 exact(h i j x y hi hj lt lm f p q r px py).mono k.le
theorem XX {x:DE}{p q a b:Nat} (h:x.Pr p q) (ha:x.a=a) (hb:x.b=b):(p=a∧q=b)∨(p=b∧q=a):=by
 rcases h with⟨h1,h2⟩ | ⟨h1,h2⟩
 ·exact .inl ⟨h1.symm.trans ha,h2.symm.trans hb⟩
 ·exact .inr ⟨h2.symm.trans hb,h1.symm.trans ha⟩
theorem Fd {ts:List Tm}{es:List cy}{n:Nat}{s:SS}{a b k:Nat}{f:Bool}{hd:Option (Nat × Nat)} (h:SI ts es n s) (hh:oK s) (fa:FA s s.dn.length) (hw:s.W a b=some k) (least:∀ c d m,s.W c d=some m->k<=m) (hf:s.Sg a b=some k->f=true)
  (rh:AI (fun y=>hJ s.W a b a y) hd) (s1 s2 s3:SS) (e1:s1=pF s a b k f hd) (e2:s2=gY a k s1 (s1.St b)) (e3:s3=gY b k s2 (s2.St a)) :
  kG ts es n s1 s3∧FA s3 s3.dn.length∧s3.dn=s.dn ++ [⟨a,b,k,f⟩]∧Ae s.L s3.L∧(∀ x∈s3.dn,x.k<=k):=by
 obtain⟨i1,o1⟩:=OV (f:=f) h hh hw least hf rh
 rw[<- e1]at i1 o1
 have xc:s1.dn=s.dn ++ [⟨a,b,k,f⟩]:=by rw[e1];rfl
 have L1:s1.L=s.L:=by rw[e1];rfl
 have top:∀ x∈s1.dn,x.k<=k:=fun x hx=>by
  rw[xc]at hx
  rcases aA.mp hx with hx | hx
  ·exact h.mono x hx a b k hw
  ·rw[aB.mp hx];exact au _
 have last:(⟨a,b,k,f⟩:DE)∈s1.dn:=by rw[xc];exact aA.mpr (.inr (bx _))
 obtain⟨k2,t2⟩:=zB (a:=a) (b:=b) (k:=k) (l:=s1.St b) i1 o1 ⟨_,last,.inl ⟨O,O⟩,O⟩ top (fun e he=>he)
 rw[<- e2]at k2 t2
 obtain⟨k3,t3⟩:=zB (a:=b) (b:=a) (k:=k) (l:=s2.St a) k2.si k2.hd ⟨_,by rw[k2.dn];exact last,.inr ⟨O,O⟩,O⟩ (by rw[k2.dn];exact top) (fun e he=>he)
 rw[<- e3]at k3 t3
 have kk:=k2.trans k3
 have qv:s3.dn=s.dn ++ [⟨a,b,k,f⟩]:=kk.dn.trans xc
 refine⟨kk,?_,qv,by rw[<- L1];exact kk.le,by rw[kk.dn];exact top⟩
 intro i j x y hi hj lt lm fy p q r px py
 rw[qv]at hi hj lm
 rw[aK,fU]at lm
 by_cases ej:j < s.dn.length
 ·rw[fN ej]at hj
  rw[fN (by omega)]at hi
  have:=fa i j x y hi hj lt ej fy p q r px py
  exact this.mono (by rw[<- L1];exact kk.le)
 ·have ej2:j=s.dn.length:=by omega
  subst ej2
  rw[sr]at hj
  cases hj
  rw[fN lt]at hi
  have hy:y∈s1.dn:=by rw[xc];exact aA.mpr (.inl (ak hi))
  rcases XX px rfl rfl with⟨ep,eq⟩ | ⟨ep,eq⟩
  ·rw[ep]
   rw[eq]at py
   have:=t2 (r,y.k) ((i1.st b r y.k).mpr ⟨y,hy,py,O,fy⟩)
   exact this.mono k3.le
  ·rw[ep]
   rw[eq]at py
   refine t3 (r,y.k) ?_
   rw[k2.st]
   exact(i1.st a r y.k).mpr ⟨y,hy,py,O,fy⟩
theorem WY {ts:List Tm}{es:List cy}{n:Nat}{s:SS} (h:SI ts es n s) (fa:FA s s.dn.length) (hw:∀ a b,s.W a b=none):∀ a b c k m,s.L a b=some k->s.L b c=some m->Lt s.L a c (k+m):=by
 have at_:∀ a b k,a≠b->s.L a b=some k->∃ (i:Nat) (x:DE),s.dn[i]? = some x∧x.Pr a b∧x.k=k:=fun a b k ne e=>by
  rcases gb a b with q | q
  ·rcases h.mC a b k q e with z | ⟨x,hx,e1,e2,e3⟩
   ·rw[hw]at z;cases z
   ·obtain⟨i,hi⟩:=aT hx
    exact⟨i,x,hi,.inl ⟨e1,e2⟩,e3⟩
  ·rw[h.sym]at e
   rcases h.mC b a k (by omega) e with z | ⟨x,hx,e1,e2,e3⟩
   ·rw[hw]at z;cases z
   ·obtain⟨i,hi⟩:=aT hx
    exact⟨i,x,hi,.inr ⟨e1,e2⟩,e3⟩
 have abU:∀ {i j:Nat}{x y:DE},s.dn[i]? = some x->s.dn[j]? = some y->i<=j->x.k<=y.k:=fun {i j x y} hi hj zK=>by
  rcases ke zK with q | rfl
  ·have:=mG.mp h.ord i j (ai.mp hi).1 (ai.mp hj).1 q
   rw[(ai.mp hi).2,(ai.mp hj).2]at this
   exact this
  ·rw[hi]at hj;cases hj;exact au _
 -- by pj sum,then by pj ahD of pj two
 have main:∀ N M a b c k m,k+m<=N->min k m<=M->s.L a b=some k->s.L b c=some m->Lt s.L a c (k+m):=by
  intro N
  induction N using v9 with
  | ind N ihN =>
   intro M
   induction M using v9 with
   | ind M ihM =>
    -- pj agY is agE no ajQ aj2 pj first
    have ZR:∀ (a b c k m i j:Nat) (x y:DE),k+m<=N->min k m<=M->a≠b->b≠c->s.L a b=some k->s.L b c=some m->s.dn[i]? = some x->x.Pr a b->x.k=k->s.dn[j]? = some y->y.Pr b c->y.k=m->j<=i->Lt s.L a c (k+m):=by
     intro a b c k m i j x y hN hM Qv Qu e1 e2 hi px ex hj py ey zJ
     have hmk:m<=k:=by rw[<- ex, <- ey];exact abU hj hi zJ
     cases ef:y.f with
     | true =>
      rcases ke zJ with q | q
      ·have:=fa j i x y hj hi q (ai.mp hi).1 ef a b c px py
       rw[ex,ey]at this
       exact this
      ·rw[q,hi]at hj
       cases hj
       have:a=c:=by
        rcases px with⟨p1,p2⟩ | ⟨p1,p2⟩ <;> rcases py with⟨q1,q2⟩ | ⟨q1,q2⟩ <;> omega
       subst this
       exact⟨0,h.diag a (h.yI _ _ _ e1).1,bA _⟩
     | false =>
      have tw:=(h.Rr y (ak hj)).resolve_left (by rw[ef];decide)
      have tw2:s.zY b c m:=by
       rw[<- ey]
       rcases py with⟨q1,q2⟩ | ⟨q1,q2⟩
       ·rw[q1,q2]at tw;exact tw
       ·rw[q1,q2]at tw
        obtain⟨d,k1,k2,e,h1,h2,⟨u,hu,pu,eu⟩,v,hv,pv,ev⟩:=tw
        exact⟨d,k2,k1,by omega,h2,h1,⟨v,hv,pv.symm,ev⟩,u,hu,pu.symm,eu⟩
      obtain⟨d,k1,k2,em,p1,p2,d1,d2⟩:=tw2
      obtain⟨l1,_⟩:=h.Bg d1
      obtain⟨l2,_⟩:=h.Bg d2
      obtain⟨j1,ej1,Zx⟩:=ihN (k+k1) (by omega) (min k k1) a b d k k1 (au _) (au _) e1 l1
      have NC:min j1 k2 < min k m:=by
       rw[gQ hmk]
       exact gf (BZ _ _) (by omega)
      have:=ihM (min j1 k2) (by omega) a d c j1 k2 (by omega) (au _) ej1 l2
      exact this.le (by omega)
    intro a b c k m hN hM e1 e2
    by_cases Qv:a=b
    ·subst Qv
     rw[h.diag a (h.yI _ _ _ e1).1]at e1
     cases e1
     exact⟨m,e2,by omega⟩
    by_cases Qu:b=c
    ·subst Qu
     exact⟨k,e1,by omega⟩
    obtain⟨i,x,hi,px,ex⟩:=at_ a b k Qv e1
    obtain⟨j,y,hj,py,ey⟩:=at_ b c m Qu e2
    rcases jb j i with q | q
    ·exact ZR a b c k m i j x y hN hM Qv Qu e1 e2 hi px ex hj py ey q
    ·have:=ZR c b a m k j i y x (by omega) (by omega) (cM Qu) (cM Qv) (by rw[h.sym];exact e2) (by rw[h.sym];exact e1) hj py.symm ey hi px.symm ex q
     obtain⟨z,ez,hz⟩:=this
     exact⟨z,by rw[h.sym];exact ez,by omega⟩
 intro a b c k m e1 e2
 exact main (k+m) (min k m) a b c k m (au _) (au _) e1 e2
def fg (as bs:List Nat):List (Nat × Nat):=(as.zip bs).filter fun p=>decide (p.1≠p.2)
def QM:Option Tm->List Nat
 | some (.of _ as)=>as
 | _ => []
def cN (ts:List Tm) (a b:Nat):List (Nat × Nat):=fg (QM ts[a]?) (QM ts[b]?)
def lI (g:Nat × Nat->Nat):List (Nat × Nat)->Nat
 | []=>0
 | p :: l=>g p+lI g l
def cK (ts:List Tm) (L:Mx) (a b:Nat):Nat:=1+lI (fun p=>(L p.1 p.2).getD 0) (cN ts a b)
theorem Cj (f:Nat->Nat):∀ n,sumTo f (n+1)=f 0+sumTo (fun k=>f (k+1)) n
 | 0=>by show 0+f 0=f 0+0;omega
 | n+1=>by
  show sumTo f (n+1)+f (n+1)=f 0+(sumTo (fun k=>f (k+1)) n+f (n+1))
  rw[Cj f n];omega
def qM (g:Nat × Nat->Nat) (as bs:List Nat) (k:Nat):Nat:=match as[k]?,bs[k]? with
 | some x,some y=>if x=y then 0 else g (x,y)
 | _,_=>0
theorem ua (g:Nat × Nat->Nat):∀ (as bs:List Nat),as.length=bs.length->lI g (fg as bs)=sumTo (qM g as bs) as.length
 | [], [],_=>rfl
 | [],_ :: _,h=>nomatch h
 | _ :: _, [],h=>nomatch h
 | a :: as,b :: bs,h=>by
  have ih:=ua g as bs (JU h)
  rw[bV,Cj]
  have e0:qM g (a :: as) (b :: bs) 0=if a=b then 0 else g (a,b):=rfl
  have e1:(fun k=>qM g (a :: as) (b :: bs) (k+1))=qM g as bs:=rfl
  rw[e0,e1, <- ih]
  by_cases e:a=b
  ·have:fg (a :: as) (b :: bs)=fg as bs:=by unfold fg;rw[nc,iL (by simp[e])]
   rw[this,if_pos e,pX]
  ·have:fg (a :: as) (b :: bs)=(a,b) :: fg as bs:=by unfold fg;rw[nc,iK (by simp[e])]
   rw[this,if_neg e];rfl
theorem iy {as bs:List Nat}{p:Nat × Nat}:p∈fg as bs↔p.1≠p.2∧∃ k:Nat,as[k]? = some p.1∧bs[k]? = some p.2:=by
 unfold fg
 rw[gB,decide_eq_true_iff]
 constructor
 ·rintro⟨h1,h2⟩
  obtain⟨k,hk⟩:=aT h1
  rw[mI]at hk
  exact⟨h2,k,hk⟩
 ·rintro⟨h1,k,h2,h3⟩
  exact⟨ak (i:=k) (by rw[mI];exact⟨h2,h3⟩),h1⟩
theorem xB {g:Nat × Nat->Nat}:∀ {l:List (Nat × Nat)}{p:Nat × Nat},p∈l->g p<=lI g l
 | q :: l,p,h=>by
  show g p<=g q+lI g l
  rcases aY.mp h with rfl | h
  ·omega
  ·have:=xB (g:=g) h;omega
theorem xC {g g':Nat × Nat->Nat}:∀ {l:List (Nat × Nat)},(∀ p∈l,g p=g' p)->lI g l=lI g' l
 | [],_=>rfl
 | q :: l,h=>by
  show g q+lI g l=g' q+lI g' l
  rw[h q bg,xC fun p hp=>h p (aW _ hp)]
def Fn (p:Nat × Nat):Nat × Nat:=(min p.1 p.2,max p.1 p.2)
structure LP (ts:List Tm) (ls:List Nat) (lp:List (Nat × Nat)) (nd:Nat × Nat->List (Nat × Nat)):Prop where
 at_:∀ p∈lp,p.1 < p.2∧∃ x as bs,ts[p.1]? = some (.of x as)∧ts[p.2]? = some (.of x bs)∧as.length=bs.length
 all:∀ (a b:Nat) (x:Str) (as bs:List Nat),a < b->ts[a]? = some (.of x as)->ts[b]? = some (.of x bs)->as.length=bs.length->(∀ k u v:Nat,as[k]? = some u->bs[k]? = some v->ls.getD u 0=ls.getD v 0)->(a,b)∈lp
 nodup:lp.Nodup
 ndd:∀ p∈lp,(nd p).Nodup
 HQ:∀ p∈lp,∀ q,q∈nd p↔∃ r∈cN ts p.1 p.2,Fn r=q
 ne:∀ p∈lp,nd p ≠ []
def sB (s:SS) (q:Nat × Nat):Bool:=s.dn.any fun x=>decide (x.a=q.1∧x.b=q.2)
theorem pD {s:SS}{q:Nat × Nat}:sB s q=true↔∃ x∈s.dn,x.a=q.1∧x.b=q.2:=by
 unfold sB
 rw[List.any_eq_true]
 exact⟨fun ⟨x,hx,e⟩=>⟨x,hx,of_decide_eq_true e⟩,fun ⟨x,hx,e⟩=>⟨x,hx,decide_eq_true e⟩⟩
def iG (s:SS) (l:List (Nat × Nat)):Nat:=(l.filter fun q => !sB s q).length
theorem xF {s:SS}{l:List (Nat × Nat)}:iG s l=0↔∀ q∈l,sB s q=true:=by
 unfold iG
 rw[nM,List.filter_eq_nil_iff]
 exact⟨fun h q hq=>by have:=h q hq;cases e:sB s q with | true=>rfl | false=>rw[e]at this;exact absurd rfl this,fun h q hq=>by rw[h q hq];decide⟩
def B5 (ts:List Tm) (lp:List (Nat × Nat)) (nd:Nat × Nat->List (Nat × Nat)) (s:SS):Prop := ∀ p∈lp,(∀ q∈nd p,sB s q=true)->Lt s.L p.1 p.2 (cK ts s.L p.1 p.2)
section
variable {ts:List Tm}{es:List cy}{ls:List Nat}{lp:List (Nat × Nat)}{nd:Nat × Nat->List (Nat × Nat)} {s s':SS}
theorem MZ (h:SI ts es ts.length s) {u v:Nat} (hn:u≠v) (hb:sB s (Fn (u,v))=true):∃ k,s.Dn u v k∧s.L u v=some k:=by
 obtain⟨x,hx,e1,e2⟩:=pD.mp hb
 have d:s.Dn u v x.k:=⟨x,hx,by
  have e1:x.a=min u v:=e1
  have e2:x.b=max u v:=e2
  unfold DE.Pr
  omega,O⟩
 exact⟨x.k,d,(h.Bg d).1⟩
theorem Pl (h:SI ts es ts.length s) (k:kG ts es ts.length s s') (hp:LP ts ls lp nd) {p:Nat × Nat} (hm:p∈lp) (iR:∀ q∈nd p,sB s q=true):cK ts s'.L p.1 p.2=cK ts s.L p.1 p.2:=by
 unfold cK
 congr 1
 refine xC fun r hr =>?_
 have gv:=(iy.mp hr).1
 obtain⟨j,d,e⟩:=MZ h gv (iR _ ((hp.HQ p hm _).mpr ⟨r,hr,O⟩))
 have d':s'.Dn r.1 r.2 j:=by unfold SS.Dn;rw[k.dn];exact d
 rw[e,(k.si.Bg d').1]
theorem Ie (h:SI ts es ts.length s) (hp:LP ts ls lp nd) {p:Nat × Nat} (hm:p∈lp) (iR:∀ q∈nd p,sB s q=true):hG ts es p.1 p.2 (cK ts s.L p.1 p.2):=by
 obtain⟨_,x,as,bs,ha,hb,hl⟩:=hp.at_ p hm
 have ea:cN ts p.1 p.2=fg as bs:=by unfold cN;rw[ha,hb];rfl
 unfold cK
 rw[ea,ua _ as bs hl]
 refine .ie _ ha hb hl fun k u v hu hv =>?_
 unfold qM
 rw[hu,hv]
 dsimp only
 by_cases e:u=v
 ·subst e;rw[if_pos rfl];exact .refl u
 ·rw[if_neg e]
  have hr:(u,v)∈cN ts p.1 p.2:=by rw[ea];exact iy.mpr ⟨e,k,hu,hv⟩
  obtain⟨j,d,ej⟩:=MZ h e (iR _ ((hp.HQ p hm _).mpr ⟨_,hr,O⟩))
  rw[ej];exact h.sound u v j ej
abbrev kF:=Nat × Nat->Nat
def fD (lk:kF) (p:Nat × Nat):kF:=fun q=>if q=p then lk p - 1 else lk q
def dI (ts:List Tm) (st:SS × kF) (p:Nat × Nat):SS × kF :=
 if fD st.2 p p=0 then (ji st.1 p.1 p.2 (cK ts st.1.L p.1 p.2) true,fD st.2 p) else (st.1,fD st.2 p)
theorem zA (hp:LP ts ls lp nd) {u v k:Nat} (Iz:u < v):∀ {l:List (Nat × Nat)}{s:SS}{lk:kF},SI ts es ts.length s->oK s->(∀ x∈s.dn,x.k<=k)->s.L u v=some k->l.Nodup->(∀ p∈l,p∈lp∧(u,v)∈nd p) ->
  (∀ p∈lp,lk p=iG s (nd p)+(if p∈l then 1 else 0))->(∀ p∈lp,p ∉ l->(∀ q∈nd p,sB s q=true)->Lt s.L p.1 p.2 (cK ts s.L p.1 p.2)) ->
  kG ts es ts.length s (l.foldl (dI ts) (s,lk)).1∧(∀ p∈lp,(l.foldl (dI ts) (s,lk)).2 p=iG s (nd p))∧B5 ts lp nd (l.foldl (dI ts) (s,lk)).1
 | [],s,lk,h,hh,_,_,_,_,hl,hd=>⟨kG.refl h hh,fun p hm=>by rw[List.foldl_nil];have:=hl p hm;rw[if_neg cY]at this;exact this,fun p hm iR=>hd p hm cY iR⟩
 | p :: l,s,lk,h,hh,top,IA,rV,mz,hl,hd=>by
  rw[bQ]at rV
  obtain⟨hm,hq⟩:=mz p bg
  have e1:lk p=iG s (nd p)+1:=by have:=hl p hm;rw[if_pos bg]at this;exact this
  have e2:fD lk p p=iG s (nd p):=by unfold fD;rw[if_pos rfl,e1];rfl
  rw[qd]
  have hlk:∀ q∈lp,fD lk p q=iG s (nd q)+(if q∈l then 1 else 0):=fun q A7=>by
   by_cases eq:q=p
   ·subst eq;rw[e2,if_neg rV.1];rfl
   ·unfold fD
    rw[if_neg eq,hl q A7]
    congr 1
    by_cases Fz:q∈l
    ·rw[if_pos Fz,if_pos (aW _ Fz)]
    ·rw[if_neg Fz,if_neg (fun z=>(aY.mp z).elim eq Fz)]
  by_cases ez:fD lk p p=0
  ·have es:dI ts (s,lk) p=(ji s p.1 p.2 (cK ts s.L p.1 p.2) true,fD lk p):=if_pos ez
   rw[es]
   have iR:=xF.mp (e2.symm.trans ez)
   obtain⟨cU,x,as,bs,ha,hb,eg⟩:=hp.at_ p hm
   have S3:k<=cK ts s.L p.1 p.2:=by
    obtain⟨r,hr,er⟩:=(hp.HQ p hm _).mp hq
    have aj7:=(iy.mp hr).1
    have:s.L r.1 r.2=some k:=by
     have q1:min r.1 r.2=u:=congrArg cL er
     have q2:max r.1 r.2=v:=congrArg ym er
     rcases gb r.1 r.2 with q | q
     ·rw[show r.1=u by omega,show r.2=v by omega];exact IA
     ·rw[show r.1=v by omega,show r.2=u by omega,h.sym];exact IA
    have:=xB (g:=fun p=>(s.L p.1 p.2).getD 0) hr
    unfold cK
    simp only[*,Option.getD_some]at this
    omega
   obtain⟨kp,lt⟩:=Ci (sg:=true) h hh (ai.mp ha).1 (ai.mp hb).1 (fun y hy=>bq (top y hy) S3) (by unfold cK;omega) (Ie h hp hm iR) (fun _ => .inl rfl)
   have XF:∀ q,iG (ji s p.1 p.2 (cK ts s.L p.1 p.2) true) q=iG s q:=fun q=>by unfold iG sB;rw[kp.dn]
   have afN:(ji s p.1 p.2 (cK ts s.L p.1 p.2) true).L u v=some k:=by
    rcases h.mC u v k Iz IA with hw | ⟨y,hy,y1,y2,y3⟩
    ·obtain⟨A5,Uq⟩:False:=by
      obtain⟨x2,Uq,g1,g2⟩:=pD.mp (iR _ hq)
      have:=(h.dl x2 Uq).2.2
      rw[g1,g2]at this
      rw[this]at hw
      cases hw
    ·have:=(kp.si.dl y (by rw[kp.dn];exact hy)).2.1
     rw[y1,y2,y3]at this
     exact this
   obtain⟨r1,r2,r3⟩:=zA hp Iz (l:=l) (lk:=fD lk p) kp.si kp.hd (by rw[kp.dn];exact top) afN rV.2 (fun q hq=>mz q (aW _ hq)) (fun q A7=>by rw[XF];exact hlk q A7) (fun q A7 Fz GH=>by
    have Qd:∀ z∈nd q,sB s z=true:=fun z hz=>by have:=GH z hz;unfold sB at this ⊢;rw[kp.dn]at this;exact this
    rw[Pl h kp hp A7 Qd]
    by_cases eq:q=p
    ·subst eq;exact lt
    ·exact(hd q A7 (fun z=>(aY.mp z).elim eq Fz) Qd).mono kp.le)
   exact⟨kp.trans r1,fun q A7=>by rw[r2 q A7,XF],r3⟩
  ·have es:dI ts (s,lk) p=(s,fD lk p):=if_neg ez
   rw[es]
   exact zA hp Iz (l:=l) (lk:=fD lk p) h hh top IA rV.2 (fun q hq=>mz q (aW _ hq)) hlk (fun q A7 Fz GH=>by
    by_cases eq:q=p
    ·subst eq;exact absurd (e2.trans (xF.mpr GH)) ez
    ·exact hd q A7 (fun z=>(aY.mp z).elim eq Fz) GH)
theorem Kp (h:SI ts es ts.length s) (fa:FA s s.dn.length) (hw:∀ a b,s.W a b=none) (hp:LP ts ls lp nd) (done:B5 ts lp nd s) (eR:∀ a b w,(a,b,w)∈es->Lt s.L a b w)
  (Zq:∀ a b k,s.L a b=some k->ls.getD a 0=ls.getD b 0):N2 ts es ts.length s.L:=by
 refine⟨h.diag,h.sym,eR,WY h fa hw,?_⟩
 -- for a ajY b
 have low:∀ (a b:Nat) (x:Str) (as bs:List Nat) (f:Nat->Nat),a < b->ts[a]? = some (.of x as)->ts[b]? = some (.of x bs)->as.length=bs.length->(∀ k u v:Nat,as[k]? = some u->bs[k]? = some v->Lt s.L u v (f k))->Lt s.L a b (1+sumTo f as.length):=fun a b x as bs f i6 ha hb hl hf=>by
  have hm:(a,b)∈lp:=hp.all a b x as bs i6 ha hb hl fun k u v hu hv=>by obtain⟨j,e,_⟩:=hf k u v hu hv;exact Zq u v j e
  have ea:cN ts a b=fg as bs:=by unfold cN;rw[ha,hb];rfl
  have iR:∀ q∈nd (a,b),sB s q=true:=fun q hq=>by
   obtain⟨r,hr,rfl⟩:=(hp.HQ _ hm q).mp hq
   have hr:r∈cN ts a b:=hr
   rw[ea]at hr
   obtain⟨gv,k,hu,hv⟩:=iy.mp hr
   obtain⟨j,e,_⟩:=hf k r.1 r.2 hu hv
   refine pD.mpr ?_
   rcases gb r.1 r.2 with q | q
   ·rcases h.mC _ _ j q e with z | ⟨y,hy,y1,y2,_⟩
    ·rw[hw]at z;cases z
    ·exact⟨y,hy,by show y.a=min r.1 r.2;omega,by show y.b=max r.1 r.2;omega⟩
   ·rw[h.sym]at e
    rcases h.mC _ _ j (by omega) e with z | ⟨y,hy,y1,y2,_⟩
    ·rw[hw]at z;cases z
    ·exact⟨y,hy,by show y.a=min r.1 r.2;omega,by show y.b=max r.1 r.2;omega⟩
  refine(done _ hm iR).le ?_
  show cK ts s.L a b<=_
  unfold cK
  rw[ea,ua _ as bs hl]
  refine yR (uu fun k hk =>?_) 1
  have hu:as[k]? = some as[k]:=aj hk
  have hv:bs[k]? = some (bs[k]'(by omega)):=aj (by omega)
  unfold qM
  rw[hu,hv]
  dsimp only
  split
  ·exact bA _
  ·obtain⟨j,e,hj⟩:=hf k _ _ hu hv
   rw[e];exact hj
 intro a b x as bs f ha hb hl hf
 rcases AN a b with q | q | q
 ·exact low a b x as bs f q ha hb hl hf
 ·subst q
  exact⟨0,h.diag a (ai.mp ha).1,bA _⟩
 ·obtain⟨j,e,hj⟩:=low b a x bs as f q hb ha hl.symm (fun k u v hu hv=>by obtain⟨j,e,hj⟩:=hf k v u hv hu;exact⟨j,by rw[h.sym];exact e,hj⟩)
  exact⟨j,by rw[h.sym];exact e,by rw[hl];exact hj⟩
end
theorem lE {α : Type}:∀ {S U:List α},S.Nodup->(∀ x∈S,x∈U)->S.length<=U.length
 | [],U,_,_=>bA _
 | x :: S,U,hn,h=>by
  obtain⟨A,B,rfl⟩:=List.append_of_mem (h x bg)
  have hx:=(bQ.mp hn).1
  have:=lE (S:=S) (U:=A ++ B) (bQ.mp hn).2 fun y hy=>by
   have:=h y (aW _ hy)
   rcases aA.mp this with z | z
   ·exact qb _ z
   ·rcases aY.mp z with z | z
    ·exact absurd (z ▸ hy) hx
    ·exact cz _ z
  rw[aK]at this
  rw[bV,aK,bV]
  omega
def mS (n:Nat):SS where
 L:=fun a b=>if a=b∧a < n then some 0 else none
 W:=fun _ _=>none
 Hd:=fun _=>none
 Sg:=fun _ _=>none
 St:=fun _ => []
 dn := []
theorem Ao {n a b k:Nat} (h:(mS n).L a b=some k):a=b∧a < n∧k=0:=by
 have h:(if a=b∧a < n then some 0 else none)=some k:=h
 split at h
 ·rename_i c;cases h;exact⟨c.1,c.2,O⟩
 ·cases h
theorem RC (ts:List Tm) (es:List cy) (n:Nat):SI ts es n (mS n)∧oK (mS n):=by
 refine⟨⟨?_,?_,?_,?_,?_,?_,?_,?_,AR,?_,?_,?_,?_⟩,⟨fun _ _ _=>rfl,fun a k b e=>nomatch e⟩⟩
 ·intro a b
  show (if a=b∧a < n then some 0 else none)=(if b=a∧b < n then some 0 else none)
  by_cases e:a=b
  ·subst e;rfl
  ·rw[if_neg (fun z=>e z.1),if_neg (fun z=>e z.1.symm)]
 ·intro a ha;exact if_pos ⟨O,ha⟩
 ·intro a b k e;obtain⟨rfl,h,_⟩:=Ao e;exact⟨h,h⟩
 ·intro a b k ne e;exact absurd (Ao e).1 ne
 ·intro a b k e;cases e
 ·intro a b k i6 e;have:=(Ao e).1;omega
 ·intro x hx;cases hx
 ·intro x hx;cases hx
 ·intro b c k;exact⟨(fun h=>nomatch h),fun ⟨x,hx,_⟩=>(nomatch hx)⟩
 ·intro a b k e;cases e
 ·intro x hx;cases hx
 ·intro a b k e
  obtain⟨rfl,_,rfl⟩:=Ao e
  exact .refl a
section
variable {ts:List Tm}{es:List cy}{ls:List Nat}{lp:List (Nat × Nat)}{nd:Nat × Nat->List (Nat × Nat)} {s s':SS}
def nv (s:SS) (l:List cy):SS:=l.foldl (fun s e=>ji s e.1 e.2.1 e.2.2 true) s
theorem LW:∀ {l:List cy}{s:SS},SI ts es ts.length s->oK s->s.dn = []->(∀ e∈l,e∈es∧e.1 < ts.length∧e.2.1 < ts.length∧1<=e.2.2) ->
  kG ts es ts.length s (nv s l)∧∀ e∈l,Lt (nv s l).L e.1 e.2.1 e.2.2
 | [],s,h,hh,_,_=>⟨kG.refl h hh,fun e he=>nomatch he⟩
 | e :: l,s,h,hh,hd,sub=>by
  obtain⟨he,la,lb,hw⟩:=sub e bg
  obtain⟨kp,lt⟩:=Ci (sg:=true) h hh la lb (by rw[hd];exact fun x hx=>nomatch hx) hw (.eR (a:=e.1) (b:=e.2.1) (w:=e.2.2) he) (fun _ => .inl rfl)
  obtain⟨CL,zy⟩:=LW (l:=l) kp.si kp.hd (by rw[kp.dn];exact hd) fun e he=>sub e (aW _ he)
  refine⟨kp.trans CL,fun e' LG =>?_⟩
  rcases aY.mp LG with rfl | LG
  ·exact lt.mono CL.le
  ·exact zy e' LG
structure yw (ts:List Tm) (es:List cy) (lp:List (Nat × Nat)) (nd:Nat × Nat->List (Nat × Nat)) (s:SS) (lk:kF):Prop where
 si:SI ts es ts.length s
 hd:oK s
 fa:FA s s.dn.length
 Yw:∀ p∈lp,lk p=iG s (nd p)
 done:B5 ts lp nd s
 eR:∀ e∈es,Lt s.L e.1 e.2.1 e.2.2
 jo:(s.dn.map fun x=>(x.a,x.b)).Nodup
theorem QN (hp:LP ts ls lp nd) (gF:∀ e∈es,e.1 < ts.length∧e.2.1 < ts.length∧1<=e.2.2):yw ts es lp nd (nv (mS ts.length) es) fun p=>(nd p).length:=by
 obtain⟨h,hh⟩:=RC ts es ts.length
 obtain⟨kp,lt⟩:=LW (l:=es) h hh rfl fun e he=>⟨he,gF e he⟩
 have dn:(nv (mS ts.length) es).dn = []:=kp.dn
 have no:∀ q,sB (nv (mS ts.length) es) q=false:=fun q=>by unfold sB;rw[dn];rfl
 refine⟨kp.si,kp.hd,?_,?_,?_,lt,by rw[dn];exact df⟩
 ·intro i j x y hi hj
  rw[dn]at hi;cases hi
 ·intro p hm
  unfold iG
  rw[List.filter_eq_self.mpr (fun q _=>by rw[no];rfl)]
 ·intro p hm iR
  obtain⟨q,hq⟩:=List.exists_mem_of_ne_nil _ (hp.ne p hm)
  have:=iR q hq
  rw[no]at this;cases this
theorem yw.least (A:yw ts es lp nd s lk) {a b k:Nat} (hh:s.Hd a=some (k,b)) (hm:∀ c k' d,s.Hd c=some (k',d)->k<=k'):s.W a b=some k∧∀ c d m,s.W c d=some m->k<=m:=by
 refine⟨(A.hd.hs a k b hh).1,fun c d m e =>?_⟩
 cases q:s.Hd c with
 | none=>rw[A.hd.hn c q d]at e;cases e
 | some p =>
  obtain⟨k',d'⟩:=p
  have:=(A.hd.hs c k' d' q).2 d m e
  have:=hm c k' d' q
  omega
theorem ED {p q:Prop} [Decidable p] [Decidable q] (h:p↔q):(if p then 1 else 0:Nat)=if q then 1 else 0:=by
 by_cases hp:p
 ·rw[if_pos hp,if_pos (h.mp hp)]
 ·rw[if_neg hp,if_neg (fun z=>hp (h.mpr z))]
theorem By {s s3:SS}{u v:Nat} (hb:sB s (u,v)=false) (h3:∀ q,sB s3 q=true↔sB s q=true∨q=(u,v)):∀ {l:List (Nat × Nat)},l.Nodup->iG s l=iG s3 l+(if (u,v)∈l then 1 else 0)
 | [],_=>rfl
 | q :: l,hn=>by
  rw[bQ]at hn
  have ih:=By hb h3 (l:=l) hn.2
  unfold iG at ih ⊢
  rw[oJ,oJ]
  by_cases eq:q=(u,v)
  ·have e1:sB s q=false:=by rw[eq];exact hb
   have e3:sB s3 q=true:=(h3 q).mpr (.inr eq)
   rw[e1,e3,if_pos (show (u,v)∈q :: l by rw[eq];exact bg)]
   show (q :: l.filter fun q => !sB s q).length=(l.filter fun q => !sB s3 q).length+1
   rw[bV,ih,if_neg (by rw[<- eq];exact hn.1)]
  ·have sM:((u,v)∈q :: l)↔(u,v)∈l:=by
    rw[aY];exact⟨fun z=>z.elim (fun z=>absurd z.symm eq) id,.inr⟩
   have e:sB s3 q=sB s q:=by
    rw[fQ,h3]
    exact⟨fun z=>z.elim id fun z=>absurd z eq,.inl⟩
   rw[e]
   cases sB s q with
   | true =>
    show (l.filter fun q => !sB s q).length=(l.filter fun q => !sB s3 q).length+_
    rw[ih,ED sM]
   | false =>
    show (q :: l.filter fun q => !sB s q).length=(q :: l.filter fun q => !sB s3 q).length+_
    rw[bV,bV,ih,ED sM];omega
theorem To {lk:kF} (A:yw ts es lp nd s lk) (hp:LP ts ls lp nd) {a b k:Nat}{f:Bool}{hd:Option (Nat × Nat)} (hw:s.W a b=some k) (least:∀ c d m,s.W c d=some m->k<=m) (hf:s.Sg a b=some k->f=true)
  (rh:AI (fun y=>hJ s.W a b a y) hd) {aw:List (Nat × Nat)} (Vf:aw.Nodup) (L9:∀ p,p∈aw↔p∈lp∧(a,b)∈nd p) (s1 s2 s3:SS) (e1:s1=pF s a b k f hd) (e2:s2=gY a k s1 (s1.St b)) (e3:s3=gY b k s2 (s2.St a)) :
  yw ts es lp nd (aw.foldl (dI ts) (s3,lk)).1 (aw.foldl (dI ts) (s3,lk)).2∧(aw.foldl (dI ts) (s3,lk)).1.dn=s.dn ++ [⟨a,b,k,f⟩]:=by
 obtain⟨kk,fa3,qv,Yv,MS⟩:=Fd (f:=f) A.si A.hd A.fa hw least hf rh s1 s2 s3 e1 e2 e3
 have i6:=(A.si.wl a b k hw).1
 have hb:sB s (a,b)=false:=by
  cases e:sB s (a,b) with
  | false=>rfl
  | true =>
   obtain⟨x,hx,g1,g2⟩:=pD.mp e
   have:=(A.si.dl x hx).2.2
   rw[g1,g2,hw]at this;cases this
 have h3:∀ q,sB s3 q=true↔sB s q=true∨q=(a,b):=fun q=>by
  rw[pD,pD,qv]
  constructor
  ·rintro⟨x,hx,g⟩
   rcases aA.mp hx with hx | hx
   ·exact .inl ⟨x,hx,g⟩
   ·rw[aB.mp hx]at g
    exact .inr (oF g.1.symm g.2.symm)
  ·rintro(⟨x,hx,g⟩ | rfl)
   ·exact⟨x,aA.mpr (.inl hx),g⟩
   ·exact⟨_,aA.mpr (.inr (bx _)),O,O⟩
 have C9:s3.L a b=some k:=by
  have:=(kk.si.dl ⟨a,b,k,f⟩ (by rw[qv];exact aA.mpr (.inr (bx _)))).2.1
  exact this
 have L1:s1.L=s.L:=by rw[e1];rfl
 obtain⟨r1,r2,r3⟩:=zA hp i6 (l:=aw) (lk:=lk) kk.si kk.hd MS C9 Vf (fun p C1=>(L9 p).mp C1) (fun p hm=>by
   rw[A.Yw p hm,By hb h3 (hp.ndd p hm)]
   rw[ED (show (a,b)∈nd p↔p∈aw by rw[L9];exact⟨fun z=>⟨hm,z⟩,fun z=>z.2⟩)]) (fun p hm hna iR=>by
   have Ub:(a,b) ∉ nd p:=fun z=>hna ((L9 p).mpr ⟨hm,z⟩)
   have UQ:∀ q∈nd p,sB s q=true:=fun q hq=>((h3 q).mp (iR q hq)).resolve_right fun z=>Ub (by rw[<- z];exact hq)
   have e:cK ts s3.L p.1 p.2=cK ts s.L p.1 p.2:=by
    unfold cK
    congr 1
    refine xC fun r hr =>?_
    have gv:=(iy.mp hr).1
    obtain⟨j,⟨x,hx,px,ex⟩,ej⟩:=MZ A.si gv (UQ _ ((hp.HQ p hm _).mpr ⟨r,hr,O⟩))
    have d':s3.Dn r.1 r.2 j:=⟨x,by rw[qv];exact aA.mpr (.inl hx),px,ex⟩
    rw[ej,(kk.si.Bg d').1]
   rw[e]
   exact(A.done p hm UQ).mono Yv)
 have Va:=r1.dn.trans qv
 refine⟨⟨r1.si,r1.hd,?_,fun p hm =>?_,r3,fun e he=>((A.eR e he).mono Yv).mono r1.le,?_⟩,Va⟩
 ·have:=fa3.keep r1
  rw[r1.dn];exact this
 ·rw[r2 p hm]
  unfold iG sB
  rw[r1.dn]
 ·rw[Va,c9,eK]
  refine⟨A.jo,bQ.mpr ⟨cY,df⟩,fun x hx y hy e =>?_⟩
  have hy:y=(a,b):=aB.mp hy
  obtain⟨z,hz,ez⟩:=bj.mp hx
  have:=(A.si.dl z hz).2.2
  have q1:z.a=a:=congrArg cL (ez.trans (e.trans hy))
  have q2:z.b=b:=congrArg ym (ez.trans (e.trans hy))
  rw[q1,q2,hw]at this
  cases this
theorem Qx {lk:kF} (A:yw ts es lp nd s lk):s.dn.length<=ts.length * ts.length:=by
 have h1:∀ p∈s.dn.map fun x=>(x.a,x.b),p.1 < ts.length∧p.2 < ts.length:=fun p hp=>by
  obtain⟨x,hx,rfl⟩:=bj.mp hp
  exact A.si.yI _ _ _ (A.si.dl x hx).2.1
 have h2:((s.dn.map fun x=>(x.a,x.b)).map fun p=>p.1 * ts.length+p.2).Nodup:=by
  rw[yr,iC]
  refine A.jo.imp_of_mem fun {p q} hp hq gv e=>gv ?_
  obtain⟨p1,p2⟩:=h1 p hp
  obtain⟨q1,q2⟩:=h1 q hq
  have e1:p.1=q.1:=by
   have a1:(p.1 * ts.length+p.2) / ts.length=p.1:=by rw[Aa,DH (by omega),B0 p2,pY]
   have a2:(q.1 * ts.length+q.2) / ts.length=q.1:=by rw[Aa,DH (by omega),B0 q2,pY]
   rw[<- a1, <- a2,e]
  refine oF e1 ?_
  rw[e1]at e
  omega
 have h3:=lE (U:=bN (ts.length * ts.length)) h2 fun x hx=>by
  obtain⟨p,hp,rfl⟩:=bj.mp hx
  obtain⟨p1,p2⟩:=h1 p hp
  rw[cI]
  have:(p.1+1) * ts.length<=ts.length * ts.length:=Nat.mul_le_mul_right _ p1
  rw[vg]at this
  omega
 rw[ar,ar,cR]at h3
 exact h3
theorem WJ {lk:kF} (A:yw ts es lp nd s lk) (hp:LP ts ls lp nd) (gF:∀ e∈es,e.1 < ts.length∧e.2.1 < ts.length∧1<=e.2.2) (oz:tD ts) (Zq:∀ a b k,hG ts es a b k->a < ts.length->b < ts.length->ls.getD a 0=ls.getD b 0) (qr:∀ a,s.Hd a=none) {a b:Nat} (ha:a < ts.length):s.L a b=aO ts es a b:=by
 have hw:∀ a b,s.W a b=none:=fun a b=>A.hd.hn a (qr a) b
 refine Ql (Kp A.si A.fa hw hp A.done (fun a b w h=>A.eR (a,b,w) h) (fun a b k e =>?_)) (fun a b w h=>⟨(gF (a,b,w) h).1,(gF (a,b,w) h).2.1⟩) oz A.si.sound ha
 exact Zq a b k (A.si.sound a b k e) (A.si.yI a b k e).1 (A.si.yI a b k e).2
end
theorem Wu {ts:List Tm}{es:List cy} (hn:ts.Nodup) {a b:Nat} (h:Eqv ts (es.map fun e=>(e.1,e.2.1)) a b):∃ n,hG ts es a b n:=by
 induction h with
 | refl a=>exact⟨0,.refl a⟩
 | symm _ ih=>obtain⟨n,d⟩:=ih;exact⟨n,.symm d⟩
 | trans _ _ Ir Fx=>obtain⟨n,d⟩:=Ir;obtain⟨m,e⟩:=Fx;exact⟨n+m,.trans d e⟩
 | eR he=>obtain⟨e,h1,h2⟩:=bj.mp he;cases h2;exact⟨e.2.2,.eR h1⟩
 | same h1 h2 =>
  have:=(jq (ai.mp h1).1 hn).mp (h1.trans h2.symm)
  subst this
  exact⟨0,.refl _⟩
 | @NU i j x as bs h1 h2 hl _ ih =>
  have ex:∀ k:Nat,∃ n:Nat,∀ u v:Nat,as[k]? = some u->bs[k]? = some v->hG ts es u v n:=fun k=>by
   cases e1:as[k]? with
   | none=>exact⟨0,fun u v z=>nomatch z⟩
   | some u =>
    cases e2:bs[k]? with
    | none=>exact⟨0,fun u v _ z=>nomatch z⟩
    | some v =>
     obtain⟨n,d⟩:=ih k u v e1 e2
     exact⟨n,fun u' v' z1 z2=>by cases z1;cases z2;exact d⟩
  exact⟨_,.ie (fun k=>(ex k).choose) h1 h2 hl fun k u v hu hv=>(ex k).choose_spec u v hu hv⟩
theorem LZ {ts:List Tm}{es:List cy} (he:∀ e∈es,1<=e.2.2) {a b n:Nat} (h:hG ts es a b n):n=0->a=b:=by
 induction h with
 | refl a=>exact fun _=>rfl
 | eR h=>intro z;have:=he _ h;have z:_=0:=z;dsimp only at this;omega
 | symm _ ih=>exact fun z=>(ih z).symm
 | trans _ _ Ir Fx=>exact fun z=>(Ir (by omega)).trans (Fx (by omega))
 | ie f _ _ _ _ _=>intro z;omega
theorem lG {ts:List Tm}{es:List cy} (a b:Nat):aO ts es a b=aO ts es b a:=by
 cases e:aO ts es a b with
 | none =>
  cases e':aO ts es b a with
  | none=>rfl
  | some m=>exact(o7 e (.symm (fb e').1)).elim
 | some n=>exact(vP (.symm (fb e).1) fun m d=>(fb e).2 m (.symm d)).symm
theorem vQ {ts:List Tm}{es:List cy} (a:Nat):aO ts es a a=some 0:=vP (.refl a) fun _ _=>bA _
theorem JB {ts:List Tm}{es:List cy}{a b c n m:Nat} (h1:aO ts es a c=some n) (h2:aO ts es c b=some m):∃ k,aO ts es a b=some k∧k<=n+m:=by
 have d:=hG.trans (fb h1).1 (fb h2).1
 cases e:aO ts es a b with
 | none=>exact(o7 e d).elim
 | some k=>exact⟨k,O,(fb e).2 _ d⟩
theorem Qy {ts:List Tm}{es:List cy}{a b w:Nat} (h:(a,b,w)∈es):∃ k,aO ts es a b=some k∧k<=w:=by
 have d:hG ts es a b w := .eR h
 cases e:aO ts es a b with
 | none=>exact(o7 e d).elim
 | some k=>exact⟨k,O,(fb e).2 _ d⟩
theorem FU {ts:List Tm}{es:List cy}{a b:Nat}{x:Str}{as bs:List Nat} (f:Nat->Nat) (ha:ts[a]? = some (.of x as)) (hb:ts[b]? = some (.of x bs)) (hl:as.length=bs.length) (hf:∀ k u v:Nat,as[k]? = some u->bs[k]? = some v->aO ts es u v=some (f k)):∃ k,aO ts es a b=some k∧k<=1+sumTo f as.length:=by
 have d:hG ts es a b (1+sumTo f as.length) := .ie f ha hb hl fun k u v hu hv=>(fb (hf k u v hu hv)).1
 cases e:aO ts es a b with
 | none=>exact(o7 e d).elim
 | some k=>exact⟨k,O,(fb e).2 _ d⟩
section
variable {ts:List Tm}{es:List cy}
inductive One (ts:List Tm) (es:List cy):Nat->Nat->Nat->Prop
 | eR {a b w:Nat}:(a,b,w)∈es->One ts es a b w
 | back {a b w:Nat}:(a,b,w)∈es->One ts es b a w
 | ie {a b:Nat}{x:Str}{as bs:List Nat} (f:Nat->Nat):ts[a]? = some (.of x as)->ts[b]? = some (.of x bs)->as.length=bs.length->(∀ k u v:Nat,as[k]? = some u->bs[k]? = some v->hG ts es u v (f k))->One ts es a b (1+sumTo f as.length)
inductive Way (ts:List Tm) (es:List cy):Nat->Nat->Nat->Prop
 | nil (a:Nat):Way ts es a a 0
 | cons {a b c n m:Nat}:One ts es a b n->Way ts es b c m->Way ts es a c (n+m)
theorem One.symm {a b n:Nat} (h:One ts es a b n):One ts es b a n:=by
 cases h with
 | eR h=>exact .back h
 | back h=>exact .eR h
 | ie f h1 h2 hl hf=>rw[hl];exact .ie f h2 h1 hl.symm fun k u v hu hv => .symm (hf k v u hv hu)
theorem One.Dm {a b n:Nat} (h:One ts es a b n):hG ts es a b n:=by
 cases h with
 | eR h=>exact .eR h
 | back h=>exact .symm (.eR h)
 | ie f h1 h2 hl hf=>exact .ie f h1 h2 hl hf
theorem Way.Dm {a b n:Nat} (h:Way ts es a b n):hG ts es a b n:=by
 induction h with
 | nil a=>exact .refl a
 | cons h _ ih=>exact .trans h.Dm ih
theorem Way.app {a b c n m:Nat} (h:Way ts es a b n):Way ts es b c m->Way ts es a c (n+m):=by
 induction h with
 | nil a=>intro k;rw[pX];exact k
 | cons h _ ih=>intro k;rw[jZ];exact .cons h (ih k)
theorem Way.rev {a b n:Nat} (h:Way ts es a b n):Way ts es b a n:=by
 induction h with
 | nil a=>exact .nil a
 | @cons a b c n m h _ ih =>
  have:=ih.app (.cons h.symm (.nil _))
  rw[pY,Nat.add_comm m n]at this
  exact this
theorem Wy {a b n:Nat} (h:hG ts es a b n):Way ts es a b n:=by
 induction h with
 | refl a=>exact .nil a
 | @eR a b w h=>exact .cons (m:=0) (.eR h) (.nil b)
 | symm _ ih=>exact ih.rev
 | trans _ _ i1 i2=>exact i1.app i2
 | @ie a b x as bs f h1 h2 hl hf _=>exact .cons (m:=0) (.ie f h1 h2 hl hf) (.nil b)
theorem AH {a b n:Nat} (d:hG ts es a b n):∃ k,aO ts es a b=some k∧k<=n:=by
 cases e:aO ts es a b with
 | none=>exact(o7 e d).elim
 | some k=>exact⟨k,O,(fb e).2 _ d⟩
theorem Te (he:∀ e∈es,1<=e.2.2) {a b k:Nat} (h:aO ts es a b=some k) (ne:a≠b):1<=k:=by
 rcases Nat.eq_zero_or_pos k with z | z
 ·exact absurd (LZ he (fb h).1 z) ne
 ·exact z
theorem One.pos (he:∀ e∈es,1<=e.2.2) {a b n:Nat} (o:One ts es a b n):1<=n:=by
 cases o with
 | eR h=>exact he _ h
 | back h=>exact he _ h
 | ie f _ _ _ _=>omega
theorem NQ (he:∀ e∈es,1<=e.2.2) {a b k:Nat} (h:aO ts es a b=some k) (ne:a≠b):∃ c m r,One ts es a c m∧aO ts es a c=some m∧aO ts es c b=some r∧m+r=k∧a≠c:=by
 obtain⟨d,least⟩:=fb h
 have w:=Wy d
 cases w with
 | nil=>exact absurd rfl ne
 | @cons _ c _ n m o w =>
  obtain⟨p,hp,lp⟩:=AH o.Dm
  obtain⟨q,hq,lq⟩:=AH w.Dm
  obtain⟨t,ht,lt⟩:=JB hp hq
  rw[h]at ht
  cases ht
  have e1:p=n:=by omega
  have e2:q=m:=by omega
  subst e1 e2
  refine⟨c,_,_,o,hp,hq,O,fun z =>?_⟩
  subst z
  rw[vQ]at hp
  have p0:=o.pos he
  have:=aH hp
  omega
theorem Nm {a c:Nat}{x:Str}{as bs:List Nat}{f:Nat->Nat} (ha:ts[a]? = some (.of x as)) (hc:ts[c]? = some (.of x bs)) (hl:as.length=bs.length) (hf:∀ k u v:Nat,as[k]? = some u->bs[k]? = some v->hG ts es u v (f k)) (hd:aO ts es a c=some (1+sumTo f as.length)):cK ts (aO ts es) a c=1+sumTo f as.length:=by
 have ea:cN ts a c=fg as bs:=by unfold cN;rw[ha,hc];rfl
 unfold cK
 rw[ea,ua _ as bs hl]
 have up:sumTo (qM (fun p=>(aO ts es p.1 p.2).getD 0) as bs) as.length<=sumTo f as.length:=uu fun k hk=>by
  unfold qM
  have hu:as[k]? = some as[k]:=aj hk
  have hv:bs[k]? = some (bs[k]'(by omega)):=aj (by omega)
  rw[hu,hv]
  dsimp only
  split
  ·exact bA _
  ·obtain⟨m,e,hm⟩:=AH (hf k _ _ hu hv)
   rw[e];exact hm
 have dn:=(fb hd).2 _ (hG.ie (qM (fun p=>(aO ts es p.1 p.2).getD 0) as bs) ha hc hl fun k u v hu hv=>by
  unfold qM
  rw[hu,hv]
  dsimp only
  by_cases e:u=v
  ·rw[if_pos e,e];exact .refl v
  ·rw[if_neg e]
   obtain⟨m,e,hm⟩:=AH (hf k u v hu hv)
   rw[e];exact(fb e).1)
 omega
theorem Ft {M:Mx} (sy:∀ a b,M a b=M b a) {a c:Nat}{x y:Str}{as bs:List Nat} (ha:ts[a]? = some (.of x as)) (hc:ts[c]? = some (.of y bs)) (hl:as.length=bs.length):cK ts M a c=cK ts M c a:=by
 have ea:cN ts a c=fg as bs:=by unfold cN;rw[ha,hc];rfl
 have ec:cN ts c a=fg bs as:=by unfold cN;rw[ha,hc];rfl
 unfold cK
 rw[ea,ec,ua _ as bs hl,ua _ bs as hl.symm,hl]
 congr 1
 refine Ko fun k hk =>?_
 unfold qM
 have hv:bs[k]? = some bs[k]:=aj hk
 have hu:as[k]? = some (as[k]'(by omega)):=aj (by omega)
 rw[hu,hv]
 dsimp only
 by_cases e:as[k]'(by omega)=bs[k]
 ·rw[if_pos e,if_pos e.symm]
 ·rw[if_neg e,if_neg (fun z=>e z.symm),sy]
abbrev dG:=Nat × Nat × Option Nat
inductive ja (ts:List Tm) (es:List cy):dG->Prop
 | eR (a b p:Nat) (e:cy):es[p]? = some e->((e.1=a∧e.2.1=b)∨(e.1=b∧e.2.1=a))->aO ts es a b=some e.2.2->ja ts es (a,b,some p)
 | ie (a b:Nat) (x:Str) (as bs:List Nat):a≠b->ts[a]? = some (.of x as)->ts[b]? = some (.of x bs)->as.length=bs.length->(∀ p∈cN ts a b,∃ k,aO ts es p.1 p.2=some k)->aO ts es a b=some (cK ts (aO ts es) a b)->ja ts es (a,b,none)
def both (l:List dG) (c:Nat):List dG:=l.flatMap fun t=>(if t.1=c then [t] else []) ++ (if t.2.1=c then [(t.2.1,t.1,t.2.2)] else [])
def AG (M:Mx) (es:List cy) (p:Nat):List dG:=match es[p]? with
 | some e=>if M e.1 e.2.1=some e.2.2 then [(e.1,e.2.1,some p)] else []
 | none => []
def sh (M:Mx) (es:List cy) (i:Nat):List dG:=(bN i).flatMap (AG M es)
def yC (ts:List Tm) (M:Mx) (l:List (Nat × Nat)):List dG:=l.flatMap fun p=>if M p.1 p.2=some (cK ts M p.1 p.2) then [(p.1,p.2,none)] else []
def wN (ts:List Tm) (es:List cy) (lp:List (Nat × Nat)):List dG:=sh (aO ts es) es es.length ++ yC ts (aO ts es) lp
theorem uZ {l:List dG}{c:Nat}{s:dG}:s∈both l c↔∃ t∈l,(t.1=c∧s=t)∨(t.2.1=c∧s=(t.2.1,t.1,t.2.2)):=by
 unfold both
 rw[gR]
 refine exists_congr fun t=>and_congr_right fun _ =>?_
 rw[aA]
 refine or_congr ?_ ?_
 ·by_cases e:t.1=c
  ·rw[if_pos e,aB];exact⟨fun h=>⟨e,h⟩,fun h=>h.2⟩
  ·rw[if_neg e];exact⟨(fun h=>nomatch h),fun h=>absurd h.1 e⟩
 ·by_cases e:t.2.1=c
  ·rw[if_pos e,aB];exact⟨fun h=>⟨e,h⟩,fun h=>h.2⟩
  ·rw[if_neg e];exact⟨(fun h=>nomatch h),fun h=>absurd h.1 e⟩
theorem EJ {M:Mx}{i:Nat}{s:dG}:s∈sh M es i↔∃ p e,p < i∧es[p]? = some e∧M e.1 e.2.1=some e.2.2∧s=(e.1,e.2.1,some p):=by
 unfold sh
 rw[gR]
 constructor
 ·rintro⟨p,hp,h⟩
  have hp:=cI.mp hp
  unfold AG at h
  cases e:es[p]? with
  | none=>rw[e]at h;exact nomatch h
  | some d =>
   rw[e]at h
   dsimp only at h
   by_cases q:M d.1 d.2.1=some d.2.2
   ·rw[if_pos q]at h;exact⟨p,d,hp,e,q,aB.mp h⟩
   ·rw[if_neg q]at h;exact nomatch h
 ·rintro⟨p,d,hp,e,q,rfl⟩
  refine⟨p,cI.mpr hp,?_⟩
  unfold AG
  rw[e]
  dsimp only
  rw[if_pos q];exact bx _
theorem EA {M:Mx}{l:List (Nat × Nat)}{s:dG}:s∈yC ts M l↔∃ p∈l,M p.1 p.2=some (cK ts M p.1 p.2)∧s=(p.1,p.2,none):=by
 unfold yC
 rw[gR]
 refine exists_congr fun p=>and_congr_right fun _ =>?_
 by_cases q:M p.1 p.2=some (cK ts M p.1 p.2)
 ·rw[if_pos q,aB];exact⟨fun h=>⟨q,h⟩,fun h=>h.2⟩
 ·rw[if_neg q];exact⟨(fun h=>nomatch h),fun h=>absurd h.1 q⟩
theorem ja.flip {s:dG} (h:ja ts es s):ja ts es (s.2.1,s.1,s.2.2):=by
 cases h with
 | eR a b p e h1 h2 h3=>exact .eR b a p e h1 (h2.elim .inr .inl) (by rw[lG];exact h3)
 | ie a b x as bs h0 h1 h2 h3 h4 h5 =>
  refine .ie b a x bs as (fun z=>h0 z.symm) h2 h1 h3.symm (fun p hp =>?_) ?_
  ·have ea:cN ts a b=fg as bs:=by unfold cN;rw[h1,h2];rfl
   have eb:cN ts b a=fg bs as:=by unfold cN;rw[h1,h2];rfl
   rw[eb]at hp
   obtain⟨n,k,u,v⟩:=iy.mp hp
   obtain⟨m,e⟩:=h4 (p.2,p.1) (by rw[ea];exact iy.mpr ⟨fun z=>n z.symm,k,v,u⟩)
   exact⟨m,by rw[lG];exact e⟩
  ·rw[lG, <- Ft lG h1 h2 h3];exact h5
theorem ja.dist {s:dG} (h:ja ts es s):∃ k,aO ts es s.1 s.2.1=some k:=by
 cases h with
 | eR a b p e h1 h2 h3=>exact⟨_,h3⟩
 | ie a b x as bs h0 h1 h2 h3 h4 h5=>exact⟨_,h5⟩
def Km (ts:List Tm) (es:List cy) (lp:List (Nat × Nat)):Prop := ∀ p∈lp,∀ q∈cN ts p.1 p.2,∃ k,aO ts es q.1 q.2=some k
theorem RA {ls:List Nat}{lp:List (Nat × Nat)}{nd:Nat × Nat->List (Nat × Nat)} (hp:LP ts ls lp nd) (arm:Km ts es lp) {c:Nat}{s:dG} (h:s∈both (wN ts es lp) c):ja ts es s∧s.1=c:=by
 obtain⟨t,ht,h⟩:=uZ.mp h
 have ok:ja ts es t:=by
  unfold wN at ht
  rcases aA.mp ht with ht | ht
  ·obtain⟨p,e,_,h1,h2,rfl⟩:=EJ.mp ht
   exact .eR _ _ p e h1 (.inl ⟨O,O⟩) h2
  ·obtain⟨p,C1,h1,rfl⟩:=EA.mp ht
   obtain⟨lt,x,as,bs,ha,hb,hl⟩:=hp.at_ p C1
   exact .ie _ _ x as bs (by omega) ha hb hl (arm p C1) h1
 rcases h with⟨h1,rfl⟩ | ⟨h1,rfl⟩
 ·exact⟨ok,h1⟩
 ·exact⟨ok.flip,h1⟩
theorem RB {ls:List Nat}{lp:List (Nat × Nat)}{nd:Nat × Nat->List (Nat × Nat)} (hp:LP ts ls lp nd) (he:∀ e∈es,1<=e.2.2) (oz:tD ts) (lead:∀ a b k,hG ts es a b k->a < ts.length->b < ts.length->ls.getD a 0=ls.getD b 0) {a b k:Nat} (h:aO ts es a b=some k) (ne:a≠b):∃ s∈both (wN ts es lp) a,∃ m r,aO ts es a s.2.1=some m∧aO ts es s.2.1 b=some r∧m+r=k:=by
 obtain⟨c,m,r,o,hm,hr,e,nac⟩:=NQ he h ne
 have jQ:∀ {i:Nat}{x:Str}{as:List Nat}{k u:Nat},ts[i]? = some (.of x as)->as[k]? = some u->u < ts.length:=fun {i x as k u} h1 h2=>Ac (oz i x as h1 u (ak h2)) (ai.mp h1).1
 cases o with
 | eR h =>
  obtain⟨p,PU⟩:=aT h
  refine⟨(a,c,some p),uZ.mpr ⟨(a,c,some p),aA.mpr (.inl (EJ.mpr ⟨p,(a,c,m),(ai.mp PU).1,PU,hm,O⟩)),.inl ⟨O,O⟩⟩,m,r,hm,hr,e⟩
 | back h =>
  obtain⟨p,PU⟩:=aT h
  refine⟨(a,c,some p),uZ.mpr ⟨(c,a,some p),aA.mpr (.inl (EJ.mpr ⟨p,(c,a,m),(ai.mp PU).1,PU,by rw[lG];exact hm,O⟩)),.inr ⟨O,O⟩⟩,m,r,hm,hr,e⟩
 | @ie _ _ x as bs f h1 h2 hl hf =>
  have ll:=Nm h1 h2 hl hf hm
  rcases Nat.lt_or_gt_of_ne nac with q | q
  ·have sM:=hp.all a c x as bs q h1 h2 hl fun k u v hu hv=>lead u v _ (hf k u v hu hv) (jQ h1 hu) (jQ h2 hv)
   exact⟨(a,c,none),uZ.mpr ⟨(a,c,none),aA.mpr (.inr (EA.mpr ⟨(a,c),sM,by dsimp only;rw[ll];exact hm,O⟩)),.inl ⟨O,O⟩⟩,_,r,hm,hr,e⟩
  ·have sM:=hp.all c a x bs as q h2 h1 hl.symm fun k u v hu hv=>(lead v u _ (hf k v u hv hu) (jQ h1 hv) (jQ h2 hu)).symm
   exact⟨(a,c,none),uZ.mpr ⟨(c,a,none),aA.mpr (.inr (EA.mpr ⟨(c,a),sM,by dsimp only;rw[<- Ft lG h1 h2 hl,ll,lG];exact hm,O⟩)),.inr ⟨O,O⟩⟩,_,r,hm,hr,e⟩
def Chain (ts:List Tm) (es:List cy):Nat->List dG->Nat->Prop
 | a, [],b=>a=b
 | a,s :: l,b=>s.1=a∧ja ts es s∧Chain ts es s.2.1 l b
def kL (M:Mx):List dG->Nat
 | []=>0
 | s :: l=>(M s.1 s.2.1).getD 0+kL M l
theorem xA {M:Mx}{s:dG}:∀ {l:List dG},kL M (l ++ [s])=kL M l+(M s.1 s.2.1).getD 0
 | []=>by show _+0=0+_;omega
 | t :: l=>by show _+kL M (l ++ [s])=_+kL M l+_;rw[xA];omega
theorem E5 {M:Mx}{s:dG}:∀ {l:List dG},s∈l->(M s.1 s.2.1).getD 0<=kL M l
 | t :: l,h=>by
  show _<=_+kL M l
  rcases aY.mp h with rfl | h
  ·omega
  ·have:=E5 (M:=M) h;omega
theorem yh {s:dG} (ok:ja ts es s):∀ {l:List dG}{a c:Nat},Chain ts es a l c->s.1=c->Chain ts es a (l ++ [s]) s.2.1
 | [],a,c,h,e=>⟨by rw[e];exact h.symm,ok,O⟩
 | t :: l,a,c,h,e=>⟨h.1,h.2.1,yh ok h.2.2 e⟩
theorem zW:∀ {l:List dG}{a b:Nat}{i:Nat}{s:dG},Chain ts es a l b->l[i]? = some s->Chain ts es a (l.take i) s.1∧ja ts es s
 | t :: l,a,b,0,s,h,e=>by cases e;exact⟨h.1.symm,h.2.1⟩
 | t :: l,a,b,i+1,s,h,e=>by
  obtain⟨h1,h2⟩:=zW (l:=l) h.2.2 (i:=i) (s:=s) e
  exact⟨⟨h.1,h.2.1,h1⟩,h2⟩
theorem zV:∀ {l:List dG}{a b c:Nat},Chain ts es a l b->Chain ts es a l c->b=c
 | [],a,b,c,h,k=>h.symm.trans k
 | t :: l,a,b,c,h,k=>zV h.2.2 k.2.2
structure yj (ts:List Tm) (es:List cy) (a b:Nat) (l:List dG):Prop where
 lt:a < ts.length∧b < ts.length
 ch:Chain ts es a l b
 sum:aO ts es a b=some (kL (aO ts es) l)
 len:l.length<=ts.length
def fc (ts:List Tm) (l:List dG):List (Nat × Nat):=l.flatMap fun s=>if s.2.2=none then cN ts s.1 s.2.1 else []
theorem Ce {l:List dG}{p:Nat × Nat}:p∈fc ts l↔∃ s∈l,s.2.2=none∧p∈cN ts s.1 s.2.1:=by
 unfold fc
 rw[gR]
 refine exists_congr fun s=>and_congr_right fun _ =>?_
 by_cases q:s.2.2=none
 ·rw[if_pos q];exact⟨fun h=>⟨q,h⟩,fun h=>h.2⟩
 ·rw[if_neg q];exact⟨(fun h=>nomatch h),fun h=>absurd h.1 q⟩
theorem F0 {l:List dG}{a b:Nat} (h:Chain ts es a l b) {s:dG} (hs:s∈l):ja ts es s:=by
 obtain⟨i,hi⟩:=aT hs
 exact(zW h hi).2
theorem AW (oz:tD ts) {a b:Nat}{l:List dG} (r:yj ts es a b l) {p:Nat × Nat} (hp:p∈fc ts l):∃ k,aO ts es p.1 p.2=some k∧k < kL (aO ts es) l∧p.1+1 < ts.length∧p.2+1 < ts.length∧p.1≠p.2:=by
 obtain⟨s,hs,hn,hu⟩:=Ce.mp hp
 have ok:=F0 r.ch hs
 cases ok with
 | eR=>cases hn
 | ie a b x as bs h0 h1 h2 h3 h4 h5 =>
  obtain⟨k,hk⟩:=h4 p hu
  have t:=E5 (M:=aO ts es) hs
  have t:(aO ts es a b).getD 0<=kL (aO ts es) l:=t
  have hu:p∈cN ts a b:=hu
  rw[h5]at t
  have m:(aO ts es p.1 p.2).getD 0<=_:=xB (g:=fun p=>(aO ts es p.1 p.2).getD 0) hu
  rw[hk]at m
  have t:cK ts (aO ts es) a b<=_:=t
  unfold cK at t
  have m:k<=_:=m
  have ea:cN ts a b=fg as bs:=by unfold cN;rw[h1,h2];rfl
  rw[ea]at hu
  obtain⟨gv,j,e1,e2⟩:=iy.mp hu
  have b1:=oz _ _ _ h1 _ (ak e1)
  have b2:=(ai.mp h1).1
  have b3:=oz _ _ _ h2 _ (ak e2)
  have b4:=(ai.mp h2).1
  exact⟨k,hk,by omega,by omega,by omega,gv⟩
theorem alloc {H:Hp}{t:Addr} (h:H t=none) (o:HO):∃ H',upd H t o=H'∧bu H H'∧H' t=some o:=⟨_,O,bf h o,aE⟩
abbrev jF:=(Nat × Nat) × List dG
structure oG (ts:List Tm) (es:List cy) (a b d:Nat) (rs:List jF) (kB:List (Nat × Nat)):Prop where
 key:(rs.map cL).Nodup
 row:∀ r∈rs,yj ts es r.1.1 r.1.2 r.2
 top:∀ q,q∈kB∨q∈rs.map cL->q.1 < ts.length∧q.2 < ts.length∧∃ k,aO ts es q.1 q.2=some k∧(q=(a,b)∨(k < d∧q.1+1 < ts.length∧q.2+1 < ts.length∧q.1≠q.2))
 cl:∀ r∈rs,∀ p∈fc ts r.2,p∈kB∨p∈rs.map cL
 has:(a,b)∈kB∨(a,b)∈rs.map cL
theorem oG.start {a b d:Nat} (ha:a < ts.length) (hb:b < ts.length) (hd:aO ts es a b=some d):oG ts es a b d [] [(a,b)] where
 key := .nil
 row:=fun r h=>nomatch h
 top:=fun q h=>h.elim (fun h=>by rw[aB.mp h];exact⟨ha,hb,d,hd,.inl rfl⟩) fun h=>nomatch h
 cl:=fun r h=>nomatch h
 has := .inl (bx _)
theorem oG.skip {a b d:Nat}{rs:List jF}{kB:List (Nat × Nat)}{q:Nat × Nat} (h:oG ts es a b d rs (kB ++ [q])) (hq:q∈rs.map cL):oG ts es a b d rs kB:=by
 have less:∀ p,p∈kB ++ [q]∨p∈rs.map cL->p∈kB∨p∈rs.map cL:=fun p z=>z.elim (fun z=>(aA.mp z).elim .inl fun z => .inr (by rw[aB.mp z];exact hq)) .inr
 exact⟨h.key,h.row,fun p z=>h.top p (z.imp (fun z=>aA.mpr (.inl z)) id),fun r hr p hp=>less p (h.cl r hr p hp),less _ h.has⟩
theorem oG.add (oz:tD ts) {a b d:Nat} (hd:aO ts es a b=some d) {rs:List jF}{kB:List (Nat × Nat)}{q:Nat × Nat}{l:List dG} (h:oG ts es a b d rs (kB ++ [q])) (hq:q ∉ rs.map cL) (ok:yj ts es q.1 q.2 l):oG ts es a b d (rs ++ [(q,l)]) (kB ++ fc ts l):=by
 have em:(rs ++ [(q,l)]).map cL=rs.map cL ++ [q]:=by rw[c9];rfl
 have more:∀ p,p∈kB ++ [q]∨p∈rs.map cL->p∈kB ++ fc ts l∨p∈(rs ++ [(q,l)]).map cL:=fun p z=>by
  rw[em]
  rcases z with z | z
  ·rcases aA.mp z with z | z
   ·exact .inl (aA.mpr (.inl z))
   ·exact .inr (aA.mpr (.inr z))
  ·exact .inr (aA.mpr (.inl z))
 refine⟨?_,fun r hr =>?_,fun p z =>?_,fun r hr p hp =>?_,more _ h.has⟩
 ·rw[em]
  exact eK.mpr ⟨h.key,bQ.mpr ⟨nofun,.nil⟩,fun x hx y hy e=>hq (by rw[aB.mp hy]at e;rw[<- e];exact hx)⟩
 ·rcases aA.mp hr with z | z
  ·exact h.row r z
  ·rw[aB.mp z];exact ok
 ·rw[em]at z
  rcases z with z | z
  ·rcases aA.mp z with z | z
   ·exact h.top p (.inl (aA.mpr (.inl z)))
   ·obtain⟨k,hk,lt,l1,l2,gv⟩:=AW oz ok z
    obtain⟨_,_,k2,UE,c⟩:=h.top q (.inl (aA.mpr (.inr (bx _))))
    refine⟨by omega,by omega,k,hk,.inr ⟨?_,l1,l2,gv⟩⟩
    have e:=ok.sum
    rw[UE]at e
    have e:=aH e
    rcases c with rfl | ⟨c,_⟩
    ·rw[hd]at UE;cases UE;omega
    ·omega
  ·rcases aA.mp z with z | z
   ·exact h.top p (.inr z)
   ·rw[aB.mp z];exact h.top q (.inl (aA.mpr (.inr (bx _))))
 ·rcases aA.mp hr with z | z
  ·exact more p (h.cl r z p hp)
  ·rw[aB.mp z]at hp;exact .inl (aA.mpr (.inr hp))
theorem oG.NR {a b d:Nat}{rs:List jF}{kB:List (Nat × Nat)} (h:oG ts es a b d rs kB) (h9:ts.length<=9):rs.length < 64:=by
 have at_:∀ q∈rs.map cL,q=(a,b)∨(q.1 < 8∧q.2 < 8∧q.1≠q.2):=fun q hq=>by
  obtain⟨_,_,k,_,c⟩:=h.top q (.inr hq)
  exact c.imp id fun ⟨_,x,y,z⟩=>⟨by omega,by omega,z⟩
 have h1:((rs.map cL).map fun q=>if q=(a,b) then 64 else q.1 * 8+q.2).Nodup:=by
  have k:=h.key
  rw[List.nodup_iff_pairwise_ne]at k ⊢
  rw[iC]
  refine ng (fun {x y} hx hy ne e=>ne ?_) k
  by_cases e1:x=(a,b)
  ·by_cases e2:y=(a,b)
   ·rw[e1,e2]
   ·rw[if_pos e1,if_neg e2]at e
    rcases at_ y hy with z | ⟨z1,z2,_⟩
    ·exact absurd z e2
    ·omega
  ·rcases at_ x hx with z | ⟨z1,z2,_⟩
   ·exact absurd z e1
   by_cases e2:y=(a,b)
   ·rw[if_neg e1,if_pos e2]at e
    omega
   ·rw[if_neg e1,if_neg e2]at e
    rcases at_ y hy with z | ⟨y1,y2,_⟩
    ·exact absurd z e2
    ·exact oF (by omega) (by omega)
 have h2:=lE (U:=64 :: (bN 64).filter fun n=>n % 9≠0) h1 fun z hz=>by
  obtain⟨q,hq,rfl⟩:=bj.mp hz
  by_cases e1:q=(a,b)
  ·rw[if_pos e1];exact bg
  ·rw[if_neg e1]
   rcases at_ q hq with z | ⟨z1,z2,z3⟩
   ·exact absurd z e1
   ·refine aW _ (gB.mpr ⟨cI.mpr (by omega),decide_eq_true ?_⟩)
    omega
 rw[ar,ar]at h2
 exact gf h2 (by decide)
structure Kk (ts:List Tm) (es:List cy) (a b:Nat) (rs:List jF):Prop where
 jo:(rs.map cL).Nodup
 row:∀ r∈rs,yj ts es r.1.1 r.1.2 r.2
 up:∀ (i:Nat) r,rs[i]? = some r->∀ p∈fc ts r.2,∃ j r',j < i∧rs[j]? = some r'∧r'.1=p
 last:∃ r,rs[rs.length - 1]? = some r∧r.1=(a,b)
 pos:0 < rs.length
theorem WD (oz:tD ts) {a b d:Nat} (hd:aO ts es a b=some d) {rs:List jF} (h:oG ts es a b d rs []) {kX:List jF} (pm:kX.Perm rs) (G1:(kX.map cL).Pairwise fun p q=>(aO ts es p.1 p.2).getD 0<=(aO ts es q.1 q.2).getD 0):Kk ts es a b kX:=by
 have mem:∀ r,r∈kX↔r∈rs:=fun r=>pm.mem_iff
 have pk:(kX.map cL).Perm (rs.map cL):=pm.map _
 have key:∀ p,p∈rs.map cL->∃ (j:Nat) (r:jF),kX[j]? = some r∧r.1=p:=fun p hp=>by
  obtain⟨r,hr,e⟩:=bj.mp (pk.mem_iff.mpr hp)
  obtain⟨j,hj⟩:=aT hr
  exact⟨j,r,hj,e⟩
 have ord:∀ (i j:Nat) (r s:jF),kX[i]? = some r->kX[j]? = some s->i < j->(aO ts es r.1.1 r.1.2).getD 0<=(aO ts es s.1.1 s.1.2).getD 0:=fun i j r s hi hj lt=>by
  rw[iC]at G1
  obtain⟨i1,e1⟩:=ai.mp hi
  obtain⟨j1,e2⟩:=ai.mp hj
  have:=mG.mp G1 i j i1 j1 lt
  rw[e1,e2]at this
  exact this
 have up:∀ (i:Nat) r,kX[i]? = some r->∀ p∈fc ts r.2,∃ j r',j < i∧kX[j]? = some r'∧r'.1=p:=fun i r hi p hp=>by
  have hr:=(mem r).mp (ak hi)
  have ok:=h.row r hr
  obtain⟨k,hk,lt,_⟩:=AW oz ok hp
  obtain⟨j,r',hj,e⟩:=key p ((h.cl r hr p hp).elim nofun id)
  refine⟨j,r',?_,hj,e⟩
  rcases gb j i with z | z
  ·exact z
  exfalso
  have le:(aO ts es r.1.1 r.1.2).getD 0<=(aO ts es r'.1.1 r'.1.2).getD 0:=by
   rcases gb i j with z2 | z2
   ·exact ord i j r r' hi hj z2
   ·have:i=j:=by omega
    subst this
    rw[hi]at hj;cases hj;exact au _
  rw[ok.sum,e,hk]at le
  have le:kL (aO ts es) r.2<=k:=le
  omega
 obtain⟨j,r,hj,e⟩:=key (a,b) (h.has.elim nofun id)
 have jl:=(ai.mp hj).1
 refine⟨pk.nodup_iff.mpr h.key,fun r hr=>h.row r ((mem r).mp hr),up,?_,by omega⟩
 obtain⟨s,hs⟩:∃ s,kX[kX.length - 1]? = some s:=⟨_,aj (by omega)⟩
 refine⟨s,hs,?_⟩
 obtain⟨_,_,k,hk,c⟩:=h.top s.1 (.inr (bj.mpr ⟨s,(mem s).mp (ak hs),O⟩))
 rcases c with c | c
 ·exact c
 ·exfalso
  have c:=c.1
  have le:(aO ts es r.1.1 r.1.2).getD 0<=(aO ts es s.1.1 s.1.2).getD 0:=by
   rcases gb j (kX.length - 1) with z | z
   ·exact ord _ _ r s hj hs z
   ·have:j=kX.length - 1:=by omega
    subst this
    rw[hs]at hj;cases hj;exact au _
  rw[e,hk]at le
  dsimp only at le
  rw[hd]at le
  have le:d<=k:=le
  omega
end
end Sw
namespace L2
open PySem PySem.Spec PyProof.Rows
section
variable {X:Cx}
theorem RQ {e:Expr}{te:XK->TE}{pos:Pos} (he:PEt X e te) (hs:swapsWith e none pos.line X.env=pure false:=by rfl):PSt X [.Expr e pos] (fun E=>TN (te E)):=by
 intro E ah s σ H D xe W I h
 exact wpAny_execs_cons (wpAny_Expr_any (bF (he E ah s σ H _ xe W I h) fun v s1 ⟨x,H1,I1,r1,q1⟩=>wpAny_execs_nil ⟨σ,H1,I1,q1⟩) I.quiet hs)
end
end L2
namespace L2
open PySem PySem.Spec PySem.W PyProof.Rows PySem.Calls
section
variable {prog:Program}{w:World}{A:Around}{E:Value->Shared->Prop}{s:Shared}
theorem Xs {a kS:Addr}{vs:List Value}{keys:Array Value}{kz:List Int}{e e1:Nat}{P:Ga->Shared->Prop} (hk:s.heap.get? kS=some (seqObj "list" keys e)) (ha:s.heap.get? a=some (seqObj "list" #[] e1)) (gv:kS≠a)
  (hI:IntsAre keys.toList kz) (hl:kz.length=vs.length) (hz:vs.length < 64)
  (q:∀ (h':Heap) (tk:Nat) (ic:Array Value) (c:Nat),(∀ b o,b≠kS->b≠a->s.heap.get? b=some o->h'.get? b=some o)->h'.get? a=some (seqObj "list" ic c)->KskOut false kz vs ic.toList->P (.done (.ret .none)) { s with heap:=h',toks:=tk }) :
  wpAny (model prog w) A (ksk_end a false vs.toArray e1 (.ref kS) keys) P E s:=by
 have zl:vs.length<=sizeLine:=by rw[sizeLine_eq];omega
 have sz:keys.size=vs.length:=by
  have h:=hI.length
  rw[dB]at h
  omega
 have pz:(keys.zip vs.toArray).size=vs.length:=by rw[Array.size_zip,sz,aN,Nat.min_self]
 have fin:∀ st:SortSt,(arrOf st).Perm (keys.zip vs.toArray)->SortedTo (arrOf st) (arrOf st).size->failedOf st=none->wpAny (model prog w) A (ksk_tail a false e1 (.ref kS) st) P E s:=fun st pm so fl=>by
  have K8:=fun (b:Addr) (hb:b≠kS)=>(cW s.heap kS (ik fun _=>(#[]:Array Value))).2 b hb
  have ZX:=(K8 a (cM gv)).trans ha
  unfold ksk_tail
  refine wpAny_bind (listUpdate_at hk rfl (wpAny_bind (wpAny_letGo (wpAny_bind (seqEpoch_at ZX rfl (wpAny_bind (listUpdate_at ZX rfl ?_ (bA _) ?_)))))) (by rw[sz];exact zl) (bA _))
  ·rw[fl]
   simp only[bne_self_eq_false,dP,if_false]
   refine wpAny_pure (q _ _ _ _ (fun b o n1 n2 z =>?_) (get?_update_seq ZX _) (ksk_out (b:=false) hI pm so))
   exact((cW _ a _).2 b n2).trans ((K8 b n1).trans z)
  ·show (if false=true then _ else (arrOf st).map (·.2)).size<=_
   rw[if_neg bb,Array.size_map,pm.size_eq,pz]
   exact tL zl
 unfold ksk_end
 dsimp only
 rw[if_neg bb]
 by_cases h2:vs.toArray.size < 2
 ·rw[if_pos h2,if_pos h2]
  refine wpAny_bind (wpAny_pure ?_)
  rw[StateT.run_pure]
  refine wpAny_bind (wpAny_pure (fin _ (DU _) (fun i j zK hj =>?_) rfl))
  have hj:j < (keys.zip vs.toArray).size:=hj
  rw[pz]at hj
  rw[aN]at h2
  have:i=j:=by omega
  subst this
  exact Int.le_refl _
 ·rw[if_neg h2,if_neg h2]
  rw[aN]at h2
  rw[ksk_kind hI (by omega)]
  refine wpAny_bind (wpAny_pure (wpAny_bind (wpAny_mono (wpS_sortRuns (a₀ := keys.zip vs.toArray) (st:=SortSt.mk' oneType' (keys.zip vs.toArray) #[] 7 none)
   (Q:=fun _ t=>(arrOf t).Perm (keys.zip vs.toArray)∧failedOf t=none∧SortedTo (arrOf t) (keys.zip vs.toArray).size) (ksk_intKeys hI) ⟨DU _,O,O,O⟩ (by rw[pz];omega) (by rw[pz];exact hz) fun t p1 p2 p3=>⟨p1,p2,p3⟩) (fun r t z =>?_) fun _ _ z=>z)))
  obtain⟨⟨⟩,st⟩:=r
  obtain⟨rfl,pm,fl,so⟩:=z
  exact fin st pm (by rw[pm.size_eq];exact so) fl
theorem VF {a kS:Addr}{f:Value}{vs:List Value}{kz:List Int}{e1:Nat}{P:Ga->Shared->Prop} (hk:s.heap.get? kS=some (seqObj "list" #[] 0)) (ha:s.heap.get? a=some (seqObj "list" #[] e1)) (gv:kS≠a) (hl:kz.length=vs.length) (hz:vs.length < 64)
  (turn:∀ (i:Nat) (v:Value) (k:Int),vs[i]? = some v->kz[i]? = some k->∀ (h:Heap) (tk:Nat),(∀ b o,b≠kS->s.heap.get? b=some o->h.get? b=some o) ->
   wpAny (model prog w) A (call f [v]) (fun u t=>∃ h' rG tt,t={ s with heap:=h',toks:=rG }∧u = .int k tt∧∀ b o,h.get? b=some o->h'.get? b=some o) (fun _ _=>False) { s with heap:=h,toks:=tk })
  (q:∀ (h':Heap) (tk:Nat) (ic:Array Value) (c:Nat),(∀ b o,b≠kS->b≠a->s.heap.get? b=some o->h'.get? b=some o)->h'.get? a=some (seqObj "list" ic c)->KskOut false kz vs ic.toList->P (.done (.ret .none)) { s with heap:=h',toks:=tk }) :
  wpAny (model prog w) A (ksk_rest a f false vs.toArray e1 (.ref kS)) P E s:=by
 have zl:vs.length+1<=sizeLine:=by rw[sizeLine_eq];omega
 unfold ksk_rest
 refine wpAny_bind (wpAny_rule ?_)
 rw[List.forIn_toArray]
 refine wpAny_bind (ksk_fold (fun i s'=>∃ h tk kA e,s'={ s with heap:=h,toks:=tk }∧(∀ b o,b≠kS->s.heap.get? b=some o->h.get? b=some o)∧h.get? kS=some (seqObj "list" kA e)∧IntsAre kA.toList (kz.take i)) vs 0 s
  ⟨s.heap,s.toks, #[],0,O,fun _ _ _ z=>z,hk,by simpa using IntsAre.nil⟩ (fun j x s' hx hh =>?_) fun s' hh =>?_)
 ·obtain⟨h,tk,kA,e,rfl,kp,UD,hi⟩:=hh
  rw[pX]at hi ⊢
  have hj:=(ai.mp hx).1
  have UC:kz[j]? = some (kz[j]'(by omega)):=aj (by omega)
  have hs:kA.size<=vs.length:=by
   have h1:=hi.length
   rw[dB,cj]at h1
   omega
  refine wpAny_bind (wpAny_attempt (wpAny_mono (turn j x _ hx UC h tk kp) (fun u t z =>?_) fun _ _ z=>z.elim))
  obtain⟨h',rG,tt,rfl,rfl,k2⟩:=z
  have Zu:=k2 _ _ UD
  dsimp only
  refine wpAny_bind (listUpdate_at (s := { s with heap:=h',toks:=rG }) Zu rfl (wpAny_pure ⟨O,_,_,_,_,O,fun b o n z =>?_,get?_update_seq Zu _,?_⟩) (by omega) (by rw[Array.size_push];omega))
  ·exact((cW h' kS _).2 b n).trans (k2 b o (kp b o n z))
  ·rw[Array.toList_push,iz,UC]
   exact ksk_snoc hi
 ·obtain⟨h,tk,kA,e,rfl,kp,UD,hi⟩:=hh
  rw[pX, <- hl,bB]at hi
  refine wpAny_bind (listItems_at (s := { s with heap:=h,toks:=tk }) UD rfl ?_)
  exact Xs (s := { s with heap:=h,toks:=tk }) UD (kp _ _ (cM gv) ha) gv hi hl hz fun h' rG ic c k2 g ko=>q h' rG ic c (fun b o n1 n2 z=>k2 b o n1 n2 (kp b o n1 z)) g ko
theorem VE {a:Addr}{f:Value}{vs:List Value}{kz:List Int}{n:Nat}{P:Ga->Shared->Prop} (ho:s.heap.get? a=some (seqObj "list" vs.toArray n)) (hl:kz.length=vs.length) (hz:vs.length < 64)
  (turn:∀ (i:Nat) (v:Value) (k:Int),vs[i]? = some v->kz[i]? = some k->∀ (h:Heap) (tk:Nat),(∀ b o,b≠a->s.heap.get? b=some o->h.get? b=some o) ->
   wpAny (model prog w) A (call f [v]) (fun u t=>∃ h' rG tt,t={ s with heap:=h',toks:=rG }∧u = .int k tt∧∀ b o,h.get? b=some o->h'.get? b=some o) (fun _ _=>False) { s with heap:=h,toks:=tk })
  (q:∀ (h':Heap) (tk:Nat) (ic:Array Value) (c:Nat),(∀ b o,b≠a->s.heap.get? b=some o->h'.get? b=some o)->h'.get? a=some (seqObj "list" ic c)->KskOut false kz vs ic.toList->P (.done (.ret .none)) { s with heap:=h',toks:=tk }) :
  wpAny (model prog w) A (ksk_tree a f false) P E s:=by
 have lt:a < s.heap.objs.size:=aV ho
 have zl:vs.toArray.size<=sizeLine:=by rw[aN,sizeLine_eq];omega
 obtain⟨m,o1⟩:∃ m,(s.heap.update a (ik fun _=>(#[]:Array Value))).get? a=some (seqObj "list" #[] m):=⟨_,get?_update_seq ho _⟩
 have K8:=fun (b:Addr) (hb:b≠a)=>(cW s.heap a (ik fun _=>(#[]:Array Value))).2 b hb
 have us:(s.heap.update a (ik fun _=>(#[]:Array Value))).objs.size=s.heap.objs.size:=Heap.size_update ..
 unfold ksk_tree
 refine wpAny_bind (listItems_at ho rfl (wpAny_bind (listUpdate_at ho rfl ?_ zl (bA _))))
 refine wpAny_bind (seqEpoch_at (s := { s with heap:=_ }) o1 rfl (wpAny_bind (wpAny_newTuple (wpAny_bind (wpAny_newList (wpAny_holding ?_))))))
 generalize s.heap.update a (ik fun _=>(#[]:Array Value))=g0 at o1 K8 us ⊢
 have pk:((g0.push (seqObj "tuple" vs.toArray 0)).push (seqObj "list" #[] 0)).get? (g0.push (seqObj "tuple" vs.toArray 0)).objs.size=some (seqObj "list" #[] 0):=aR _ rfl
 have ps:(g0.push (seqObj "tuple" vs.toArray 0)).objs.size=g0.objs.size+1:=size_push' ..
 have up:∀ b o,g0.get? b=some o->((g0.push (seqObj "tuple" vs.toArray 0)).push (seqObj "list" #[] 0)).get? b=some o:=fun b o z=>az _ (az _ z)
 have nk:∀ b o,s.heap.get? b=some o->b≠(g0.push (seqObj "tuple" vs.toArray 0)).objs.size:=fun b o z e=>by
  have h1:b < s.heap.objs.size:=aV z
  rw[ps]at e
  rw[e, <- us]at h1
  exact absurd h1 (Nat.not_lt.mpr (rn _))
 refine VF (s := { s with heap:=_ }) pk (up _ _ o1) (cM (nk a _ ho)) hl hz (fun i v k hv hk h tk kp=>turn i v k hv hk h tk fun b o nb z =>?_) fun h' tk ic c kp g ko=>q h' tk ic c (fun b o nb z =>?_) g ko
 ·exact kp b o (nk b o z) (up b o ((K8 b nb).trans z))
 ·exact kp b o (nk b o z) nb (up b o ((K8 b nb).trans z))
theorem OL {l:Value}{f:Addr}{vs:List Value}{kz:List Int}{Q:Value->Shared->Prop} (hl:kz.length=vs.length) (hz:vs.length < 64)
  (hc:∀ (E':Value->Shared->Prop) (R:List Value->Shared->Prop),(∀ h' tk,(∀ b o,s.heap.get? b=some o->h'.get? b=some o)->R vs { s with heap:=h',toks:=tk })->wpAny (model prog w) A.in1 (collect l) R E' s)
  (turn:∀ (i:Nat) (v:Value) (k:Int),vs[i]? = some v->kz[i]? = some k->∀ (h:Heap) (tk:Nat),(∀ b o,s.heap.get? b=some o->h.get? b=some o) ->
   wpAny (model prog w) A.in1.in1 (call (.ref f) [v]) (fun u t=>∃ h' rG tt,t={ s with heap:=h',toks:=rG }∧u = .int k tt∧∀ b o,h.get? b=some o->h'.get? b=some o) (fun _ _=>False) { s with heap:=h,toks:=tk })
  (q:∀ (N:Addr) (h':Heap) (tk:Nat) (ic:Array Value) (c:Nat),s.heap.get? N=none->(∀ b o,s.heap.get? b=some o->h'.get? b=some o)->h'.get? N=some (seqObj "list" ic c)->KskOut false kz vs ic.toList->Q (.ref N) { s with heap:=h',toks:=tk }) :
  wpAny (model prog w) A (call (.builtin "sorted") [l] [(eS "key",.ref f)]) Q E s:=by
 refine call_function_entry_kw kind_sorted plain_sorted entry_sorted (ksk_s1 _ _) ?_
 unfold Builtin.«sorted»
 refine wpAny_bind (m:=checkCount "sorted" 1 1 _) (wpAny_pure (wpAny_bind (hc _ _ fun h1 W0 k1=>wpAny_bind (wpAny_newList ?_ (by rw[sizeLine_eq];omega)))))
 have ho:(h1.push (seqObj "list" vs.toArray 0)).get? h1.objs.size=some (seqObj "list" vs.toArray 0):=aR _ rfl
 have up:∀ b o,s.heap.get? b=some o->b≠h1.objs.size∧(h1.push (seqObj "list" vs.toArray 0)).get? b=some o:=fun b o z=>⟨bH (aV (k1 b o z)),az _ (k1 b o z)⟩
 refine wpAny_bind (wpAny_holding (wpAny_call_entry_kw slot_list_sort ⟨_,ho,O⟩ entry_list_sort ?_ (ksk_l1 _ _)))
 show wpAny (model prog w) A.in1.in1 (Builtin.«list.sort» ⟨[.ref h1.objs.size], [(eS "key",.ref f)]⟩) _ _ _
 rw[ksk_t1]
 refine VE (s := { s with heap:=_,toks:=W0 }) ho hl hz (fun i v k hv hk h tk kp=>turn i v k hv hk h tk fun b o z=>kp b o (up b o z).1 (up b o z).2) fun h' tk ic c kp g ko=>⟨_,O,wpAny_pure ⟨_,O,q _ h' tk ic c ?_ (fun b o z=>kp b o (up b o z).1 (up b o z).2) g ko⟩⟩
 cases z:s.heap.get? h1.objs.size with
 | none=>rfl
 | some o=>exact absurd rfl (up _ o z).1
end
def i0 (H:Hp) (P:Addr) (pos:Pos) (qual:Str):Prop :=
 H P=some (.oO #[])∨∃ c' oc vs t,H P=some (.oO #[rawInt pos.line,rawInt pos.col,.ref c'])∧H c'=some (Ext c' oc)∧oc.data = .fields vs∧vs[1]? = some (.str qual t)
def i4 (P:Addr) (H H':Hp):Prop := ∀ b o,b≠P->H b=some o->H' b=some o
structure TabAt (base:Heap) (mg:Str->Option Value) (c P:Addr):Prop where
 code:CodeHd base c P
 blt:base.BuiltinsAt mg P
theorem Js {P:Program}{w:World}{H:Hp}{h:Heap}{a:Addr}{o:Obj} (e:h.get? a=some o):dy P w H h a (Ext a o) :=
 ⟨e,⟨o,e⟩,fun h1 h2 p k=>k o p⟩
section
variable {X:Cx}{c P:Addr}{params:Arguments}{body:Expr}{scope:Scope}{pos:Pos}{wD:List (Str × Addr)}
inductive aa2 (P:Addr) (pos:Pos) (qual:Str) (params:Arguments) (body:Expr) (scope:Scope) (wD:List (Str × Addr)) (H:Hp) (Q:VK):Prop
 | mk (ht:i0 H P pos qual) (q:∀ f c' oc vs t pm m5 H',i4 P H H'->i0 H' P pos qual->H f=none->H' f=some (Ext f (kla_obj "<lambda>" qual params body scope wD pm c' m5))->H' c'=some (Ext c' oc)->oc.data = .fields vs ->
   vs[1]? = some (.str qual t)->Q (.ref f) H'):aa2 P pos qual params body scope wD H Q
def Xb (P:Addr) (pos:Pos) (qual:Str) (params:Arguments) (body:Expr) (scope:Scope) (wD:List (Str × Addr)):TE:=fun _ H Q=>aa2 P pos qual params body scope wD H Q
theorem X4 (T:TabAt X.base X.mg c P) (GG:X.env.code = .ref c) (NI:closureFor scope X.env=pure wD) (S1:defaultsOf params X.env=([], [])) :
  PE X (.Lambda params body scope pos) (Xb P pos (X.env.qual ++ "<lambda>") params body scope wD):=by
 intro ah s σ H Q I h
 obtain⟨ht,h⟩:=h
 refine kla_eval S1 ?_
 have ZD:s.heap.Ns mainGlobals X.mg:=I.mod.glob.keeps I.bk
 have hC:=T.code.keeps I.bk
 have hB:s.heap.BuiltinsAt X.mg P:=let ⟨bm,o,e1,e2,e3,e4,e5,r⟩:=T.blt; ⟨bm,o,e1,e2,e3,e4,I.bk _ _ e5,r⟩
 rcases ht with ht | ⟨c',oc,vs,t,ht,qu,hd,hv⟩
 ·have hP:s.heap.get? P=some (tabObj #[]):=I.bh P _ ht
  have hgP:mainGlobals≠P:=fun q=>by
   obtain⟨o,es,ep,e,hd,_⟩:=ZD
   rw[q,hP]at e;cases e;cases hd
  refine kla_makeFunction (mg:=X.mg) (ps := #[]) NI I.ok.glob ZD GG hC hP trivial rfl hgP hB fun c' m5 h' tk hx IZ cU afO Lv =>?_
  obtain⟨c2,oc,vs,t,e2,FF,hd,hv⟩:=afO
  cases e2
  have Uc:∀ {b:Addr},H b=none->b≠P:=fun n z=>by rw[z,ht]at n;cases n
  have hsz:s.heap.objs.size<=h'.objs.size:=jJ (gf IZ cU)
  have C5:∀ (fo:Obj) (b:Addr) (o:Obj),b≠P->s.heap.get? b=some o->(h'.push fo).get? b=some o:=fun fo b o hb e=>az _ (hx b o hb e)
  have xU:∀ (u1 u2 u3:HO) (b:Addr),b < s.heap.objs.size->b≠P->upd (upd (upd H P u1) c' u2) h'.objs.size u3 b=H b:=fun u1 u2 u3 b hb hP=>by
   rw[aF (bH (bP hb hsz)),aF (bH (bP hb IZ)),aF hP]
  have hfc:h'.objs.size≠c':=jH cU
  have hPs:P < s.heap.objs.size:=aV hP
  have hPc:P≠c':=bH (bP hPs IZ)
  have hPf:P≠h'.objs.size:=bH (bP hPs hsz)
  have hLP:X.env.locals≠P:=Uc I.free
  generalize UK:kla_obj "<lambda>" (X.env.qual ++ "<lambda>") params body scope wD ((X.mg "__name__").getD .none) c' m5=fo
  have P1:fo.isFreed=false:=by rw[<- UK];rfl
  have I2:Inv X ah σ (upd (upd (upd H P (.oO (#[] ++ #[rawInt pos.line,rawInt pos.col,.ref c']))) c' (Ext c' oc)) h'.objs.size (Ext h'.objs.size fo)) { s with heap:=h'.push fo,toks:=tk }:=by
   refine I.step (g':=s.gens) (d':=s.drawn) (ch := []) (fun _ z=>nomatch z) (fun b o _ _ _ e n=>C5 fo b o (Uc n) e) (fun b o _ _ _ e n=>⟨o.slots,C5 fo b o (Uc n) e⟩)
    (fun b o _ e n=>by rw[xU _ _ _ b (aV e) (Uc n)];exact n) (fun b o _ e =>?_) (fun b xs e =>?_) (fun b o u e =>?_) (fun b ps e =>?_) (fun m hm =>?_) (fun b u e =>?_) I.bare
   ·by_cases hb:b=P
    ·exact⟨_,by rw[hb];exact az _ Lv⟩
    ·exact⟨o,C5 fo b o hb e⟩
   ·rw[xU _ _ _ b (I.bh.lt e) (fun z=>by rw[z,ht]at e;cases e)];exact e
   ·rw[xU _ _ _ b (I.bh.lt e) (fun z=>by rw[z,ht]at e;cases e)];exact e
   ·by_cases hb:b=P
    ·subst hb
     rw[ht]at e
     cases e
     exact⟨_,by rw[aF hPf,aF hPc,aE]⟩
    ·exact⟨#[],by rw[xU _ _ _ b (I.bh.lt e) hb,e];simp⟩
   ·obtain⟨o,es,ep,ho,r⟩:=hm
    exact⟨o,es,ep,C5 fo _ o hLP ho,r⟩
   ·by_cases h1:b=h'.objs.size
    ·subst h1
     rw[aE]at e
     cases e
     exact Js (aR _ P1)
    ·rw[aF h1]at e
     by_cases h2:b=c'
     ·subst h2
      rw[aE]at e
      cases e
      exact Js (az _ FF)
     ·rw[aF h2]at e
      by_cases h3:b=P
      ·subst h3
       rw[aE]at e
       cases e
       exact az _ Lv
      ·rw[aF h3]at e
       refine(I.bh b u e).uw (fun y v hy q=>C5 fo y v ?_ q) (fun y q =>?_) fun y xs q =>?_
       ·rcases hy with z | z
        ·rw[z];exact h3
        ·exact fun z2=>by rw[z2,ht]at z;cases z
       ·rw[xU _ _ _ y (I.bh.lt q) (fun z=>by rw[z,ht]at q;cases q)];exact q
       ·rw[xU _ _ _ y (I.bh.lt q) (fun z=>by rw[z,ht]at q;cases q)];exact q
  subst UK
  refine⟨.ref h'.objs.size,_,I2,O,h h'.objs.size c' oc vs t _ m5 _ (fun b o hb e =>?_) (.inr ⟨c',oc,vs,t,?_,?_,hd,hv⟩) (I.bh.fresh hsz) aE ?_ hd hv⟩
  ·rw[xU _ _ _ b (I.bh.lt e) hb];exact e
  ·rw[aF hPf,aF hPc,aE];simp
  ·rw[aF hfc.symm,aE]
  ·rw[aF hfc.symm,aE]
 ·have hP:s.heap.get? P=some (tabObj #[rawInt pos.line,rawInt pos.col,.ref c']):=I.bh P _ ht
  refine kla_makeFunctionHit (mg:=X.mg) (cv := .ref c') NI I.ok.glob ZD GG hC hP (TriplesOk_snoc _ _ _ [] trivial) (codeAmong_snoc [] trivial rfl) hB fun m5 h' tk hk hsz =>?_
  have I2:=I.laid (a:=h'.objs.size) (o:=Ext h'.objs.size (kla_obj "<lambda>" (X.env.qual ++ "<lambda>") params body scope wD ((X.mg "__name__").getD .none) c' m5)) (t':=tk) (h':=h'.push (kla_obj "<lambda>" (X.env.qual ++ "<lambda>") params body scope wD ((X.mg "__name__").getD .none) c' m5))
   (fun b u e=>az _ (hk b u e)) hsz (Js (aR _ rfl))
  have hn:=I.bh.fresh hsz
  refine⟨.ref h'.objs.size,_,I2,O,h h'.objs.size c' oc vs t _ m5 _ (fun b o hb e =>?_) (.inr ⟨c',oc,vs,t,?_,?_,hd,hv⟩) hn aE ?_ hd hv⟩
  ·rw[aF (bX e hn)];exact e
  ·rw[aF (bX ht hn)];exact ht
  ·rw[aF (bX qu hn)];exact qu
  ·rw[aF (bX qu hn)];exact qu
end
section
variable {prog:Program}{w:World}
theorem Wn {d:Addr}{es:Array DictEntry}{ep:Nat}{od:Obj} (lo:(d == sysModules)=false) (hx:od.ExactDict) (gx:od.data = .dict es ep):KdlSrc prog w "dict" d d es.size (fun i v=>∃ h:i < es.size,v=es[i].key) (fun h=>h.get? d=some od) where
 type:=fun s ho=>⟨od,ho,hx.1⟩
 there:=fun h ho=>⟨aV ho,aV ho⟩
 keep:=fun h h' ho hk=>hk d (.inl rfl) _ ho
 notList:=by decide
 notTuple:=by decide
 hint:=fun A E s Q ho hq=>kdl_hint_dict ⟨od,ho,hx.1⟩ hq
 iter:=fun A s hh ho=>by
  refine⟨{ cls := .type "dict_keyiterator",data := .fields #[.ref d,.int 0 0,.int es.size 0,.int ep 0] },fun i h=>h.IsKeyIter s.heap.objs.size d i es.size ep∧h.get? d=some od,fun E Q hq=>Fi lo ⟨od,ho,hx.1⟩ ho gx hq,?_,⟨_,aR _ rfl,O,O⟩,az _ ho⟩
  have ne:d≠s.heap.objs.size:=bH (aV ho)
  exact {
   sub:=fun b hb=>by rw[aB.mp hb];exact bg
   frame:=fun _ _ _ st hk=>⟨st.1.at fun o e=>hk _ bg o e,hk d (aW _ (bx _)) _ st.2⟩
   item:=fun i s1 Q E hi st hQ=>Fj st.1 st.2 gx hi fun h' fS sb=>hQ _ h' s1.toks ⟨hi,O⟩ ⟨fS,(sb.2 d ne).trans st.2⟩ fun b o hb e=>(sb.2 b (fun z=>hb (by rw[z];exact bx _))).trans e
   done:=fun s1 Q E st hQ=>Hx hh st.1 st.2 gx (au _) fun h' eb=>hQ h' s1.toks fun b o hb e=>eb b o (fun z=>hb (by rw[z];exact bx _)) e
   self:=fun _ _ _ _ st hQ=>wpAny_pyIter_keyiter st.1 hQ }
end
abbrev uK (d x:Str) (pd p1 p2 p3 p4 p5 p6 c0 c1:Pos) (k0 k1:Nat):Expr := .Subscript (.Subscript (.Name d pd) (.Subscript (.Name x p1) (.Constant (.int 0) k0 c0) p2) p3) (.Subscript (.Name x p4) (.Constant (.int 1) k1 c1) p5) p6
theorem Pq {prog:Program}{w:World}{A:Around}{E:Value->Shared->Prop}{s:Shared}{Q:Value->Shared->Prop} {f c' cl D T R:Addr}{qual x d:Str}{params:Arguments}{pd p1 p2 p3 p4 p5 p6 c0 c1:Pos}{k0 k1:Nat}{scope:Scope} {pm m5 w':Value}
  {rows vals pr:Array Value}{a b:Nat}{ta tb:Tok} (ab6:A.depth < recursionLimit) (SY:s.heap.NoLimit)
  (hf:s.heap.get? f=some (kla_obj "<lambda>" qual params (uK d x pd p1 p2 p3 p4 p5 p6 c0 c1 k0 k1) scope [(d,cl)] pm c' m5)) (mZ:s.heap.CodeRec (.ref c') qual)
  (hb:bindArgs (kla_fn "<lambda>" qual params (uK d x pd p1 p2 p3 p4 p5 p6 c0 c1 k0 k1) scope [(d,cl)] pm (.ref c') m5) ⟨[.ref T], []⟩=pure [(x,.ref T)])
  (IU:scope.kind = .function) (P8:scope.isCoroutine=false) (IY:scope.isGenerator=false) (iJ:∀ y∈scope.names,y.2 ≠ .cell) (LC:scope.names.lookup x=some .local) (rV:scope.names.lookup d=some .free)
  (A5:(x == ("__debug__" : Str))=false) (P5:(d == ("__debug__" : Str))=false) (FH:(d == ("__classdict__" : Str))=false)
  (hc:s.heap.IsCell cl (some (.ref D))) (hD:s.heap.IsList D rows) (hT:IsTup s.heap T pr) (h2:pr.size=2) (e0:pr[0]? = some (.int (a:Int) ta)) (e1:pr[1]? = some (.int (b:Int) tb)) (er:rows[a]? = some (.ref R)) (hR:s.heap.IsList R vals) (ev:vals[b]? = some w') (la:a < 2 ^ 60) (lb:b < 2 ^ 60)
  (h:∀ h' tk,(∀ b o,s.heap.get? b=some o->h'.get? b=some o)->Q w' { s with heap:=h',toks:=tk }) :
  wpAny (model prog w) A (call (.ref f) [.ref T]) Q E s:=by
 refine wpAny_call (kla_callFunE ab6 hf rfl P8 IY rfl mZ ?_)
 show wpAny _ _ (bindArgs (kla_fn "<lambda>" qual params (uK d x pd p1 p2 p3 p4 p5 p6 c0 c1 k0 k1) scope [(d,cl)] pm (.ref c') m5) ⟨[.ref T], []⟩) _ _ _
 rw[hb]
 refine wpAny_pure (wpAny_newFunctionEnv iJ (fun y hy=>by rw[aB.mp hy];exact LC) (fun iI Ux Lx=>⟨SY.fresh _ Lx,?_⟩) IU)
 have kp:∀ b o,s.heap.get? b=some o->iI.get? b=some o:=fun b o e=>Lx.extBut b o (bH (aV e)) (az _ e)
 show codeAny _ _ (.expr (uK d x pd p1 p2 p3 p4 p5 p6 c0 c1 k0 k1) (envX qual scope s.heap.objs.size f (.ref c') [(d,cl)])) _ _
 refine kla_codeExpr (wpAny_mono ?_ (fun v s' q=>q) fun _ _ y=>y) (R:=_)
 have lh:iI.IsList D rows:=let ⟨o,e,r⟩:=hD; ⟨o,kp _ _ e,r⟩
 have hR1:iI.IsList R vals:=let ⟨o,e,r⟩:=hR; ⟨o,kp _ _ e,r⟩
 have C8:IsTup iI T pr:=let ⟨o,e,r⟩:=hT; ⟨o,kp _ _ e,r⟩
 have item:∀ (tk:Nat) (n:Nat) (v:Value) (t:Tok) (px pc pp:Pos) (kk:Nat) (Q':Value->Shared->Prop) (E':Value->Shared->Prop),n < 2->pr[n]? = some v->(∀ rG,Q' v { s with heap:=iI,toks:=rG }) ->
   wpAny (model prog w) (A.deeper (envX qual scope s.heap.objs.size f (.ref c') [(d,cl)])) (eval (.Subscript (.Name x px) (.Constant (.int (n:Int)) kk pc) pp) (envX qual scope s.heap.objs.size f (.ref c') [(d,cl)])) Q' E' { s with heap:=iI,toks:=tk }:=by
  intro tk n v t px pc pp kk Q' E' hn hv hq
  refine uc (T := "tuple") slot_tuple_getitem.lookup (fun _ _=>O) (wpAny_Name (wpAny_loadName_local (v := .ref T) IU LC Ux (by simp) (wpAny_Constant_int ⟨C8.typeIs,?_⟩)) A5)
  refine getItem_tuple (s := { s with heap:=iI,toks:=tk+1 }) (j:=n) C8 (by omega) (by omega) ?_ hv (hq _)
  rw[h2]
  have:n=0∨n=1:=by omega
  rcases this with rfl | rfl <;> rfl
 refine uc (T := "list") slot_list_getitem.lookup (fun _ _=>O) (uc (T := "list") slot_list_getitem.lookup (fun _ _=>O) (wpAny_Name (wpAny_loadName_free (v := .ref D) (c:=cl) IU rV (by simp) (hc.keeps kp) (item _ 0 _ 0 _ _ _ _ _ _ (by decide) e0 fun W0=>⟨lh.typeIs,?_⟩) FH) P5))
 refine wpAny_getItem_list (s := { s with heap:=iI,toks:=W0 }) lh (by omega) (by omega) (by rw[cx];exact er) ?_
 exact item _ 1 _ 0 _ _ _ _ _ _ (by decide) e1 fun WZ=>⟨hR1.typeIs,wpAny_getItem_list (s := { s with heap:=iI,toks:=WZ }) hR1 (by omega) (by omega) (by rw[cx];exact ev) (h iI _ kp)⟩
section
variable {X:Cx}
theorem Inv.abV {ah:List (Addr × Obj)}{σ : St}{H:Hp}{s:Shared}{N:Addr}{o:HO} {h':Heap} {t':Nat} (I:Inv X ah σ H s) (k:∀ b u,s.heap.get? b=some u->h'.get? b=some u) (hN:s.heap.get? N=none) (new:dy X.prog X.w (upd H N o) h' N o) :
  H N=none∧Inv X ah σ (upd H N o) { s with heap:=h',toks:=t' }:=by
 have LN:H N=none:=by
  cases e:H N with
  | none=>rfl
  | some u =>
   obtain⟨ob,z⟩:=(I.bh N u e).there
   rw[hN]at z;cases z
 refine⟨LN,?_⟩
 refine I.step (g':=s.gens) (d':=s.drawn) (ch := []) (fun _ z=>nomatch z) (fun b u _ _ _ e _=>k b u e) (fun b u _ _ _ e _=>⟨u.slots,k b u e⟩)
  (fun b u _ e n=>by rw[aF (fun z=>by rw[z,hN]at e;cases e)];exact n) (fun b u _ e=>⟨u,k b u e⟩) (fun b xs e=>by rw[aF (bX e LN)];exact e) (fun b u v e=>by rw[aF (bX e LN)];exact e)
  (fun b ps e=>⟨#[],by rw[aF (bX e LN),e];simp⟩) (fun m hm =>?_) (fun b u e =>?_) I.bare
 ·exact hm.keeps k
 ·by_cases hb:b=N
  ·subst hb
   rw[aE]at e
   cases e
   exact new
  ·rw[aF hb]at e
   refine(I.bh b u e).uw (fun y v _ qy=>k y v qy) (fun y qy =>?_) fun y xs qy =>?_
   ·rw[aF (bX qy LN)];exact qy
   ·rw[aF (bX qy LN)];exact qy
inductive DD (prog:Program) (w:World) (P:Addr) (pos:Pos) (qual:Str) (i:Nat) (σ : St) (v:V) (H:Hp) (Q:VK):Prop
 | mk (m D:Addr) (kvs:List (NK × V)) (rows:List Addr) (g:NK->Int) (hv:v = .ref m) (hm:DN prog w H m kvs) (hs : σ[i]? = some (some (.ref D))) (hD:H D=some (.lst (rows.map V.ref))) (hz:kvs.length < 64) (CV:rows.length<=100000)
   (hr:∀ kv∈kvs,∃ (a b:Nat) (c:Addr) (xs:List V),kv.1 = [.inl (.inl (a:Int)),.inl (.inl (b:Int))]∧rows[a]? = some c∧H c=some (.lst xs)∧xs.length<=100000∧xs[b]? = some (.int (g kv.1))) (ht:i0 H P pos qual)
   (q:∀ (N:Addr) (H':Hp) (us:List V) (ic:List NK),i4 P H H'->i0 H' P pos qual->H N=none->H' N=some (.lst us)->Paired (fun u k=>∃ c,u=V.ref c∧fA H' k c) us ic->ic.Perm (kvs.map (·.1))->ic.Pairwise (fun a b=>g a<=g b)->Q (.ref N) H'):DD prog w P pos qual i σ v H Q
def W4 (prog:Program) (w:World) (P:Addr) (pos:Pos) (qual:Str) (i:Nat) (te:TE):TE:=fun σ H Q=>te σ H fun v H1=>DD prog w P pos qual i σ v H1 Q
def vI (H:Hp):Value->NK
 | .ref b=>(match H b with | some (.tup [.int a,.int c]) => [.inl (.inl a),.inl (.inl c)] | _ => [])
 | _ => []
theorem Pa {H:Hp}{b:Addr}{a c:Int} (h:H b=some (.tup [.int a,.int c])):vI H (.ref b) = [.inl (.inl a),.inl (.inl c)]:=by
 show (match H b with | some (.tup [.int a,.int c])=>([.inl (.inl a),.inl (.inl c)]:NK) | _ => [])=_
 rw[h]
def M3:Value->V
 | .ref b => .ref b
 | _ => .cJ
def afn (R:V->Prop):List V->Prop
 | [v]=>R v
 | _=>False
theorem Wa {H:Hp}{a b:Nat}{vs:List V} (h:nJ H [.inl (.inl (a:Int)),.inl (.inl (b:Int))] vs):vs = [.int (a:Int),.int (b:Int)]:=by
 rw[nJ]at h
 obtain⟨r,rfl,h⟩:=h
 rw[nJ]at h
 obtain⟨r2,rfl,h⟩:=h
 rw[nJ]at h
 rw[h]
 rfl
theorem OI {cl:Addr}{i:Nat}{x d:Str}{params:Arguments}{scope:Scope}{pd p1 p2 p3 p4 p5 p6 c0 c1:Pos}{k0 k1:Nat}{qual:Str}{ah:List (Addr × Obj)}{σ : St}{H:Hp}{s:Shared}{Q:VK} {m D f c':Addr}{kvs:List (NK × V)}{rows:List Addr}{g:NK->Int}
  {oc:Obj}{fs:Array Value}{t:Tok}{pm m5:Value}
  (hr:X.A.depth < recursionLimit) (LH:X.calm=true) (hN:X.N[i]? = some d) (ZN:X.env.cells.lookup d=some cl) (Zt:X.env.kindOf d=some .cell) (SM:Md X.env.scope d)
  (hb:∀ u pm c' m5,bindArgs (kla_fn "<lambda>" qual params (uK d x pd p1 p2 p3 p4 p5 p6 c0 c1 k0 k1) scope [(d,cl)] pm (.ref c') m5) ⟨[u], []⟩=pure [(x,u)])
  (IU:scope.kind = .function) (P8:scope.isCoroutine=false) (IY:scope.isGenerator=false) (iJ:∀ y∈scope.names,y.2 ≠ .cell) (LC:scope.names.lookup x=some .local) (rV:scope.names.lookup d=some .free)
  (A5:(x == ("__debug__" : Str))=false) (P5:(d == ("__debug__" : Str))=false) (FH:(d == ("__classdict__" : Str))=false)
  (I:Inv X ah σ H s) (hm:DN X.prog X.w H m kvs) (hs : σ[i]? = some (some (.ref D))) (hD:H D=some (.lst (rows.map V.ref))) (hz:kvs.length < 64) (CV:rows.length<=100000)
  (uM:∀ kv∈kvs,∃ (a b:Nat) (c:Addr) (xs:List V),kv.1 = [.inl (.inl (a:Int)),.inl (.inl (b:Int))]∧rows[a]? = some c∧H c=some (.lst xs)∧xs.length<=100000∧xs[b]? = some (.int (g kv.1)))
  (hf:H f=some (Ext f (kla_obj "<lambda>" qual params (uK d x pd p1 p2 p3 p4 p5 p6 c0 c1 k0 k1) scope [(d,cl)] pm c' m5))) (qu:H c'=some (Ext c' oc)) (FF:oc.data = .fields fs) (hq:fs[1]? = some (.str qual t))
  (q:∀ (N:Addr) (us:List V) (ic:List NK),H N=none->Paired (fun u k=>∃ c,u=V.ref c∧fA H k c) us ic->ic.Perm (kvs.map (·.1))->ic.Pairwise (fun a b=>g a<=g b)->Q (.ref N) (upd H N (.lst us))) :
  wpAny (model X.prog X.w) X.A (call (.builtin "sorted") [.ref m] [(eS "key",.ref f)]) (EP X ah σ Q) X.xe s:=by
 obtain⟨mm,hn,afW⟩:=id I.loc
 have UK:=mB I.bh hf
 have af6:=mB I.bh qu
 obtain⟨u,ru,lk⟩:=afW i d _ hN hs SM
 obtain rfl:u=aQ D:=ru
 have UO:s.heap.IsCell cl (some (.ref D)):=by
  rcases lk with⟨z,_⟩ | ⟨_,c2,e2,z⟩
  ·rw[Zt]at z;cases z
  ·rw[ZN]at e2;cases e2;exact z
 obtain⟨_,lo,xs,od,es,ep,hmo,kn,hx,gx,gF,_⟩:=id hm
 have pL:=mB I.bh hmo
 obtain⟨esz,eat⟩:=entry_at kn gF
 have el:es.toList.length=kvs.length:=dB.trans esz
 obtain⟨ags,dr,dl,_⟩:=I.list (aZ.of hD)
 -- pj keys
 have key:∀ (j:Nat) (hj:j < es.size),∃ (kv:NK × V) (b:Addr) (a1 b1:Nat) (c:Addr) (xs:List V),kvs[j]? = some kv∧es[j].key = .ref b∧kv.1 = [.inl (.inl (a1:Int)),.inl (.inl (b1:Int))]∧H b=some (.tup [.int (a1:Int),.int (b1:Int)])∧fA H kv.1 b∧rows[a1]? = some c∧H c=some (.lst xs)∧xs.length<=100000∧xs[b1]? = some (.int (g kv.1)):=fun j hj=>by
  obtain⟨kv,b,h1,h2,nk,_⟩:=eat j hj
  obtain⟨a1,b1,c,xs,e,r1,r2,r3,r4⟩:=uM kv (ak h1)
  obtain⟨vs,hv,nks⟩:=id nk
  have Yk:=nks
  rw[e]at Yk
  rw[Wa Yk]at hv
  exact⟨kv,b,a1,b1,c,xs,h1,h2,e,hv,nk,r1,r2,r3,r4⟩
 have vat:∀ j v,(es.toList.map (·.key))[j]? = some v->∃ hj:j < es.size,v=es[j].key:=fun j v h=>by
  rw[aG,fV]at h
  obtain⟨en,h1,h2⟩:=ck.mp h
  obtain⟨hj,h3⟩:=gN.mp h1
  exact⟨hj,by rw[h3];exact h2.symm⟩
 refine OL (vs:=es.toList.map (·.key)) (kz:=kvs.map fun kv=>g kv.1) (by rw[ar,ar,el]) (by rw[ar,el];exact hz) (fun E' R hR =>?_) (fun j v k hv hk h tk kp =>?_) (fun N h' tk ic c Bc kp g0 ko =>?_)
 ·refine kdu_collect (Wn lo hx gx) (show X.A.in1.handled=none from I.ok.hd LH) pL (by rw[sizeLine_eq];omega) fun h' tk acc kp it =>?_
  have e:acc.toList=es.toList.map (·.key):=by
   refine d8 fun j =>?_
   rw[aG,fV,fV]
   cases hj:acc[j]? with
   | none =>
    have:es.size<=j:=by rw[<- it.1];exact Array.getElem?_eq_none_iff.mp hj
    rw[kH this];rfl
   | some v =>
    obtain⟨Zw,e2⟩:=it.2 j v hj
    rw[hU Zw,e2];rfl
  rw[e]
  exact hR h' tk kp
 ·obtain⟨hj,rfl⟩:=vat j v hv
  obtain⟨kv,b,a1,b1,c,ys,h1,h2,h3,h4,nk,r1,r2,r3,r4⟩:=key j hj
  rw[aG,h1]at hk
  cases hk
  rw[h2]
  obtain⟨aeR,tr,tl,_⟩:=I.tuple (bD.of h4)
  obtain⟨agw,cr,cpl,_⟩:=I.list (aZ.of r2)
  obtain⟨u0,e0,t0,rfl⟩:=tr.get (i:=0) (x := .int (a1:Int)) rfl
  obtain⟨u1,e1,t1,rfl⟩:=tr.get (i:=1) (x := .int (b1:Int)) rfl
  obtain⟨ur,er,rr⟩:=dr.get (i:=a1) (x := .ref c) (by rw[aG,r1];rfl)
  obtain rfl:ur=aQ c:=rr
  obtain⟨uv,ev,tv,rfl⟩:=cr.get r4
  have aeQ:=tr.length
  have al:a1 < rows.length:=(ai.mp r1).1
  have bl:b1 < ys.length:=(ai.mp r4).1
  obtain⟨ocl,afR,af3⟩:=UO
  obtain⟨oD,gD,rD⟩:=dl.isList
  obtain⟨oc2,gc,rc⟩:=cpl.isList
  obtain⟨oT,gT,rT⟩:=tl
  refine Pq (s := { s with heap:=h,toks:=tk }) (D:=D) (T:=b) (R:=c) (rows:=ags.toArray) (vals:=agw.toArray) (pr:=aeR.toArray) (a:=a1) (b:=b1) hr ?_ (kp _ _ UK) ⟨c',oc,fs,t,O,kp _ _ af6,FF,hq⟩ (hb _ _ _ _) IU P8 IY iJ LC rV A5 P5 FH
   ⟨ocl,kp _ _ afR,af3⟩ ⟨oD,kp _ _ gD,rD⟩ ⟨oT,kp _ _ gT,rT⟩ (by rw[aN, <- aeQ];rfl) (by simpa using e0) (by simpa using e1) (by simpa using er) ⟨oc2,kp _ _ gc,rc⟩ (by simpa using ev) (by omega) (by omega) fun h2 WZ k2 =>?_
  ·exact I.mod.nolimit.keeps fun b o e=>kp b o (I.bk b o e)
  ·exact⟨h2,WZ,tv,O,O,k2⟩
 ·obtain⟨ps,pp,po,pso⟩:=ko
  have at_:∀ p∈ps,∃ (b:Addr) (k:NK),p=(g k,aQ b)∧fA H k b∧vI H (.ref b)=k:=fun p hp=>by
   obtain⟨p1,p2⟩:=p
   obtain⟨j,hj⟩:=aT (pp.mem_iff.mp hp)
   rw[mI]at hj
   obtain⟨z1,z2⟩:=hj
   dsimp only at z1 z2
   obtain⟨Zw,e2⟩:=vat j p2 z2
   obtain⟨kv,b,a1,b1,c,ys,h1,h2,h3,h4,nk,_⟩:=key j Zw
   rw[aG,h1]at z1
   cases z1
   exact⟨b,kv.1,by rw[e2,h2],nk,by rw[Pa h4,h3]⟩
  have e1:ic.toList.map (vI H)=ps.map fun p=>vI H p.2:=by rw[po,gH];rfl
  have perm:(ic.toList.map (vI H)).Perm (kvs.map (·.1)):=by
   rw[e1]
   refine(pp.map fun p=>vI H p.2).trans (List.Perm.of_eq ?_)
   have e2:((kvs.map fun kv=>g kv.1).zip (es.toList.map (·.key))).map (fun p:Int × Value=>vI H p.2)=(es.toList.map (·.key)).map (vI H):=by
    have e3:((kvs.map fun kv=>g kv.1).zip (es.toList.map (·.key))).map ym=es.toList.map (·.key):=List.map_snd_zip (by rw[ar,ar,el];exact au _)
    conv=>rhs;rw[<- e3]
    rw[gH]
    rfl
   rw[e2]
   refine d8 fun j =>?_
   rw[aG,aG,aG,fV]
   by_cases hj:j < es.size
   ·obtain⟨kv,b,a1,b1,c,ys,h1,h2,h3,h4,nk,_⟩:=key j hj
    rw[hU hj,h1]
    show some (vI H es[j].key)=some kv.1
    rw[h2,Pa h4,h3]
   ·rw[kH (by omega),eU (by omega)]
    rfl
  have G1:(ic.toList.map (vI H)).Pairwise (fun a b=>g a<=g b):=by
   rw[e1,iC]
   refine ng ?_ pso
   intro q1 q2 m1 m2 z
   obtain⟨b1,k1,rfl,_,n1⟩:=at_ q1 m1
   obtain⟨b2,k2,rfl,_,n2⟩:=at_ q2 m2
   rw[n1,n2]
   simpa using z
  have all:∀ v∈ic.toList,∃ (b:Addr),v=aQ b∧fA H (vI H v) b:=fun v hv=>by
   rw[po]at hv
   obtain⟨p,hp,rfl⟩:=bj.mp hv
   obtain⟨b,k,rfl,nk,n1⟩:=at_ p hp
   exact⟨b,O,by show fA H (vI H (.ref b)) b;rw[n1];exact nk⟩
  have both:∀ l:List Value,(∀ v∈l,∃ (b:Addr),v=aQ b∧fA H (vI H v) b)->Vals (l.map M3) l∧Paired (fun u k=>∃ c,u=V.ref c∧fA H k c) (l.map M3) (l.map (vI H)):=fun l=>by
   induction l with
   | nil=>intro _;exact⟨.nil,.nil⟩
   | cons v l ih =>
    intro h
    obtain⟨b,rfl,nk⟩:=h v bg
    obtain⟨i1,i2⟩:=ih fun y hy=>h y (aW _ hy)
    exact⟨.cons rfl i1,.cons ⟨b,O,nk⟩ i2⟩
  obtain⟨b1,b2⟩:=both _ all
  have ol:ic.toList.length=kvs.length:=by have:=perm.length_eq;rw[ar,ar]at this;exact this
  obtain⟨n0,J⟩:=I.abV (t':=tk) kp Bc (o := .lst (ic.toList.map M3)) (show dy X.prog X.w _ h' N (.lst (ic.toList.map M3)) from ⟨by rw[ar,ol,sizeLine_eq];omega,ic.toList,c,b1,by rw[Array.toArray_toList];exact g0⟩)
  exact⟨.ref N,_,J,O,q N _ _ n0 b2 perm G1⟩
theorem RZ {P c cl:Addr}{i:Nat}{x d:Str}{params:Arguments}{scope:Scope}{pd p1 p2 p3 p4 p5 p6 c0 c1 pos np Nq de:Pos}{k0 k1:Nat}{e:Expr}{te:TE}
  (T:TabAt X.base X.mg c P) (hr:X.A.depth < recursionLimit) (LH:X.calm=true) (hgl:Gl X "sorted") (hm:X.mg "sorted" = none) (GG:X.env.code = .ref c) (hN:X.N[i]? = some d) (SM:Md X.env.scope d)
  (NI:closureFor scope X.env=pure [(d,cl)]) (ZN:X.env.cells.lookup d=some cl) (Zt:X.env.kindOf d=some .cell) (ha:PE X e te) (S1:defaultsOf params X.env=([], []))
  (hb:∀ qual u pm c' m5,bindArgs (kla_fn "<lambda>" qual params (uK d x pd p1 p2 p3 p4 p5 p6 c0 c1 k0 k1) scope [(d,cl)] pm (.ref c') m5) ⟨[u], []⟩=pure [(x,u)])
  (IU:scope.kind = .function) (P8:scope.isCoroutine=false) (IY:scope.isGenerator=false) (iJ:∀ y∈scope.names,y.2 ≠ .cell) (LC:scope.names.lookup x=some .local) (rV:scope.names.lookup d=some .free)
  (A5:(x == ("__debug__" : Str))=false:=by decide) (P5:(d == ("__debug__" : Str))=false:=by decide) (FH:(d == ("__classdict__" : Str))=false:=by decide)
  (he:starEach [e] X.env=(false,eval e X.env) :: starEach [] X.env:=by rfl) :
  PE X (.Call (.Name "sorted" np) [e] [⟨some "key",.Lambda params (uK d x pd p1 p2 p3 p4 p5 p6 c0 c1 k0 k1) scope pos,Nq⟩] de) (W4 X.prog X.w P pos (X.env.qual ++ "<lambda>") i te):=by
 intro ah s σ H Q I h
 refine wpAny_Call_Name_kw (pH I hgl hm boot_sorted ?_ (by decide) (by decide))
 have hPA:PA X [e] (og te sF):=ae (hs:=he) ha aq
 have hPK:PK X [⟨some "key",.Lambda params (uK d x pd p1 p2 p3 p4 p5 p6 c0 c1 k0 k1) scope pos,Nq⟩] (og (Xb P pos (X.env.qual ++ "<lambda>") params (uK d x pd p1 p2 p3 p4 p5 p6 c0 c1 k0 k1) scope [(d,cl)]) sF):=VS (X4 T GG NI S1) XZ
 have h':(og te sF) σ H (fun vs H1=>afn (fun v=>DD X.prog X.w P pos (X.env.qual ++ "<lambda>") i σ v H1 Q) vs):=h
 refine callWith_kw (bF (hPA de ah s σ H _ I h') fun us s1 ⟨vs,H1,I1,r1,q1⟩ =>?_) (by rw[he];rfl) (by rw[he];rfl) rfl rfl
 cases r1 with
 | nil=>exact dA q1
 | @cons v u vs us rv r1 =>
  cases r1 with
  | cons _ _=>exact dA q1
  | nil =>
  obtain⟨m,D,kvs,rows,g,hv,hmm,hs,hD,hz,CV,uM,ht,q⟩:=(show DD X.prog X.w P pos (X.env.qual ++ "<lambda>") i σ v H1 Q from q1)
  subst hv
  obtain rfl:u=aQ m:=rv
  refine bF (hPK de ah s1 σ H1 (fun zs H2=>∃ f c' oc fs t pm m5,zs = [.ref f]∧i4 P H1 H2∧i0 H2 P pos (X.env.qual ++ "<lambda>")∧H2 f=some (Ext f (kla_obj "<lambda>" (X.env.qual ++ "<lambda>") params (uK d x pd p1 p2 p3 p4 p5 p6 c0 c1 k0 k1) scope [(d,cl)] pm c' m5)) ∧
   H2 c'=some (Ext c' oc)∧oc.data = .fields fs∧fs[1]? = some (.str (X.env.qual ++ "<lambda>") t)) I1 ⟨ht,fun f c' oc fs t pm m5 H2 kb tb _ a1 a2 a3 a4=>⟨f,c',oc,fs,t,pm,m5,O,kb,tb,a1,a2,a3,a4⟩⟩) fun ws s2 ⟨zs,H2,I2,r2,f,c',oc,fs,t,pm,m5,ez,kb,tb,a1,a2,a3,a4⟩ =>?_
  subst ez
  cases r2 with
  | @cons v2 w WT ws2 rw r3 =>
   cases r3
   obtain rfl:w=aQ f:=rw
   have tP:∀ {b:Addr}{o:HO},H1 b=some o->(∀ ps,o ≠ .oO ps)->b≠P:=fun {b o} e ne z=>by
    subst z
    rcases ht with z | ⟨_,_,_,_,z,_⟩
    ·rw[z]at e;cases e;exact ne _ rfl
    ·rw[z]at e;cases e;exact ne _ rfl
   have kt:∀ b ys,H1 b=some (.tup ys)->H2 b=some (.tup ys):=fun b ys z=>kb _ _ (tP z (fun _ z=>nomatch z)) z
   have oY:=kb _ _ (tP hD (fun _ z=>nomatch z)) hD
   have hm2:=hmm.keep (fun φ z=>kb _ _ (tP z (fun _ z=>nomatch z)) z) kt
   refine OI (g:=g) hr LH hN ZN Zt SM (hb _) IU P8 IY iJ LC rV A5 P5 FH I2 hm2 hs oY hz CV (fun kv cZ =>?_) a1 a2 a3 a4 (fun N us ic Bc hp C1 hsd =>?_)
   ·obtain⟨a,b,c,xs,e1,e2,e3,e4,e5⟩:=uM kv cZ
    exact⟨a,b,c,xs,e1,e2,kb _ _ (tP e3 (fun _ z=>nomatch z)) e3,e4,e5⟩
   have hN1:H1 N=none:=by
    cases z:H1 N with
    | none=>rfl
    | some o =>
     by_cases zp:N=P
     ·subst zp
      rcases tb with z2 | ⟨_,_,_,_,z2,_⟩ <;> rw[z2]at Bc <;> cases Bc
     ·rw[kb _ _ zp z]at Bc;cases Bc
   have sN:∀ b o,H2 b=some o->(upd H2 N (.lst us)) b=some o:=fun b o z=>by rw[aF (bX z Bc)];exact z
   refine q N _ us ic (fun b o tH z=>sN _ _ (kb b o tH z)) ?_ hN1 aE (Paired.uI hp fun u k ⟨c,e,nk⟩=>⟨c,e,nk.keep fun b ys=>sN _ _⟩) C1 hsd
   rcases tb with z | ⟨c3,oc3,f3,t3,z,z1,z2,z3⟩
   ·exact .inl (sN _ _ z)
   ·exact .inr ⟨c3,oc3,f3,t3,sN _ _ z,sN _ _ z1,z2,z3⟩
end
structure N4 (K:ao) (mg:Str->Option Value) (x:Str) (st:Stmt) (ps:List Str) (c:Addr):Prop where
 ex:∃ (f:Addr) (oc:Value) (od:Option Addr) (kV doc pm:Value) (an:Option Addr) (ct:Value) (yA:Array (Option Value)),
  K.lookup f=some ⟨oc,od,.func (dU x x (jf st) (fT st) (aX st) .none kV doc pm an (.ref c) ct),yA⟩∧g9 K (.ref c) x=true∧dw K (.ref f)=true∧mg x=some (.ref f) ∧
  Binds K (dU x x (jf st) (fT st) (aX st) .none kV doc pm an (.ref c) ct) ps []
theorem Pp {Pr:Program}{w:World}{K:ao}{mg mb:Str->Option Value}{CX:wk}{k:Nat}{fa a c P:Addr}{fd:FuncData}{x:Str}{sp:Sp}{eE : Shared}{vs:List Value}{ns:List Int}
  (KX:K.In eE.heap) (qr:noTabs K=true) (hC:CodeHd eE.heap c P) (hP:eE.heap.get? P=some (tabObj #[])) (hB:eE.heap.BuiltinsAt mg P)
  (Ux:eE.heap.Ns mainGlobals mg) (hb:eE.heap.Ns builtinsNs mb) (hbb:∀ x:Str,x ≠ "__name__" -> mb x=bootBuiltins x) (SY:eE.heap.NoLimit) (hg:eE.gens = #[])
  (ha:eE.heap.get? a=some { cls := .type "list",data := .seq vs.toArray }) (hi:IntsAre vs ns) (hl:ns.length<=sizeLine) (hr:eZ k callerA)
  (F:∀ base:Heap,K.In base->base.Ns mainGlobals mg->TabAt base mg c P->lC Pr w K mg base CX k fa fd [x] sp) (acb:∀ (s:Shared) (u:Value),BindsTo s fd ⟨[u], []⟩ [(x,u)])
  (yE:∀ H:Hp,aZ K H a (ns.map V.int)->H P=some (.oO #[])->sp [.ref a] H (fun v _=>v = .bl true) fun _ _ _=>False)
  (hCX:∀ H e s',CX [] H eE (fun _ _ _=>False) e s'->False) :
  codeAny (model Pr w) callerA (.call (.ref fa) ⟨[.ref a], []⟩) (fun r s'=>r = .ok (.ret (.bool true))∧OldK eE.heap s'.heap∧s'.os=eE.os∧AllBare s'.gens) eE := by
 have rv:=E4 hi
 have afA:=hi.length
 have hPa:P≠a:=fun z=>by rw[z,ha]at hP;cases hP
 obtain⟨Ha,Z7,hsq,hka⟩:∃ Ha:Option HO,(Ha=none∨Ha=some (.uU { cls := .type "list",data := .seq vs.toArray } (.lst (ns.map V.int))))∧(∀ H:Hp,H a=Ha->aZ K H a (ns.map V.int))∧(Ha≠none->K.lookup a=none):=by
  cases hk:K.lookup a with
  | some o =>
   have e:=KX a o hk
   rw[ha]at e
   cases e
   exact⟨none,.inl rfl,fun H _ => .inr ⟨_,vs.toArray,_,hk,O,O,O,by rw[aN,afA];exact hl,by simpa using rv⟩,fun z=>absurd rfl z⟩
  | none=>exact⟨some (.uU { cls := .type "list",data := .seq vs.toArray } (.lst (ns.map V.int))),.inr rfl,fun H e => .inl (.inr ⟨_,e⟩),fun _=>rfl⟩
 obtain⟨H,Qg,Qh,U0⟩:∃ H:Hp,H P=some (.oO #[])∧H a=Ha∧∀ b,b≠P->b≠a->H b=none :=
  ⟨fun b=>if b=P then some (.oO #[]) else if b=a then Ha else none,if_pos rfl,by show (if a=P then _ else _)=_;rw[if_neg (cM hPa),if_pos rfl],fun b h1 h2=>by show (if b=P then _ else _)=_;rw[if_neg h1,if_neg h2]⟩
 have bh:gC Pr w H eE.heap:=fun b u e=>by
  by_cases h1:b=P
  ·subst h1
   rw[Qg]at e;cases e
   exact hP
  ·by_cases h2:b=a
   ·subst h2
    rw[Qh]at e
    rcases Z7 with z | z
    ·rw[z]at e;cases e
    ·rw[z]at e;cases e
     exact⟨ha,by rw[ar];exact hl,vs,_,rv,ha⟩
   ·rw[U0 b h1 h2]at e;cases e
 have free:∀ {b:Addr}{o:Obj},eE.heap.get? b=some o->o≠tabObj #[]->o≠{ cls := .type "list",data := .seq vs.toArray }->H b=none:=fun {b o} e n1 n2 =>
  U0 b (fun z=>by rw[z,hP]at e;cases e;exact n1 rfl) (fun z=>by rw[z,ha]at e;cases e;exact n2 rfl)
 have T9:∀ {b:Addr}{m:Str->Option Value},eE.heap.Ns b m->(xX eE.heap H).Ns b m:=fun {b m} ⟨o,es,ep,e,d,r⟩=>⟨o,es,ep,xW e (free e (fun z=>by rw[z]at d;cases d) (fun z=>by rw[z]at d;cases d)),d,r⟩
 have hKb:K.In (xX eE.heap H):=fun b o e=>xW (KX b o e) (by
  by_cases h1:b=P
  ·subst h1
   have e2:=KX b o e
   rw[hP]at e2;cases e2
   have h2:=iS.mp qr (b,_) (mem_of_lookupK e)
   exact absurd (show false=true from h2) bb
  ·by_cases h2:b=a
   ·subst h2
    rw[Qh]
    rcases Z7 with z | z
    ·exact z
    ·rw[hka (by rw[z];simp)]at e;cases e
   ·exact U0 b h1 h2)
 have hM:Mod K mg (xX eE.heap H):=⟨hKb,T9 Ux,⟨mb,T9 hb,hbb⟩,let ⟨mc,h1,h2⟩:=SY; ⟨mc,T9 h1,h2⟩⟩
 have hT:TabAt (xX eE.heap H) mg c P:=by
  refine⟨?_,?_⟩
  ·obtain⟨o,us,file,tf,U7,tg,inF,text,tt,e1,r1,r⟩:=hC
   exact⟨o,us,file,tf,U7,tg,inF,text,tt,xW e1 (free e1 (fun z=>by rw[z]at r1;cases r1) (fun z=>by rw[z]at r1;exact absurd (jy r1) (by decide))),r1,r⟩
  ·obtain⟨bm,o,a1,a2,a3,a4,e1,r1,r⟩:=hB
   exact⟨bm,o,a1,a2,a3,a4,xW e1 (free e1 (fun z=>by rw[z]at r1;cases r1) (fun z=>by rw[z]at r1;exact absurd (jy r1) (by decide))),r1,r⟩
 have e0:B6 Pr w K mg (xX eE.heap H) callerA [] eE H:=⟨O,hM,fun b o e=>V8 e,m9 (P0 _ _),trivial,fun b hb=>absurd (show b∈([]:List Addr) from hb) (by simp),bh,.of_eq hg⟩
 refine codeAny_mono ((F _ hKb (T9 Ux) hT).run callerA [] eE H ⟨[.ref a], []⟩ [.ref a] [.ref a] _ _ hr e0 (acb eE (.ref a)) (.cons rfl .nil) (yE H (hsq H Qh) Qg)) fun r s' h =>?_
 cases r with
 | error e=>exact(hCX H e s' h).elim
 | ok fl =>
  cases fl with
  | next=>exact dA h
  | brk=>exact dA h
  | cont=>exact dA h
  | ret u =>
   obtain⟨v,H',os,bare,un,Zi,r',q⟩:=h
   have q':v = .bl true:=q
   subst q'
   obtain rfl:u=eJ true:=r'
   have old:∀ b o,eE.heap.get? b=some o->asItWas eE.heap s'.heap b o:=fun b o e=>by
    by_cases h1:b=P
    ·subst h1
     rw[hP]at e;cases e
     obtain⟨more,hm⟩:=un.qD b _ Qg
     have z:s'.heap.get? b=some (tabObj (#[] ++ more)):=Zi b _ hm
     obtain⟨o,us,file,tf,U7,tg,inF,text,tt,e1,r1,r2,r3,_⟩:=hC
     exact .inr (.inl ⟨⟨c,o,us,e1,r1,r2,r3⟩,O, #[],more,O,z⟩)
    ·by_cases h2:b=a
     ·subst h2
      rcases Z7 with z | z
      ·exact .inl (un.keep b o e (by rw[Qh,z]) (by intro z;exact absurd (show b∈([]:List Addr) from z) (by simp)) (by simp))
      ·have z2:=un.qL b _ _ (Qh.trans z)
       obtain⟨e2,_⟩:=Zi b _ z2
       rw[ha]at e;cases e
       exact .inl e2
     ·exact .inl (un.keep b o e (U0 b h1 h2) (by intro z;exact absurd (show b∈([]:List Addr) from z) (by simp)) (by simp))
   refine⟨O,⟨old,fun b o e =>?_⟩,os,bare⟩
   exact un.there b o e (by simp)
theorem Rp {l:OpenLaw}{n k:Nat}{q:Program}{loose:List Str}{XP:(Str->Option Value)->Heap->Prop}{YP:World->Heap->Prop}{d dC:DefRec}{K:Params->Frag}{CX:World->wk}{sp:World->Sp}{x xT:Str}{c P:Addr}
  (hn:l.most=some n) (Uz:n<=sizeLine) (ZK:d.params.defaults = []) (hr:eZ k callerA)
  (hY:∀ (w:World) (h:Heap),YP w h->(K w.params).In h)
  (Jj:(recsOf q).find? (fun e=>e.name == xT)=some dC) (Jg:∀ w:World,tabIn (K w.params) xT=some (c,P)) (qr:∀ w:World,noTabs (K w.params)=true)
  (F:∀ (w:World) (mg:Str->Option Value) (fa:Addr) (h:Heap),(K w.params).In h->h.Ns mainGlobals mg->mg d.name=some (.ref fa) ->
   ∃ fd:FuncData,(∀ (s:Shared) (u:Value),BindsTo s fd ⟨[u], []⟩ [(x,u)])∧∀ base:Heap,(K w.params).In base->base.Ns mainGlobals mg->TabAt base mg c P->lC l.prog w (K w.params) mg base (CX w) k fa fd [x] (sp w))
  (yE:∀ (w:World) (H:Hp) (a:Addr) (ns:List Int),ns.length<=n->(∀ c∈ns,yU c<=1048576)->aZ (K w.params) H a (ns.map V.int)->H P=some (.oO #[])->sp w [.ref a] H (fun v _=>v = .bl true) fun _ _ _=>False)
  (hCX:∀ (w:World) (H:Hp) (s:Shared) (e:Value) (s':Shared),CX w [] H s (fun _ _ _=>False) e s'->False) :
  WalkO q loose XP YP l.row.toRowW d [] (fun f vs=>PySem.call f vs):=by
 intro w s0 s1 mg mb G Y fa o pm cd doc dV kV ho hd mZ hD Zp hg args vals as NB afX hrd YW zI
 have e1:=Dflts.none hD ZK
 have e2:=Dflts.noKw hD
 subst e1 e2
 obtain⟨a,vs,ns,ev,ea,afT,ab9,eg⟩:=Att.ON hn NB YW
 subst ev ea
 have KX:=hY w _ Y
 obtain⟨fd,hb,hF⟩:=F w mg fa _ KX G.T.g Zp
 obtain⟨hC,hP⟩:=tab_of G.T KX Jj (Jg w)
 have hgP:mainGlobals≠P:=fun q=>by
  obtain⟨o,es,ep,e,hd,_⟩:=G.T.g
  rw[q,hP]at e;cases e;cases hd
 have hB:s1.heap.BuiltinsAt mg P:=by
  obtain⟨bm,ob,b1,b2,b3,b4,b5,b6⟩:=G.T.bmain
  refine⟨bm,ob,b1,b2,fun z =>?_,fun z =>?_,b3,b4,b5,b6⟩
  ·obtain⟨o,es,ep,e,hd,_⟩:=G.T.g
   rw[z,e]at b3;cases b3;rw[hd]at b6;cases b6
  ·rw[z,hP]at b3;cases b3;cases b4
 refine enter_call (codeAny_mono (Pp KX (qr w) hC hP hB G.T.g G.T.b G.T.builtins G.T.nolimit hg afT ab9 (bq eg Uz) hr hF hb (fun H hS Qg=>yE w H a ns eg (Ti afX) hS Qg) fun H e s'=>hCX w H s1 e s') fun r s' hq =>?_)
 obtain⟨er,h2,h3,h4⟩:=hq
 subst er
 exact⟨.inl ⟨.bool true,.bool true, [],O,fun _=>rfl,.bool true,Att.OU l _,fun _=>⟨AR,fun _ hm=>(nomatch hm)⟩⟩,h2,h3,h4⟩
end L2
namespace L2
open PySem
end L2
namespace L2
open PySem PySem.Spec PySem.W PyProof.Rows PySem.Calls
theorem N4.aga {P:Program}{w:World}{K:ao}{mg:Str->Option Value}{base:Heap}{x:Str}{st:Stmt}{N ps:List Str}{k:Nat}{sp:Sp}{c:Addr} (D:N4 K mg x st ps c) (S:cF N ps (aX st)) (len:∀ vs H Q E,sp vs H Q E->vs.length=ps.length)
  (nB:∀ (f:Addr) (A:Around) (outer:List Env) (s:Shared) (H:Hp) (vs:List V) (Q:VK) (E:XK),eZ k (A.deeper (envOfC x (aX st) s.heap.objs.size f (.ref c)))->sp vs H Q E ->
   ∃ t,pV (dQ (qk P w) P w K mg base N x (aX st) f (.ref c) A outer s H E) (fT st) t∧t { nx:=fun _ H'=>Q .cJ H',rt:=Q } (start N vs) H):EW P w K mg base (k+1) x ps sp:=by
 obtain⟨f,oc,od,kV,doc,pm,an,ct,yA,lk,mZ,IT,hm,hb⟩:=D.ex
 exact⟨f,_,NO lk mZ S len fun A outer s H vs Q E hr yE=>nB f A outer s H vs Q E hr yE,hm,IT,hb⟩
theorem i0.same {H H':Hp}{P:Addr}{pos:Pos}{qual:Str} (h:i0 H P pos qual) (sm:bu H H'):i0 H' P pos qual:=by
 rcases h with z | ⟨c',oc,vs,t,z1,z2,z3⟩
 ·exact .inl (sm _ _ z)
 ·exact .inr ⟨c',oc,vs,t,sm _ _ z1,sm _ _ z2,z3⟩
theorem i0.ne {H:Hp}{P b:Addr}{pos:Pos}{qual:Str}{o:HO} (h:i0 H P pos qual) (e:H b=some o) (n:∀ ps,o ≠ .oO ps):b≠P:=fun z=>by
 subst z
 rcases h with z | ⟨_,_,_,_,z,_⟩ <;> (rw[z]at e;cases e;exact n _ rfl)
theorem i4.get {H H':Hp}{P b:Addr}{pos:Pos}{qual:Str}{o:HO} (k:i4 P H H') (h:i0 H P pos qual) (e:H b=some o) (n:∀ ps,o ≠ .oO ps):H' b=some o:=k _ _ (h.ne e n) e
theorem i4.then {H H' iY:Hp}{P:Addr} (k:i4 P H H') (sm:bu H' iY):i4 P H iY:=fun b o hb e=>sm _ _ (k b o hb e)
theorem Fh {H H' iY:Hp}{P:Addr} (sm:bu H H') (k:i4 P H' iY):i4 P H iY:=fun b o hb e=>k b o hb (sm _ _ e)
theorem i4.trans {H H' iY:Hp}{P:Addr} (k:i4 P H H') (k':i4 P H' iY):i4 P H iY:=fun b o hb e=>k' b o hb (k b o hb e)
section
variable {X:Cx}{a b o i:Expr}{ta tb td ty:TE}{pos:Pos}
theorem aJ {r:R2} (hr:Rg X r) (ha:PE X a ta) (hb:PE X b tb) (hs:Mp b:=by exact fun _ _=>rfl):PE X (.Subscript a b pos) (vF r ta tb):=abM hr ha hb hs
end
end L2
namespace a5
open PySem L2 Sw
def top (i:Nat):Stmt:=kE.main.body.getD i (.Pass ⟨0,0,0,0⟩)
abbrev Cp:Stmt:=top 4
theorem VH:cF wa9 wa9 (aX Cp):=⟨O,O,O,by decide +kernel,O,by decide +kernel,by decide +kernel⟩
abbrev qH:Stmt:=top 6
theorem mx:cF ["leads", "a", "b", "low", "high", "k"] wb2 (aX qH):=⟨O,O,O,by decide +kernel,O,by decide +kernel,by decide +kernel⟩
abbrev wo:Stmt:=top 7
theorem jB:cF ["terms", "leads", "joined", "first", "k", "term", "other"] wa1 (aX wo):=⟨O,O,O,by decide +kernel,O,by decide +kernel,by decide +kernel⟩
abbrev Bx:Stmt:=top 5
theorem zi:cF ["terms", "edges", "leads", "edge"] wb4 (aX Bx):=⟨O,O,O,by decide +kernel,O,by decide +kernel,by decide +kernel⟩
abbrev zj:Stmt:=top 9
theorem pA:cF ["terms", "leads", "edges", "search", "edge", "a", "b"] wb0 (aX zj):=⟨O,O,O,by decide +kernel,O,by decide +kernel,by decide +kernel⟩
abbrev uz:Stmt:=top 10
theorem gI:cF ["terms", "leads", "alike", "k", "term", "pairs", "row", "place", "b", "a"] wa1 (aX uz):=⟨O,O,O,by decide +kernel,O,by decide +kernel,by decide +kernel⟩
abbrev oh:Stmt:=top 11
theorem D9:cF wa4 wa4 (aX oh):=⟨O,O,O,by decide +kernel,O,by decide +kernel,by decide +kernel⟩
abbrev sH:Stmt:=top 12
theorem kU:cF ["terms", "least", "a", "b", "total", "x", "y"] wa5 (aX sH):=⟨O,O,O,by decide +kernel,O,by decide +kernel,by decide +kernel⟩
abbrev md:Stmt:=oV (top 13) 0
theorem Hi:cF wb6 wb7 (aX md):=⟨O,O,O,by decide +kernel,O,by decide +kernel,by decide +kernel⟩
abbrev uA:Stmt:=oV (top 13) 1
theorem lV:cF ["self", "a", "b", "needed", "x", "y", "ends"] wb5 (aX uA):=⟨O,O,O,by decide +kernel,O,by decide +kernel,by decide +kernel⟩
abbrev uy:Stmt:=oV (top 13) 2
theorem yz:cF ["self", "a", "b", "length", "best"] ee (aX uy):=⟨O,O,O,by decide +kernel,O,by decide +kernel,by decide +kernel⟩
abbrev Ef:Stmt:=oV (top 13) 3
theorem Bt:cF ["self", "a", "b", "length", "low", "high"] ee (aX Ef):=⟨O,O,O,by decide +kernel,O,by decide +kernel,by decide +kernel⟩
abbrev ux:Stmt:=oV (top 13) 4
theorem yy:cF ["self", "head"] ["self"] (aX ux):=⟨O,O,O,by decide +kernel,O,by decide +kernel,by decide +kernel⟩
abbrev Bv:Stmt:=oV (top 13) 5
theorem zh:cF ["self", "a", "b", "length", "x", "y"] ee (aX Bv):=⟨O,O,O,by decide +kernel,O,by decide +kernel,by decide +kernel⟩
abbrev wq:Stmt:=oV (top 13) 6
theorem pB:cF ["self", "a", "row", "length", "b"] ["self", "a"] (aX wq):=⟨O,O,O,by decide +kernel,O,by decide +kernel,by decide +kernel⟩
abbrev xE:Stmt:=oV (top 13) 7
theorem qV:cF ["self", "a", "b", "length", "row", "c", "more"] ee (aX xE):=⟨O,O,O,by decide +kernel,O,by decide +kernel,by decide +kernel⟩
abbrev Hn:Stmt:=top 20
theorem VI:cF fM fM (aX Hn):=⟨O,O,O,by decide +kernel,O,by decide +kernel,by decide +kernel⟩
abbrev Hj:Stmt:=top 21
theorem D7:cF ["_law_k", "_law_cell", "_law_some", "_law_place"] wa8 (aX Hj):=⟨O,O,O,by decide +kernel,O,by decide +kernel,by decide +kernel⟩
abbrev Co:Stmt:=top 22
theorem wQ:cF ["_law_cell", "_law_seed", "_law_many", "_law_kind", "_law_number", "_law_count", "_law_arms"] wa2 (aX Co):=⟨O,O,O,by decide +kernel,O,by decide +kernel,by decide +kernel⟩
abbrev Cq:Stmt:=top 23
theorem ud:cF ["_law_cell", "_law_many", "_law_colours", "_law_a", "_law_near", "_law_b", "_law_weight"] vc (aX Cq):=⟨O,O,O,by decide +kernel,O,by decide +kernel,by decide +kernel⟩
abbrev Ec:Stmt:=top 24
theorem qE:cF ["_law_script", "_law_most", "_law_seed", "_law_terms", "_law_edges", "_law_cell", "_law_term_here"] wa6 (aX Ec):=⟨O,O,O,by decide +kernel,O,by decide +kernel,by decide +kernel⟩
abbrev Eb:Stmt:=top 25
theorem RJ:cF wb3 wb3 (aX Eb):=⟨O,O,O,by decide +kernel,O,by decide +kernel,by decide +kernel⟩
abbrev qG:Stmt:=top 15
theorem lJ:cF ["terms", "leads", "edges", "a", "b", "least", "steps", "rows", "needed", "ends", "row", "book"] ue (aX qG):=⟨O,O,O,by decide +kernel,O,by decide +kernel,by decide +kernel⟩
abbrev oi:Stmt:=top 16
theorem gW:cF ["terms", "leads", "edges", "least", "steps", "place", "edge", "a", "b"] wa3 (aX oi):=⟨O,O,O,by decide +kernel,O,by decide +kernel,by decide +kernel⟩
abbrev pC:Stmt:=top 17
theorem iQ:cF ["steps", "least", "a", "b", "row", "here", "step", "there"] wa7 (aX pC):=⟨O,O,O,by decide +kernel,O,by decide +kernel,by decide +kernel⟩
abbrev sI:Stmt:=top 18
theorem qF:cF ["terms", "row", "found", "step"] wb8 (aX sI):=⟨O,O,O,by decide +kernel,O,by decide +kernel,by decide +kernel⟩
abbrev Hm:Stmt:=top 26
theorem oP:cF ["_law_terms", "_law_edges", "_law_above", "_law_step_here", "_law_ends", "_law_one", "_law_other", "_law_length", "_law_left", "_law_right"] gr (aX Hm):=⟨O,O,O,by decide +kernel,O,by decide +kernel,by decide +kernel⟩
abbrev Ee:Stmt:=top 27
theorem ox:cF ["_law_terms", "_law_edges", "_law_above", "_law_row", "_law_at", "_law_length", "_law_step_here", "_law_part"] oq (aX Ee):=⟨O,O,O,by decide +kernel,O,by decide +kernel,by decide +kernel⟩
abbrev Hl:Stmt:=top 28
theorem D8:cF ["_law_terms", "_law_edges", "_law_book", "_law_above", "_law_row"] wa0 (aX Hl):=⟨O,O,O,by decide +kernel,O,by decide +kernel,by decide +kernel⟩
abbrev zk:Stmt:=top 29
theorem Ea:cF wb1 ["_law_book"] (aX zk):=⟨O,O,O,by decide +kernel,O,by decide +kernel,by decide +kernel⟩
abbrev vG:Stmt:=top 30
theorem lK:cF ["_law_terms", "_law_leads", "_law_edges", "_law_edge_here", "_law_a", "_law_b", "_law_one", "_law_other", "_law_met"] Gb (aX vG):=⟨O,O,O,by decide +kernel,O,by decide +kernel,by decide +kernel⟩
abbrev Bw:Stmt:=top 31
theorem Fg:cF ["_law_terms", "_law_leads", "_law_edges", "_law_a", "_law_b", "_law_book"] ba (aX Bw):=⟨O,O,O,by decide +kernel,O,by decide +kernel,by decide +kernel⟩
abbrev Eg:Stmt:=top 32
theorem Bu:cF ["_law_terms", "_law_leads", "_law_edges", "_law_a", "_law_b", "_law_found"] ba (aX Eg):=⟨O,O,O,by decide +kernel,O,by decide +kernel,by decide +kernel⟩
abbrev qW:Stmt:=top 33
theorem rH:cF ["_law_script", "_law_made", "_law_terms", "_law_edges", "_law_leads", "_law_k", "_law_lead", "_law_other"] ["_law_script"] (aX qW):=⟨O,O,O,by decide +kernel,O,by decide +kernel,by decide +kernel⟩
section
variable {P:Program}{w:World}{K:ao}{mg:Str->Option Value}{base:Heap}{CB CF CH CS CN CE CM tB:Addr}
inductive QS (K:ao) (vs:List V) (H:Hp) (Q:VK):Prop
 | mk (v:V) (t:Tm) (L:Addr) (ls:List Nat) (z0:vs = [v,.ref L]) (z1:mr H t v) (z2:aZ K H L (ls.map nV)) (z3:(∀ x as,t = .of x as->as.length<=1000∧∀ a∈as,a < ls.length)) (z4:∀ v' H',bu H H'->mr H' (mk ls t) v'->Q v' H'):QS K vs H Q
def G7 (K:ao):Sp:=fun vs H Q _=>QS K vs H Q
theorem V4 (B:jO mg) (D:Def K mg "mark" Cp wa9):ed P w K mg base 1 "mark" wa9 (G7 K):=by
 refine D.has VH (fun vs H Q E h =>?_) (fun f cO A outer s H vs Q E hr h =>?_)
 ·obtain⟨v,t,L,ls,rfl,_⟩:=h;rfl
 obtain⟨v,t,L,ls,rfl,hT,hL,hb,q⟩:=h
 refine⟨_,(ax (cV (bE iZ (aJ bp (pv 0) aD) d9 (bS _)) (aI (cm (pv 0))) cg)
  (aI (cm (cQ (ae d9 (ae (aJ bp (pv 0) aD) (ae (iE yJ O B.Cg qZ (ae (oR (te:=(vF (M4 K) _ _)) (own := ["number"]) (caps := [("leads",1)]) (gK (aX Cp) wa9 O O O (by decide +kernel)) (Cv (aJ bp (pv 0) aD)) O (fun _ _ _=>bL (i:=0) (show (["number", "leads"]:List Str).Nodup by decide +kernel) O (aM O)) (fun _ _ _=>(aJ bz (pv 1) (pv 0)))) aq)) aq))))))),?_⟩
 try dsimp only[dQ]
 cases t with
 | num n =>
  obtain⟨a,rfl,h⟩:=id hT
  refine⟨_,O,a,_,0,_,O,O,bD.of h,aL (j:=0) rfl,O,_,O,fC (fun _=>⟨_,O,q _ _ (bu.refl _) hT⟩) (fun z=>absurd (V.str.inj z) (by decide))⟩
 | name n =>
  obtain⟨a,rfl,h⟩:=id hT
  refine⟨_,O,a,_,0,_,O,O,bD.of h,aL (j:=0) rfl,O,_,O,fC (fun _=>⟨_,O,q _ _ (bu.refl _) hT⟩) (fun z=>absurd (V.str.inj z) (by decide))⟩
 | of x as =>
  obtain⟨a,b,rfl,h,h2⟩:=id hT
  obtain⟨hl,cU⟩:=hb x as rfl
  refine⟨_,O,a,_,0,_,O,O,bD.of h,aL (j:=0) rfl,O,_,O,fC (fun z=>absurd rfl z) (fun _ =>?_)⟩
  refine⟨_,O,a,_,1,_,O,O,bD.of h,aL (j:=1) rfl,?_⟩
  refine⟨_,O,a,_,2,_,O,O,bD.of h,aL (j:=2) rfl,b,O,⟨_,bD.of h2⟩,?_⟩
  refine vT (ys:=(as.map fun a=>ls.getD a 0).map nV) (bD.of h2) (by rw[ar];exact hl) (by simp) (fun i y z hy hz H' sm Q' q' =>?_) (fun D1 H' lh sm hD =>?_)
  ·rw[aG]at hy
   rw[aG,aG]at hz
   cases e:as[i]? with
   | none=>rw[e]at hy;cases hy
   | some k =>
    rw[e]at hy hz
    have e1:nV k=y:=aH hy
    have e2:nV (ls.getD k 0)=z:=aH hz
    subst e1 e2
    have hk:=cU k (ak e)
    have e3:ls[k]? = some (ls.getD k 0):=by rw[bc,aj hk];rfl
    exact⟨_,O,_,O,L,_,_,_,O,O,sm.seq hL,jP e3,q' _ (bu.refl _)⟩
  ·refine⟨D1,_,O,.inl ⟨aZ.of hD,fun l UB =>?_⟩⟩
   refine⟨(show 3<=sizeLine by decide),fun t ht =>?_⟩
   refine q _ _ (sm.trans ((bf UB _).trans (bf ht _))) ⟨t,l,O,aE,?_⟩
   rw[aF (bX aE ht),aE]
inductive QV (vs:List V) (H:Hp) (Q:VK):Prop
 | mk (L:Addr) (ls:List Nat) (a b la lb:Nat) (z0:vs = [.ref L,nV a,nV b]) (z1:H L=some (.lst (ls.map nV))) (z2:nE ls) (z3:ls.length<=1000000) (z4:ls[a]? = some la) (z5:ls[b]? = some lb) (z6:(la=lb->Q (.bl false) H)) (z7:(la≠lb->Q (.bl true) (upd H L (.lst ((jn ls (max la lb) (min la lb)).map nV))))):QV  vs H Q
def Hb:Sp:=fun vs H Q _=>QV  vs H Q
theorem Cz (B:jO mg) (D:Def K mg "join_classes" qH wb2):ed P w K mg base 1 "join_classes" wb2 Hb:=by
 refine D.has mx (fun vs H Q E h =>?_) (fun f cO A outer s H vs Q E hr h =>?_)
 ·obtain⟨L,ls,a,b,la,lb,rfl,_⟩:=h;rfl
 obtain⟨L,ls,a,b,la,lb,rfl,hL,hg,hz,ha,hb,q1,q2⟩:=h
 refine⟨_,(ax (bC (i:=3) mx.nd O (aM O) (bO (vU O) O B.Ez sj (ae (aJ bz (pv 0) (pv 1)) (ae (aJ bz (pv 0) (pv 2)) aq))))
  (ax (bC (i:=4) mx.nd O (aM O) (bO (vV O) O B.Ng vY (ae (aJ bz (pv 0) (pv 1)) (ae (aJ bz (pv 0) (pv 2)) aq))))
  (ax (cV (bE gk (pv 3) (pv 4) (bS _)) (aI (cm je)) cg)
  (ax (dJ bI O (OW O B.rK (ae (pv 4) (ae (bO cn O B.iH bM (ae (pv 0) aq)) aq))) (bL (i:=5) mx.nd O (aM O))
  (aI (cV (bE gk (aJ bz (pv 0) (pv 5)) (pv 4) (bS _)) (aI (Cu (pv 3) (Cw (pv 0) (pv 5) xD))) cg)))
  (aI (cm je)))))),?_⟩
 try dsimp only[dQ]
 refine⟨_,O,_,O,L,_,_,_,O,O,aZ.of hL,jP ha,_,O,_,O,L,_,_,_,O,O,aZ.of hL,jP hb,_,_,O,?_⟩
 refine⟨_,O,_,O,L,_,_,_,O,O,aZ.of hL,jP ha,_,O,_,O,L,_,_,_,O,O,aZ.of hL,jP hb,_,_,O,?_⟩
 have e1:(if (lb:Int) < (la:Int) then (lb:Int) else (la:Int))=((min la lb:Nat):Int):=by split <;> omega
 have e2:(if (lb:Int) > (la:Int) then (lb:Int) else (la:Int))=((max la lb:Nat):Int):=by split <;> omega
 dsimp only[bw]
 rw[e1,e2]
 by_cases i6:la=lb
 ·refine⟨_,O,_,O,O,_,O,eF (fun _=>q1 i6) (fun z=>absurd ?_ z)⟩
  show V.int _=V.int _
  congr 1;omega
 ·refine⟨_,O,_,O,O,_,O,eF (fun z =>?_) (fun _ =>?_)⟩
  ·have:=V.int.inj z
   omega
  have IX:∃ c:Nat,ls[c]? = some (max la lb):=by
   rcases jb la lb with h | h
   ·exact⟨b,by rw[jI h];exact hb⟩
   ·exact⟨a,by rw[kd h];exact ha⟩
  obtain⟨c,hc⟩:=IX
  have afZ:=(hg c _ hc).2
  have cU:max la lb < ls.length:=(ai.mp afZ).1
  have q2':=q2 i6
  have ajT:min la lb < max la lb:=by omega
  generalize max la lb=hi at *
  generalize min la lb=lo at *
  refine⟨_,O,_,O,L,_,O,.inl (aZ.of hL),hi,_,O,?_,?_⟩
  ·rw[ar];omega
  have en:(((ls.map nV).length:Nat):Int) - (hi:Int)=((ls.length - hi:Nat):Int):=by rw[ar];omega
  rw[en,cx]
  refine oZ (lo:=(hi:Int)) (fun i σ H'=>∃ o, σ = [aa L,aU a,aU b,aU lo,aU hi,o]∧H'=upd H L (.lst ((yB ls hi lo (hi+i)).map nV))) ⟨none,O,?_⟩ ?_ ?_
  ·rw[pY,Pf hg]
   funext c'
   by_cases h:c'=L
   ·subst h;rw[aE];exact hL
   ·rw[aF h]
  ·rintro i σ H' hi' ⟨o,rfl,rfl⟩
   have hk:hi+i < ls.length:=by omega
   have ev:=aj hk
   generalize ls[hi+i]=v at ev
   have em:(yB ls hi lo (hi+i))[hi+i]? = some v:=by
    rw[uH,ev]
    show some _=some _
    dsimp only
    rw[if_neg (by omega)]
   have ek:(hi:Int)+(i:Int)=((hi+i:Nat):Int):=by omega
   show Ry _ _ _ _ _ _
   refine⟨_,O,_,O,L,_,_,nV v,O,O,aZ.of aE,(by rw[ek];exact jP em),_,O,O,_,O,eF (fun z =>?_) (fun z =>?_)⟩
   ·have hv:v=hi:=by have:=V.int.inj z;omega
    refine⟨_,O,_,O,_,O,L,_,_,hi+i,O,O,aE,?_,⟨_,O,?_⟩⟩
    ·rw[ek,ar,Lg]
     unfold zE
     rw[if_pos (by omega),if_pos (by omega),cx]
    ·rw[DX]
     have:=We (hi:=hi) (lo:=lo) ev
     unfold lX at this
     rw[if_pos hv]at this
     rw[Yl,this]
     rfl
   ·have hv:v≠hi:=fun e=>z (by rw[e])
    refine⟨_,O,?_⟩
    have:=Sq (hi:=hi) (lo:=lo) ev hv
    rw[show hi+(i+1)=hi+i+1 from rfl,this]
  ·rintro σ H' ⟨o,rfl,rfl⟩
   rw[Wf (by omega)]
   exact q2'
inductive DC (P:Program) (w:World) (vs:List V) (H:Hp) (Q:VK):Prop
 | mk (T L:Addr) (us:List V) (ts:List Tm) (ls:List Nat) (es:List (Nat × Nat)) (z0:vs = [.ref T,.ref L]) (z1:H T=some (.lst us)) (z2:kJ H us ts) (z3:H L=some (.lst (ls.map nV))) (z4:T≠L) (z5:nE ls) (z6:Sound ts es ls) (z7:tD ts) (z8:ls.length=ts.length) (z9:ts.length<=1000) (AV:(∀ (i:Nat) x as,ts[i]? = some (.of x as)->as.length<=1000)) (GO:∀ gu b H',dD L H H'->H' L=some (.lst (gu.map nV))->nE gu->Sound ts es gu->Keeps ls gu->gu.length=ls.length->(b=true->gu.sum < ls.sum)->(b=false->gu=ls∧∀ (i j:Nat) (t u:Tm),ts[i]? = some t->ts[j]? = some u->mk ls t=mk ls u->ls[i]? = ls[j]?)->Q (.bl b) H'):DC P w vs H Q
def Ck (P:Program) (w:World):Sp:=fun vs H Q _=>DC P w vs H Q
inductive yQ (P:Program) (w:World) (H:Hp) (T:Addr) (L:Addr) (p:Addr) (ts:List Tm) (es:List (Nat × Nat)) (ls:List Nat) (i:Nat) (σ : St) (H':Hp):Prop
 | mk:∀ (gu:List Nat) (jd:Bool) (kvs:List (NK × V)) (x4 x5 x6:Option V),(σ = [aa T,aa L,some (.bl jd),some (.ref p),x4,x5,x6])->(dD L H H')->(H' L=some (.lst (gu.map nV)))->(DN P w H' p kvs)->(nE gu)->(Sound ts es gu)->(Keeps ls gu)->(gu.length=ls.length)->((jd=true->gu.sum < ls.sum))->((jd=false->gu=ls))->(gu.sum<=ls.sum)->(kvs.length<=i)->((∀ key v,bR kvs key=some v->∃ j t m,v=nV j∧ts[j]? = some t∧key=i5 m∧DB ts es t m))->((jd=false->∀ (j:Nat) t,j < i->ts[j]? = some t->∃ j',bR kvs (i5 (mk ls t))=some (nV j')∧ls[j']? = ls[j]?))->yQ P w H T L p ts es ls i σ H'
theorem HH (B:jO mg) (w8:ed P w K mg base 1 "mark" wa9 (G7 K)) (jx:ed P w K mg base 1 "join_classes" wb2 Hb) (D:Def K mg "join_like" wo wa1) :
  ed P w K mg base 2 "join_like" wa1 (Ck P w):=by
 refine D.has jB (fun vs H Q E h =>?_) (fun f cO A outer s H vs Q E hr h =>?_)
 ·obtain⟨T,L,us,ts,ls,es,rfl,_⟩:=h;rfl
 obtain⟨T,L,us,ts,ls,es,rfl,hT,fR,hL,ZZ,hg,hs,UP,eg,hz,YU,q⟩:=h
 refine⟨_,(ax (bC (i:=2) jB.nd O (aM O) je)
  (ax (bC (i:=3) jB.nd O (aM O) mV)
  (ax (dJ bI O (As O B.tV (ae (pv 0) aq)) (lY O (dH (bL (i:=4) jB.nd O (aM O)) (dH (bL (i:=5) jB.nd O (aM O)) jX)))
  (ax (bC (i:=6) jB.nd O (aM O) (En (mn hr) (pv 3) (bG w8 hr (by omega) O (ae (pv 5) (ae (pv 1) aq))) (pv 4) ⟨O,O,O,O⟩))
  (aI (cV (jm (bG jx hr (by omega) O (ae (pv 1) (ae (pv 6) (ae (pv 4) aq))))) (aI (bC (i:=2) jB.nd O (aM O) je)) cg))))
  (aI (cm (pv 2)))))),?_⟩
 try dsimp only[dQ]
 have vL:=aP fR
 intro p φ hp zQ
 dsimp only[bw]
 have Zc:p≠L:=fun e=>by rw[e,hL]at hp;cases hp
 have hpT:p≠T:=fun e=>by rw[e,hT]at hp;cases hp
 refine⟨_,O,T,O,⟨us,aZ.of (by rw[aF (cM hpT)];exact hT)⟩,?_⟩
 refine ya (xs:=us) (yQ P w H T L p ts es ls)
  ⟨ls,false, [],none,none,none,O,(dD.refl L H).new hp,by rw[aF (cM Zc)];exact hL,zQ,hg,hs,Nr ls,O,nofun,fun _=>rfl,au _,bA _,(fun key v e=>by rw[xx]at e;cases e),fun _ j t hj=>absurd hj (ip _)⟩ ?_ ?_ ?_
 ·rintro i σ H' _ ⟨gu,jd,kvs,x4,x5,x6,rfl,bt,_⟩
  exact aZ.of (bt T _ ZZ hT)
 ·rintro i x a0 σ H' hx ⟨gu,jd,kvs,x4,x5,x6,rfl,bt,Bd,dn,rX,lF,qt,qY,UG,LD,SO,hkl,iA,iB⟩ I9
  obtain⟨t,ht,vJ⟩:=wM fR hx
  have hi:i < ts.length:=(ai.mp ht).1
  have zf:=bf I9 (.tup [.int (i:Int),x])
  have bt1:=bt.same zf
  have Iq:mr (upd H' a0 (.tup [.int (i:Int),x])) t x:=vJ.keep (bt1.tup hL)
  have LL:=zf _ _ Bd
  have xc:=dn.same zf
  refine⟨a0,_,O,bD.of aE,O,_,_,O,_,_,O,O,?_⟩
  generalize upd H' a0 (.tup [.int (i:Int),x])=H1 at bt1 Iq LL xc ⊢
  have hb:∀ x as,t = .of x as->as.length<=1000∧∀ a∈as,a < gu.length:=fun x as e=>by
   subst e
   refine⟨YU i x as ht,fun a ha =>?_⟩
   have:=UP i x as ht a ha
   omega
  refine⟨_,O,p,O,⟨kvs,xc⟩,_,O,_,O,x,t,L,gu,O,Iq,aZ.of LL,hb,fun v' H2 fH hm =>?_⟩
  obtain⟨b,rfl,nk⟩:=hm.key
  have LY:=xc.same fH
  have Dc:=fH _ _ LL
  have JJ:=bt1.same fH
  obtain⟨li,IS⟩:∃ li,gu[i]? = some li:=⟨_,aj (by omega)⟩
  refine⟨_,O,kvs,i5 (mk gu t),b,LY,O,nk,c6 (by omega),fun v hv =>?_,fun hn Tu qv =>?_⟩
  ·-- there is one agI
   obtain⟨j,u,m,rfl,hu,uO,iW⟩:=iA _ _ hv
   have em:m=mk gu t:=GU uO.symm
   subst em
   have hj:j < ts.length:=(ai.mp hu).1
   obtain⟨lj,PX⟩:∃ lj,gu[j]? = some lj:=⟨_,aj (by omega)⟩
   have eq:Eqv ts es j i:=MX hu ht iW (E6 lF (fun x as e=>(hb x as e).2))
   refine⟨_,O,_,O,_,O,L,gu,j,i,lj,li,O,Dc,rX,by omega,PX,IS,fun e =>?_,fun e =>?_⟩
   ·refine⟨_,O,gO ⟨gu,jd,kvs,_,_,_,O,JJ,Dc,LY,rX,lF,qt,qY,UG,LD,SO,by omega,iA,fun C6 j' t' IW IB =>?_⟩⟩
    by_cases zJ:j' < i
    ·exact iB C6 j' t' zJ IB
    ·have e':j'=i:=by omega
     subst e'
     rw[ht]at IB;cases IB
     have el:=LD C6
     rw[el]at hv PX IS
     exact⟨j,hv,by rw[PX,IS,e]⟩
   ·have e1:Eqv ts es lj li := .trans (.symm (lF j lj PX)) (.trans eq (lF i li IS))
    have g1:=(rX j lj PX).2
    have g2:=(rX i li IS).2
    have eqv:Eqv ts es (max lj li) (min lj li):=by
     rcases jb lj li with h | h
     ·rw[jI h,iq h];exact e1.symm
     ·rw[kd h,gQ h];exact e1
    have zI:gu[min lj li]? = some (min lj li):=by
     rcases jb lj li with h | h
     ·rw[iq h];exact g1
     ·rw[gQ h];exact g2
    have IX:max lj li∈gu:=by
     rcases jb lj li with h | h
     ·rw[jI h];exact ak g2
     ·rw[kd h];exact ak g1
    have cU:min lj li < max lj li:=by omega
    have Lw:=Ox cU IX
    refine⟨_,O,pJ ?_⟩
    refine⟨jn gu (max lj li) (min lj li),true,kvs,_,_,_,O,JJ.put,aE,LY.keep (fun φ e=>by rw[aF Zc];exact e) (fun c ys e=>by rw[aF (a9 e Dc nofun)];exact e),
     LR rX zI cU,Hf lF eqv,qt.trans (SJ _ _ _),by rw[PF];exact qY,fun _=>by omega,nofun,by omega,by omega,iA,nofun⟩
  ·-- it is pj first one
   have C9:(upd H2 p (.ext Tu)) L=some (.lst (gu.map nV)):=by rw[aF (cM Zc)];exact Dc
   refine⟨_,O,_,O,_,O,L,gu,i,i,li,li,O,C9,rX,by omega,IS,IS,fun _ =>?_,fun z=>absurd rfl z⟩
   refine⟨_,O,gO ⟨gu,jd,_,_,_,_,O,JJ.new hp,C9,qv,rX,lF,qt,qY,UG,LD,SO,by rw[aK];show kvs.length+1<=i+1;omega,fun key v e =>?_,fun C6 j' t' IW IB =>?_⟩⟩
   ·rw[vE _ _ _ _ hn]at e
    by_cases hk:key=i5 (mk gu t)
    ·rw[if_pos hk]at e
     cases e
     exact⟨i,t,mk gu t,O,ht,hk,E6 lF (fun x as e=>(hb x as e).2)⟩
    ·rw[if_neg hk]at e
     exact iA key v e
   ·have el:=LD C6
    rw[vE _ _ _ _ hn]
    by_cases zJ:j' < i
    ·obtain⟨j2,e1,e2⟩:=iB C6 j' t' zJ IB
     by_cases hk:i5 (mk ls t')=i5 (mk gu t)
     ·rw[hk,hn]at e1;cases e1
     ·rw[if_neg hk];exact⟨j2,e1,e2⟩
    ·have e':j'=i:=by omega
     subst e'
     rw[ht]at IB;cases IB
     rw[el,if_pos rfl]
     exact⟨j',O,O⟩
 ·rintro σ H' ⟨gu,jd,kvs,x4,x5,x6,rfl,bt,Bd,dn,rX,lF,qt,qY,UG,LD,SO,hkl,iA,iB⟩
  refine⟨_,O,q gu jd H' bt Bd rX lF qt qY UG fun C6=>⟨LD C6,fun i j t u hi hj hm =>?_⟩⟩
  obtain⟨i',a1,a2⟩:=iB C6 i t (by rw[vL];exact(ai.mp hi).1) hi
  obtain⟨j',b1,b2⟩:=iB C6 j u (by rw[vL];exact(ai.mp hj).1) hj
  rw[hm,b1]at a1
  have e:i'=j':=by have:=V.int.inj (aH a1);omega
  rw[<- a2, <- b2,e]
inductive JT (K:ao) (vs:List V) (H:Hp) (Q:VK):Prop
 | mk (T E:Addr) (us LU:List V) (ts:List Tm) (es:List (Nat × Nat)) (z0:vs = [.ref T,.ref E]) (z1:H T=some (.lst us)) (z2:kJ H us ts) (z3:aZ K H E LU) (z4:N3 H LU es) (z5:tD ts) (z6:ts.length<=1000) (z7:(∀ (i:Nat) x as,ts[i]? = some (.of x as)->as.length<=1000)) (z8:(∀ a b:Nat,(a,b)∈es->a < ts.length∧b < ts.length)) (z9:∀ L ls H',bu H H'->H L=none->H' L=some (.lst (ls.map nV))->Kj ts es ls->Q (.ref L) H'):JT K vs H Q
def He (K:ao):Sp:=fun vs H Q _=>JT K vs H Q
inductive DP (H:Hp) (T:Addr) (E:Addr) (L:Addr) (ts:List Tm) (es:List (Nat × Nat)) (br:St) (H':Hp):Prop
 | mk:∀ (ls:List Nat) (x3:Option V),(br = [aa T,aa E,aa L,x3])->(bu H H')->(H' L=some (.lst (ls.map nV)))->(nE ls)->(Sound ts es ls)->(ls.length=ts.length)->(∀ a b:Nat,(a,b)∈es->ls[a]? = ls[b]?)->DP H T E L ts es br H'
inductive DO (H:Hp) (T:Addr) (E:Addr) (L:Addr) (ts:List Tm) (es:List (Nat × Nat)) (i:Nat) (br:St) (H':Hp):Prop
 | mk:∀ (ls:List Nat) (x3:Option V),(br = [aa T,aa E,aa L,x3])->(bu H H')->(H' L=some (.lst (ls.map nV)))->(nE ls)->(Sound ts es ls)->(ls.length=ts.length)->(∀ (j a b:Nat),j < i->es[j]? = some (a,b)->ls[a]? = ls[b]?)->DO H T E L ts es i br H'
theorem O7 (B:jO mg) (jx:ed P w K mg base 1 "join_classes" wb2 Hb) (wA:ed P w K mg base 2 "join_like" wa1 (Ck P w)) (D:Def K mg "closed" Bx wb4) :
  ed P w K mg base 3 "closed" wb4 (He K):=by
 refine D.has zi (fun vs H Q E h =>?_) (fun f cO A outer s H vs Q E hr h =>?_)
 ·obtain⟨T,E,us,LU,ts,es,rfl,_⟩:=h;rfl
 obtain⟨T,E,us,LU,ts,es,rfl,hT,fR,hE,gF,UP,hz,YU,P2,q⟩:=h
 refine⟨_,(ax (bC (i:=2) zi.nd O (aM O) (iE (Gu O) O B.oj gL (ae (iE JH O B.rK PyProof.Rows.boot_range (ae (bO cn O B.iH bM (ae (pv 0) aq)) aq)) aq)))
  (ax (dJ bI O (eQ (pv 1)) (bL (i:=3) zi.nd O (aM O))
  (aI (dF (bG jx hr (by omega) O (ae (pv 2) (ae (aJ bp (pv 3) aD) (ae (aJ bp (pv 3) aD) aq)))))))
  (ax (xJ bI (jm (bG wA hr (by omega) O (ae (pv 0) (ae (pv 2) aq))))
  (aI VQ))
  (aI (cm (pv 2)))))),?_⟩
 try dsimp only[dQ]
 have vL:=aP fR
 have hue:=aP gF
 refine⟨_,O,T,us,O,.inl (aZ.of hT),_,O,fun r uN=>⟨r,us.length,O,aE,by omega,fun L LM =>?_⟩⟩
 dsimp only[bw]
 have UZ:H L=none:=by
  by_cases e:L=r
  ·rw[e];exact uN
  ·rw[aF e]at LM;exact LM
 have zf:bu H (upd (upd H r (.zo 0 ((us.length:Nat):Int))) L (.lst ((bN us.length).map fun i:Nat=>V.int (i:Int)))):=(bf uN _).trans (bf LM _)
 have LL:(upd (upd H r (.zo 0 ((us.length:Nat):Int))) L (.lst ((bN us.length).map fun i:Nat=>V.int (i:Int)))) L=some (.lst ((bN ts.length).map nV)):=by rw[aE,vL]
 generalize (upd (upd H r (.zo 0 ((us.length:Nat):Int))) L (.lst ((bN us.length).map fun i:Nat=>V.int (i:Int))))=H1 at zf LL ⊢
 have ZZ:T≠L:=fun e=>by rw[e,UZ]at hT;cases hT
 refine gX (DP H T E L ts es) ?_ (fun key =>?_)
 ·rintro br H2 ⟨ls,x3,rfl,fH,Dc,UJ,jT,ab8,af2⟩
  refine⟨fun m br H'=>∃ (ls:List Nat),m=ls.sum ∧ br = [aa T,aa E,aa L,x3]∧bu H H'∧H' L=some (.lst (ls.map nV))∧nE ls∧Sound ts es ls∧ls.length=ts.length∧∀ a b:Nat,(a,b)∈es->ls[a]? = ls[b]?,
   ⟨_,ls,O,O,fH,Dc,UJ,jT,ab8,af2⟩,?_⟩
  rintro m br H3 ⟨ls,rfl,rfl,jv,C9,hg3,wY,UA,ZF⟩
  refine⟨_,O,_,O,T,L,us,ts,ls,es,O,jv _ _ hT,fh jv fR,C9,ZZ,hg3,wY,UP,UA,hz,YU,fun gu b H4 bt vO hg4 hs4 hk4 ajU hbt Qa =>?_⟩
  have ze:bu H H4:=fun c o h=>bt c o (fun e=>by rw[e,UZ]at h;cases h) (jv c o h)
  have af1:∀ a b:Nat,(a,b)∈es->gu[a]? = gu[b]? := fun a b h=>by
   obtain⟨h1,h2⟩:=P2 a b h
   obtain⟨v,hv⟩:∃ v,ls[a]? = some v:=⟨_,aj (by omega)⟩
   obtain⟨u,e1,e2⟩:=hk4 a b v hv (by rw[<- ZF a b h];exact hv)
   rw[e1,e2]
  refine⟨_,O,?_⟩
  cases b with
  | true =>
   refine pJ ⟨fun br H'=>∃ m',m' < ls.sum∧∃ (ls:List Nat),m'=ls.sum ∧ br = [aa T,aa E,aa L,x3]∧bu H H'∧H' L=some (.lst (ls.map nV))∧nE ls∧Sound ts es ls∧ls.length=ts.length∧∀ a b:Nat,(a,b)∈es->ls[a]? = ls[b]?,fun br H' h=>h,?_⟩
   exact⟨_,hbt rfl,gu,O,O,ze,vO,hg4,hs4,by omega,af1⟩
  | false =>
   obtain⟨el,hm⟩:=Qa rfl
   refine gO ⟨_,O,q L gu H4 ze UZ vO ⟨by omega,hg4,hs4,fun i j hi hj e =>?_⟩⟩
   rw[el]
   exact Tf UP P2 UA ZF hm e
 ·refine⟨_,O,E,O,⟨LU,zf.seq hE⟩,?_⟩
  refine fK (xs:=LU) (DO H T E L ts es)
   ⟨_,none,O,zf,LL,Ws _,RE _ _ _,cR,fun j a b hj=>absurd hj (ip _)⟩ ?_ ?_ ?_
  ·rintro i br H' _ ⟨ls,x3,rfl,sm,_⟩
   exact sm.seq hE
  ·rintro i x br H' hx ⟨ls,x3,rfl,sm,Bd,rX,lF,qY,NG⟩
   obtain⟨⟨a,b⟩,he,ea,rest,rfl,P4⟩:=Jw gF hx
   have ZG:=sm _ _ P4
   obtain⟨ha,hb⟩:=P2 a b (ak he)
   obtain⟨la,PZ⟩:∃ la,ls[a]? = some la:=⟨_,aj (by omega)⟩
   obtain⟨lb,PY⟩:∃ lb,ls[b]? = some lb:=⟨_,aj (by omega)⟩
   refine⟨_,O,_,O,ea,_,0,_,O,O,bD.of ZG,aL (j:=0) rfl,_,O,ea,_,1,_,O,O,bD.of ZG,aL (j:=1) rfl,L,ls,a,b,la,lb,O,Bd,rX,by omega,PZ,PY,fun e =>?_,fun e =>?_⟩
   ·refine⟨ls,_,O,sm,Bd,rX,lF,qY,fun j c d hj mZ =>?_⟩
    by_cases zJ:j < i
    ·exact NG j c d zJ mZ
    ·have e':j=i:=by omega
     subst e'
     rw[he]at mZ;cases mZ
     rw[PZ,PY,e]
   ·have e1:Eqv ts es la lb := .trans (.symm (lF a la PZ)) (.trans (.eR (ak he)) (lF b lb PY))
    have g1:=(rX a la PZ).2
    have g2:=(rX b lb PY).2
    have eqv:Eqv ts es (max la lb) (min la lb):=by
     rcases jb la lb with h | h
     ·rw[jI h,iq h];exact e1.symm
     ·rw[kd h,gQ h];exact e1
    have zI:ls[min la lb]? = some (min la lb):=by
     rcases jb la lb with h | h
     ·rw[iq h];exact g1
     ·rw[gQ h];exact g2
    have cU:min la lb < max la lb:=by omega
    refine⟨jn ls (max la lb) (min la lb),_,O,sm.put UZ,aE,LR rX zI cU,Hf lF eqv,by rw[PF];exact qY,fun j c d hj mZ =>?_⟩
    by_cases zJ:j < i
    ·have:=NG j c d zJ mZ
     rw[pI,pI,this]
    ·have e':j=i:=by omega
     subst e'
     rw[he]at mZ;cases mZ
     rw[pI,pI,PZ,PY]
     show some _=some _
     unfold lX
     by_cases h:la<=lb
     ·rw[jI h,iq h,if_neg e,if_pos rfl]
     ·rw[kd (by omega),gQ (by omega),if_pos rfl,if_neg (fun z=>e z.symm)]
  ·rintro br H' ⟨ls,x3,rfl,sm,Bd,rX,lF,qY,NG⟩
   refine key _ _ ⟨ls,x3,O,sm,Bd,rX,lF,qY,fun a b h =>?_⟩
   obtain⟨j,hj⟩:=xn.mp h
   exact NG j a b (by rw[hue];exact(ai.mp hj).1) hj
theorem uB {c:TT}{t u:TS}{D:Ends}{σ : St}{H:Hp} (R:Bool->Hp->Prop) (hc:∀ Q:Bool->Hp->Prop,(∀ b H',R b H'->Q b H')->c σ H Q) (h1:∀ H',R true H'->t D σ H') (h2:∀ H',R false H'->u D σ H'):Ry c t u D σ H:=by
 refine hc _ (fun b H' r =>?_)
 cases b with
 | true=>exact pJ (h1 H' r)
 | false=>exact gO (h2 H' r)
def A0:Option Nat->V
 | some l=>nV l
 | none => .cJ
def bZ (p:Nat × Nat):NK := [.inl (.inl (p.1:Int)),.inl (.inl (p.2:Int))]
theorem uD {p q:Nat × Nat} (h:bZ p=bZ q):p=q:=by
 unfold bZ at h
 injection h with h1 h2
 injection h2 with h2 _
 have e1:=gG (gG h1)
 have e2:=gG (gG h2)
 exact oF (by omega) (by omega)
theorem jC {H:Hp}{b:Addr}{x y:Nat} (h:H b=some (.tup [nV x,nV y])):fA H (bZ (x,y)) b:=⟨_,h,_,O,_,O,O⟩
abbrev dY (H:Hp):List V->List (Nat × Nat)->Prop:=Paired fun v p=>∃ q,v=V.ref q∧H q=some (.tup [nV p.1,nV p.2])
theorem bJ {H H':Hp}{vs:List V}{l:List (Nat × Nat)} (h:dY H vs l) (k:∀ c ys,H c=some (.tup ys)->H' c=some (.tup ys)):dY H' vs l:=Paired.uI h fun _ _ ⟨q,e,hq⟩=>⟨q,e,k _ _ hq⟩
structure SA where
 T:Addr
 L:Addr
 W:Addr
 S:Addr
 Hd:Addr
 Sg:Addr
 Aw:Addr
 Lk:Addr
 Lr:List Addr
 Wr:List Addr
 Sr:List Addr
def ib (L:Mx) (n a:Nat):List V:=(bN n).map fun b=>A0 (L a b)
structure qO (n:Nat) (kvs:List (Key × V)) (f:Nat->Option Nat):Prop where
 val:∀ b:Nat,bR kvs (.inl (b:Int))=(f b).map nV
 key:∀ kv∈kvs,∃ b m:Nat,kv=((.inl (b:Int):Key),nV m)∧b < n
 nd:(kvs.map (·.1)).Nodup
structure oM (H:Hp) (n:Nat) (kvs:List (Key × V)) (f:Nat->Option (Nat × Nat)):Prop where
 cJ:∀ a:Nat,f a=none->bR kvs (.inl (a:Int))=none
 Fb:∀ (a k b:Nat),f a=some (k,b)->∃ p,bR kvs (.inl (a:Int))=some (.ref p)∧H p=some (.tup [nV k,nV a,nV b])
 key:∀ kv∈kvs,∃ a:Nat,kv.1=(.inl (a:Int):Key)∧a < n
 nd:(kvs.map (·.1)).Nodup
structure PD (P:Program) (w:World) (H:Hp) (a:Addr) (n:Nat) (kvs:List (NK × V)) (f:Nat × Nat->Option V):Prop where
 dn:DN P w H a kvs
 val:∀ p,bR kvs (bZ p)=f p
 key:∀ kv∈kvs,∃ p:Nat × Nat,kv.1=bZ p∧p.1 < n∧p.2 < n
def Kl (P:Program) (w:World) (H:Hp) (A:SA) (n:Nat) (aw:Nat × Nat->List (Nat × Nat)):Prop := ∃ kvs,DN P w H A.Aw kvs∧(∀ kv∈kvs,∃ p:Nat × Nat,kv.1=bZ p∧p.1 < n∧p.2 < n) ∧
 ∀ q,(aw q = []∧bR kvs (bZ q)=none)∨∃ c vs,bR kvs (bZ q)=some (.ref c)∧H c=some (.lst vs)∧dY H vs (aw q)∧c ∉ A.Lr∧c ∉ A.Sr
structure Sep (A:SA):Prop where
 nL:A.Lr.Nodup
 nW:(A.Hd :: A.Wr).Nodup
 nS:A.Sr.Nodup
 dLS:∀ c∈A.Lr,c ∉ A.Sr
 top:∀ c ∈ [A.T,A.L,A.W,A.S],c ∉ A.Lr∧c ∉ A.Sr
 e1:A.Sg≠A.Aw
 e2:A.Sg≠A.Lk
 e3:A.Aw≠A.Lk
structure dj (P:Program) (w:World) (CS o dx:Addr) (A:SA) (us:List V) (ts:List Tm) (aw:Nat × Nat->List (Nat × Nat)) (H:Hp) (s:SS) (lk:Nat × Nat->Option Nat):Prop where
 ins:H o=some (.ins CS dx [("terms",.ref A.T),("least",.ref A.L),("waiting",.ref A.W),("heads",.ref A.Hd),("single",.ref A.Sg),("steps",.ref A.S),("awaited",.ref A.Aw),("lacking",.ref A.Lk)])
 hT:H A.T=some (.lst us)
 KO:kJ H us ts
 hL:H A.L=some (.lst (A.Lr.map V.ref))
 lL:A.Lr.length=ts.length
 rL:∀ (a:Nat) (c:Addr),A.Lr[a]? = some c->H c=some (.lst (ib s.L ts.length a))
 hW:H A.W=some (.lst (A.Wr.map V.ref))
 lW:A.Wr.length=ts.length
 rW:∀ (a:Nat) (c:Addr),A.Wr[a]? = some c->∃ kvs,H c=some (.dK kvs)∧qO ts.length kvs (s.W a)
 hH:∃ kvs,H A.Hd=some (.dK kvs)∧oM H ts.length kvs s.Hd
 sg:∃ kvs,PD P w H A.Sg ts.length kvs fun p=>(s.Sg p.1 p.2).map nV
 hS:H A.S=some (.lst (A.Sr.map V.ref))
 lS:A.Sr.length=ts.length
 rS:∀ (a:Nat) (c:Addr),A.Sr[a]? = some c->∃ vs,H c=some (.lst vs)∧dY H vs (s.St a)
 mD:Kl P w H A ts.length aw
 l3:∃ kvs,PD P w H A.Lk ts.length kvs fun p=>(lk p).map nV
 sep:Sep A
 dR:ts.length<=30
section
variable {H H':Hp}{o dx:Addr}{A:SA}{us:List V}{ts:List Tm}{aw:Nat × Nat->List (Nat × Nat)} {s s':SS}{lk A3:Nat × Nat->Option Nat}{x:Addr}
theorem PD.but {a:Addr}{n:Nat}{kvs:List (NK × V)}{f:Nat × Nat->Option V} (h:PD P w H a n kvs f) (bt:dD x H H') (na:a≠x) (nt:∀ c ys,H c=some (.tup ys)->c≠x):PD P w H' a n kvs f :=
 ⟨h.dn.keep (fun φ e=>bt _ _ na e) (fun c ys e=>bt _ _ (nt c ys e) e),h.val,h.key⟩
theorem oM.but {n:Nat}{kvs:List (Key × V)}{f:Nat->Option (Nat × Nat)} (h:oM H n kvs f) (k:∀ c ys,H c=some (.tup ys)->H' c=some (.tup ys)):oM H' n kvs f :=
 ⟨h.cJ,fun a m b e=>by obtain⟨p,h1,h2⟩:=h.Fb a m b e;exact⟨p,h1,k _ _ h2⟩,h.key,h.nd⟩
theorem Kl.but {n:Nat} (h:Kl P w H A n aw) (bt:dD x H H') (na:A.Aw≠x) (nt:∀ c ys,H c=some (.tup ys)->c≠x) (nl:∀ c vs,H c=some (.lst vs)->c ∉ A.Lr->c ∉ A.Sr->c≠x):Kl P w H' A n aw:=by
 obtain⟨kvs,d,hk,hq⟩:=h
 refine⟨kvs,d.keep (fun φ e=>bt _ _ na e) (fun c ys e=>bt _ _ (nt c ys e) e),hk,fun q =>?_⟩
 rcases hq q with h | ⟨c,vs,h1,h2,h3,h4,h5⟩
 ·exact .inl h
 ·exact .inr ⟨c,vs,h1,bt _ _ (nl c vs h2 h4 h5) h2,bJ h3 fun c ys e=>bt _ _ (nt c ys e) e,h4,h5⟩
structure Off (H:Hp) (o:Addr) (A:SA) (x:Addr):Prop where
 o:o≠x
 T:A.T≠x
 L:A.L≠x
 W:A.W≠x
 S:A.S≠x
 tup:∀ c ys,H c=some (.tup ys)->c≠x
theorem dj.parts (h:dj P w CS o dx A us ts aw H s lk) (bt:dD x H H') (of:Off H o A x)
  (rL:∀ (a:Nat) (c:Addr),A.Lr[a]? = some c->H' c=some (.lst (ib s'.L ts.length a)))
  (rW:∀ (a:Nat) (c:Addr),A.Wr[a]? = some c->∃ kvs,H' c=some (.dK kvs)∧qO ts.length kvs (s'.W a))
  (hH:∃ kvs,H' A.Hd=some (.dK kvs)∧oM H' ts.length kvs s'.Hd) (sg:∃ kvs,PD P w H' A.Sg ts.length kvs fun p=>(s'.Sg p.1 p.2).map nV)
  (rS:∀ (a:Nat) (c:Addr),A.Sr[a]? = some c->∃ vs,H' c=some (.lst vs)∧dY H' vs (s'.St a)) (mD:Kl P w H' A ts.length aw) (l3:∃ kvs,PD P w H' A.Lk ts.length kvs fun p=>(A3 p).map nV):dj P w CS o dx A us ts aw H' s' A3 :=
 ⟨bt _ _ of.o h.ins,bt _ _ of.T h.hT,ow (fun c ys e=>bt _ _ (of.tup c ys e) e) h.KO,bt _ _ of.L h.hL,h.lL,rL,bt _ _ of.W h.hW,h.lW,rW,hH,sg,bt _ _ of.S h.hS,h.lS,rS,mD,l3,h.sep,h.dR⟩
theorem dj.same (h:dj P w CS o dx A us ts aw H s lk) (sm:bu H H'):dj P w CS o dx A us ts aw H' s lk:=by
 have k:∀ c ys,H c=some (.tup ys)->H' c=some (.tup ys):=fun c ys e=>sm _ _ e
 refine⟨sm _ _ h.ins,sm _ _ h.hT,fh sm h.KO,sm _ _ h.hL,h.lL,fun a c e=>sm _ _ (h.rL a c e),sm _ _ h.hW,h.lW,fun a c e =>?_,?_,?_,sm _ _ h.hS,h.lS,fun a c e =>?_,?_,?_,h.sep,h.dR⟩
 ·obtain⟨kvs,h1,h2⟩:=h.rW a c e;exact⟨kvs,sm _ _ h1,h2⟩
 ·obtain⟨kvs,h1,h2⟩:=h.hH;exact⟨kvs,sm _ _ h1,h2.but k⟩
 ·obtain⟨kvs,h1⟩:=h.sg;exact⟨kvs,h1.dn.same sm,h1.val,h1.key⟩
 ·obtain⟨vs,h1,h2⟩:=h.rS a c e;exact⟨vs,sm _ _ h1,bJ h2 k⟩
 ·obtain⟨kvs,d,hk,hq⟩:=h.mD
  exact⟨kvs,d.same sm,hk,fun q=>(hq q).imp id fun ⟨c,vs,h1,h2,h3,h4⟩=>⟨c,vs,h1,sm _ _ h2,bJ h3 k,h4⟩⟩
 ·obtain⟨kvs,h1⟩:=h.l3;exact⟨kvs,h1.dn.same sm,h1.val,h1.key⟩
theorem dj.Ye (h:dj P w CS o dx A us ts aw H s lk) {vs:List V} (hx:H x=some (.lst vs)) (h1:x ∉ [A.T,A.L,A.W,A.S]):Off H o A x :=
 ⟨a9 h.ins hx nofun,fun z=>h1 (by simp[z]),fun z=>h1 (by simp[z]),fun z=>h1 (by simp[z]),fun z=>h1 (by simp[z]),fun c ys e=>a9 e hx nofun⟩
theorem dj.Sl (h:dj P w CS o dx A us ts aw H s lk) {u:HO} (hx:H x=some u) (hl:∀ vs,u ≠ .lst vs) (ht:∀ vs,u ≠ .tup vs) (hi:∀ a b c,u ≠ .ins a b c):Off H o A x :=
 ⟨a9 h.ins hx (fun z=>hi _ _ _ z.symm),a9 h.hT hx (fun z=>hl _ z.symm),a9 h.hL hx (fun z=>hl _ z.symm),a9 h.hW hx (fun z=>hl _ z.symm),a9 h.hS hx (fun z=>hl _ z.symm),fun c ys e=>a9 e hx (fun z=>ht _ z.symm)⟩
theorem Dv {l:List Addr} (hn:l.Nodup) {i j:Nat}{a b:Addr} (hi:l[i]? = some a) (hj:l[j]? = some b) (zK:i≠j):a≠b:=fun z=>by
 subst z
 exact zK ((jq (ai.mp hi).1 hn).mp (hi.trans hj.symm))
theorem dj.Xy (h:dj P w CS o dx A us ts aw H s lk) {r:Nat}{c:Addr} (hc:A.Lr[r]? = some c) (L':Mx) (Bd:∀ a b,a≠r->L' a b=s.L a b) :
  dj P w CS o dx A us ts aw (upd H c (.lst (ib L' ts.length r))) { s with L:=L' } lk:=by
 have hx:=h.rL r c hc
 have hm:=ak hc
 have bt:dD c H (upd H c (.lst (ib L' ts.length r))):=fun b o n e=>by rw[aF n];exact e
 have of:Off H o A c:=h.Ye hx fun z=>by have:=(h.sep.top c z).1;exact this hm
 have nS:∀ b∈A.Sr,b≠c:=fun b hb z=>h.sep.dLS c hm (by rw[<- z];exact hb)
 obtain⟨hk,nI,n9⟩:=h.hH
 obtain⟨kg,g1⟩:=h.sg
 obtain⟨kl,l1⟩:=h.l3
 refine h.parts bt of ?_ ?_ ⟨hk,bt _ _ (a9 nI hx nofun) nI,n9.but fun d ys e=>bt _ _ (of.tup d ys e) e⟩ ⟨kg,g1.but bt (fun z=>by obtain⟨φ,e⟩:=g1.dn.ext;rw[z,hx]at e;cases e) of.tup⟩ ?_ (h.mD.but bt (fun z=>by obtain⟨kvs,d,_⟩:=h.mD;obtain⟨φ,e⟩:=d.ext;rw[z,hx]at e;cases e) of.tup fun d vs e n1 n2 z=>n1 (by rw[z];exact hm)) ⟨kl,l1.but bt (fun z=>by obtain⟨φ,e⟩:=l1.dn.ext;rw[z,hx]at e;cases e) of.tup⟩
 ·intro a d hd
  by_cases e:a=r
  ·subst e
   rw[hc]at hd
   cases hd
   exact aE
  ·rw[aF (Dv h.sep.nL hd hc e),h.rL a d hd]
   unfold ib
   congr 2
   exact iO fun b _=>by show A0 (s.L a b)=A0 (L' a b);rw[Bd a b e]
 ·intro a d hd
  obtain⟨kvs,e1,e2⟩:=h.rW a d hd
  exact⟨kvs,bt _ _ (a9 e1 hx nofun) e1,e2⟩
 ·intro a d hd
  obtain⟨vs,e1,e2⟩:=h.rS a d hd
  exact⟨vs,bt _ _ (nS d (ak hd)) e1,bJ e2 fun b ys e=>bt _ _ (of.tup b ys e) e⟩
theorem dj.Xv (h:dj P w CS o dx A us ts aw H s lk) {r:Nat}{c:Addr} (hc:A.Wr[r]? = some c) {kvs:List (Key × V)} (W':Mx) (hW':∀ a b,a≠r->W' a b=s.W a b) (row:qO ts.length kvs (W' r)) :
  dj P w CS o dx A us ts aw (upd H c (.dK kvs)) { s with W:=W' } lk:=by
 obtain⟨k0,hx,_⟩:=h.rW r c hc
 have hm:=ak hc
 have bt:dD c H (upd H c (.dK kvs)):=fun b o n e=>by rw[aF n];exact e
 have of:Off H o A c:=h.Sl hx (fun _ z=>nomatch z) (fun _ z=>nomatch z) (fun _ _ _ z=>nomatch z)
 have nW:=bQ.mp h.sep.nW
 obtain⟨hk,nI,n9⟩:=h.hH
 obtain⟨kg,g1⟩:=h.sg
 obtain⟨kl,l1⟩:=h.l3
 refine h.parts bt of ?_ ?_ ⟨hk,bt _ _ (fun z=>nW.1 (by rw[z];exact hm)) nI,n9.but fun d ys e=>bt _ _ (of.tup d ys e) e⟩ ⟨kg,g1.but bt (fun z=>by obtain⟨φ,e⟩:=g1.dn.ext;rw[z,hx]at e;cases e) of.tup⟩ ?_ (h.mD.but bt (fun z=>by obtain⟨kvs,d,_⟩:=h.mD;obtain⟨φ,e⟩:=d.ext;rw[z,hx]at e;cases e) of.tup fun d vs e n1 n2=>a9 e hx nofun) ⟨kl,l1.but bt (fun z=>by obtain⟨φ,e⟩:=l1.dn.ext;rw[z,hx]at e;cases e) of.tup⟩
 ·intro a d hd
  have e1:=h.rL a d hd
  exact bt _ _ (a9 e1 hx nofun) e1
 ·intro a d hd
  by_cases e:a=r
  ·subst e
   rw[hc]at hd
   cases hd
   exact⟨kvs,aE,row⟩
  ·obtain⟨Ui,e1,e2⟩:=h.rW a d hd
   refine⟨Ui,by rw[aF (Dv nW.2 hd hc e)];exact e1,?_⟩
   have:W' a=s.W a:=funext fun b=>hW' a b e
   show qO ts.length Ui (W' a)
   rw[this];exact e2
 ·intro a d hd
  obtain⟨vs,e1,e2⟩:=h.rS a d hd
  exact⟨vs,bt _ _ (a9 e1 hx nofun) e1,bJ e2 fun b ys e=>bt _ _ (of.tup b ys e) e⟩
theorem dj.RG (h:dj P w CS o dx A us ts aw H s lk) {kvs:List (Key × V)} (Hd':Nat->Option (Nat × Nat)) (row:oM H ts.length kvs Hd'):dj P w CS o dx A us ts aw (upd H A.Hd (.dK kvs)) { s with Hd:=Hd' } lk:=by
 obtain⟨k0,hx,_⟩:=h.hH
 have bt:dD A.Hd H (upd H A.Hd (.dK kvs)):=fun b o n e=>by rw[aF n];exact e
 have of:Off H o A A.Hd:=h.Sl hx (fun _ z=>nomatch z) (fun _ z=>nomatch z) (fun _ _ _ z=>nomatch z)
 have nW:=bQ.mp h.sep.nW
 obtain⟨kg,g1⟩:=h.sg
 obtain⟨kl,l1⟩:=h.l3
 refine h.parts bt of ?_ ?_ ⟨kvs,aE,row.but fun d ys e=>bt _ _ (of.tup d ys e) e⟩ ⟨kg,g1.but bt (fun z=>by obtain⟨φ,e⟩:=g1.dn.ext;rw[z,hx]at e;cases e) of.tup⟩ ?_ (h.mD.but bt (fun z=>by obtain⟨kvs,d,_⟩:=h.mD;obtain⟨φ,e⟩:=d.ext;rw[z,hx]at e;cases e) of.tup fun d vs e n1 n2=>a9 e hx nofun) ⟨kl,l1.but bt (fun z=>by obtain⟨φ,e⟩:=l1.dn.ext;rw[z,hx]at e;cases e) of.tup⟩
 ·intro a d hd
  have e1:=h.rL a d hd
  exact bt _ _ (a9 e1 hx nofun) e1
 ·intro a d hd
  obtain⟨Ui,e1,e2⟩:=h.rW a d hd
  exact⟨Ui,by rw[aF (fun z=>nW.1 (by rw[<- z];exact ak hd))];exact e1,e2⟩
 ·intro a d hd
  obtain⟨vs,e1,e2⟩:=h.rS a d hd
  exact⟨vs,bt _ _ (a9 e1 hx nofun) e1,bJ e2 fun b ys e=>bt _ _ (of.tup b ys e) e⟩
theorem dj.Xw (h:dj P w CS o dx A us ts aw H s lk) {r:Nat}{c:Addr} (hc:A.Sr[r]? = some c) {vs:List V} (S':Nat->List (Nat × Nat)) (Bb:∀ a,a≠r->S' a=s.St a) (row:dY H vs (S' r)) :
  dj P w CS o dx A us ts aw (upd H c (.lst vs)) { s with St:=S' } lk:=by
 obtain⟨v0,hx,_⟩:=h.rS r c hc
 have hm:=ak hc
 have bt:dD c H (upd H c (.lst vs)):=fun b o n e=>by rw[aF n];exact e
 have of:Off H o A c:=h.Ye hx fun z=>by have:=(h.sep.top c z).2;exact this hm
 obtain⟨hk,nI,n9⟩:=h.hH
 obtain⟨kg,g1⟩:=h.sg
 obtain⟨kl,l1⟩:=h.l3
 refine h.parts bt of ?_ ?_ ⟨hk,bt _ _ (a9 nI hx nofun) nI,n9.but fun d ys e=>bt _ _ (of.tup d ys e) e⟩ ⟨kg,g1.but bt (fun z=>by obtain⟨φ,e⟩:=g1.dn.ext;rw[z,hx]at e;cases e) of.tup⟩ ?_ (h.mD.but bt (fun z=>by obtain⟨kvs,d,_⟩:=h.mD;obtain⟨φ,e⟩:=d.ext;rw[z,hx]at e;cases e) of.tup fun d vs e n1 n2 z=>n2 (by rw[z];exact hm)) ⟨kl,l1.but bt (fun z=>by obtain⟨φ,e⟩:=l1.dn.ext;rw[z,hx]at e;cases e) of.tup⟩
 ·intro a d hd
  exact bt _ _ (fun z=>h.sep.dLS d (ak hd) (by rw[z];exact hm)) (h.rL a d hd)
 ·intro a d hd
  obtain⟨kvs,e1,e2⟩:=h.rW a d hd
  exact⟨kvs,bt _ _ (a9 e1 hx nofun) e1,e2⟩
 ·intro a d hd
  by_cases e:a=r
  ·subst e
   rw[hc]at hd
   cases hd
   exact⟨vs,aE,bJ row fun b ys e=>bt _ _ (of.tup b ys e) e⟩
  ·obtain⟨v2,e1,e2⟩:=h.rS a d hd
   refine⟨v2,by rw[aF (Dv h.sep.nS hd hc e)];exact e1,?_⟩
   show dY _ v2 (S' a)
   rw[Bb a e]
   exact bJ e2 fun b ys e=>bt _ _ (of.tup b ys e) e
theorem dj.Xx (h:dj P w CS o dx A us ts aw H s lk) {φ : Heap->Prop} (hx:x=A.Sg∨x=A.Lk) (Sg':Mx) (A3:Nat × Nat->Option Nat) (h1:x=A.Sg->(∃ kvs,PD P w (upd H x (.ext φ)) A.Sg ts.length kvs fun p=>(Sg' p.1 p.2).map nV)∧A3=lk) (h2:x=A.Lk->(∃ kvs,PD P w (upd H x (.ext φ)) A.Lk ts.length kvs fun p=>(A3 p).map nV)∧Sg'=s.Sg) :
  dj P w CS o dx A us ts aw (upd H x (.ext φ)) { s with Sg:=Sg' } A3:=by
 obtain⟨kg,g1⟩:=h.sg
 obtain⟨kl,l1⟩:=h.l3
 obtain⟨ψ,Ls⟩:∃ ψ,H x=some (.ext ψ):=by
  rcases hx with rfl | rfl
  ·exact g1.dn.ext
  ·exact l1.dn.ext
 have bt:dD x H (upd H x (.ext φ)):=fun b o n e=>by rw[aF n];exact e
 have of:Off H o A x:=h.Sl Ls (fun _ z=>nomatch z) (fun _ z=>nomatch z) (fun _ _ _ z=>nomatch z)
 obtain⟨hk,nI,n9⟩:=h.hH
 have Ug:A.Aw≠x:=by rcases hx with rfl | rfl;exact cM h.sep.e1;exact h.sep.e3
 refine h.parts bt of ?_ ?_ ⟨hk,bt _ _ (a9 nI Ls nofun) nI,n9.but fun d ys e=>bt _ _ (of.tup d ys e) e⟩ ?_ ?_ (h.mD.but bt Ug of.tup fun d vs e n1 n2=>a9 e Ls nofun) ?_
 ·intro a d hd
  have e1:=h.rL a d hd
  exact bt _ _ (a9 e1 Ls nofun) e1
 ·intro a d hd
  obtain⟨kvs,e1,e2⟩:=h.rW a d hd
  exact⟨kvs,bt _ _ (a9 e1 Ls nofun) e1,e2⟩
 ·by_cases e:x=A.Sg
  ·exact(h1 e).1
  ·have e':=hx.resolve_left e
   rw[(h2 e').2]
   exact⟨kg,g1.but bt (fun z=>e z.symm) of.tup⟩
 ·intro a d hd
  obtain⟨vs,e1,e2⟩:=h.rS a d hd
  exact⟨vs,bt _ _ (a9 e1 Ls nofun) e1,bJ e2 fun b ys e=>bt _ _ (of.tup b ys e) e⟩
 ·by_cases e:x=A.Lk
  ·exact(h2 e).1
  ·have e':=hx.resolve_right e
   rw[(h1 e').2]
   exact⟨kl,l1.but bt (fun z=>e z.symm) of.tup⟩
end
end
section
variable {P:Program}{w:World}{K:ao}{mg:Str->Option Value}{base:Heap}{CB CF CH CS CN CE CM tB:Addr}
structure rg (K:ao) (mg:Str->Option Value) (CS:Addr):Prop where
 cS:xt K CS
 HR:kc K CS "terms"
 rN:kc K CS "least"
 xP:kc K CS "waiting"
 pG:kc K CS "heads"
 Ey:kc K CS "single"
 CI:kc K CS "steps"
 BG:kc K CS "awaited"
 xQ:kc K CS "lacking"
def ES (A:SA) (c:Addr):Prop:=c∈A.Lr∨c∈A.Wr∨c=A.Hd∨c=A.Sg
def jt (A:SA) (H H':Hp):Prop := ∀ c o, ¬ ES A c->H c=some o->H' c=some o
theorem jt.refl (A:SA) (H:Hp):jt A H H:=fun _ _ _ e=>e
theorem jt.trans {A:SA}{H H1 H2:Hp} (a:jt A H H1) (b:jt A H1 H2):jt A H H2:=fun c o n e=>b c o n (a c o n e)
theorem jt.upd {A:SA} {H H':Hp} (a:jt A H H') {c:Addr}{o:HO} (hc:ES A c):jt A H (upd H' c o):=fun d u n e=>by rw[aF (fun z=>n (by rw[z];exact hc))];exact a d u n e
theorem jt.same {A:SA}{H H1 H2:Hp} (a:jt A H H1) (b:bu H1 H2):jt A H H2:=fun c o n e=>b _ _ (a c o n e)
theorem Ei {L:Mx}{n a b k:Nat} (hb:b < n):(ib L n a).set b (nV k)=ib (dE L a b k) n a:=by
 unfold ib
 refine d8 fun i =>?_
 rw[AQ,ar,cR,aG,aG]
 by_cases e:b=i
 ·subst e
  rw[if_pos rfl,if_pos hb,iP hb]
  show _=some (A0 (dE L a b k a b))
  rw[wO];rfl
 ·rw[if_neg e]
  cases q:(bN n)[i]? with
  | none=>rfl
  | some j =>
   have hj:j=i:=by
    have:=(ai.mp q).2
    rw[List.getElem_range]at this;exact this.symm
   show some (A0 (L a j))=some (A0 (dE L a b k a j))
   rw[jc (fun z=>e (by rw[<- z.2,hj]))]
theorem Ej (L:Mx) (n a:Nat):(ib L n a).length=n:=by unfold ib;rw[ar,cR]
theorem nY {L:Mx}{n a b:Nat} (hb:b < n):(ib L n a)[b]? = some (A0 (L a b)):=by unfold ib;rw[aG,iP hb];rfl
theorem Ip {n b:Nat} (h:b < n):zE n (b:Int)=some b:=by
 unfold zE
 rw[if_pos (by omega),if_pos (by omega),cx]
theorem HS (a b:Nat):V.int (if (b:Int) < (a:Int) then (b:Int) else (a:Int))=nV (min a b):=by
 show _=V.int _
 congr 1
 split <;> omega
theorem HU (a b:Nat):V.int (if (b:Int) > (a:Int) then (b:Int) else (a:Int))=nV (max a b):=by
 show _=V.int _
 congr 1
 split <;> omega
theorem HA {kvs:List (Key × V)}{k:Key}{v:V} (h:(kvs.map (·.1)).Nodup):((eP kvs k v).map (·.1)).Nodup:=by
 cases e:bR kvs k with
 | none =>
  rw[mU v e,c9,eK]
  refine⟨h,bQ.mpr ⟨cY,df⟩,fun a ha b hb z =>?_⟩
  have hb:b=k:=aB.mp hb
  obtain⟨kv,cZ,ekv⟩:=bj.mp ha
  have:=Bq h kv cZ
  rw[show kv.1=k from ekv.trans (z.trans hb),e]at this
  cases this
 | some u =>
  have:(eP kvs k v).map (·.1)=kvs.map (·.1):=by
   unfold eP
   rw[if_pos (by cases q:kvs.any fun kv=>decide (kv.1=k) with
    | true=>rfl
    | false=>rw[lH]at q;rw[e]at q;cases q)]
   rw[gH]
   exact iO fun p _=>by show (if p.1=k then _ else p).1=p.1;split <;> rename_i c <;> first | exact c.symm | rfl
  rw[this];exact h
theorem Ek {κ : Type} [DecidableEq κ] {kvs:List (κ × V)}{k : κ}{v:V}{kv : κ × V} (h:kv∈eP kvs k v):kv∈kvs∨kv=(k,v):=by
 cases e:bR kvs k with
 | none =>
  rw[mU v e]at h
  exact(aA.mp h).imp id fun z=>aB.mp z
 | some u =>
  unfold eP at h
  rw[if_pos (by cases q:kvs.any fun kv=>decide (kv.1=k) with
    | true=>rfl
    | false=>rw[lH]at q;rw[e]at q;cases q)]at h
  obtain⟨p,hp,ep⟩:=bj.mp h
  by_cases c:p.1=k
  ·rw[if_pos c,c]at ep;exact .inr ep.symm
  ·rw[if_neg c]at ep;exact .inl (by rw[<- ep];exact hp)
theorem qO.put {n:Nat}{kvs:List (Key × V)}{W:Mx}{l h k:Nat} (r:qO n kvs (W l)) (hh:h < n):qO n (eP kvs (.inl (h:Int)) (nV k)) (dE W l h k l):=by
 refine⟨fun b =>?_,fun kv cZ =>?_,HA r.nd⟩
 ·rw[mO]
  by_cases e:b=h
  ·subst e
   rw[if_pos rfl,wO];rfl
  ·rw[if_neg (fun z=>e (by have:=gG z;omega)),jc (fun z=>e z.2),r.val]
 ·rcases Ek cZ with z | rfl
  ·exact r.key kv z
  ·exact⟨h,k,O,hh⟩
theorem oM.put {H:Hp}{n:Nat}{kvs:List (Key × V)}{f:Nat->Option (Nat × Nat)}{l h k:Nat}{p:Addr} (r:oM H n kvs f) (hl:l < n) (hp:H p=some (.tup [nV k,nV l,nV h])):oM H n (eP kvs (.inl (l:Int)) (.ref p)) (fun x=>if x=l then some (k,h) else f x):=by
 refine⟨fun a e =>?_,fun a m b e =>?_,fun kv cZ =>?_,HA r.nd⟩
 ·have e:(if a=l then some (k,h) else f a)=none:=e
  by_cases ea:a=l
  ·rw[if_pos ea]at e;cases e
  ·rw[if_neg ea]at e
   rw[mO,if_neg (fun z=>ea (by have:=gG z;omega))];exact r.cJ a e
 ·have e:(if a=l then some (k,h) else f a)=some (m,b):=e
  by_cases ea:a=l
  ·rw[if_pos ea]at e
   cases e
   subst ea
   exact⟨p,by rw[mO,if_pos rfl],hp⟩
  ·rw[if_neg ea]at e
   obtain⟨q,h1,h2⟩:=r.Fb a m b e
   exact⟨q,by rw[mO,if_neg (fun z=>ea (by have:=gG z;omega))];exact h1,h2⟩
 ·rcases Ek cZ with z | rfl
  ·exact r.key kv z
  ·exact⟨l,O,hl⟩
theorem Il {kvs:List (Key × V)}{n:Nat} (hn:(kvs.map (·.1)).Nodup) (h:∀ kv∈kvs,∃ a:Nat,kv.1=(.inl (a:Int):Key)∧a < n):kvs.length<=n:=by
 have:=lE (U:=(bN n).map fun a:Nat=>(.inl (a:Int):Key)) hn fun x hx=>by
  obtain⟨kv,cZ,rfl⟩:=bj.mp hx
  obtain⟨a,e,ha⟩:=h kv cZ
  rw[e]
  exact bj.mpr ⟨a,cI.mpr ha,O⟩
 rw[ar,ar,cR]at this
 exact this
theorem qO.dR {n:Nat}{kvs:List (Key × V)}{f:Nat->Option Nat} (r:qO n kvs f):kvs.length<=n:=Il r.nd fun kv h=>by obtain⟨b,m,rfl,hb⟩:=r.key kv h;exact⟨b,O,hb⟩
theorem oM.dR {H:Hp}{n:Nat}{kvs:List (Key × V)}{f:Nat->Option (Nat × Nat)} (r:oM H n kvs f):kvs.length<=n:=Il r.nd r.key
inductive ER (P:Program) (w:World) (CS:Addr) (vs:List V) (H:Hp) (Q:VK):Prop
 | mk (o dx:Addr) (A:SA) (us:List V) (ts:List Tm) (aw:Nat × Nat->List (Nat × Nat)) (s:SS) (lk:Nat × Nat->Option Nat) (a b k:Nat) (z0:vs = [.ref o,nV a,nV b,nV k]) (z1:dj P w CS o dx A us ts aw H s lk) (z2:a < ts.length) (z3:b < ts.length) (z4:a≠b)
  (z5:∀ H',jt A H H'->dj P w CS o dx A us ts aw H' (lZ s a b k false) lk->Q .cJ H'):ER P w CS vs H Q
def D5 (P:Program) (w:World) (CS:Addr):Sp:=fun vs H Q _=>ER P w CS vs H Q
theorem fZ {l:List Addr}{i:Nat}{c:Addr} (h:l[i]? = some c):tI (l.map V.ref) (i:Int)=some (.ref c):=by
 refine aL ?_
 rw[aG,h];rfl
theorem Sh (B:jO mg) (Z:rg K mg CS) (D:ni K CS "offer" "Search.offer" Ef ee):lU P w K mg base 1 CS "offer" ee (D5 P w CS):=by
 have cS:=Z.cS
 refine D.has Bt (fun vs H Q E h =>?_) (fun f cO A outer s H vs Q E hr h =>?_)
 ·obtain⟨o,dx,A,us,ts,aw,s,lk,a,b,k,rfl,_⟩:=h;rfl
 obtain⟨o,dx,A,us,ts,aw,s,lk,a,b,k,rfl,h,ha,hb,i6,q⟩:=h
 refine⟨_,(ax (Cu (pv 3) (Cw (aJ bz (eB (pv 0) O) (pv 1)) (pv 2) xD))
  (ax (Cu (pv 3) (Cw (aJ bz (eB (pv 0) O) (pv 2)) (pv 1) xD))
  (ax (bC (i:=4) Bt.nd O (aM O) (bO (vU O) O B.Ez sj (ae (pv 1) (ae (pv 2) aq))))
  (ax (bC (i:=5) Bt.nd O (aM O) (bO (vV O) O B.Ng vY (ae (pv 1) (ae (pv 2) aq))))
  (ax (El (AB hr) (aJ bz (eB (pv 0) O) (pv 4)) (pv 5) (pv 3) O)
  (aI (cV (PW.pt (pw_or (Cs (O2 (AB hr) (pv 4) (eB (pv 0) O)) (by with_unfolding_all rfl)) (pw_or1 (bE tR (pv 3) (aJ bp (VY (AB hr) (eB (pv 0) O) (pv 4) (fun _ _=>O)) aD) (bS _))))) (aI (El (AB hr) (eB (pv 0) O) (pv 4) (cQ (ae (pv 3) (ae (pv 4) (ae (pv 5) aq)))) O)) cg))))))),?_⟩
 try dsimp only[dQ]
 obtain⟨ca,gy⟩:∃ c,A.Lr[a]? = some c:=⟨_,aj (by rw[h.lL];exact ha)⟩
 obtain⟨cb,iX⟩:∃ c,A.Lr[b]? = some c:=⟨_,aj (by rw[h.lL];exact hb)⟩
 refine⟨_,O,_,O,o,CS,dx,_,_,O,h.ins,Z.cS,Z.rN,O,_,O,A.L,_,_,_,O,O,aZ.of h.hL,fZ gy,_,O,ca,_,_,b,O,O,h.rL a ca gy,by rw[Ej];exact Ip hb,?_⟩
 rw[Ei hb]
 have h1:=h.Xy gy (dE s.L a b k) (fun x y n=>jc (fun z=>n z.1))
 have b1:=(jt.refl A H).upd (c:=ca) (o := .lst (ib (dE s.L a b k) ts.length a)) (.inl (ak gy))
 generalize upd H ca (.lst (ib (dE s.L a b k) ts.length a))=H1 at h1 b1 ⊢
 refine⟨_,O,_,O,o,CS,dx,_,_,O,h1.ins,Z.cS,Z.rN,O,_,O,A.L,_,_,_,O,O,aZ.of h1.hL,fZ iX,_,O,cb,_,_,a,O,O,h1.rL b cb iX,by rw[Ej];exact Ip ha,?_⟩
 rw[Ei ha]
 have h2:=h1.Xy iX (dE (dE s.L a b k) b a k) (fun x y n=>jc (fun z=>n z.1))
 have b2:=b1.upd (c:=cb) (o := .lst (ib (dE (dE s.L a b k) b a k) ts.length b)) (.inl (ak iX))
 generalize upd H1 cb (.lst (ib (dE (dE s.L a b k) b a k) ts.length b))=H2 at h2 b2 ⊢
 refine⟨_,O,_,O,_,_,O,?_⟩
 rw[HS]
 dsimp only[bw]
 refine⟨_,O,_,O,_,_,O,?_⟩
 rw[HU]
 dsimp only[bw]
 have zI:min a b < ts.length:=by omega
 have IX:max a b < ts.length:=by omega
 obtain⟨cw,w5⟩:∃ c,A.Wr[min a b]? = some c:=⟨_,aj (by rw[h.lW];exact zI)⟩
 obtain⟨kw,A6,vK⟩:=h2.rW _ cw w5
 have dR:=h.dR
 refine⟨_,O,_,O,o,CS,dx,_,_,O,h2.ins,Z.cS,Z.xP,O,_,O,A.W,_,_,_,O,O,aZ.of h2.hW,fZ w5,_,O,cw,_,O,Ca.k (k := .inl ((max a b:Nat):Int)) A6 (c6 (by have:=vK.dR;omega)),?_⟩
 have h3:=h2.Xv w5 (kvs:=eP kw (.inl ((max a b:Nat):Int)) (nV k)) (dE s.W (min a b) (max a b) k) (fun x y n=>jc (fun z=>n z.1)) (vK.put IX)
 have b3:=b2.upd (c:=cw) (o := .dK (eP kw (.inl ((max a b:Nat):Int)) (nV k))) (.inr (.inl (ak w5)))
 generalize upd H2 cw (.dK (eP kw (.inl ((max a b:Nat):Int)) (nV k)))=H3 at h3 b3 ⊢
 obtain⟨kh,nI,n9⟩:=id h3.hH
 dsimp only
 refine uB (fun c Hc=>Hc=H3∧c=mY (s.Hd (min a b)) k) (fun Qc qc =>?_) ?_ ?_
 ·cases e:s.Hd (min a b) with
  | none =>
   have hg:vz H3 A.Hd (nV (min a b)) none:=by
    have:=vz.k (k:=(.inl ((min a b:Nat):Int):Key)) nI
    rw[n9.cJ _ e]at this
    exact this
   exact⟨_,O,_,O,o,CS,dx,_,_,O,h3.ins,Z.cS,Z.pG,O,A.Hd,_,O,hg,_,O,pJ (qc true _ ⟨O,by rw[e];rfl⟩)⟩
  | some pm =>
   obtain⟨m,h'⟩:=pm
   obtain⟨p,tG,oX⟩:=n9.Fb _ m h' e
   have hg:vz H3 A.Hd (nV (min a b)) (some (.ref p)):=by
    have:=vz.k (k:=(.inl ((min a b:Nat):Int):Key)) nI
    rw[tG]at this
    exact this
   refine⟨_,O,_,O,o,CS,dx,_,_,O,h3.ins,Z.cS,Z.pG,O,A.Hd,_,O,hg,_,O,gO ?_⟩
   refine⟨_,O,_,O,o,CS,dx,_,_,O,h3.ins,Z.cS,Z.pG,O,_,O,A.Hd,_,O,hg,p,_,0,_,O,O,bD.of oX,aL (j:=0) rfl,_,_,O,O,_,O,qc _ _ ⟨O,?_⟩⟩
   rw[e]
   show decide ((k:Int) < (m:Int))=decide (k < m)
   rw[fQ,decide_eq_true_iff,decide_eq_true_iff];omega
 ·rintro Hc ⟨rfl,e⟩
  refine⟨_,O,_,O,_,O,(show 3<=sizeLine by decide),fun p hp =>?_⟩
  obtain⟨H4,eH,s4,FE⟩:=alloc hp (.tup [nV k,nV (min a b),nV (max a b)])
  rw[eH]
  have h4:=h3.same s4
  have hh4:=s4 _ _ nI
  have Ut:=n9.but (H':=H4) fun c ys e=>s4 _ _ e
  refine⟨_,O,o,CS,dx,_,_,O,h4.ins,Z.cS,Z.pG,O,_,O,A.Hd,_,O,Ca.k (k := .inl ((min a b:Nat):Int)) hh4 (c6 (by have:=Ut.dR;omega)),?_⟩
  refine q _ ((b3.same s4).upd (.inr (.inr (.inl rfl)))) ?_
  have h5:=h4.RG _ (Ut.put zI FE)
  have es:(⟨dE (dE s.L a b k) b a k,dE s.W (min a b) (max a b) k,fun x=>if x=min a b then some (k,max a b) else s.Hd x,s.Sg,s.St,s.dn⟩:SS)=lZ s a b k false:=by
   have e3:(fun x=>if x=min a b then some (k,max a b) else s.Hd x)=fun x=>if x=min a b∧mY (s.Hd (min a b)) k=true then some (k,max a b) else s.Hd x:=funext fun x=>by
    by_cases ex:x=min a b
    ·rw[if_pos ex,if_pos ⟨ex,e.symm⟩]
    ·rw[if_neg ex,if_neg (fun z=>ex z.1)]
   rw[e3];rfl
  rw[<- es]
  exact h5
 ·rintro Hc ⟨rfl,e⟩
  refine q _ b3 ?_
  have es:(⟨dE (dE s.L a b k) b a k,dE s.W (min a b) (max a b) k,s.Hd,s.Sg,s.St,s.dn⟩:SS)=lZ s a b k false:=by
   have e3:s.Hd=fun x=>if x=min a b∧mY (s.Hd (min a b)) k=true then some (k,max a b) else s.Hd x:=funext fun x=>by
    rw[if_neg (fun z=>by rw[<- e]at z;cases z.2)]
   show SS.mk _ _ s.Hd _ _ _=SS.mk _ _ (fun x=>if x=min a b∧mY (s.Hd (min a b)) k=true then some (k,max a b) else s.Hd x) _ _ _
   rw[<- e3];rfl
  rw[<- es]
  exact h3
theorem Wm {H:Hp}{kvs:List (NK × V)}{xs:List (NK × Addr × Value)} (c7:KN H kvs xs):kvs.map (·.1)=xs.map (·.1):=by
 induction c7 with
 | nil=>rfl
 | cons h t ih=>rw[aS,aS,ih,h.1]
theorem Jy {H:Hp}{a:Addr}{kvs:List (NK × V)} (d:DN P w H a kvs):(kvs.map (·.1)).Nodup:=by
 obtain⟨_,_,xs,_,_,_,_,c7,_,_,_,hn⟩:=d
 rw[Wm c7];exact hn
theorem Fm {kvs:List (NK × V)}{n:Nat} (hn:(kvs.map (·.1)).Nodup) (h:∀ kv∈kvs,∃ p:Nat × Nat,kv.1=bZ p∧p.1 < n∧p.2 < n):kvs.length<=n * n:=by
 have:=lE (U:=((bN n).flatMap fun a=>(bN n).map fun b=>bZ (a,b))) hn fun x hx=>by
  obtain⟨kv,cZ,rfl⟩:=bj.mp hx
  obtain⟨p,e,h1,h2⟩:=h kv cZ
  rw[e]
  exact gR.mpr ⟨p.1,cI.mpr h1,bj.mpr ⟨p.2,cI.mpr h2,O⟩⟩
 rw[ar]at this
 refine bq this ?_
 have fl:∀ m,((bN m).flatMap fun a=>(bN n).map fun b=>bZ (a,b)).length=m * n:=fun m=>by
  induction m with
  | zero=>simp
  | succ m ih=>rw[kf,dX,aK,ih,vg];simp
 rw[fl]
 exact au _
theorem PD.dR {H:Hp}{a:Addr}{n:Nat}{kvs:List (NK × V)}{f:Nat × Nat->Option V} (h:PD P w H a n kvs f) (hn:n<=30):kvs.length<=900:=bq (Fm (Jy h.dn) h.key) (qS hn hn)
theorem PD.put {H H':Hp}{a:Addr}{n:Nat}{kvs:List (NK × V)}{f:Nat × Nat->Option V} (h:PD P w H a n kvs f) {q:Nat × Nat}{v:V} (hq:q.1 < n∧q.2 < n) (d:DN P w H' a (eP kvs (bZ q) v)):PD P w H' a n (eP kvs (bZ q) v) (fun p=>if p=q then some v else f p):=by
 refine⟨d,fun p =>?_,fun kv cZ =>?_⟩
 ·rw[mO]
  by_cases e:p=q
  ·rw[if_pos (by rw[e]),if_pos e]
  ·rw[if_neg (fun z=>e (uD z)),if_neg e,h.val]
 ·rcases Ek cZ with z | rfl
  ·exact h.key kv z
  ·exact⟨q,O,hq⟩
inductive QQ (P:Program) (w:World) (CS:Addr) (vs:List V) (H:Hp) (Q:VK):Prop
 | mk (o dx:Addr) (A:SA) (us:List V) (ts:List Tm) (aw:Nat × Nat->List (Nat × Nat)) (s:SS) (lk:Nat × Nat->Option Nat) (a b k:Nat) (z0:vs = [.ref o,nV a,nV b,nV k]) (z1:dj P w CS o dx A us ts aw H s lk) (z2:a < ts.length) (z3:b < ts.length) (z4:a=b->less s.L a b k=false)
  (z5:∀ H',jt A H H'->dj P w CS o dx A us ts aw H' (ji s a b k true) lk->Q .cJ H'):QQ P w CS vs H Q
def G5 (P:Program) (w:World) (CS:Addr):Sp:=fun vs H Q _=>QQ P w CS vs H Q
theorem Fu {L:Mx}{a b k:Nat}{H:Hp}{Q:Bool->Hp->Prop} (q:Q (less L a b k) H):if decide (A0 (L a b)=V.cJ)=true then Q true H else ∃ i j,A0 (L a b)=V.int j∧i=(k:Int)∧Q (decide (i < j)) H:=by
 unfold less at q
 cases e:L a b with
 | none =>
  rw[e]at q
  exact eF (fun _=>q) (fun z=>absurd rfl z)
 | some m =>
  rw[e]at q
  refine eF nofun (fun _=>⟨k,m,O,O,?_⟩)
  have:decide ((k:Int) < (m:Int))=decide (k < m):=by rw[fQ,decide_eq_true_iff,decide_eq_true_iff];omega
  rw[this];exact q
theorem Gn (B:jO mg) (Z:rg K mg CS) (ug:lU P w K mg base 1 CS "offer" ee (D5 P w CS)) (D:ni K CS "offer_step" "Search.offer_step" uy ee):lU P w K mg base 2 CS "offer_step" ee (G5 P w CS):=by
 have cS:=Z.cS
 refine D.has yz (fun vs H Q E h =>?_) (fun f cO A outer s H vs Q E hr h =>?_)
 ·obtain⟨o,dx,A,us,ts,aw,s,lk,a,b,k,rfl,_⟩:=h;rfl
 obtain⟨o,dx,A,us,ts,aw,s,lk,a,b,k,rfl,h,ha,hb,i6,q⟩:=h
 refine⟨_,(ax (bC (i:=4) yz.nd O (aM O) (aJ bz (aJ bz (eB (pv 0) O) (pv 1)) (pv 2)))
  (aI (cV (PW.pt (pw_or (bE HF (pv 4) j5 (bS _)) (pw_or1 (bE tR (pv 3) (pv 4) (bS _))))) (ax (wR (mn hr) (eB (pv 0) O) (cQ (ae (bO (vU O) O B.Ez sj (ae (pv 1) (ae (pv 2) aq))) (ae (bO (vV O) O B.Ng vY (ae (pv 1) (ae (pv 2) aq))) aq))) (pv 3) O)
  (aI (dF (tQ ug cS hr (by omega) (xK fun _ _ _ z=>z) (pv 0) (ae (pv 1) (ae (pv 2) (ae (pv 3) aq))))))) cg))),?_⟩
 try dsimp only[dQ]
 obtain⟨ca,gy⟩:∃ c,A.Lr[a]? = some c:=⟨_,aj (by rw[h.lL];exact ha)⟩
 refine⟨_,O,o,CS,dx,_,_,O,h.ins,Z.cS,Z.rN,O,_,O,A.L,_,_,_,O,O,aZ.of h.hL,fZ gy,_,O,ca,_,_,_,O,O,aZ.of (h.rL a ca gy),aL (nY hb),?_⟩
 dsimp only[bw]
 refine uB (fun c Hc=>Hc=H∧c=less s.L a b k) (fun Qc qc =>?_) ?_ ?_
 ·have q0:=qc (less s.L a b k) H ⟨O,O⟩
  have lr:=Fu (Q:=Qc) q0
  refine⟨_,O,O,_,O,?_⟩
  split at lr
  ·rename_i c;rw[if_pos c];exact lr
  ·rename_i c
   rw[if_neg c]
   obtain⟨i,j,e1,rfl,qq⟩:=lr
   exact⟨_,O,_,O,_,j,O,e1,_,O,qq⟩
 ·rintro Hc ⟨rfl,e⟩
  have e:=e.symm
  have gv:a≠b:=fun z=>by rw[i6 z]at e;cases e
  have zI:min a b < ts.length:=by omega
  have IX:max a b < ts.length:=by omega
  refine⟨_,O,_,O,o,CS,dx,_,_,O,h.ins,Z.cS,Z.Ey,O,_,O,_,O,_,_,O,_,O,_,O,_,_,O,(show 2<=sizeLine by decide),fun p hp =>?_⟩
  rw[HS,HU]at *
  obtain⟨H1,eH,s1,tG⟩:=alloc hp (.tup [nV (min a b),nV (max a b)])
  rw[eH]
  have h1:=h.same s1
  obtain⟨kg,g1⟩:=id h1.sg
  refine⟨A.Sg,p,kg,bZ (min a b,max a b),O,O,g1.dn,jC tG,c6 (by have:=g1.dR h.dR;omega),fun φ d =>?_⟩
  have h2:=h1.Xx (φ := φ) (x:=A.Sg) (.inl rfl) (dE s.Sg (min a b) (max a b) k) lk (fun _=>⟨⟨_,by
   have:=g1.put ⟨zI,IX⟩ d
   refine⟨this.dn,fun p =>?_,this.key⟩
   rw[this.val]
   by_cases ep:p=(min a b,max a b)
   ·rw[if_pos ep,ep,wO];rfl
   ·rw[if_neg ep,jc (fun z=>ep (oF z.1 z.2))]⟩,O⟩) (fun z=>absurd z h.sep.e2)
  have b2:=(jt.refl A Hc).same s1 |>.upd (c:=A.Sg) (o := .ext φ) (.inr (.inr (.inr rfl)))
  generalize upd H1 A.Sg (.ext φ)=H2 at h2 b2 ⊢
  refine⟨_,O,o,dx,_,O,h2.ins,O,_,O,_,O,_,O,o,dx,A,us,ts,aw,_,lk,a,b,k,O,h2,ha,hb,gv,fun H3 b3 h3 =>?_⟩
  refine q H3 (b2.trans b3) ?_
  have es:ji s a b k true=lZ s a b k true:=by unfold ji;rw[if_pos e]
  rw[es]
  exact h3
 ·rintro Hc ⟨rfl,e⟩
  have es:ji s a b k true=s:=by unfold ji;rw[if_neg (by rw[<- e];decide)]
  refine q Hc (jt.refl A Hc) ?_
  rw[es];exact h
def nh (n:Nat) (s:SS):Prop := ∀ x,x < n->s.L x x=some 0
theorem zR {n:Nat}{s:SS} (h:nh n s) {a k:Nat} (ha:a < n):less s.L a a k=false:=by
 unfold less
 rw[h a ha]
 exact decide_eq_false (ip k)
theorem JC {n:Nat}{s:SS} (h:nh n s) {a b k:Nat}{sg:Bool} (ha:a < n):nh n (ji s a b k sg):=by
 unfold ji
 split
 ·rename_i c
  have gv:a≠b:=fun z=>by rw[<- z,zR h ha]at c;cases c
  intro x hx
  rw[Eu,if_neg (fun z=>by rcases z with⟨z1,z2⟩ | ⟨z1,z2⟩;exact gv (z1.symm.trans z2);exact gv (z2.symm.trans z1))]
  exact h x hx
 ·exact h
theorem wC {n:Nat}{a k:Nat} (ha:a < n):∀ {l:List (Nat × Nat)}{s:SS},nh n s->nh n (gY a k s l)
 | [],s,h=>h
 | e :: l,s,h=>wC ha (l:=l) (JC h ha)
theorem Oy (s:SS) (a b k:Nat) (sg:Bool):(ji s a b k sg).St=s.St∧(ji s a b k sg).dn=s.dn:=by
 unfold ji
 split <;> exact⟨O,O⟩
theorem E8 (a k:Nat):∀ (l:List (Nat × Nat)) (s:SS),(gY a k s l).St=s.St
 | [],s=>rfl
 | e :: l,s=>(E8 a k l _).trans (Oy s a e.1 (k+e.2) false).1
theorem Ku {a k:Nat}{s:SS}{l:List (Nat × Nat)}{i:Nat}{e:Nat × Nat} (h:l[i]? = some e):gY a k s (l.take (i+1))=ji (gY a k s (l.take i)) a e.1 (k+e.2) false:=by
 unfold gY
 rw[iz,h,nP];rfl
inductive Vh (P:Program) (w:World) (CS:Addr) (vs:List V) (H:Hp) (Q:VK):Prop
 | mk (o dx:Addr) (A:SA) (us:List V) (ts:List Tm) (aw:Nat × Nat->List (Nat × Nat)) (s:SS) (lk:Nat × Nat->Option Nat) (a b k:Nat) (z0:vs = [.ref o,nV a,nV b,nV k]) (z1:dj P w CS o dx A us ts aw H s lk) (z2:a < ts.length) (z3:b < ts.length) (z4:nh ts.length s) (z6:∀ e∈s.St b,e.1 < ts.length)
  (z5:∀ H',jt A H H'->dj P w CS o dx A us ts aw H' (gY a k s (s.St b)) lk->Q .cJ H'):Vh P w CS vs H Q
def TY (P:Program) (w:World) (CS:Addr):Sp:=fun vs H Q _=>Vh P w CS vs H Q
inductive LnI (P:Program) (w:World) (CS o dx:Addr) (A:SA) (us:List V) (ts:List Tm) (aw:Nat × Nat->List (Nat × Nat)) (lk:Nat × Nat->Option Nat) (H:Hp) (τ : St) (a k:Nat) (s:SS) (l:List (Nat × Nat)) (i:Nat) (σ : St) (H':Hp):Prop
 | mk (x5 x6:Option V):(σ = τ ++ [x5,x6])->jt A H H'->dj P w CS o dx A us ts aw H' (gY a k s (l.take i)) lk->LnI P w CS o dx A us ts aw lk H τ a k s l i σ H'
theorem dj.HK {H:Hp}{o dx:Addr}{A:SA}{us:List V}{ts:List Tm}{aw:Nat × Nat->List (Nat × Nat)}{s:SS}{lk:Nat × Nat->Option Nat} (h:dj P w CS o dx A us ts aw H s lk) {c:Addr}{u:HO} (hc:H c=some u) (hl:c ∉ A.Lr) (hd:∀ kvs,u ≠ .dK kvs) (he:∀ φ,u ≠ .ext φ):¬ ES A c:=by
 rintro(z | z | z | z)
 ·exact hl z
 ·obtain⟨i,hi⟩:=aT z
  obtain⟨kvs,e,_⟩:=h.rW i c hi
  rw[hc]at e
  exact hd _ (aH e)
 ·obtain⟨kvs,e,_⟩:=h.hH
  rw[<- z,hc]at e
  exact hd _ (aH e)
 ·obtain⟨kvs,e⟩:=h.sg
  obtain⟨φ,e⟩:=e.dn.ext
  rw[<- z,hc]at e
  exact he _ (aH e)
theorem Kr (B:jO mg) (Z:rg K mg CS) (ug:lU P w K mg base 1 CS "offer" ee (D5 P w CS)) (D:ni K CS "lengthen" "Search.lengthen" xE ee):lU P w K mg base 2 CS "lengthen" ee (TY P w CS):=by
 have cS:=Z.cS
 refine D.has qV (fun vs H Q E h =>?_) (fun f cO A outer s H vs Q E hr h =>?_)
 ·obtain⟨o,dx,A,us,ts,aw,s,lk,a,b,k,rfl,_⟩:=h;rfl
 obtain⟨o,dx,A,us,ts,aw,s,lk,a,b,k,rfl,h,ha,hb,hdg,iW,q⟩:=h
 refine⟨_,(ax (bC (i:=4) qV.nd O (aM O) (aJ bz (eB (pv 0) O) (pv 1)))
  (aI (dJ fJ O (eQ (aJ bz (eB (pv 0) O) (pv 2))) (lY O (dH (bL (i:=5) qV.nd O (aM O)) (dH (bL (i:=6) qV.nd O (aM O)) jX)))
  (aI (cV (PW.pt (pw_or (bE HF (aJ bz (pv 4) (pv 5)) j5 (bS _)) (pw_or1 (bE tR (gi mW (pv 3) (pv 6)) (aJ bz (pv 4) (pv 5)) (bS _))))) (aI (dF (tQ ug cS hr (by omega) (xK fun _ _ _ z=>z) (pv 0) (ae (pv 1) (ae (pv 5) (ae (gi mW (pv 3) (pv 6)) aq)))))) cg))))),?_⟩
 try dsimp only[dQ]
 obtain⟨ca,gy⟩:∃ c,A.Lr[a]? = some c:=⟨_,aj (by rw[h.lL];exact ha)⟩
 obtain⟨cb,iX⟩:∃ c,A.Sr[b]? = some c:=⟨_,aj (by rw[h.lS];exact hb)⟩
 obtain⟨sv,rQ,jT⟩:=h.rS b cb iX
 have Na:¬ ES A cb:=h.HK rQ (fun z=>h.sep.dLS cb z (ak iX)) (fun _ z=>nomatch z) (fun _ z=>nomatch z)
 have abn:∀ {c ys},H c=some (.tup ys)->¬ ES A c:=fun {c ys} e=>h.HK e (fun z=>by
  obtain⟨i,hi⟩:=aT z
  rw[h.rL i c hi]at e;cases e) (fun _ z=>nomatch z) (fun _ z=>nomatch z)
 refine⟨_,O,o,CS,dx,_,_,O,h.ins,Z.cS,Z.rN,O,_,O,A.L,_,_,_,O,O,aZ.of h.hL,fZ gy,?_⟩
 dsimp only[bw]
 refine⟨_,O,o,CS,dx,_,_,O,h.ins,Z.cS,Z.CI,O,_,O,A.S,_,_,_,O,O,aZ.of h.hS,fZ iX,cb,O,⟨_,aZ.of rQ⟩,?_⟩
 refine fK (xs:=sv) (LnI P w CS o dx A us ts aw lk H [aa o,aU a,aU b,aU k,aa ca] a k s (s.St b)) ⟨none,none,O,jt.refl A H,h⟩ ?_ ?_ ?_
 ·rintro i σ H' _ ⟨x5,x6,rfl,bt,_⟩
  exact aZ.of (bt _ _ Na rQ)
 ·rintro i y σ H' hy ⟨x5,x6,rfl,bt,h'⟩
  obtain⟨⟨c,m⟩,LH,p,rfl,hp⟩:=Paired.at jT hy
  have hc:=iW _ (ak LH)
  have ZJ:nh ts.length (gY a k s ((s.St b).take i)):=wC ha hdg
  have n6:=bt _ _ (abn hp) hp
  have next:=Ku (a:=a) (k:=k) (s:=s) LH
  dsimp only at hc next
  generalize gY a k s ((s.St b).take i)=s1 at h' ZJ next
  refine⟨p,_,O,bD.of n6,O,_,_,O,_,_,O,O,?_⟩
  dsimp only
  have uM:=aL (nY (L:=s1.L) (n:=ts.length) (a:=a) hc)
  have hra:=aZ.of (K:=K) (h'.rL a ca gy)
  refine uB (fun d Hc=>Hc=H'∧d=less s1.L a c (k+m)) (fun Qc qc =>?_) ?_ ?_
  ·have lr:=Fu (Q:=Qc) (qc (less s1.L a c (k+m)) H' ⟨O,O⟩)
   refine⟨_,O,_,O,ca,_,_,_,O,O,hra,uM,O,_,O,?_⟩
   split at lr
   ·rename_i z;rw[if_pos z];exact lr
   ·rename_i z
    rw[if_neg z]
    obtain⟨i',j,e1,rfl,qq⟩:=lr
    refine⟨_,O,_,O,_,_,O,O,_,O,_,O,ca,_,_,_,O,O,hra,uM,_,j,O,e1,_,O,?_⟩
    exact qq
  ·rintro Hc ⟨rfl,e⟩
   have e:=e.symm
   have gv:a≠c:=fun z=>by rw[<- z,zR ZJ ha]at e;cases e
   refine⟨_,O,o,dx,_,O,h'.ins,O,_,O,_,O,_,O,_,O,_,_,O,O,?_⟩
   show ER P w CS [.ref o,nV a,nV c,nV (k+m)] Hc _
   refine⟨o,dx,A,us,ts,aw,s1,lk,a,c,k+m,O,h',ha,hc,gv,fun H3 b3 h3=>⟨_,_,O,bt.trans b3,?_⟩⟩
   rw[next]
   unfold ji
   rw[if_pos e];exact h3
  ·rintro Hc ⟨rfl,e⟩
   refine⟨_,_,O,bt,?_⟩
   rw[next]
   unfold ji
   rw[if_neg (by rw[<- e];decide)];exact h'
 ·rintro σ H' ⟨x5,x6,rfl,bt,h'⟩
  rw[aP jT,bB]at h'
  exact q H' bt h'
theorem xy (kvs:List (Key × V)) (k j:Key):bR (lP kvs k) j=if j=k then none else bR kvs j:=by
 induction kvs with
 | nil=>show bR [] j=_;rw[xx];split <;> rfl
 | cons p r ih =>
  unfold lP at ih ⊢
  by_cases e:p.1=k
  ·rw[iL (by simp[e]),ih]
   by_cases ej:j=k
   ·rw[if_pos ej,if_pos ej]
   ·rw[if_neg ej,if_neg ej,eD (fun z=>ej (z.symm.trans e))]
  ·rw[iK (by simp[e])]
   by_cases ep:p.1=j
   ·rw[eO ep,eO ep,if_neg (fun z=>e (ep.trans z))]
   ·rw[eD ep,eD ep,ih]
theorem LX {kvs:List (Key × V)}{k:Key} (h:(kvs.map (·.1)).Nodup):((lP kvs k).map (·.1)).Nodup:=by
 unfold lP
 exact yr.sublist (List.Sublist.map _ yS) h
theorem oM.drop {H:Hp}{n:Nat}{kvs:List (Key × V)}{f:Nat->Option (Nat × Nat)}{l:Nat} (r:oM H n kvs f):oM H n (lP kvs (.inl (l:Int))) (fun x=>if x=l then none else f x):=by
 refine⟨fun a e =>?_,fun a m b e =>?_,fun kv cZ=>r.key kv (gB.mp cZ).1,LX r.nd⟩
 ·have e:(if a=l then none else f a)=none:=e
  rw[xy]
  by_cases ea:a=l
  ·rw[if_pos (by rw[ea])]
  ·rw[if_neg ea]at e
   rw[if_neg (fun z=>ea (by have:=gG z;omega))];exact r.cJ a e
 ·have e:(if a=l then none else f a)=some (m,b):=e
  by_cases ea:a=l
  ·rw[if_pos ea]at e;cases e
  ·rw[if_neg ea]at e
   rw[xy,if_neg (fun z=>ea (by have:=gG z;omega))]
   exact r.Fb a m b e
theorem qO.drop {n:Nat}{kvs:List (Key × V)}{W:Mx}{l h:Nat} (r:qO n kvs (W l)):qO n (lP kvs (.inl (h:Int))) (hJ W l h l):=by
 refine⟨fun b =>?_,fun kv cZ=>r.key kv (gB.mp cZ).1,LX r.nd⟩
 rw[xy]
 unfold hJ
 by_cases e:b=h
 ·rw[if_pos (by rw[e]),if_pos ⟨O,e⟩];rfl
 ·rw[if_neg (fun z=>e (by have:=gG z;omega)),if_neg (fun z=>e z.2),r.val]
theorem wL:∀ {kvs:List (Key × V)}{k:Key}{v:V},bR kvs k=some v->∃ i:Nat,kvs[i]? = some (k,v)
 | [],k,v,h=>by rw[xx]at h;cases h
 | p :: r,k,v,h=>by
  by_cases e:p.1=k
  ·rw[eO e]at h
   cases h
   exact⟨0,by rw[<- e];rfl⟩
  ·rw[eD e]at h
   obtain⟨i,hi⟩:=wL h
   exact⟨i+1,hi⟩
inductive QX (P:Program) (w:World) (CS:Addr) (vs:List V) (H:Hp) (Q:VK):Prop
 | mk (o dx:Addr) (A:SA) (us:List V) (ts:List Tm) (aw:Nat × Nat->List (Nat × Nat)) (s:SS) (lk:Nat × Nat->Option Nat) (a:Nat) (z0:vs = [.ref o,nV a]) (z1:dj P w CS o dx A us ts aw H s lk) (z2:a < ts.length) (z3:s.Hd a≠none)
  (z5:∀ hd H',AI (s.W a) hd->jt A H H'->dj P w CS o dx A us ts aw H' { s with Hd:=fun x=>if x=a then hd else s.Hd x } lk->Q .cJ H'):QX P w CS vs H Q
def OF (P:Program) (w:World) (CS:Addr):Sp:=fun vs H Q _=>QX P w CS vs H Q
def ML:Option (Key × V)->Int
 | some (_,.int n)=>n
 | _=>0
inductive FhI (H1:Hp) (τ : St) (cw:Addr) (ob:Obj) (kw:List (Key × V)) (m:Nat) (j:Nat) (σ : St) (H':Hp):Prop
 | mk (x4:Option V):(σ = τ ++ [x4])->H'=upd H1 cw (Ext cw ob)->(∀ i,i < j->ML kw[i]? ≠ (m:Int))->FhI H1 τ cw ob kw m j σ H'
theorem HI (B:jO mg) (Z:rg K mg CS) (D:ni K CS "find_head" "Search.find_head" wq ["self", "a"]):lU P w K mg base 1 CS "find_head" ["self", "a"] (OF P w CS):=by
 have cS:=Z.cS
 refine D.has pB (fun vs H Q E h =>?_) (fun f cO A outer s H vs Q E hr h =>?_)
 ·obtain⟨o,dx,A,us,ts,aw,s,lk,a,rfl,_⟩:=h;rfl
 obtain⟨o,dx,A,us,ts,aw,s,lk,a,rfl,h,ha,ZC,q⟩:=h
 refine⟨_,(ax (bC (i:=2) pB.nd O (aM O) (aJ bz (eB (pv 0) O) (pv 1)))
  (ax (dF (HD (eB (pv 0) O) (pv 1) ⟨O,O,O,O⟩))
  (aI (cV (BD (pv 2) (fun _=>O)) (ax (bC (i:=3) pB.nd O (aM O) (R4 O O B.Ez (pv 2)))
  (aI (VP (dJ fJ O (VT (pv 2)) (bL (i:=4) pB.nd O (aM O))
  (aI (cV (bE gk (VV (pv 2) (pv 4) (fun _ _=>O)) (pv 3) (bS _)) (ax (El (AB hr) (eB (pv 0) O) (pv 1) (cQ (ae (pv 3) (ae (pv 1) (ae (pv 4) aq)))) O)
  (aI HB)) cg)))))) cg)))),?_⟩
 try dsimp only[dQ]
 obtain⟨cw,w5⟩:∃ c,A.Wr[a]? = some c:=⟨_,aj (by rw[h.lW];exact ha)⟩
 refine⟨_,O,o,CS,dx,_,_,O,h.ins,Z.cS,Z.xP,O,_,O,A.W,_,_,_,O,O,aZ.of h.hW,fZ w5,?_⟩
 dsimp only[bw]
 obtain⟨kh,nI,n9⟩:=id h.hH
 obtain⟨⟨hk,hb⟩,ehd⟩:=Option.ne_none_iff_exists'.mp ZC
 obtain⟨ph,Iy,_⟩:=n9.Fb a hk hb ehd
 refine⟨_,O,o,CS,dx,_,_,O,h.ins,Z.cS,Z.pG,O,A.Hd,O,.inl ⟨_,.inl nI⟩,_,O,kh,.inl (a:Int),_,nI,O,Iy,?_⟩
 have h1:=h.RG _ (n9.drop (l:=a))
 have b1:=(jt.refl A H).upd (c:=A.Hd) (o := .dK (lP kh (.inl (a:Int)))) (.inr (.inr (.inl rfl)))
 generalize upd H A.Hd (.dK (lP kh (.inl (a:Int))))=H1 at h1 b1 ⊢
 obtain⟨kw,A6,vK⟩:=h1.rW a cw w5
 obtain⟨Ul,hg1,UJ⟩:=id h1.hH
 have vK:qO ts.length kw (s.W a):=vK
 have at_:∀ i,i < kw.length->∃ b m:Nat,kw[i]? = some ((.inl (b:Int):Key),nV m)∧b < ts.length∧s.W a b=some m:=fun i hi=>by
  have e:kw[i]? = some kw[i]:=aj hi
  obtain⟨b,m,em,hb⟩:=vK.key kw[i] (gg hi)
  refine⟨b,m,by rw[e,em],hb,?_⟩
  have:=Bq vK.nd kw[i] (gg hi)
  rw[em]at this
  have this:bR kw (.inl (b:Int))=some (nV m):=this
  rw[vK.val b]at this
  obtain⟨m',e',em'⟩:=ck.mp this
  rw[e']
  congr 1
  have:=V.int.inj em'
  omega
 have of_:∀ b m:Nat,s.W a b=some m->∃ i,kw[i]? = some ((.inl (b:Int):Key),nV m):=fun b m e=>wL (by rw[vK.val b,e];rfl)
 dsimp only
 refine uB (fun c Hc=>Hc=H1∧c = !kw.isEmpty) (fun Qc qc=>⟨_,O,_,.inr (.inr ⟨kw,A6,O⟩),qc _ _ ⟨O,O⟩⟩) ?_ ?_
 ·rintro Hc ⟨rfl,e⟩
  have IH:0 < kw.length:=by cases kw with | nil=>cases e | cons p r=>exact Nat.succ_pos _
  have hF:∀ (i:Nat) (kv:Key × V),kw[i]? = some kv->kv.2 = .int (ML kw[i]?):=fun i kv cZ=>by
   obtain⟨b,m,e1,_⟩:=at_ i (ai.mp cZ).1
   rw[cZ]at e1
   cases e1
   rw[cZ];rfl
  refine⟨_,O,cw,kw,fun i=>ML kw[i]?,O,A6,IH,hF,fun i hi NC =>?_⟩
  dsimp only[bw]
  obtain⟨b0,m0,e0,hb0,hw0⟩:=at_ i hi
  have ev0:ML kw[i]? = (m0:Int):=by rw[e0];rfl
  rw[ev0]
  have least:∀ c m,s.W a c=some m->m0<=m:=fun c m ec=>by
   obtain⟨j,hj⟩:=of_ c m ec
   have:=NC j (ai.mp hj).1
   rw[ev0,hj]at this
   have this:(m0:Int)<=(m:Int):=this
   omega
  refine⟨_,O,cw,kw,O,A6,fun ob dxo =>?_⟩
  have Yo:A.Hd≠cw:=fun z=>(bQ.mp h.sep.nW).1 (by rw[z];exact ak w5)
  refine S7 (FhI Hc [aa o,aU a,aa cw,aU m0] cw ob kw m0) ⟨none,O,O,fun j hj=>absurd hj (ip j)⟩ ?_ ?_ ?_
  ·rintro j σ H' _ ⟨x4,rfl,rfl,_⟩
   exact aE
  ·rintro j kv σ H' cZ ⟨x4,rfl,rfl,qr⟩
   obtain⟨b,m,ej,hb,hwb⟩:=at_ j (ai.mp cZ).1
   rw[cZ]at ej
   cases ej
   dsimp only[bw]
   have Fy:bR kw (.inl (b:Int))=some (nV m):=by rw[vK.val b,hwb];rfl
   refine⟨_,O,_,O,cw,ob,kw,.inl (b:Int),nV m,O,O,aE,dxo,Fy,_,O,O,_,O,eF (fun em =>?_) (fun em =>?_)⟩
   ·have em:m=m0:=by have:=V.int.inj em;omega
    subst em
    refine⟨_,O,_,O,_,O,(show 3<=sizeLine by decide),fun p hp =>?_⟩
    have Yg:p≠cw:=fun z=>by rw[z,aE]at hp;cases hp
    have Zd:Hc p=none:=by rw[aF Yg]at hp;exact hp
    have npH:A.Hd≠p:=bX hg1 Zd
    have FF:o≠cw:=a9 h1.ins A6 nofun
    have afY:(upd (upd Hc cw (Ext cw ob)) p (.tup [nV m,nV a,nV b])) o=some (.ins CS dx [("terms",.ref A.T),("least",.ref A.L),("waiting",.ref A.W),("heads",.ref A.Hd),("single",.ref A.Sg),("steps",.ref A.S),("awaited",.ref A.Aw),("lacking",.ref A.Lk)]):=by rw[aF (bX h1.ins Zd),aF FF];exact h1.ins
    have UI:(upd (upd Hc cw (Ext cw ob)) p (.tup [nV m,nV a,nV b])) A.Hd=some (.dK Ul):=by rw[aF npH,aF Yo];exact hg1
    refine⟨_,O,o,CS,dx,_,_,O,afY,Z.cS,Z.pG,O,_,O,A.Hd,_,O,Ca.k (k := .inl (a:Int)) UI (c6 (by have:=UJ.dR;have:=h.dR;omega)),?_⟩
    refine⟨cw,ob,kw,by rw[aF (cM Yo),aF (cM Yg),aE],dxo,?_⟩
    have eh:upd (upd (upd (upd Hc cw (Ext cw ob)) p (.tup [nV m,nV a,nV b])) A.Hd (.dK (eP Ul (.inl (a:Int)) (.ref p)))) cw (.dK kw)=upd (upd Hc p (.tup [nV m,nV a,nV b])) A.Hd (.dK (eP Ul (.inl (a:Int)) (.ref p))):=by
     funext c
     by_cases ec:c=cw
     ·subst ec
      rw[aE,aF (cM Yo),aF (cM Yg),A6]
     ·rw[aF ec]
      by_cases eh:c=A.Hd
      ·subst eh
       rw[aE,aE]
      ·rw[aF eh,aF eh]
       by_cases ep:c=p
       ·subst ep
        rw[aE,aE]
       ·rw[aF ep,aF ep,aF ec]
    show Q V.cJ (upd (upd (upd (upd Hc cw (Ext cw ob)) p (.tup [nV m,nV a,nV b])) A.Hd (.dK (eP Ul (.inl (a:Int)) (.ref p)))) cw (.dK kw))
    rw[eh]
    obtain⟨H4,eH,s4,FE⟩:=alloc Zd (.tup [nV m,nV a,nV b])
    rw[eH]
    have h4:=h1.same s4
    have Ut:=(UJ.but (H':=H4) fun c ys e=>s4 _ _ e).put ha FE
    refine q (some (m,b)) _ ⟨nofun,fun k y z=>by cases z;exact⟨hwb,least⟩⟩ ((b1.same s4).upd (.inr (.inr (.inl rfl)))) ?_
    have h5:=h4.RG _ Ut
    have es:(⟨s.L,s.W,fun x=>if x=a then some (m,b) else (fun x=>if x=a then none else s.Hd x) x,s.Sg,s.St,s.dn⟩:SS)={ s with Hd:=fun x=>if x=a then some (m,b) else s.Hd x }:=by
     have e3:(fun x=>if x=a then some (m,b) else (fun x=>if x=a then none else s.Hd x) x)=fun x=>if x=a then some (m,b) else s.Hd x:=funext fun x=>by
      by_cases ex:x=a
      ·rw[if_pos ex,if_pos ex]
      ·rw[if_neg ex,if_neg ex];exact if_neg ex
     rw[e3]
    rw[<- es]
    exact h5
   ·refine⟨_,O,O,fun j' IW =>?_⟩
    rcases ke (Nat.le_of_lt_succ IW) with z | z
    ·exact qr j' z
    ·rw[z,cZ]
     exact fun z2=>em (by have z2:(m:Int)=(m0:Int):=z2;show V.int _=V.int _;rw[z2])
  ·rintro σ H' ⟨x4,rfl,rfl,qr⟩
   exact absurd ev0 (qr i hi)
 ·rintro Hc ⟨rfl,e⟩
  refine q none Hc ⟨fun _ y =>?_,fun k y z=>nomatch z⟩ b1 h1
  have:kw = []:=by cases kw with | nil=>rfl | cons p r=>cases e
  have hv:=vK.val y
  rw[this,xx]at hv
  cases ew:s.W a y with
  | none=>rfl
  | some m=>rw[ew]at hv;cases hv
theorem GR {as bs:List Nat}{i x y:Nat} (hx:as[i]? = some x) (hy:bs[i]? = some y):fg (as.take (i+1)) (bs.take (i+1))=fg (as.take i) (bs.take i) ++ (if x=y then [] else [(x,y)]):=by
 unfold fg
 rw[iz,iz,hx,hy]
 have e:(as.take i ++ [x]).zip (bs.take i ++ [y])=(as.take i).zip (bs.take i) ++ [(x,y)]:=by
  have hl:(as.take i).length=(bs.take i).length:=by
   have:=(ai.mp hx).1
   have:=(ai.mp hy).1
   rw[cj,cj];omega
  rw[List.zip_append hl];rfl
 show List.filter _ ((as.take i ++ [x]).zip (bs.take i ++ [y]))=_
 rw[e,Ad]
 congr 1
 by_cases q:x=y
 ·rw[if_pos q,iL (by simp[q])];rfl
 ·rw[if_neg q,iK (by simp[q])];rfl
inductive Vg (vs:List V) (H:Hp) (Q:VK):Prop
 | mk (T:Addr) (us:List V) (ts:List Tm) (a b:Nat) (x y:Str) (as bs:List Nat) (z0:vs = [.ref T,nV a,nV b]) (z1:H T=some (.lst us)) (z2:kJ H us ts) (z3:ts[a]? = some (.of x as)) (z4:ts[b]? = some (.of y bs)) (z5:as.length=bs.length) (z6:as.length<=1000)
  (z7:∀ D jk H',bu H H'->H D=none->H' D=some (.lst jk)->dY H' jk (cN ts a b)->Q (.ref D) H'):Vg vs H Q
def GC:Sp:=fun vs H Q _=>Vg vs H Q
theorem tm_val {H:Hp}{us:List V}{ts:List Tm} (h:kJ H us ts) {a:Nat}{x:Str}{as:List Nat} (ha:ts[a]? = some (.of x as)):∃ t c,us[a]? = some (.ref t)∧H t=some (.tup [.str "of",.str x,.ref c])∧H c=some (.tup (as.map nV)):=by
 have hl:=(ai.mp ha).1
 have hu:us[a]? = some (us[a]'(by rw[aP h];exact hl)):=aj _
 obtain⟨t,ht,htu⟩:=wM h hu
 rw[ha]at ht
 cases ht
 obtain⟨t,c,e,h1,h2⟩:=htu
 exact⟨t,c,by rw[hu,e],h1,h2⟩
theorem Ep (tY:mg "zip" = none) (D:Def K mg "unlike_arms" oh wa4):ed P w K mg base 1 "unlike_arms" wa4 GC:=by
 refine D.has D9 (fun vs H Q E h =>?_) (fun f cO A outer s H vs Q E hr h =>?_)
 ·obtain⟨T,us,ts,a,b,x,y,as,bs,rfl,_⟩:=h;rfl
 obtain⟨T,us,ts,a,b,x,y,as,bs,rfl,hT,fR,ha,hb,hl,GI,q⟩:=h
 refine⟨_,(aI (cm (R7 (te:=_) (ct:=(GA (vF _ _ _))) (own := ["x", "y"]) (caps := []) (gK (aX oh) wa4 O O O (by decide +kernel)) (Em O tY (ae (aJ bp (aJ bz (pv 0) (pv 1)) aD) (ae (aJ bp (aJ bz (pv 0) (pv 2)) aD) aq))) O (fun _ _ _=>OX (K:=K) O O (show (["x", "y"]:List Str).Nodup by decide +kernel) O O O O) (fun _ _ _=>(bE iZ (pv 0) (pv 1) (bS _))) (fun _ _ _=>(cQ (ae (pv 0) (ae (pv 1) aq))))))),?_⟩
 try dsimp only[dQ]
 obtain⟨ta,ca,Y3,PQ,gy⟩:=tm_val fR ha
 obtain⟨tb,cb,Y2,Lv,iX⟩:=tm_val fR hb
 refine⟨_,O,_,O,T,_,_,_,O,O,aZ.of hT,aL Y3,ta,_,2,_,O,O,bD.of PQ,aL (j:=2) rfl,_,O,_,O,T,_,_,_,O,O,aZ.of hT,aL Y2,tb,_,2,_,O,O,bD.of Lv,aL (j:=2) rfl,ca,cb,as.map nV,bs.map nV,O,bD.of gy,bD.of iX,?_⟩
 intro D hD
 refine⟨fun i m τ zs H'=>m=as.length - i∧i<=as.length∧(∃ o p, τ = [o,p])∧dY H' zs (fg (as.take i) (bs.take i))∧bu H H'∧H' D=some (.lst zs),⟨as.length,by simp,bA _,⟨none,none,O⟩,by rw[jz,jz];exact .nil,bf hD _,aE⟩,?_⟩
 rintro i m τ zs H' ⟨rfl,hi,⟨o1,o2,rfl⟩,yD,sm,r9⟩
 refine⟨r9,?_⟩
 have hA:=bD.of (K:=K) (sm _ _ gy)
 have hB:=bD.of (K:=K) (sm _ _ iX)
 by_cases cU:i < as.length
 ·have hx:as[i]? = some as[i]:=aj cU
  have hy:bs[i]? = some (bs[i]'(by omega)):=aj (by omega)
  generalize as[i]=u at hx
  generalize bs[i]'(by omega)=v at hy
  have hzl:zs.length<=i:=by
   rw[aP yD]
   unfold fg
   refine bq (jh ..) ?_
   rw[wb,cj]
   omega
  refine .inr ⟨⟨_,_,nV u,nV v,hA,hB,by rw[aG,hx];rfl,by rw[aG,hy];rfl⟩,c6 (by omega),fun r H2 yl =>?_⟩
  obtain⟨p,u',v',hp,rfl,CY,uL,rfl⟩:=yl
  have eu:u'=nV u:=by have:=CY _ hA;rw[aG,hx]at this;exact(aH this).symm
  have ev:v'=nV v:=by have:=uL _ hB;rw[aG,hy]at this;exact(aH this).symm
  subst eu ev
  refine⟨p,_,O,bD.of aE,O,_,_,O,_,_,O,O,?_⟩
  have s2:=bf hp (.tup [nV u,nV v])
  have oY:=s2 _ _ r9
  have CV:=bJ yD (H':=upd H' p (.tup [nV u,nV v])) fun c ys e=>s2 _ _ e
  have fH:=sm.trans s2
  generalize upd H' p (.tup [nV u,nV v])=H3 at s2 oY CV fH ⊢
  have nx:=GR hx hy
  refine⟨_,O,_,O,O,_,O,fC (fun ne =>?_) (fun eq =>?_)⟩
  ·have ne:u≠v:=fun z=>ne (by rw[z])
   refine⟨_,O,_,O,(show 2<=sizeLine by decide),fun q hq =>?_⟩
   obtain⟨H4,eH,s4,IF⟩:=alloc hq (.tup [nV u,nV v])
   rw[eH]
   have Jl:=s4 _ _ oY
   have kp:∀ c ys,H4 c=some (.tup ys)->(upd H4 D (.lst (zs ++ [.ref q]))) c=some (.tup ys):=fun c ys e=>by rw[aF (a9 e Jl nofun)];exact e
   refine⟨Jl,as.length - (i+1),by omega,O,cU,⟨_,_,O⟩,?_,(fH.trans s4).put hD,aE⟩
   rw[nx,if_neg ne]
   exact gj (bJ (bJ CV fun c ys e=>s4 _ _ e) kp) (.cons ⟨q,O,kp _ _ IF⟩ .nil)
  ·have eq:u=v:=by have:=V.int.inj eq;omega
   refine⟨as.length - (i+1),by omega,O,cU,⟨_,_,O⟩,?_,fH,oY⟩
   rw[nx,if_pos eq,da]
   exact CV
 ·have e:i=as.length:=by omega
  subst e
  refine .inl ⟨⟨_,hA,by rw[ar]⟩,q D zs H' sm hD r9 ?_⟩
  rw[bB,hl,bB]at yD
  have eu:cN ts a b=fg as bs:=by unfold cN;rw[ha,hb];rfl
  rw[eu];exact yD
inductive aaY (vs:List V) (H:Hp) (Q:VK):Prop
 | mk (T Lc:Addr) (Lr:List Addr) (us:List V) (ts:List Tm) (L:Mx) (a b:Nat) (x y:Str) (as bs:List Nat) (z0:vs = [.ref T,.ref Lc,nV a,nV b]) (z1:H T=some (.lst us)) (z2:kJ H us ts) (z3:ts[a]? = some (.of x as)) (z4:ts[b]? = some (.of y bs)) (z5:as.length=bs.length) (z6:as.length<=1000)
  (z8:H Lc=some (.lst (Lr.map V.ref))) (z9:Lr.length=ts.length) (AV:∀ (r:Nat) (c:Addr),Lr[r]? = some c->H c=some (.lst (ib L ts.length r))) (GO:∀ p∈cN ts a b,p.1 < ts.length∧p.2 < ts.length∧∃ k,L p.1 p.2=some k)
  (z7:∀ H',bu H H'->Q (nV (cK ts L a b)) H'):aaY vs H Q
def RD:Sp:=fun vs H Q _=>aaY vs H Q
theorem y0 {g:Nat × Nat->Nat}{p:Nat × Nat}:∀ {l:List (Nat × Nat)},lI g (l ++ [p])=lI g l+g p
 | []=>by show g p+0=0+g p;omega
 | q :: l=>by show g q+lI g (l ++ [p])=g q+lI g l+g p;rw[y0];omega
theorem et {α : Type}{l:List α}{i:Nat}{a : α} (h:l[i]? = some a):l.take (i+1)=l.take i ++ [a]:=by rw[iz,h];rfl
inductive LLI (H:Hp) (τ : St) (rq:List (Option V)) (g:Nat × Nat->Nat) (l:List (Nat × Nat)) (i:Nat) (σ : St) (H':Hp):Prop
 | mk (x5 x6:Option V):(σ = τ ++ [some (nV (1+lI g (l.take i))),x5,x6])->H'=H->LLI H τ rq g l i σ H'
theorem Er (gJ:ed P w K mg base 1 "unlike_arms" wa4 GC) (D:Def K mg "like_length" sH wa5):ed P w K mg base 2 "like_length" wa5 RD:=by
 refine D.has kU (fun vs H Q E h =>?_) (fun f cO A outer s H vs Q E hr h =>?_)
 ·obtain⟨T,Lc,Lr,us,ts,L,a,b,x,y,as,bs,rfl,_⟩:=h;rfl
 obtain⟨T,Lc,Lr,us,ts,L,a,b,x,y,as,bs,rfl,hT,fR,ha,hb,hl,GI,hLc,lLr,vM,iR,q⟩:=h
 refine⟨_,(ax (bC (i:=4) kU.nd O (aM O) aD)
  (ax (dJ bI O (eQ (bG gJ hr (by omega) O (ae (pv 0) (ae (pv 2) (ae (pv 3) aq))))) (lY O (dH (bL (i:=5) kU.nd O (aM O)) (dH (bL (i:=6) kU.nd O (aM O)) jX)))
  (aI (XU (i:=4) kU.nd O (aM O) (aJ bz (aJ bz (pv 1) (pv 5)) (pv 6)) YN)))
  (aI (cm (pv 4))))),?_⟩
 try dsimp only[dQ]
 refine⟨_,O,_,O,_,O,T,us,ts,a,b,x,y,as,bs,O,hT,fR,ha,hb,hl,GI,fun D1 rA H1 s1 U4 lh tG =>?_⟩
 refine⟨D1,O,⟨_,aZ.of lh⟩,?_⟩
 refine fK (xs:=rA) (LLI H1 [aa T,aa Lc,aU a,aU b] [] (fun p=>(L p.1 p.2).getD 0) (cN ts a b)) ⟨none,none,O,O⟩ ?_ ?_ ?_
 ·rintro i σ H' _ ⟨x5,x6,rfl,rfl⟩
  exact aZ.of lh
 ·rintro i v σ H' hv ⟨x5,x6,rfl,rfl⟩
  obtain⟨⟨u,t⟩,vL,p,rfl,hp⟩:=Paired.at tG hv
  obtain⟨hu,ht,k,hk⟩:=iR _ (ak vL)
  dsimp only at hu ht hk
  obtain⟨cu,P6⟩:∃ c,Lr[u]? = some c:=⟨_,aj (by rw[lLr];exact hu)⟩
  refine⟨p,_,O,bD.of hp,O,_,_,O,_,_,O,O,?_⟩
  have uM:=aL (nY (L:=L) (n:=ts.length) (a:=u) ht)
  rw[hk]at uM
  refine⟨_,O,_,O,_,O,Lc,_,_,_,O,O,aZ.of (s1 _ _ hLc),fZ P6,_,O,cu,_,_,_,O,O,aZ.of (s1 _ _ (vM u cu P6)),uM,_,_,O,O,⟨some (nV u),some (nV t),?_,O⟩⟩
  rw[et vL,y0]
  dsimp only
  rw[hk]
  generalize lI (fun p=>(L p.1 p.2).getD 0) ((cN ts a b).take i)=S
  have ev:V.int (((1+S:Nat):Int)+(k:Int))=nV (1+(S+k)):=by
   show V.int _=V.int _
   congr 1
   omega
  show [some (V.ref T),some (V.ref Lc),some (nV a),some (nV b),some (V.int (((1+S:Nat):Int)+(k:Int))),some (nV u),some (nV t)] = [some (V.ref T),some (V.ref Lc),some (nV a),some (nV b),some (nV (1+(S+k))),some (nV u),some (nV t)]
  rw[ev]
 ·rintro σ H' ⟨x5,x6,rfl,rfl⟩
  rw[aP tG,bB]
  exact⟨_,O,q _ s1⟩
theorem Ic {ts:List Tm}{es:List cy}{ls:List Nat}{lp:List (Nat × Nat)}{nd:Nat × Nat->List (Nat × Nat)}{s:SS}{lk:kF} (hp:LP ts ls lp nd) {u v k:Nat} (Iz:u < v) (h:SI ts es ts.length s) (hh:oK s) (top:∀ x∈s.dn,x.k<=k) (IA:s.L u v=some k) {p:Nat × Nat} (hm:p∈lp) (hq:(u,v)∈nd p) (e1:lk p=iG s (nd p)+1) :
  kG ts es ts.length s (dI ts (s,lk) p).1∧(fD lk p p=0->∀ q∈nd p,sB s q=true):=by
 have e2:fD lk p p=iG s (nd p):=by unfold fD;rw[if_pos rfl,e1];rfl
 refine⟨?_,fun z=>xF.mp (e2.symm.trans z)⟩
 by_cases ez:fD lk p p=0
 ·have zP:dI ts (s,lk) p=(ji s p.1 p.2 (cK ts s.L p.1 p.2) true,fD lk p):=if_pos ez
  rw[zP]
  have iR:=xF.mp (e2.symm.trans ez)
  obtain⟨cU,x,as,bs,ha,hb,eg⟩:=hp.at_ p hm
  have S3:k<=cK ts s.L p.1 p.2:=by
   obtain⟨r,hr,er⟩:=(hp.HQ p hm _).mp hq
   have hL:s.L r.1 r.2=some k:=by
    have q1:min r.1 r.2=u:=congrArg cL er
    have q2:max r.1 r.2=v:=congrArg ym er
    rcases gb r.1 r.2 with q | q
    ·rw[show r.1=u by omega,show r.2=v by omega];exact IA
    ·rw[show r.1=v by omega,show r.2=u by omega,h.sym];exact IA
   have:=xB (g:=fun p=>(s.L p.1 p.2).getD 0) hr
   have this:(s.L r.1 r.2).getD 0<=lI (fun p=>(s.L p.1 p.2).getD 0) (cN ts p.1 p.2):=this
   rw[hL]at this
   have this:k<=lI (fun p=>(s.L p.1 p.2).getD 0) (cN ts p.1 p.2):=this
   unfold cK
   omega
  exact(Ci (sg:=true) h hh (ai.mp ha).1 (ai.mp hb).1 (fun y hy=>bq (top y hy) S3) (by unfold cK;omega) (Ie h hp hm iR) (fun _ => .inl rfl)).1
 ·have zP:dI ts (s,lk) p=(s,fD lk p):=if_neg ez
  rw[zP]
  exact kG.refl h hh
theorem Sz {ts:List Tm}{s:SS}{lk:kF} (p:Nat × Nat):(dI ts (s,lk) p).2=fD lk p:=by
 unfold dI
 split <;> rfl
theorem FP {ts:List Tm}{st:SS × kF}{l:List (Nat × Nat)}{i:Nat}{p:Nat × Nat} (h:l[i]? = some p):(l.take (i+1)).foldl (dI ts) st=dI ts ((l.take i).foldl (dI ts) st) p:=by
 rw[et h,nP];rfl
theorem Ia {ts:List Tm}{es:List cy}{ls:List Nat}{lp:List (Nat × Nat)}{nd:Nat × Nat->List (Nat × Nat)}{s:SS}{lk:kF} (hp:LP ts ls lp nd) {u v k:Nat} (Iz:u < v) (h:SI ts es ts.length s) (hh:oK s) (top:∀ x∈s.dn,x.k<=k) (ZH:s.Dn u v k) {l:List (Nat × Nat)} (hn:l.Nodup) (hl:∀ p∈l,p∈lp∧(u,v)∈nd p) (hk:∀ p∈l,lk p=iG s (nd p)+1) :
  ∀ i,i<=l.length->kG ts es ts.length s ((l.take i).foldl (dI ts) (s,lk)).1∧∀ j p,l[j]? = some p->i<=j->((l.take i).foldl (dI ts) (s,lk)).2 p=lk p
 | 0,_=>⟨kG.refl h hh,fun j p _ _=>rfl⟩
 | i+1,hi=>by
  obtain⟨kp,sn⟩:=Ia hp Iz h hh top ZH hn hl hk i (by omega)
  have Ly:l[i]? = some l[i]:=aj (by omega)
  generalize l[i]=p at Ly
  rw[FP Ly]
  have e0:=sn i p Ly (au _)
  generalize (l.take i).foldl (dI ts) (s,lk)=st at kp sn e0 ⊢
  obtain⟨s1,Yu⟩:=st
  dsimp only at kp sn e0
  obtain⟨hm,hq⟩:=hl p (ak Ly)
  have d1:s1.Dn u v k:=by unfold SS.Dn;rw[kp.dn];exact ZH
  have ae9:iG s1 (nd p)=iG s (nd p):=by unfold iG sB;rw[kp.dn]
  obtain⟨k1,_⟩:=Ic (lk:=Yu) hp Iz kp.si kp.hd (by rw[kp.dn];exact top) (kp.si.Bg d1).1 hm hq (by rw[e0,ae9];exact hk p (ak Ly))
  refine⟨kp.trans k1,fun j p' hj zK =>?_⟩
  rw[Sz]
  unfold fD
  rw[if_neg (fun z=>by
   rw[z]at hj
   have:=(jq (ai.mp hj).1 hn).mp (hj.trans Ly.symm)
   omega)]
  exact sn j p' hj (by omega)
def acj (s:SS):Prop := ∀ x,(s.St x).length<=s.dn.length
def t4 (A:SA) (c:Addr):Prop:=ES A c∨c∈A.Sr∨c=A.Lk
def iU (A:SA) (H H':Hp):Prop := ∀ c o, ¬ t4 A c->H c=some o->H' c=some o
theorem iU.of {A:SA} {H H':Hp} (h:jt A H H'):iU A H H':=fun c o n e=>h c o (fun z=>n (.inl z)) e
theorem iU.trans {A:SA}{H H1 H2:Hp} (a:iU A H H1) (b:iU A H1 H2):iU A H H2:=fun c o n e=>b c o n (a c o n e)
theorem iU.upd {A:SA} {H H':Hp} (a:iU A H H') {c:Addr}{o:HO} (hc:t4 A c):iU A H (upd H' c o):=fun d u n e=>by rw[aF (fun z=>n (by rw[z];exact hc))];exact a d u n e
theorem iU.same {A:SA}{H H1 H2:Hp} (a:iU A H H1) (b:bu H1 H2):iU A H H2:=fun c o n e=>b _ _ (a c o n e)
def rO (lp:List (Nat × Nat)) (lk:kF):Nat × Nat->Option Nat:=fun p=>if p∈lp then some (lk p) else none
theorem Wj {lp:List (Nat × Nat)}{lk:kF}{p:Nat × Nat} (hm:p∈lp) (q:Nat × Nat):((rO lp (fD lk p)) q).map nV=if q=p then some (nV (fD lk p p)) else ((rO lp lk) q).map nV:=by
 unfold rO
 by_cases e:q=p
 ·subst e;rw[if_pos hm,if_pos rfl];rfl
 ·rw[if_neg e]
  by_cases hq:q∈lp
  ·rw[if_pos hq,if_pos hq]
   unfold fD
   rw[if_neg e]
  ·rw[if_neg hq,if_neg hq]
theorem dj.dnG {H:Hp}{o dx:Addr}{A:SA}{us:List V}{ts:List Tm}{aw:Nat × Nat->List (Nat × Nat)}{s:SS}{lk:Nat × Nat->Option Nat} (h:dj P w CS o dx A us ts aw H s lk) (d:List DE):dj P w CS o dx A us ts aw H { s with dn:=d } lk :=
 ⟨h.ins,h.hT,h.KO,h.hL,h.lL,h.rL,h.hW,h.lW,h.rW,h.hH,h.sg,h.hS,h.lS,h.rS,h.mD,h.l3,h.sep,h.dR⟩
theorem dj.Ld {H:Hp}{o dx:Addr}{A:SA}{us:List V}{ts:List Tm}{aw:Nat × Nat->List (Nat × Nat)}{s:SS}{lk:Nat × Nat->Option Nat} (h:dj P w CS o dx A us ts aw H s lk) {c:Addr}{u:HO} (hc:H c=some u) (hl:c ∉ A.Lr) (hs:c ∉ A.Sr) (hd:∀ kvs,u ≠ .dK kvs) (he:∀ φ,u ≠ .ext φ):¬ t4 A c:=by
 rintro(z | z | z)
 ·exact h.HK hc hl hd he z
 ·exact hs z
 ·obtain⟨kvs,e⟩:=h.l3
  obtain⟨φ,e⟩:=e.dn.ext
  rw[<- z,hc]at e
  exact he _ (aH e)
theorem dj.Ou {H:Hp}{o dx:Addr}{A:SA}{us:List V}{ts:List Tm}{aw:Nat × Nat->List (Nat × Nat)}{s:SS}{lk:Nat × Nat->Option Nat} (h:dj P w CS o dx A us ts aw H s lk) {c:Addr}{ys:List V} (hc:H c=some (.tup ys)):¬ t4 A c:=by
 refine h.Ld hc (fun z =>?_) (fun z =>?_) (fun _ z=>nomatch z) (fun _ z=>nomatch z)
 ·obtain⟨i,hi⟩:=aT z
  have:=h.rL i c hi
  rw[hc]at this;cases this
 ·obtain⟨i,hi⟩:=aT z
  obtain⟨vs,e,_⟩:=h.rS i c hi
  rw[hc]at e;cases e
inductive SlI (P:Program) (w:World) (CS o dx:Addr) (A:SA) (us:List V) (ts:List Tm) (aw:Nat × Nat->List (Nat × Nat)) (lp:List (Nat × Nat)) (H:Hp) (τ : St) (st:SS × kF) (l:List (Nat × Nat)) (i:Nat) (σ : St) (H':Hp):Prop
 | mk (x4 x5:Option V):(σ = τ ++ [x4,x5])->iU A H H'->dj P w CS o dx A us ts aw H' ((l.take i).foldl (dI ts) st).1 (rO lp ((l.take i).foldl (dI ts) st).2)->SlI P w CS o dx A us ts aw lp H τ st l i σ H'
structure Mo (P:Program) (w:World) (CS o dx:Addr) (A:SA) (us:List V) (ts:List Tm) (es:List cy) (ls:List Nat) (lp:List (Nat × Nat)) (nd:Nat × Nat->List (Nat × Nat)) (aw:Nat × Nat->List (Nat × Nat)) (H:Hp) (s:SS) (lk:kF):Prop where
 at_:dj P w CS o dx A us ts aw H s (rO lp lk)
 all:yw ts es lp nd s lk
 len:acj s
structure Fix (ts:List Tm) (ls:List Nat) (lp:List (Nat × Nat)) (nd:Nat × Nat->List (Nat × Nat)) (aw:Nat × Nat->List (Nat × Nat)):Prop where
 Lj:LP ts ls lp nd
 Vf:∀ q,(aw q).Nodup
 L9:∀ q p,p∈aw q↔p∈lp∧q∈nd p
 qo:∀ (i:Nat) x as,ts[i]? = some (.of x as)->as.length<=1000∧∀ a∈as,a < ts.length
inductive JR (P:Program) (w:World) (CS:Addr) (vs:List V) (H:Hp) (Q:VK):Prop
 | mk (o dx:Addr) (A:SA) (us:List V) (ts:List Tm) (es:List cy) (ls:List Nat) (lp:List (Nat × Nat)) (nd:Nat × Nat->List (Nat × Nat)) (aw:Nat × Nat->List (Nat × Nat)) (s:SS) (lk:kF) (a b k:Nat) (z0:vs = [.ref o,nV a,nV b,nV k]) (z1:Mo P w CS o dx A us ts es ls lp nd aw H s lk) (z2:Fix ts ls lp nd aw) (z3:s.W a b=some k) (z4:∀ c d m,s.W c d=some m->k<=m)
  (z5:∀ s' A3 H',iU A H H'->Mo P w CS o dx A us ts es ls lp nd aw H' s' A3->s'.dn.length=s.dn.length+1->Q .cJ H'):JR P w CS vs H Q
def G6 (P:Program) (w:World) (CS:Addr):Sp:=fun vs H Q _=>JR P w CS vs H Q
theorem abE {o:Option Nat}{k:Nat}:decide ((DG nV o).getD V.cJ=nV k)=decide (o=some k):=by
 rw[fQ,decide_eq_true_iff,decide_eq_true_iff]
 cases o with
 | none=>exact⟨fun z=>(nomatch z),fun z=>(nomatch z)⟩
 | some m=>exact⟨fun z=>by have z:V.int m=V.int k:=z;have:=V.int.inj z;congr 1;omega,fun z=>by cases z;rfl⟩
theorem Pu {ts:List Tm}{es:List cy}{ls:List Nat}{lp:List (Nat × Nat)}{nd:Nat × Nat->List (Nat × Nat)}{s s3:SS}{lk:kF} (A:yw ts es lp nd s lk) (hp:LP ts ls lp nd) {a b k:Nat}{f:Bool} (hw:s.W a b=some k) (qv:s3.dn=s.dn ++ [⟨a,b,k,f⟩]) {p:Nat × Nat} (hm:p∈lp) (hq:(a,b)∈nd p):lk p=iG s3 (nd p)+1:=by
 have hb:sB s (a,b)=false:=by
  cases e:sB s (a,b) with
  | false=>rfl
  | true =>
   obtain⟨x,hx,g1,g2⟩:=pD.mp e
   have:=(A.si.dl x hx).2.2
   rw[g1,g2,hw]at this;cases this
 have h3:∀ q,sB s3 q=true↔sB s q=true∨q=(a,b):=fun q=>by
  rw[pD,pD,qv]
  constructor
  ·rintro⟨x,hx,g⟩
   rcases aA.mp hx with hx | hx
   ·exact .inl ⟨x,hx,g⟩
   ·rw[aB.mp hx]at g
    exact .inr (oF g.1.symm g.2.symm)
  ·rintro(⟨x,hx,g⟩ | rfl)
   ·exact⟨x,aA.mpr (.inl hx),g⟩
   ·exact⟨_,aA.mpr (.inr (bx _)),O,O⟩
 rw[A.Yw p hm,By hb h3 (hp.ndd p hm),if_pos hq]
theorem dj.afm {H:Hp}{o dx:Addr}{A:SA}{us:List V}{ts:List Tm}{aw:Nat × Nat->List (Nat × Nat)}{s:SS}{lk:Nat × Nat->Option Nat} (h:dj P w CS o dx A us ts aw H s lk) {c:Addr} (hc:H c=none):¬ t4 A c:=by
 rintro((z | z | z | z) | z | z)
 ·obtain⟨i,hi⟩:=aT z
  rw[h.rL i c hi]at hc;cases hc
 ·obtain⟨i,hi⟩:=aT z
  obtain⟨kvs,e,_⟩:=h.rW i c hi
  rw[hc]at e;cases e
 ·obtain⟨kvs,e,_⟩:=h.hH
  rw[<- z,hc]at e;cases e
 ·obtain⟨kvs,e⟩:=h.sg
  obtain⟨φ,e⟩:=e.dn.ext
  rw[<- z,hc]at e;cases e
 ·obtain⟨i,hi⟩:=aT z
  obtain⟨kvs,e,_⟩:=h.rS i c hi
  rw[hc]at e;cases e
 ·obtain⟨kvs,e⟩:=h.l3
  obtain⟨φ,e⟩:=e.dn.ext
  rw[<- z,hc]at e;cases e
theorem WH {H:Hp}{o dx:Addr}{A:SA}{us:List V}{ts:List Tm}{aw:Nat × Nat->List (Nat × Nat)}{s:SS}{lk:Nat × Nat->Option Nat} (h:dj P w CS o dx A us ts aw H s lk) {kvs:List (NK × V)} (q:Nat × Nat) {c:Addr} (hc:H c=none)
  (hv:(aw q = []∧bR kvs (bZ q)=none)∨∃ c vs,bR kvs (bZ q)=some (.ref c)∧H c=some (.lst vs)∧dY H vs (aw q)∧c ∉ A.Lr∧c ∉ A.Sr) :
  ∃ d vs,(bR kvs (bZ q)).getD (.ref c) = .ref d∧(upd H c (.lst [])) d=some (.lst vs)∧dY (upd H c (.lst [])) vs (aw q)∧¬ t4 A d:=by
 rcases hv with⟨e1,e2⟩ | ⟨d,vs,e1,e2,e3,n1,n2⟩
 ·exact⟨c, [],by rw[e2];rfl,aE,by rw[e1];exact .nil,h.afm hc⟩
 ·have sm:=bf hc (.lst [])
  exact⟨d,vs,by rw[e1];rfl,sm _ _ e2,bJ e3 fun c ys e=>sm _ _ e,h.Ld e2 n1 n2 (fun _ z=>nomatch z) (fun _ z=>nomatch z)⟩
theorem O5 (B:jO mg) (Z:rg K mg CS) (wB:lU P w K mg base 1 CS "find_head" ["self", "a"] (OF P w CS)) (tU:lU P w K mg base 2 CS "lengthen" ee (TY P w CS)) (k9:lU P w K mg base 2 CS "offer_step" ee (G5 P w CS)) (jY:ed P w K mg base 2 "like_length" wa5 RD)
  (D:ni K CS "settle" "Search.settle" Bv ee):lU P w K mg base 3 CS "settle" ee (G6 P w CS):=by
 have cS:=Z.cS
 refine D.has zh (fun vs H Q E h =>?_) (fun f cO A outer s H vs Q E hr h =>?_)
 ·obtain⟨o,dx,A,us,ts,es,ls,lp,nd,aw,s,lk,a,b,k,rfl,_⟩:=h;rfl
 obtain⟨o,dx,A,us,ts,es,ls,lp,nd,aw,s,lk,a,b,k,rfl,rd,fx,hw,least,q⟩:=h
 refine⟨_,(ax (dF (HD (aJ bz (eB (pv 0) O) (pv 1)) (pv 2) ⟨O,O,O,O⟩))
  (ax (dF (tQ wB cS hr (by omega) (xK fun _ _ _ z=>z) (pv 0) (ae (pv 1) aq)))
  (ax (cV (bE gk (R1 (mn hr) (eB (pv 0) O) (cQ (ae (pv 1) (ae (pv 2) aq))) ⟨O,O,O,O⟩) (pv 3) (bS _)) (ax (dF (lM bU cD cC f6 (aJ bz (eB (pv 0) O) (pv 1)) (ae (cQ (ae (pv 2) (ae (pv 3) aq))) aq)))
  (aI (dF (lM bU cD cC f6 (aJ bz (eB (pv 0) O) (pv 2)) (ae (cQ (ae (pv 1) (ae (pv 3) aq))) aq))))) cg)
  (ax (dF (tQ tU cS hr (by omega) (xK fun _ _ _ z=>z) (pv 0) (ae (pv 1) (ae (pv 2) (ae (pv 3) aq)))))
  (ax (dF (tQ tU cS hr (by omega) (xK fun _ _ _ z=>z) (pv 0) (ae (pv 2) (ae (pv 1) (ae (pv 3) aq)))))
  (aI (dJ fJ O (eQ (R0 (mn hr) (eB (pv 0) O) (cQ (ae (pv 1) (ae (pv 2) aq))) (kY aq) ⟨O,O,O,O⟩)) (lY O (dH (bL (i:=4) zh.nd O (aM O)) (dH (bL (i:=5) zh.nd O (aM O)) jX)))
  (ax (VR (eB (pv 0) O) (cQ (ae (pv 4) (ae (pv 5) aq))) (aak (mn hr)) aD YM (Xu (mn hr)))
  (aI (cV (bE gk (Eo (mn hr) (eB (pv 0) O) (cQ (ae (pv 4) (ae (pv 5) aq))) (fun _ _=>O)) aD (bS _)) (aI (dF (tQ k9 cS hr (by omega) (xK fun _ _ _ z=>z) (pv 0) (ae (pv 4) (ae (pv 5) (ae (bG jY hr (by omega) O (ae (eB (pv 0) O) (ae (eB (pv 0) O) (ae (pv 4) (ae (pv 5) aq))))) aq)))))) cg)))))))))),?_⟩
 try dsimp only[dQ]
 have h:=rd.at_
 have si:=rd.all.si
 obtain⟨i6,agn⟩:=si.wl a b k hw
 obtain⟨ha,hb⟩:=si.yI a b k agn
 obtain⟨cw,w5⟩:∃ c,A.Wr[a]? = some c:=⟨_,aj (by rw[h.lW];exact ha)⟩
 obtain⟨kw,A6,vK⟩:=h.rW a cw w5
 have Fy:bR kw (.inl (b:Int))=some (nV k):=by rw[vK.val b,hw];rfl
 -- it MK no more
 refine⟨_,O,o,CS,dx,_,_,O,h.ins,Z.cS,Z.xP,O,_,O,A.W,_,_,_,O,O,aZ.of h.hW,fZ w5,cw,O,.inl ⟨_,.inl A6⟩,_,O,kw,.inl (b:Int),_,A6,O,Fy,?_⟩
 have h1:=h.Xv w5 (hJ s.W a b) (fun x y n=>by unfold hJ;rw[if_neg (fun z=>n z.1)]) vK.drop
 have b1:iU A H (upd H cw (.dK (lP kw (.inl (b:Int))))):=(iU.of (jt.refl A H)).upd (.inl (.inr (.inl (ak w5))))
 generalize upd H cw (.dK (lP kw (.inl (b:Int))))=H1 at h1 b1 ⊢
 have ZC:s.Hd a≠none:=fun z=>by rw[rd.all.hd.hn a z b]at hw;cases hw
 refine⟨_,O,o,dx,_,O,h1.ins,O,_,O,o,dx,A,us,ts,aw,_,rO lp lk,a,O,h1,ha,ZC,fun hd H2 rh b2 h2 =>?_⟩
 have b2:=b1.trans (iU.of b2)
 -- is it one step
 obtain⟨kg,g1⟩:=id h2.sg
 dsimp only
 refine gX (fun br H4 => br = [aa o,aU a,aU b,aU k,none,none]∧iU A H H4∧dj P w CS o dx A us ts aw H4 (pF s a b k (decide (s.Sg a b=some k)) hd) (rO lp lk)) ?_ (fun key =>?_)
 rotate_left
 ·refine uB (fun c Hc=>bu H2 Hc∧c=decide (s.Sg a b=some k)) (fun Qc qc =>?_) ?_ ?_
  ·refine⟨_,O,o,CS,dx,_,_,O,h2.ins,Z.cS,Z.Ey,O,A.Sg,O,⟨_,g1.dn⟩,_,O,_,O,(show 2<=sizeLine by decide),fun p hp =>?_⟩
   obtain⟨H3,eH,s3,wZ⟩:=alloc hp (.tup [nV a,nV b])
   rw[eH]
   refine⟨p,kg,bZ (a,b),O,g1.dn.same s3,jC wZ,?_⟩
   rw[g1.val]
   refine⟨_,O,(show RH ((DG nV (s.Sg a b)).getD V.cJ) (nV k)=true by cases s.Sg a b <;> rfl),_,O,?_⟩
   have:=qc (decide (s.Sg a b=some k)) H3 ⟨s3,O⟩
   rw[<- abE]at this
   exact this
  ·rintro Hc ⟨s3,e⟩
   have h3:=h2.same s3
   obtain⟨ca,gy⟩:∃ c,A.Sr[a]? = some c:=⟨_,aj (by rw[h.lS];exact ha)⟩
   obtain⟨cb,iX⟩:∃ c,A.Sr[b]? = some c:=⟨_,aj (by rw[h.lS];exact hb)⟩
   have ZH:s.dn.length<=900:=bq (Qx rd.all) (qS h.dR h.dR)
   obtain⟨va,rQ,jT⟩:=h3.rS a ca gy
   have la:=aP jT
   have l1:=rd.len a
   have la:va.length=(s.St a).length:=la
   refine⟨_,O,o,CS,dx,_,_,O,h3.ins,Z.cS,Z.CI,O,_,O,A.S,_,_,_,O,O,aZ.of h3.hS,fZ gy,.inl ⟨O,_,aZ.of rQ⟩,_,O,_,O,(show 2<=sizeLine by decide),fun q1 C0 =>?_⟩
   obtain⟨H4,eH,s4,IF⟩:=alloc C0 (.tup [nV b,nV k])
   rw[eH]
   refine⟨ca,_,_,O,O,s4 _ _ rQ,c6 (by omega),?_⟩
   have h4:=h3.same s4
   have h5:=h4.Xw gy (vs:=va ++ [.ref q1]) (fun x=>if x=a then s.St a ++ [(b,k)] else s.St x) (fun x n=>if_neg n) (by
    rw[if_pos rfl]
    exact gj (bJ jT fun c ys e=>s4 _ _ e) (.cons ⟨q1,O,IF⟩ .nil))
   have b5:iU A H (upd H4 ca (.lst (va ++ [.ref q1]))):=((b2.same s3).same s4).upd (.inr (.inl (ak gy)))
   generalize upd H4 ca (.lst (va ++ [.ref q1]))=H5 at h5 b5 ⊢
   obtain⟨vb,j6,nH⟩:=h5.rS b cb iX
   have nH:dY H5 vb (if b=a then s.St a ++ [(b,k)] else s.St b):=nH
   rw[if_neg (by omega)]at nH
   have lb:=aP nH
   have l2:=rd.len b
   refine⟨_,O,o,CS,dx,_,_,O,h5.ins,Z.cS,Z.CI,O,_,O,A.S,_,_,_,O,O,aZ.of h5.hS,fZ iX,.inl ⟨O,_,aZ.of j6⟩,_,O,_,O,(show 2<=sizeLine by decide),fun q2 IG =>?_⟩
   obtain⟨H6,eH,s6,Zb⟩:=alloc IG (.tup [nV a,nV k])
   rw[eH]
   refine⟨cb,_,_,O,O,s6 _ _ j6,c6 (by omega),key _ _ ⟨O,(b5.same s6).upd (.inr (.inl (ak iX))),?_⟩⟩
   have h6:=h5.same s6
   have h7:=h6.Xw iX (vs:=vb ++ [.ref q2]) (fun x=>if x=a then s.St a ++ [(b,k)] else if x=b then s.St b ++ [(a,k)] else s.St x) (fun x n=>by
    show _=if x=a then s.St a ++ [(b,k)] else s.St x
    by_cases ex:x=a
    ·rw[if_pos ex,if_pos ex]
    ·rw[if_neg ex,if_neg ex,if_neg n]) (by
    rw[if_neg (by omega),if_pos rfl]
    exact gj (bJ nH fun c ys e=>s6 _ _ e) (.cons ⟨q2,O,Zb⟩ .nil))
   have h8:=h7.dnG (s.dn ++ [⟨a,b,k,decide (s.Sg a b=some k)⟩])
   have es:(⟨s.L,hJ s.W a b,fun x=>if x=a then hd else s.Hd x,s.Sg,fun x=>if x=a then s.St a ++ [(b,k)] else if x=b then s.St b ++ [(a,k)] else s.St x,s.dn ++ [⟨a,b,k,decide (s.Sg a b=some k)⟩]⟩:SS)=pF s a b k (decide (s.Sg a b=some k)) hd:=by
    unfold pF
    rw[<- e]
    rfl
   rw[<- es]
   exact h8
  ·rintro Hc ⟨s3,e⟩
   refine key _ _ ⟨O,b2.same s3,?_⟩
   have h8:=(h2.same s3).dnG (s.dn ++ [⟨a,b,k,decide (s.Sg a b=some k)⟩])
   have es:(⟨s.L,hJ s.W a b,fun x=>if x=a then hd else s.Hd x,s.Sg,s.St,s.dn ++ [⟨a,b,k,decide (s.Sg a b=some k)⟩]⟩:SS)=pF s a b k (decide (s.Sg a b=some k)) hd:=by
    unfold pF
    rw[<- e]
    rfl
   rw[<- es]
   exact h8
 rintro br H4 ⟨rfl,b4,h4⟩
 have hf:s.Sg a b=some k->decide (s.Sg a b=some k)=true:=fun z=>decide_eq_true z
 generalize decide (s.Sg a b=some k)=fl at h4 hf
 obtain⟨i1,o1⟩:=OV (f:=fl) si rd.all.hd hw least hf rh
 have Xk:∀ x,∀ e∈(pF s a b k fl hd).St x,e.1 < ts.length:=fun x e he=>by
  obtain⟨y,hy,py,_⟩:=(i1.st x e.1 e.2).mp he
  exact(i1.yI _ _ _ (i1.Bg ⟨y,hy,py,O⟩).1).2
 -- abT
 refine⟨_,O,o,dx,_,O,h4.ins,O,_,O,_,O,_,O,o,dx,A,us,ts,aw,_,rO lp lk,a,b,k,O,h4,ha,hb,i1.diag,Xk b,fun H5 b5 h5 =>?_⟩
 obtain⟨s1,U8⟩:∃ s1,s1=pF s a b k fl hd:=⟨_,O⟩
 rw[<- U8]at h5 i1 o1 Xk
 obtain⟨s2,Qr⟩:∃ s2,s2=gY a k s1 (s1.St b):=⟨_,O⟩
 rw[<- Qr]at h5
 have zc:s2.St=s1.St:=by rw[Qr];exact E8 ..
 have dg2:nh ts.length s2:=by rw[Qr];exact wC ha i1.diag
 refine⟨_,O,o,dx,_,O,h5.ins,O,_,O,_,O,_,O,o,dx,A,us,ts,aw,_,rO lp lk,b,a,k,O,h5,hb,ha,dg2,by rw[zc];exact Xk a,fun H6 b6 h6 =>?_⟩
 obtain⟨s3,es3⟩:∃ s3,s3=gY b k s2 (s2.St a):=⟨_,O⟩
 rw[<- es3]at h6
 obtain⟨kk,fa3,qv,Yv,MS⟩:=Fd (f:=fl) si rd.all.hd rd.all.fa hw least hf rh s1 s2 s3 U8 Qr es3
 have WX:=To rd.all fx.Lj hw least hf rh (fx.Vf (a,b)) (fun p=>fx.L9 (a,b) p) s1 s2 s3 U8 Qr es3
 have d3:s3.Dn a b k:=⟨⟨a,b,k,fl⟩,by rw[qv];exact aA.mpr (.inr (bx _)),.inl ⟨O,O⟩,O⟩
 have mz:∀ p∈aw (a,b),p∈lp∧(a,b)∈nd p:=fun p hp=>(fx.L9 (a,b) p).mp hp
 have Zv:∀ p∈aw (a,b),lk p=iG s3 (nd p)+1:=fun p hp=>Pu rd.all fx.Lj hw qv (mz p hp).1 (mz p hp).2
 have mid:=Ia fx.Lj i6 kk.si kk.hd MS d3 (fx.Vf (a,b)) mz Zv
 have b6:=(b4.trans (iU.of b5)).trans (iU.of b6)
 obtain⟨ka,d0,dk,dq⟩:=id h6.mD
 -- Ro MK for it
 refine⟨_,O,o,CS,dx,_,_,O,h6.ins,Z.cS,Z.BG,O,A.Aw,O,⟨_,d0⟩,_,O,_,O,(show 2<=sizeLine by decide),fun p hp =>?_⟩
 obtain⟨H7,eH,s7,hp7⟩:=alloc hp (.tup [nV a,nV b])
 rw[eH]
 have h7:=h6.same s7
 have dq7:(aw (a,b) = []∧bR ka (bZ (a,b))=none)∨∃ c vs,bR ka (bZ (a,b))=some (.ref c)∧H7 c=some (.lst vs)∧dY H7 vs (aw (a,b))∧c ∉ A.Lr∧c ∉ A.Sr:=(dq (a,b)).imp id fun ⟨c,vs,g1,g2,g3,g4⟩=>⟨c,vs,g1,s7 _ _ g2,bJ g3 (fun c ys e=>s7 _ _ e),g4⟩
 refine⟨(show 0<=sizeLine by decide),fun c hc =>?_⟩
 obtain⟨cl,vl,g1,g2,g3,g4⟩:=WH h7 (a,b) hc dq7
 have s8:=s7.trans (bf hc (.lst []))
 have FD:=bf hc (.lst []) _ _ hp7
 generalize upd H7 c (.lst [])=H8 at g2 g3 s8 FD ⊢
 have h8:=h6.same s8
 have b8:=b6.same s8
 refine⟨p,ka,bZ (a,b),O,d0.same s8,jC FD,?_⟩
 rw[g1]
 refine⟨cl,O,⟨_,aZ.of g2⟩,?_⟩
 refine fK (xs:=vl) (SlI P w CS o dx A us ts aw lp H8 [aa o,aU a,aU b,aU k] (s3,lk) (aw (a,b))) ⟨none,none,O,fun c o _ e=>e,h8⟩ ?_ ?_ ?_
 ·rintro i σ H' _ ⟨x4,x5,rfl,bt,_⟩
  exact aZ.of (bt _ _ g4 g2)
 ·rintro i y σ H' hy ⟨x4,x5,rfl,bt,h'⟩
  obtain⟨pq,FC,pa,rfl,oW⟩:=Paired.at g3 hy
  have C1:=ak FC
  obtain⟨hm,hq⟩:=mz pq C1
  have cU:=(ai.mp FC).1
  obtain⟨kp,sn⟩:=mid i (by omega)
  have nx:=FP (ts:=ts) (st:=(s3,lk)) FC
  have e0:=sn i pq FC (au _)
  have SQ:=bt _ _ (h8.Ou oW) oW
  generalize (List.take i (aw (a,b))).foldl (dI ts) (s3,lk)=st at h' kp sn nx e0
  obtain⟨s4,zz⟩:=st
  dsimp only at h' kp sn e0
  obtain⟨aj8,x,as,bs,ta,tb,hl⟩:=fx.Lj.at_ pq hm
  have la:=(ai.mp ta).1
  have lb:=(ai.mp tb).1
  have d4:s4.Dn a b k:=by unfold SS.Dn;rw[kp.dn];exact d3
  have ae8:iG s4 (nd pq)=iG s3 (nd pq):=by unfold iG sB;rw[kp.dn]
  have e4:zz pq=iG s4 (nd pq)+1:=by rw[e0,ae8];exact Zv pq C1
  obtain⟨_,aeT⟩:=Ic (lk:=zz) fx.Lj i6 kp.si kp.hd (by rw[kp.dn];exact MS) (kp.si.Bg d4).1 hm hq e4
  refine⟨pa,_,O,bD.of SQ,O,_,_,O,_,_,O,O,?_⟩
  dsimp only
  -- it abW one less
  refine⟨_,O,o,CS,dx,_,_,O,h'.ins,Z.cS,Z.xQ,O,_,O,_,O,(show 2<=sizeLine by decide),fun p1 tG =>?_⟩
  have s9:=bf tG (.tup [nV pq.1,nV pq.2])
  have IK:=aE (H:=H') (a:=p1) (o := .tup [nV pq.1,nV pq.2])
  generalize upd H' p1 (.tup [nV pq.1,nV pq.2])=H9 at s9 IK ⊢
  have h9:=h'.same s9
  have bt9:=bt.same s9
  obtain⟨kl,l1⟩:=id h9.l3
  have hv:bR kl (bZ pq)=some (nV (zz pq)):=by rw[l1.val];unfold rO;rw[if_pos hm];rfl
  refine⟨A.Lk,p1,kl,bZ pq,_,O,O,l1.dn,jC IK,hv,?_⟩
  have ev:V.int ((zz pq:Int) - 1)=nV (fD zz pq pq):=by
   show V.int _=V.int _
   congr 1
   unfold fD
   rw[if_pos rfl]
   omega
  refine⟨_,_,O,O,A.Lk,p1,kl,bZ pq,O,O,l1.dn,jC IK,c6 (by have:=l1.dR h.dR;omega),fun φ d =>?_⟩
  have d:DN P w (upd H9 A.Lk (.ext φ)) A.Lk (eP kl (bZ pq) (V.int ((zz pq:Int) - 1))):=d
  rw[ev]at d
  have zO:=h9.Xx (φ := φ) (x:=A.Lk) (.inr rfl) s4.Sg (rO lp (fD zz pq)) (fun z=>absurd z.symm h.sep.e2) (fun _=>⟨⟨_,by
   have:=l1.put ⟨la,lb⟩ d
   refine⟨this.dn,fun q =>?_,this.key⟩
   rw[this.val]
   exact(Wj hm q).symm⟩,O⟩)
  have L8:iU A H8 (upd H9 A.Lk (.ext φ)):=bt9.upd (.inr (.inr rfl))
  generalize upd H9 A.Lk (.ext φ)=Bo at zO L8 ⊢
  dsimp only
  obtain⟨k2,l2⟩:=id zO.l3
  have Iw:bR k2 (bZ pq)=some (nV (fD zz pq pq)):=by rw[l2.val];unfold rO;rw[if_pos hm];rfl
  refine uB (fun c Hc=>bu Bo Hc∧c=decide (fD zz pq pq=0)) (fun Qc qc =>?_) ?_ ?_
  ·refine⟨_,O,o,CS,dx,_,_,O,zO.ins,Z.cS,Z.xQ,O,_,O,_,O,(show 2<=sizeLine by decide),fun p2 oX =>?_⟩
   obtain⟨Ka,eH,rJ,afQ⟩:=alloc oX (.tup [nV pq.1,nV pq.2])
   rw[eH]
   refine⟨A.Lk,p2,k2,bZ pq,_,O,O,l2.dn.same rJ,jC afQ,Iw,O,_,O,?_⟩
   have:=qc _ Ka ⟨rJ,O⟩
   rw[show decide (fD zz pq pq=0)=decide (nV (fD zz pq pq)=V.int 0) by
    rw[fQ,decide_eq_true_iff,decide_eq_true_iff]
    exact⟨fun z=>by rw[z];rfl,fun z=>by have:=V.int.inj z;omega⟩]at this
   exact this
  ·rintro Hc ⟨rJ,ez⟩
   have ez:=of_decide_eq_true ez.symm
   have Dd:=zO.same rJ
   refine⟨_,O,o,dx,_,O,Dd.ins,O,_,O,_,O,_,O,o,CS,dx,_,_,O,Dd.ins,Z.cS,Z.HR,O,_,O,o,CS,dx,_,_,O,Dd.ins,Z.cS,Z.rN,O,_,O,_,O,?_⟩
   refine⟨A.T,A.L,A.Lr,us,ts,s4.L,pq.1,pq.2,x,x,as,bs,O,Dd.hT,Dd.KO,ta,tb,hl,(fx.qo _ _ _ ta).1,Dd.hL,Dd.lL,Dd.rL,fun r hr =>?_,fun H12 s12 =>?_⟩
   ·have gv:=(iy.mp hr).1
    obtain⟨j,_,ej⟩:=MZ kp.si gv (aeT ez _ ((fx.Lj.HQ pq hm _).mpr ⟨r,hr,O⟩))
    obtain⟨r1,r2⟩:=kp.si.yI _ _ _ ej
    exact⟨r1,r2,j,ej⟩
   ·have Jn:=Dd.same s12
    refine⟨o,dx,A,us,ts,aw,_,_,pq.1,pq.2,_,O,Jn,la,lb,fun z=>absurd z (by omega),fun MH b13 h13=>⟨_,_,O,((L8.same rJ).same s12).trans (iU.of b13),?_⟩⟩
    rw[nx]
    unfold dI
    rw[if_pos ez]
    exact h13
  ·rintro Hc ⟨rJ,ez⟩
   have ez:=of_decide_eq_false ez.symm
   refine⟨_,_,O,L8.same rJ,?_⟩
   rw[nx]
   unfold dI
   rw[if_neg ez]
   exact zO.same rJ
 ·rintro σ H' ⟨x4,x5,rfl,bt,h'⟩
  rw[aP g3,bB]at h'
  refine q _ _ H' (b8.trans bt) ⟨h',WX.1,fun x =>?_⟩ (by rw[WX.2,aK];rfl)
  rw[WX.2]
  have kp:=(mid (aw (a,b)).length (au _)).1
  rw[bB]at kp
  rw[kp.st,kk.st,U8,aK]
  have l0:=rd.len
  have la:=l0 a
  have lb:=l0 b
  have lx:=l0 x
  show ((pF s a b k fl hd).St x).length<=s.dn.length+1
  unfold pF
  dsimp only
  cases fl with
  | true =>
   rw[if_pos rfl]
   split
   ·rw[aK];exact js la 1
   ·split
    ·rw[aK];exact js lb 1
    ·omega
  | false=>rw[if_neg (by decide)];omega
def hdF (Hd:Nat->Option (Nat × Nat)):Option (Key × V)->List Int
 | some (.inl z,_)=>match Hd z.toNat with
  | some (k,b) => [(k:Int),(z.toNat:Int),(b:Int)]
  | none => []
 | _ => []
theorem UN {H:Hp}{n:Nat}{kvs:List (Key × V)}{f:Nat->Option (Nat × Nat)} (r:oM H n kvs f) {i:Nat}{kv:Key × V} (h:kvs[i]? = some kv):∃ a k b p,f a=some (k,b)∧kv=((.inl (a:Int):Key),V.ref p)∧H p=some (.tup [nV k,nV a,nV b]):=by
 have hm:=ak h
 obtain⟨a,ea,_⟩:=r.key kv hm
 have hv:=Bq r.nd kv hm
 rw[ea]at hv
 cases e:f a with
 | none=>rw[r.cJ a e]at hv;cases hv
 | some kb =>
  obtain⟨k,b⟩:=kb
  obtain⟨p,h1,h2⟩:=r.Fb a k b e
  rw[h1]at hv
  exact⟨a,k,b,p,e,oF ea (aH hv).symm,h2⟩
theorem S2 {f:Nat->Option (Nat × Nat)}{a k b:Nat}{v:V} (h:f a=some (k,b)):hdF f (some ((.inl (a:Int):Key),v)) = [(k:Int),(a:Int),(b:Int)]:=by
 show (match f (a:Int).toNat with | some (k,b) => [(k:Int),((a:Int).toNat:Int),(b:Int)] | none => [])=_
 rw[show (a:Int).toNat=a by omega,h]
inductive QR (P:Program) (w:World) (CS:Addr) (vs:List V) (H:Hp) (Q:VK):Prop
 | mk (o dx:Addr) (A:SA) (us:List V) (ts:List Tm) (es:List cy) (ls:List Nat) (lp:List (Nat × Nat)) (nd:Nat × Nat->List (Nat × Nat)) (aw:Nat × Nat->List (Nat × Nat)) (s:SS) (lk:kF) (z0:vs = [.ref o]) (z1:Mo P w CS o dx A us ts es ls lp nd aw H s lk) (z2:Fix ts ls lp nd aw)
  (z5:∀ s' A3 H',iU A H H'->Mo P w CS o dx A us ts es ls lp nd aw H' s' A3->(∀ a,s'.Hd a=none)->Q .cJ H'):QR P w CS vs H Q
def OC (P:Program) (w:World) (CS:Addr):Sp:=fun vs H Q _=>QR P w CS vs H Q
inductive SaI (P:Program) (w:World) (CS o dx:Addr) (A:SA) (us:List V) (ts:List Tm) (es:List cy) (ls:List Nat) (lp:List (Nat × Nat)) (nd:Nat × Nat->List (Nat × Nat)) (aw:Nat × Nat->List (Nat × Nat)) (H:Hp) (m:Nat) (σ : St) (H':Hp):Prop
 | mk (s:SS) (lk:kF) (x1:Option V):(σ = [some (.ref o),x1])->iU A H H'->Mo P w CS o dx A us ts es ls lp nd aw H' s lk->m=ts.length * ts.length - s.dn.length->SaI P w CS o dx A us ts es ls lp nd aw H m σ H'
theorem Gm (B:jO mg) (Z:rg K mg CS) (BM:lU P w K mg base 3 CS "settle" ee (G6 P w CS))
  (D:ni K CS "settle_all" "Search.settle_all" ux ["self"]):lU P w K mg base 4 CS "settle_all" ["self"] (OC P w CS):=by
 have cS:=Z.cS
 refine D.has yy (fun vs H Q E h =>?_) (fun f cO A outer s H vs Q E hr h =>?_)
 ·obtain⟨o,dx,A,us,ts,es,ls,lp,nd,aw,s,lk,rfl,_⟩:=h;rfl
 obtain⟨o,dx,A,us,ts,es,ls,lp,nd,aw,s,lk,rfl,rd,fx,q⟩:=h
 refine⟨_,(aI (xJ fJ (BD (eB (pv 0) O) (fun _=>O))
  (ax (bC (i:=1) yy.nd O (aM O) (R3 (AB hr) O O B.Ez (eB (pv 0) O)))
  (aI (dF (tQ BM cS hr (by omega) (xK fun _ _ _ z=>z) (pv 0) (ae (aJ bp (pv 1) aD) (ae (aJ bp (pv 1) aD) (ae (aJ bp (pv 1) aD) aq))))))))),?_⟩
 try dsimp only[dQ]
 refine⟨SaI P w CS o dx A us ts es ls lp nd aw H,⟨_,s,lk,none,O,fun c o _ e=>e,rd,O⟩,?_⟩
 rintro m σ H1 ⟨s1,Yu,x1,rfl,b1,r1,rfl⟩
 have h1:=r1.at_
 obtain⟨kh,nI,n9⟩:=id h1.hH
 refine⟨_,O,o,CS,dx,_,_,O,h1.ins,Z.cS,Z.pG,O,_,.inr (.inr ⟨kh,nI,O⟩),?_⟩
 cases ek:kh.isEmpty with
 | true =>
  refine gO (q _ _ _ b1 r1 fun a =>?_)
  cases e:s1.Hd a with
  | none=>rfl
  | some kb =>
   obtain⟨k,b⟩:=kb
   obtain⟨p,e1,_⟩:=n9.Fb a k b e
   rw[List.isEmpty_iff.mp ek]at e1
   cases e1
 | false =>
  refine pJ ⟨fun br H'=>∃ m',m' < ts.length * ts.length - s1.dn.length∧SaI P w CS o dx A us ts es ls lp nd aw H m' br H',fun _ _ z=>z,?_⟩
  have IH:0 < kh.length:=by cases kh with | nil=>cases ek | cons p r=>exact Nat.succ_pos _
  refine⟨_,O,o,CS,dx,_,_,O,h1.ins,Z.cS,Z.pG,O,A.Hd,kh,fun i=>hdF s1.Hd kh[i]?,O,nI,IH,fun i kv cZ =>?_,fun i kv cZ NC =>?_⟩
  ·obtain⟨a,k,b,p,e1,rfl,e3⟩:=UN n9 cZ
   refine⟨p,O,?_⟩
   rw[cZ,S2 e1]
   exact e3
  ·obtain⟨a,k,b,p,e1,rfl,e3⟩:=UN n9 cZ
   obtain⟨hw,least⟩:=r1.all.least e1 fun c k' d ec=>by
    obtain⟨pc,ec1,ec2⟩:=n9.Fb c k' d ec
    obtain⟨j,hj⟩:=wL ec1
    have:=NC j (ai.mp hj).1
    rw[cZ,hj,S2 e1,S2 ec]at this
    refine oH fun z =>?_
    rw[show HT.lexLt [(k':Int),(c:Int),(d:Int)] [(k:Int),(a:Int),(b:Int)]=true by rw[HT.tT,if_neg (by omega)];exact decide_eq_true (by omega)]at this
    cases this
   dsimp only[bw]
   refine⟨_,O,o,dx,_,O,h1.ins,O,_,O,p,_,1,_,O,O,bD.of e3,aL (j:=1) rfl,_,O,p,_,2,_,O,O,bD.of e3,aL (j:=2) rfl,_,O,p,_,0,_,O,O,bD.of e3,aL (j:=0) rfl,?_⟩
   refine⟨o,dx,A,us,ts,es,ls,lp,nd,aw,s1,Yu,a,b,k,O,r1,fx,hw,least,fun s2 lk2 H2 b2 r2 e2=>⟨_,?_,s2,lk2,_,O,b1.trans b2,r2,O⟩⟩
   have:=Qx r2.all
   omega
def qN (l:List (Nat × Nat)) (q:Nat × Nat):List (Nat × Nat):=if q∈l then l else l ++ [q]
theorem JL {q:Nat × Nat}:∀ {l acc:List (Nat × Nat)},q∈l.foldl qN acc↔q∈acc∨q∈l
 | [],acc=>⟨.inl,fun z=>z.elim id fun z=>nomatch z⟩
 | r :: l,acc=>by
  rw[qd,JL,aY]
  have:q∈qN acc r↔q∈acc∨q=r:=by
   unfold qN
   split
   ·rename_i c
    exact⟨.inl,fun z=>z.elim id fun z=>by rw[z];exact c⟩
   ·rw[aA,aB]
  rw[this,or_assoc]
theorem Dx:∀ {l acc:List (Nat × Nat)},acc.Nodup->(l.foldl qN acc).Nodup
 | [],acc,h=>h
 | r :: l,acc,h=>by
  refine Dx (l:=l) ?_
  unfold qN
  split
  ·exact h
  ·rename_i c
   rw[eK]
   exact⟨h,bQ.mpr ⟨cY,df⟩,fun x hx y hy e=>c (by rw[<- aB.mp hy, <- e];exact hx)⟩
theorem JM:∀ {l acc:List (Nat × Nat)},(l.foldl qN acc).length<=acc.length+l.length
 | [],acc=>au _
 | r :: l,acc=>by
  have h1:=JM (l:=l) (acc:=qN acc r)
  have h2:(qN acc r).length<=acc.length+1:=by
   unfold qN
   split
   ·omega
   ·rw[aK];exact au _
  rw[qd,bV]
  omega
def hV (ts:List Tm) (p:Nat × Nat):List (Nat × Nat):=((cN ts p.1 p.2).map Fn).foldl qN []
theorem Ex {ts:List Tm}{p q:Nat × Nat}:q∈hV ts p↔∃ r∈cN ts p.1 p.2,Fn r=q:=by
 unfold hV
 rw[JL,bj]
 exact⟨fun z=>z.elim nofun id,.inr⟩
theorem Fp (ts:List Tm) (p:Nat × Nat):(hV ts p).Nodup:=Dx df
def kT (l:List (Nat × Nat)):List (NK × V):=l.map fun q=>(bZ q,.bl true)
theorem GP (q:Nat × Nat):∀ l:List (Nat × Nat),bR (kT l) (bZ q)=if q∈l then some (.bl true) else none
 | []=>rfl
 | r :: l=>by
  show bR ((bZ r,V.bl true) :: kT l) (bZ q)=_
  by_cases e:r=q
  ·rw[eO (by rw[e]),if_pos (by rw[e];exact bg)]
  ·rw[eD (fun z=>e (uD z)),GP q l]
   by_cases h:q∈l
   ·rw[if_pos h,if_pos (aW _ h)]
   ·rw[if_neg h,if_neg (fun z=>(aY.mp z).elim (fun z=>e z.symm) h)]
theorem XT (l:List (Nat × Nat)) (q:Nat × Nat):eP (kT l) (bZ q) (.bl true)=kT (qN l q):=by
 unfold qN
 by_cases h:q∈l
 ·rw[if_pos h]
  unfold eP
  rw[lH,GP,if_pos h,if_pos (by rfl)]
  unfold kT
  rw[gH]
  refine iO fun x _ =>?_
  show (if bZ x=bZ q then (bZ x,V.bl true) else (bZ x,V.bl true))=_
  split <;> rfl
 ·rw[if_neg h,mU _ (by rw[GP,if_neg h])]
  unfold kT
  rw[c9];rfl
structure DT (P:Program) (w:World) (H0 H:Hp) (A:SA) (n:Nat) (aw:Nat × Nat->List (Nat × Nat)) (kvs:List (NK × V)):Prop where
 dn:DN P w H A.Aw kvs
 key:∀ kv∈kvs,∃ p:Nat × Nat,kv.1=bZ p∧p.1 < n∧p.2 < n
 val:∀ q,(aw q = []∧bR kvs (bZ q)=none)∨∃ c vs,bR kvs (bZ q)=some (.ref c)∧H c=some (.lst vs)∧dY H vs (aw q)∧H0 c=none
 inj:∀ q q' c,bR kvs (bZ q)=some (.ref c)->bR kvs (bZ q')=some (.ref c)->q=q'
structure mM (P:Program) (w:World) (H0:Hp) (A:SA) (n:Nat) (aw:Nat × Nat->List (Nat × Nat)) (lk:Nat × Nat->Option Nat) (H:Hp):Prop where
 fr:∀ c u,c≠A.Aw->c≠A.Lk->H0 c=some u->H c=some u
 mD:∃ kvs,DT P w H0 H A n aw kvs
 l3:∃ kvs,PD P w H A.Lk n kvs fun p=>(lk p).map nV
section
variable {H0 H H':Hp}{o dx:Addr}{A:SA}{n:Nat}{us:List V}{ts:List Tm}{aw QL:Nat × Nat->List (Nat × Nat)}{s:SS}{lk Pk:Nat × Nat->Option Nat}{kvs:List (NK × V)}
theorem DT.same (h:DT P w H0 H A n aw kvs) (sm:bu H H'):DT P w H0 H' A n aw kvs :=
 ⟨h.dn.same sm,h.key,fun q=>(h.val q).imp id fun ⟨c,vs,h1,h2,h3,h4⟩=>⟨c,vs,h1,sm _ _ h2,bJ h3 (fun c ys e=>sm _ _ e),h4⟩,h.inj⟩
theorem mM.same (h:mM P w H0 A n aw lk H) (sm:bu H H'):mM P w H0 A n aw lk H':=by
 obtain⟨k1,h1⟩:=h.mD
 obtain⟨k2,h2⟩:=h.l3
 exact⟨fun c u n1 n2 e=>sm _ _ (h.fr c u n1 n2 e),⟨k1,h1.same sm⟩,k2,h2.dn.same sm,h2.val,h2.key⟩
theorem mM.new (h:mM P w H0 A n aw lk H) {x:Addr} (hx:H x=none):H0 x=none∧x≠A.Aw∧x≠A.Lk:=by
 obtain⟨k1,h1⟩:=h.mD
 obtain⟨k2,h2⟩:=h.l3
 obtain⟨φ,e1⟩:=h1.dn.ext
 obtain⟨ψ,e2⟩:=h2.dn.ext
 have n1:x≠A.Aw:=fun z=>by rw[z,e1]at hx;cases hx
 have n2:x≠A.Lk:=fun z=>by rw[z,e2]at hx;cases hx
 refine⟨?_,n1,n2⟩
 cases e:H0 x with
 | none=>rfl
 | some u=>rw[h.fr x u n1 n2 e]at hx;cases hx
theorem mM.but (h:mM P w H0 A n aw lk H) {x:Addr}{φ : Heap->Prop} (hx:H x=some (.ext φ)) (h0:H0 x=none) (n1:x≠A.Aw) (n2:x≠A.Lk) (bt:dD x H H'):mM P w H0 A n aw lk H':=by
 obtain⟨k1,h1⟩:=h.mD
 obtain⟨k2,h2⟩:=h.l3
 have nt:∀ c ys,H c=some (.tup ys)->c≠x:=fun c ys e=>a9 e hx nofun
 refine⟨fun c u m1 m2 e=>bt _ _ (fun z=>by rw[z,h0]at e;cases e) (h.fr c u m1 m2 e),⟨k1,?_⟩,k2,h2.but bt (cM n2) nt⟩
 refine⟨h1.dn.keep (fun φ e=>bt _ _ (cM n1) e) (fun c ys e=>bt _ _ (nt c ys e) e),h1.key,fun q=>(h1.val q).imp id fun ⟨c,vs,g1,g2,g3,g4⟩=>⟨c,vs,g1,bt _ _ (a9 g2 hx nofun) g2,bJ g3 (fun c ys e=>bt _ _ (nt c ys e) e),g4⟩,h1.inj⟩
theorem mM.se (h0:dj P w CS o dx A us ts QL H0 s Pk) (h:mM P w H0 A ts.length aw lk H):dj P w CS o dx A us ts aw H s lk:=by
 obtain⟨ka,a1⟩:=h.mD
 have xa:∃ φ,H0 A.Aw=some (.ext φ):=by obtain⟨kvs,d,_⟩:=h0.mD;exact d.ext
 have xl:∃ φ,H0 A.Lk=some (.ext φ):=by obtain⟨kvs,d⟩:=h0.l3;exact d.dn.ext
 obtain⟨φ,xa⟩:=xa
 obtain⟨ψ,xl⟩:=xl
 have kp:∀ c u,(∀ φ,u ≠ .ext φ)->H0 c=some u->H c=some u:=fun c u n e=>h.fr c u (a9 e xa (n _)) (a9 e xl (n _)) e
 have kt:∀ c ys,H0 c=some (.tup ys)->H c=some (.tup ys):=fun c ys e=>kp c _ (fun _ z=>nomatch z) e
 obtain⟨kh,nI,n9⟩:=h0.hH
 obtain⟨kg,g1⟩:=h0.sg
 refine⟨kp _ _ (fun _ z=>nomatch z) h0.ins,kp _ _ (fun _ z=>nomatch z) h0.hT,ow kt h0.KO,kp _ _ (fun _ z=>nomatch z) h0.hL,h0.lL,fun a c e=>kp _ _ (fun _ z=>nomatch z) (h0.rL a c e),kp _ _ (fun _ z=>nomatch z) h0.hW,h0.lW,fun a c e =>?_,⟨kh,kp _ _ (fun _ z=>nomatch z) nI,n9.but kt⟩,⟨kg,g1.dn.keep (fun φ e=>h.fr _ _ h0.sep.e1 h0.sep.e2 e) kt,g1.val,g1.key⟩,kp _ _ (fun _ z=>nomatch z) h0.hS,h0.lS,fun a c e =>?_,⟨ka,a1.dn,a1.key,fun q=>(a1.val q).imp id fun ⟨c,vs,z1,z2,z3,z4⟩=>⟨c,vs,z1,z2,z3,fun z =>?_,fun z =>?_⟩⟩,h.l3,h0.sep,h0.dR⟩
 ·obtain⟨kvs,e1,e2⟩:=h0.rW a c e
  exact⟨kvs,kp _ _ (fun _ z=>nomatch z) e1,e2⟩
 ·obtain⟨vs,e1,e2⟩:=h0.rS a c e
  exact⟨vs,kp _ _ (fun _ z=>nomatch z) e1,bJ e2 kt⟩
 ·obtain⟨i,hi⟩:=aT z
  rw[h0.rL i c hi]at z4;cases z4
 ·obtain⟨i,hi⟩:=aT z
  obtain⟨vs,e1,_⟩:=h0.rS i c hi
  rw[e1]at z4;cases z4
def Dt (aw:Nat × Nat->List (Nat × Nat)) (q p:Nat × Nat):Nat × Nat->List (Nat × Nat):=fun r=>if r=q then aw q ++ [p] else aw r
theorem mM.app (h:mM P w H0 A n aw lk H) (a1:DT P w H0 H A n aw kvs) {q p:Nat × Nat}{c:Addr} (hc:bR kvs (bZ q)=some (.ref c)) {b:Addr} (hb:H b=some (.tup [nV p.1,nV p.2])) :
  ∃ vs,H c=some (.lst vs)∧vs.length=(aw q).length∧mM P w H0 A n (Dt aw q p) lk (upd H c (.lst (vs ++ [.ref b]))):=by
 rcases a1.val q with⟨_,z⟩ | ⟨c',vs,g1,g2,g3,g4⟩
 ·rw[hc]at z;cases z
 rw[hc]at g1
 cases g1
 refine⟨vs,g2,aP g3,?_⟩
 obtain⟨k2,h2⟩:=h.l3
 have bt:dD c H (upd H c (.lst (vs ++ [.ref b]))):=fun b o n e=>by rw[aF n];exact e
 have nt:∀ d ys,H d=some (.tup ys)->d≠c:=fun d ys e=>a9 e g2 nofun
 have kt:∀ d ys,H d=some (.tup ys)->(upd H c (.lst (vs ++ [.ref b]))) d=some (.tup ys):=fun d ys e=>bt _ _ (nt d ys e) e
 obtain⟨φ,e1⟩:=a1.dn.ext
 obtain⟨ψ,e2⟩:=h2.dn.ext
 refine⟨fun d u m1 m2 e=>bt _ _ (fun z=>by rw[z,g4]at e;cases e) (h.fr d u m1 m2 e),⟨kvs,?_⟩,k2,h2.but bt (a9 e2 g2 nofun) nt⟩
 refine⟨a1.dn.keep (fun φ e=>bt _ _ (a9 e1 g2 nofun) e) kt,a1.key,fun r =>?_,a1.inj⟩
 by_cases er:r=q
 ·subst er
  refine .inr ⟨c,_,hc,aE,?_,g4⟩
  unfold Dt
  rw[if_pos rfl]
  exact gj (bJ g3 kt) (.cons ⟨b,O,kt _ _ hb⟩ .nil)
 ·have ea:Dt aw q p r=aw r:=if_neg er
  rw[ea]
  refine(a1.val r).imp id fun ⟨d,ws,z1,z2,z3,z4⟩=>⟨d,ws,z1,bt _ _ (fun z=>er (a1.inj r q c (by rw[z1,z]) hc)) z2,bJ z3 kt,z4⟩
theorem mM.fresh (h:mM P w H0 A n aw lk H) (a1:DT P w H0 H A n aw kvs) {q:Nat × Nat} (hq:q.1 < n∧q.2 < n) (hn:bR kvs (bZ q)=none) {c:Addr} (hc:H c=some (.lst [])) (ZQ:H0 c=none) (nu:∀ r,bR kvs (bZ r)≠some (.ref c)) {φ : Heap->Prop} (d:DN P w (upd H A.Aw (.ext φ)) A.Aw (kvs ++ [(bZ q,.ref c)])) (e3:A.Aw≠A.Lk) :
  mM P w H0 A n aw lk (upd H A.Aw (.ext φ))∧DT P w H0 (upd H A.Aw (.ext φ)) A n aw (kvs ++ [(bZ q,.ref c)]):=by
 obtain⟨k2,h2⟩:=h.l3
 obtain⟨ψ,e1⟩:=a1.dn.ext
 have bt:dD A.Aw H (upd H A.Aw (.ext φ)):=fun b o n e=>by rw[aF n];exact e
 have nt:∀ d ys,H d=some (.tup ys)->d≠A.Aw:=fun d ys e=>a9 e e1 nofun
 have kt:∀ d ys,H d=some (.tup ys)->(upd H A.Aw (.ext φ)) d=some (.tup ys):=fun d ys e=>bt _ _ (nt d ys e) e
 have put:∀ r,bR (kvs ++ [(bZ q,.ref c)]) (bZ r)=if r=q then some (.ref c) else bR kvs (bZ r):=fun r=>by
  rw[<- mU (.ref c) hn,mO]
  by_cases e:r=q
  ·rw[if_pos (by rw[e]),if_pos e]
  ·rw[if_neg (fun z=>e (uD z)),if_neg e]
 have k:DT P w H0 (upd H A.Aw (.ext φ)) A n aw (kvs ++ [(bZ q,.ref c)]):=by
  refine⟨d,fun kv cZ =>?_,fun r =>?_,fun r r' c' z1 z2 =>?_⟩
  ·rcases aA.mp cZ with z | z
   ·exact a1.key kv z
   ·rw[aB.mp z];exact⟨q,O,hq⟩
  ·rw[put]
   by_cases er:r=q
   ·rw[if_pos er]
    rcases a1.val r with⟨z,_⟩ | ⟨d,vs,z,_⟩
    ·exact .inr ⟨c, [],O,bt _ _ (a9 hc e1 nofun) hc,by rw[z];exact .nil,ZQ⟩
    ·rw[er,hn]at z;cases z
   ·rw[if_neg er]
    refine(a1.val r).imp id fun ⟨d,ws,z1,z2,z3,z4⟩=>⟨d,ws,z1,bt _ _ (a9 z2 e1 nofun) z2,bJ z3 kt,z4⟩
  ·rw[put]at z1 z2
   by_cases er:r=q
   ·rw[if_pos er]at z1
    cases z1
    by_cases Qs:r'=q
    ·rw[er,Qs]
    ·rw[if_neg Qs]at z2;exact absurd z2 (nu r')
   ·rw[if_neg er]at z1
    by_cases Qs:r'=q
    ·rw[if_pos Qs]at z2
     cases z2
     exact absurd z1 (nu r)
    ·rw[if_neg Qs]at z2
     exact a1.inj r r' c' z1 z2
 exact⟨⟨fun c u m1 m2 e=>bt _ _ m1 (h.fr c u m1 m2 e),⟨_,k⟩,k2,h2.but bt (cM e3) nt⟩,k⟩
end
end
section
variable {P:Program}{w:World}{K:ao}{mg:Str->Option Value}{base:Heap}{CB CF CH CS CN CE CM tB:Addr}
theorem mM.abS {H0 H:Hp}{A:SA}{n:Nat}{aw:Nat × Nat->List (Nat × Nat)}{lk:Nat × Nat->Option Nat}{kl:List (NK × V)} (h:mM P w H0 A n aw lk H) (h2:PD P w H A.Lk n kl fun p=>(lk p).map nV) {q:Nat × Nat}{m:Nat} (hq:q.1 < n∧q.2 < n) (e3:A.Aw≠A.Lk) {φ : Heap->Prop} (d:DN P w (upd H A.Lk (.ext φ)) A.Lk (eP kl (bZ q) (nV m))):mM P w H0 A n aw (fun p=>if p=q then some m else lk p) (upd H A.Lk (.ext φ)):=by
 obtain⟨ψ,e2⟩:=h2.dn.ext
 obtain⟨k1,a1⟩:=h.mD
 have bt:dD A.Lk H (upd H A.Lk (.ext φ)):=fun b o n e=>by rw[aF n];exact e
 have nt:∀ d ys,H d=some (.tup ys)->d≠A.Lk:=fun d ys e=>a9 e e2 nofun
 have kt:∀ d ys,H d=some (.tup ys)->(upd H A.Lk (.ext φ)) d=some (.tup ys):=fun d ys e=>bt _ _ (nt d ys e) e
 refine⟨fun c u m1 m2 e=>bt _ _ m2 (h.fr c u m1 m2 e),⟨k1,a1.dn.keep (fun φ e=>bt _ _ e3 e) kt,a1.key,fun r=>(a1.val r).imp id fun ⟨c,ws,z1,z2,z3,z4⟩=>⟨c,ws,z1,bt _ _ (a9 z2 e2 nofun) z2,bJ z3 kt,z4⟩,a1.inj⟩,eP kl (bZ q) (nV m),?_⟩
 have:=h2.put hq d
 refine⟨this.dn,fun p =>?_,this.key⟩
 rw[this.val]
 show _=DG nV (if p=q then some m else lk p)
 split <;> rfl
def pR (aw:Nat × Nat->List (Nat × Nat)) (l:List (Nat × Nat)) (p:Nat × Nat):Nat × Nat->List (Nat × Nat):=fun q=>if q∈l then aw q ++ [p] else aw q
theorem WG {aw:Nat × Nat->List (Nat × Nat)}{l:List (Nat × Nat)}{p q:Nat × Nat}{i:Nat} (hn:l.Nodup) (h:l[i]? = some q):Dt (pR aw (l.take i) p) q p=pR aw (l.take (i+1)) p:=by
 have nq:q ∉ l.take i:=fun z=>by
  obtain⟨j,hj⟩:=aT z
  rw[km]at hj
  split at hj
  ·rename_i c
   have:=(jq (ai.mp hj).1 hn).mp (hj.trans h.symm)
   omega
  ·cases hj
 funext r
 unfold Dt pR
 rw[et h]
 by_cases er:r=q
 ·subst er
  rw[if_pos rfl,if_neg nq,if_pos (aA.mpr (.inr (bx _)))]
 ·rw[if_neg er]
  by_cases hr:r∈l.take i
  ·rw[if_pos hr,if_pos (aA.mpr (.inl hr))]
  ·rw[if_neg hr,if_neg (fun z=>(aA.mp z).elim hr fun z=>er (aB.mp z))]
inductive Ml (P:Program) (w:World) (CS:Addr) (vs:List V) (H:Hp) (Q:VK):Prop
 | mk (o dx:Addr) (A:SA) (us:List V) (ts:List Tm) (QL aw:Nat × Nat->List (Nat × Nat)) (s:SS) (Pk lk:Nat × Nat->Option Nat) (H0:Hp) (a b:Nat) (x y:Str) (as bs:List Nat) (z0:vs = [.ref o,nV a,nV b]) (z1:dj P w CS o dx A us ts QL H0 s Pk) (z2:mM P w H0 A ts.length aw lk H)
  (z3:ts[a]? = some (.of x as)) (z4:ts[b]? = some (.of y bs)) (z5:as.length=bs.length) (z6:as.length<=1000) (z7:∀ r∈cN ts a b,r.1 < ts.length∧r.2 < ts.length) (z8:∀ q,(aw q).length<=900)
  (z9:∀ H',mM P w H0 A ts.length (pR aw (hV ts (a,b)) (a,b)) (fun p=>if p=(a,b) then some (hV ts (a,b)).length else lk p) H'->Q .cJ H'):Ml P w CS vs H Q
def K0 (P:Program) (w:World) (CS:Addr):Sp:=fun vs H Q _=>Ml P w CS vs H Q
inductive AaI (P:Program) (w:World) (N:Addr) (H:Hp) (τ : St) (l:List (Nat × Nat)) (i:Nat) (σ : St) (H':Hp):Prop
 | mk (x4 x5:Option V):(σ = τ ++ [x4,x5,none])->dD N H H'->DN P w H' N (kT ((l.take i).foldl qN []))->AaI P w N H τ l i σ H'
inductive AbI (P:Program) (w:World) (N:Addr) (ob:Obj) (H0:Hp) (A:SA) (n:Nat) (aw:Nat × Nat->List (Nat × Nat)) (lk:Nat × Nat->Option Nat) (τ : St) (l:List (Nat × Nat)) (p:Nat × Nat) (i:Nat) (σ : St) (H':Hp):Prop
 | mk (x6:Option V):(σ = τ ++ [x6])->mM P w H0 A n (pR aw (l.take i) p) lk H'->qB P w H' N ob (kT l)->AbI P w N ob H0 A n aw lk τ l p i σ H'
theorem Gq (B:jO mg) (Z:rg K mg CS) (gJ:ed P w K mg base 1 "unlike_arms" wa4 GC) (D:ni K CS "await_arms" "Search.await_arms" uA wb5):lU P w K mg base 2 CS "await_arms" wb5 (K0 P w CS):=by
 have cS:=Z.cS
 refine D.has lV (fun vs H Q E h =>?_) (fun f cO A outer s H vs Q E hr h =>?_)
 ·obtain⟨o,dx,A,us,ts,QL,aw,s,Pk,lk,H0,a,b,x,y,as,bs,rfl,_⟩:=h;rfl
 obtain⟨o,dx,A,us,ts,QL,aw,s,Pk,lk,H0,a,b,x,y,as,bs,rfl,h0,hx,ta,tb,hl,GI,mz,S0,q⟩:=h
 refine⟨_,(ax (bC (i:=3) lV.nd O (aM O) mV)
  (ax (dJ fJ O (eQ (bG gJ hr (by omega) O (ae (eB (pv 0) O) (ae (pv 1) (ae (pv 2) aq))))) (lY O (dH (bL (i:=4) lV.nd O (aM O)) (dH (bL (i:=5) lV.nd O (aM O)) jX)))
  (aI (wR (mn hr) (pv 3) (cQ (ae (bO (vU O) O B.Ez sj (ae (pv 4) (ae (pv 5) aq))) (ae (bO (vV O) O B.Ng vY (ae (pv 4) (ae (pv 5) aq))) aq))) je O)))
  (ax (wR (mn hr) (eB (pv 0) O) (cQ (ae (pv 1) (ae (pv 2) aq))) (bO QG O B.iH bM (ae (pv 3) aq)) O)
  (aI (dJ fJ O (RX (pv 3)) (bL (i:=6) lV.nd O (aM O))
  (aI (dF (lM bU cD cC f6 (En (mn hr) (eB (pv 0) O) (pv 6) (kY aq) ⟨O,O,O,O⟩) (ae (cQ (ae (pv 1) (ae (pv 2) aq))) aq))))))))),?_⟩
 try dsimp only[dQ]
 have la:=(ai.mp ta).1
 have lb:=(ai.mp tb).1
 intro N φ hN dN
 dsimp only[bw]
 obtain⟨Bc,Ug,nLk⟩:=hx.new hN
 have A5:=hx.same (bf hN (.ext φ))
 generalize upd H N (.ext φ)=H1 at dN A5 ⊢
 have XB:=A5.se h0
 refine⟨_,O,o,CS,dx,_,_,O,XB.ins,Z.cS,Z.HR,O,_,O,_,O,A.T,us,ts,a,b,x,y,as,bs,O,XB.hT,XB.KO,ta,tb,hl,GI,fun D1 rA H2 s2 U4 lh tG =>?_⟩
 have Uq:=A5.same s2
 have dN2:=dN.same s2
 obtain⟨Tu,eN2⟩:=dN2.ext
 have Ue:D1≠N:=a9 lh eN2 nofun
 have aj0:(cN ts a b).length<=1000:=by
  have eu:cN ts a b=fg as bs:=by unfold cN;rw[ta,tb];rfl
  rw[eu]
  unfold fg
  refine bq (jh ..) ?_
  rw[wb]
  omega
 refine⟨D1,O,⟨_,aZ.of lh⟩,?_⟩
 refine fK (xs:=rA) (AaI P w N H2 [aa o,aU a,aU b,aa N] ((cN ts a b).map Fn)) ⟨none,none,O,fun c u n e=>e,dN2⟩ ?_ ?_ ?_
 ·rintro i σ H' _ ⟨x4,x5,rfl,bt,_⟩
  exact aZ.of (bt _ _ Ue lh)
 ·rintro i v σ H' hv ⟨x4,x5,rfl,bt,dn⟩
  obtain⟨⟨u,t⟩,vL,p,rfl,hp⟩:=Paired.at tG hv
  have n6:=bt _ _ (a9 hp eN2 nofun) hp
  have hnr:((cN ts a b).map Fn)[i]? = some (min u t,max u t):=by rw[aG,vL];rfl
  have hi:=(ai.mp vL).1
  refine⟨p,_,O,bD.of n6,O,_,_,O,_,_,O,O,?_⟩
  dsimp only
  refine⟨_,O,_,O,_,O,_,_,O,_,O,_,O,_,_,O,(show 2<=sizeLine by decide),fun p3 wZ =>?_⟩
  rw[HS,HU]at *
  have s3:=bf wZ (.tup [nV (min u t),nV (max u t)])
  have Zg:=aE (H:=H') (a:=p3) (o := .tup [nV (min u t),nV (max u t)])
  generalize upd H' p3 (.tup [nV (min u t),nV (max u t)])=H3 at s3 Zg ⊢
  have dR:=JM (l:=((cN ts a b).map Fn).take i) (acc := [])
  refine⟨N,p3,_,bZ (min u t,max u t),O,O,dn.same s3,jC Zg,c6 (by
   unfold kT
   rw[ar]
   rw[cj,ar,mH]at dR
   omega),fun φ d=>⟨_,_,O,fun c u n e=>by rw[aF n];exact s3 _ _ (bt c u n e),?_⟩⟩
  rw[XT]at d
  rw[et hnr,nP]
  exact d
 ·rintro σ H3 ⟨x4,x5,rfl,bt,dn⟩
  have lv:rA.length=((cN ts a b).map Fn).length:=by rw[ar];exact aP tG
  rw[lv,bB]at dn
  have dn:DN P w H3 N (kT (hV ts (a,b))):=dn
  have hx3:=Uq.but eN2 Bc Ug nLk bt
  dsimp only[List.append,vm,pZ]
  have se3:=hx3.se h0
  -- how fu it abW
  refine⟨_,O,N,_,O,dn,_,O,o,CS,dx,_,_,O,se3.ins,Z.cS,Z.xQ,O,_,O,_,O,(show 2<=sizeLine by decide),fun p4 FE =>?_⟩
  have s4:=bf FE (.tup [nV a,nV b])
  have Zf:=aE (H:=H3) (a:=p4) (o := .tup [nV a,nV b])
  generalize upd H3 p4 (.tup [nV a,nV b])=H4 at s4 Zf ⊢
  have hx4:=hx3.same s4
  obtain⟨kl,l4⟩:=id hx4.l3
  refine⟨A.Lk,p4,kl,bZ (a,b),O,O,l4.dn,jC Zf,c6 (by have:=l4.dR h0.dR;omega),fun φ5 d5 =>?_⟩
  rw[show V.int ((kT (hV ts (a,b))).length:Int)=nV (hV ts (a,b)).length by unfold kT;rw[ar]]at d5
  have hx5:=hx4.abS l4 ⟨la,lb⟩ h0.sep.e3 d5
  have FT:DN P w (upd H4 A.Lk (.ext φ5)) N (kT (hV ts (a,b))):=(dn.same s4).keep (fun φ e=>by rw[aF nLk];exact e) (fun c ys e=>by rw[aF (by obtain⟨ψ,e2⟩:=l4.dn.ext;exact a9 e e2 nofun)];exact e)
  generalize upd H4 A.Lk (.ext φ5)=H5 at hx5 FT ⊢
  -- and it MK
  refine⟨_,O,N,_,O,FT,fun ob Di =>?_⟩
  have afF:(kT (hV ts (a,b))).length=(hV ts (a,b)).length:=by unfold kT;rw[ar]
  refine Qp (AbI P w N ob H0 A ts.length aw (fun p=>if p=(a,b) then some (hV ts (a,b)).length else lk p) [aa o,aU a,aU b,aa N,x4,x5] (hV ts (a,b)) (a,b)) ⟨none,O,?_,Di⟩ ?_ ?_ ?_
  ·have:pR aw ((hV ts (a,b)).take 0) (a,b)=aw:=funext fun r=>if_neg (by rw[jz];exact cY)
   rw[this];exact hx5
  ·rintro i σ H' _ ⟨x6,rfl,_,d⟩
   exact d
  ·rintro i kv bk σ H' cZ nk ⟨x6,rfl,vJ,agr⟩
   have hq:∃ e,(hV ts (a,b))[i]? = some e∧kv=(bZ e,.bl true):=by
    unfold kT at cZ
    rw[aG]at cZ
    obtain⟨e,h1,h2⟩:=ck.mp cZ
    exact⟨e,h1,h2.symm⟩
   obtain⟨e,he,rfl⟩:=hq
   have nx:=WG (aw:=aw) (p:=(a,b)) (Fp ts (a,b)) he
   have hem:=ak he
   obtain⟨r,hr,er⟩:=Ex.mp hem
   obtain⟨r1,r2⟩:=mz r hr
   have af0:e.1 < ts.length∧e.2 < ts.length:=by
    rw[<- er]
    exact⟨(show min r.1 r.2 < _ by omega),(show max r.1 r.2 < _ by omega)⟩
   have se':=vJ.se h0
   obtain⟨ka,a1⟩:=id vJ.mD
   dsimp only[bw]
   refine⟨_,O,o,CS,dx,_,_,O,se'.ins,Z.cS,Z.BG,O,A.Aw,O,⟨_,a1.dn⟩,_,O,(show 0<=sizeLine by decide),fun c hc =>?_⟩
   have s6:=bf hc (.lst [])
   have hc6:=aE (H:=H') (a:=c) (o := .lst [])
   obtain⟨ZQ,ncA,_⟩:=vJ.new hc
   have afs:∀ r,bR ka (bZ r)≠some (.ref c):=fun r z=>by
    rcases a1.val r with⟨_,z'⟩ | ⟨c',vs,z1,z2,_⟩
    ·rw[z]at z';cases z'
    ·rw[z]at z1;cases z1;rw[hc]at z2;cases z2
   generalize upd H' c (.lst [])=H6 at s6 hc6 ⊢
   have hx6:=vJ.same s6
   have a6:=a1.same s6
   have nk6:fA H6 (bZ e) bk:=nk.keep fun d ys z=>s6 _ _ z
   have d6:=agr.same s6
   -- pj end,agD pj list is old or new
   have fin:∀ H7 (Yy:List (NK × V)) (cl:Addr),mM P w H0 A ts.length (pR aw ((hV ts (a,b)).take i) (a,b)) (fun p=>if p=(a,b) then some (hV ts (a,b)).length else lk p) H7->DT P w H0 H7 A ts.length (pR aw ((hV ts (a,b)).take i) (a,b)) Yy->qB P w H7 N ob (kT (hV ts (a,b)))->bR Yy (bZ e)=some (.ref cl) ->
     (∃ vs,H7 cl=some (.lst vs))∧∀ p8,H7 p8=none->∃ vs,(upd H7 p8 (.tup [nV a,nV b])) cl=some (.lst vs)∧vs.length < sizeLine∧AbI P w N ob H0 A ts.length aw (fun p=>if p=(a,b) then some (hV ts (a,b)).length else lk p) [aa o,aU a,aU b,aa N,x4,x5] (hV ts (a,b)) (a,b) (i+1) [aa o,aU a,aU b,aa N,x4,x5,some (.ref bk)] (upd (upd H7 p8 (.tup [nV a,nV b])) cl (.lst (vs ++ [.ref p8]))):=by
    intro H7 Yy cl x7 a7 d7 CW
    refine⟨?_,fun p8 FD =>?_⟩
    ·rcases a7.val e with⟨_,z⟩ | ⟨c',vs,z1,z2,_⟩
     ·rw[CW]at z;cases z
     ·rw[CW]at z1;cases z1;exact⟨vs,z2⟩
    have s8:=bf FD (.tup [nV a,nV b])
    have Ze:=aE (H:=H7) (a:=p8) (o := .tup [nV a,nV b])
    generalize upd H7 p8 (.tup [nV a,nV b])=H8 at s8 Ze ⊢
    obtain⟨vs,g1,g2,g3⟩:=(x7.same s8).app (p:=(a,b)) (a7.same s8) CW Ze
    refine⟨vs,g1,c6 ?_,_,O,?_,?_⟩
    ·rw[g2]
     have:=S0 e
     unfold pR
     split
     ·rw[aK]
      show (aw e).length+1<=1000
      omega
     ·omega
    ·rw[<- nx];exact g3
    ·obtain⟨_,_,_,eN,_⟩:=id (d7.same s8)
     exact(d7.same s8).keep (fun z=>by rw[aF (a9 eN g1 nofun)];exact z) (fun c ys z=>by rw[aF (a9 z g1 nofun)];exact z)
   have ajR:ka.length<=900:=bq (Fm (Jy a6.dn) a6.key) (qS h0.dR h0.dR)
   refine⟨ka,bZ e,bk,a6.dn,O,nk6,c6 (by omega),fun v hv =>?_,fun hn φ d =>?_⟩
   ·obtain⟨cl,rfl⟩:∃ cl,v = .ref cl:=by
     rcases a6.val e with⟨_,z⟩ | ⟨c',vs,z1,_⟩
     ·rw[hv]at z;cases z
     ·rw[hv]at z1;cases z1;exact⟨_,O⟩
    obtain⟨⟨v0,f0⟩,f1⟩:=fin H6 ka cl hx6 a6 d6 hv
    refine⟨.inl ⟨O,_,aZ.of f0⟩,_,O,_,O,(show 2<=sizeLine by decide),fun p8 FD =>?_⟩
    obtain⟨vs,f2,f3,f4⟩:=f1 p8 FD
    exact⟨cl,_,_,O,O,f2,f3,f4⟩
   ·obtain⟨x7,a7⟩:=hx6.fresh a6 af0 hn hc6 ZQ afs d h0.sep.e3
    have CW:bR (ka ++ [(bZ e,V.ref c)]) (bZ e)=some (.ref c):=by rw[<- mU (.ref c) hn,mO,if_pos rfl]
    have d7:qB P w (upd H6 A.Aw (.ext φ)) N ob (kT (hV ts (a,b))):=d6.keep (fun z=>by rw[aF Ug];exact z) (fun c ys z=>by rw[aF (by obtain⟨ψ,e2⟩:=a6.dn.ext;exact a9 z e2 nofun)];exact z)
    obtain⟨⟨v0,f0⟩,f1⟩:=fin _ _ c x7 a7 d7 CW
    refine⟨.inl ⟨O,_,aZ.of f0⟩,_,O,_,O,(show 2<=sizeLine by decide),fun p8 FD =>?_⟩
    obtain⟨vs,f2,f3,f4⟩:=f1 p8 FD
    exact⟨c,_,_,O,O,f2,f3,f4⟩
  ·rintro σ H' ⟨x6,rfl,vJ,_⟩
   rw[afF,bB]at vJ
   exact q H' vJ
theorem Hu (v:V):∀ n:Nat,(bY n [v]).flatten=bY n v
 | 0=>rfl
 | n+1=>by rw[gE,kO,Hu v n,gE];rfl
def vR (i:Nat):Mx:=fun a b=>if a=b∧a < i then some 0 else none
theorem RM (n a:Nat):ib (vR 0) n a=bY n V.cJ:=by
 unfold ib
 have:(fun b=>A0 (vR 0 a b))=fun _=>V.cJ:=funext fun b=>by
  unfold vR
  rw[if_neg (fun z=>ip _ z.2)];rfl
 rw[this,List.map_const',cR]
theorem Qz (i:Nat):vR (i+1)=dE (vR i) i i 0:=by
 funext a b
 unfold dE vR
 by_cases e:a=i∧b=i
 ·rw[if_pos e,if_pos ⟨e.1.trans e.2.symm,by omega⟩]
 ·rw[if_neg e]
  by_cases c:a=b∧a < i
  ·rw[if_pos c,if_pos ⟨c.1,by omega⟩]
  ·rw[if_neg c,if_neg (fun z=>c ⟨z.1,by omega⟩)]
inductive Mi (P:Program) (w:World) (CS:Addr) (vs:List V) (H:Hp) (Q:VK):Prop
 | mk (o dx T:Addr) (us:List V) (ts:List Tm) (z0:vs = [.ref o,.ref T]) (z1:H o=some (.ins CS dx [])) (z2:H T=some (.lst us)) (z3:kJ H us ts) (z4:ts.length<=30)
  (z5:∀ A H',A.T=T->dD o H H'->dj P w CS o dx A us ts (fun _ => []) H' (mS ts.length) (fun _=>none)->(∀ c u,H c=some u->¬ t4 A c∧c≠A.Aw)->DN P w H' A.Aw []->Q .cJ H'):Mi P w CS vs H Q
def KZ (P:Program) (w:World) (CS:Addr):Sp:=fun vs H Q _=>Mi P w CS vs H Q
inductive SiI (Lr:List Addr) (n:Nat) (H:Hp) (τ : St) (i:Nat) (σ : St) (H':Hp):Prop
 | mk (x2:Option V):(σ = τ ++ [x2])->(∀ c u,c ∉ Lr->H c=some u->H' c=some u)->(∀ (a:Nat) (c:Addr),Lr[a]? = some c->H' c=some (.lst (ib (vR i) n a)))->SiI Lr n H τ i σ H'
theorem Se (B:jO mg) (Z:rg K mg CS) (D:N5 K mg "Search" CS "Search.__init__" md wb7):N1 P w K mg base 1 "Search" CS wb7 (KZ P w CS):=by
 refine D.has Hi (fun vs H Q E h =>?_) (fun f cO A outer s H vs Q E hr h =>?_)
 ·obtain⟨o,dx,T,us,ts,rfl,_⟩:=h;rfl
 obtain⟨o,dx,T,us,ts,rfl,ho,hT,fR,dR,q⟩:=h
 refine⟨_,(ax (rM (pv 0) (pv 1) O)
  (ax (rM (pv 0) (oR (te:=(vF _ _ (Xg (fun xs H Q=>N0 K xs H Q) (og _ sF)))) (own := ["term"]) (caps := [("terms",1)]) (gK (aX md) wb6 O O O (by decide +kernel)) (eQ (pv 1)) O (fun _ _ _=>bL (i:=0) (show (["term", "terms"]:List Str).Nodup by decide +kernel) O (aM O)) (fun _ _ _=>(gi X8 (kY (ae j5 aq)) (bO cn O B.iH bM (ae (pv 1) aq))))) O)
  (ax (dJ fJ O (oQ O B.rK (ae (bO cn O B.iH bM (ae (pv 1) aq)) aq)) (bL (i:=2) Hi.nd O (aM O))
  (aI (Cu aD (Cw (aJ bz (eB (pv 0) O) (pv 2)) (pv 2) xD))))
  (ax (rM (pv 0) (oR (te:=_) (own := ["term"]) (caps := []) (gK (aX md) wb6 O O O (by decide +kernel)) (eQ (pv 1)) O (fun _ _ _=>bL (i:=0) (show (["term"]:List Str).Nodup by decide +kernel) O (aM O)) (fun _ _ _=>HE)) O)
  (ax (rM (pv 0) HE O)
  (ax (rM (pv 0) mV O)
  (ax (rM (pv 0) (oR (te:=_) (own := ["term"]) (caps := []) (gK (aX md) wb6 O O O (by decide +kernel)) (eQ (pv 1)) O (fun _ _ _=>bL (i:=0) (show (["term"]:List Str).Nodup by decide +kernel) O (aM O)) (fun _ _ _=>(kY aq))) O)
  (ax (rM (pv 0) mV O)
  (aI (rM (pv 0) mV O)))))))))),?_⟩
 try dsimp only[dQ]
 have eg:us.length=ts.length:=aP fR
 have Fq:T≠o:=a9 hT ho nofun
 have kT':∀ c ys,H c=some (.tup ys)->c≠o:=fun c ys e=>a9 e ho nofun
 -- pj ajN
 refine⟨_,O,_,O,o,CS,dx,_,O,ho,Z.cS,Z.HR,by decide,?_⟩
 have b1:dD o H (upd H o (.ins CS dx (eY "terms" (.ref T) []))):=(dD.refl o H).put
 have IP:(upd H o (.ins CS dx (eY "terms" (.ref T) []))) o=some (.ins CS dx [("terms",.ref T)]):=aE
 have C8:=b1 _ _ Fq hT
 generalize upd H o (.ins CS dx (eY "terms" (.ref T) []))=H1 at b1 IP C8 ⊢
 -- pj least agH
 refine⟨_,O,T,O,⟨_,aZ.of C8⟩,?_⟩
 refine yg (K:=K) (xs:=us) (.lst (bY ts.length .cJ)) (aZ.of C8) (by omega) (fun x hx H' sm Q' q' =>?_) (fun L H2 Lr LM s2 Dc lLr nLr LK =>?_)
 ·refine⟨(show 1<=sizeLine by decide),fun l hl =>?_⟩
  have s3:=bf hl (.lst [V.cJ])
  refine⟨_,O,T,us,O,.inl (aZ.of (s3 _ _ (sm _ _ C8))),l,_,_,O,O,aE,by omega,by omega,?_,fun p hp =>?_⟩
  ·rw[show ((us.length:Int)).toNat=us.length by omega]
   exact jJ (c6 (show 1 * us.length<=1000 by omega))
  ·rw[Hu,show ((us.length:Int)).toNat=ts.length by omega]
   exact q' p _ (s3.free hp) (s3.trans (bf hp _)) aE
 have b2:=b1.same s2
 have LB:=s2 _ _ IP
 have hT2:=s2 _ _ C8
 refine⟨_,O,o,CS,dx,_,O,LB,Z.cS,Z.rN,(show 1 < 1000 by decide),?_⟩
 have bt:dD o H2 (upd H2 o (.ins CS dx (eY "least" (.ref L) [("terms",.ref T)]))):=(dD.refl o H2).put
 have Zm:(upd H2 o (.ins CS dx (eY "least" (.ref L) [("terms",.ref T)]))) o=some (.ins CS dx [("terms",.ref T),("least",.ref L)]):=aE
 generalize upd H2 o (.ins CS dx (eY "least" (.ref L) [("terms",.ref T)]))=H3 at bt Zm ⊢
 have b3:=b2.trans bt
 have hT3:=bt _ _ Fq hT2
 have C9:=bt _ _ (a9 Dc LB nofun) Dc
 have agm:∀ (a:Nat) (c:Addr),Lr[a]? = some c->H3 c=some (.lst (ib (vR 0) ts.length a)):=fun a c e=>by
  rw[RM]
  have:=(LK c (ak e)).2.1
  exact bt _ _ (a9 this LB nofun) this
 clear bt
 have Yi:o ∉ Lr:=fun z=>by have:=(LK o z).1;rw[IP]at this;cases this
 have Ym:T ∉ Lr:=fun z=>by have:=(LK T z).1;rw[C8]at this;cases this
 have So:L ∉ Lr:=fun z=>(LK L z).2.2 rfl
 refine⟨_,O,T,_,O,.inl (aZ.of hT3),_,O,by omega,by omega,?_⟩
 refine oZ (lo:=0) (SiI Lr ts.length H3 [aa o,aa T]) ⟨none,O,fun c u _ e=>e,agm⟩ ?_ ?_
 ·rintro i σ H' hi ⟨x2,rfl,fr,rows⟩
  dsimp only[bw]
  rw[lB]
  have hi:i < ts.length:=by omega
  obtain⟨ca,gy⟩:∃ c,Lr[i]? = some c:=⟨_,aj (by omega)⟩
  refine⟨_,O,o,CS,dx,_,_,O,fr _ _ Yi Zm,Z.cS,Z.rN,O,_,O,L,_,_,_,O,O,aZ.of (fr _ _ So C9),fZ gy,_,O,ca,_,_,i,O,O,rows i ca gy,by rw[Ej];exact Ip hi,⟨_,O,fun c u n e =>?_,fun a c hc =>?_⟩⟩
  ·rw[aF (fun z=>n (by rw[z];exact ak gy))];exact fr c u n e
  ·rw[Qz]
   by_cases e:a=i
   ·subst e
    rw[gy]at hc
    cases hc
    rw[aE, <- Ei hi];rfl
   ·rw[aF (Dv nLr hc gy e),rows a c hc]
    unfold ib
    congr 2
    exact iO fun b _=>by rw[jc (fun z=>e z.1)]
 rintro σ H4 ⟨x2,rfl,fr,rows⟩
 rw[show ((us.length:Int)).toNat=ts.length by omega]at rows
 have IL:=fr _ _ Yi Zm
 have FK:=fr _ _ Ym hT3
 have vO:=fr _ _ So C9
 have b4:dD o H H4:=fun c u n e=>fr c u (fun z=>by
  have:=(LK c z).1
  rw[b1 c u n e]at this;cases this) (b3 c u n e)
 dsimp only[vm,pZ]
 -- Ro MK
 refine⟨_,O,T,O,⟨_,aZ.of FK⟩,?_⟩
 refine yg (K:=K) (xs:=us) (.dK []) (aZ.of FK) (by omega) (fun x hx H' sm Q' q'=>fun p hp=>q' p _ hp (bf hp _) aE) (fun W H5 Wr hW0 s5 Ba lWr nWr ZY =>?_)
 have FG:=s5 _ _ IL
 have hT5:=s5 _ _ FK
 have b5:=b4.same s5
 refine⟨_,O,o,CS,dx,_,O,FG,Z.cS,Z.xP,(show 2 < 1000 by decide),?_⟩
 have t5:dD o H5 (upd H5 o (.ins CS dx (eY "waiting" (.ref W) [("terms",.ref T),("least",.ref L)]))):=(dD.refl o H5).put
 have Zl:(upd H5 o (.ins CS dx (eY "waiting" (.ref W) [("terms",.ref T),("least",.ref L)]))) o=some (.ins CS dx [("terms",.ref T),("least",.ref L),("waiting",.ref W)]):=aE
 generalize upd H5 o (.ins CS dx (eY "waiting" (.ref W) [("terms",.ref T),("least",.ref L)]))=H6 at t5 Zl ⊢
 have Jh:=t5 _ _ Fq hT5
 have b6:=b5.trans t5
 intro Hd Z6
 obtain⟨H7,eH,s7,hd7⟩:=alloc Z6 (.dK [])
 rw[eH]
 have Uw:=s7 _ _ Zl
 have hT7:=s7 _ _ Jh
 have b7:=b6.same s7
 refine⟨_,O,o,CS,dx,_,O,Uw,Z.cS,Z.pG,(show 3 < 1000 by decide),?_⟩
 have t7:dD o H7 (upd H7 o (.ins CS dx (eY "heads" (.ref Hd) [("terms",.ref T),("least",.ref L),("waiting",.ref W)]))):=(dD.refl o H7).put
 have Zk:(upd H7 o (.ins CS dx (eY "heads" (.ref Hd) [("terms",.ref T),("least",.ref L),("waiting",.ref W)]))) o=some (.ins CS dx [("terms",.ref T),("least",.ref L),("waiting",.ref W),("heads",.ref Hd)]):=aE
 generalize upd H7 o (.ins CS dx (eY "heads" (.ref Hd) [("terms",.ref T),("least",.ref L),("waiting",.ref W)]))=H8 at t7 Zk ⊢
 have hT8:=t7 _ _ Fq hT7
 have b8:=b7.trans t7
 intro Sg φg hSg QD
 have s9:=bf hSg (.ext φg)
 generalize upd H8 Sg (.ext φg)=H9 at s9 QD ⊢
 have Lz:=s9 _ _ Zk
 have hT9:=s9 _ _ hT8
 have b9:=b8.same s9
 refine⟨_,O,o,CS,dx,_,O,Lz,Z.cS,Z.Ey,(show 4 < 1000 by decide),?_⟩
 have t9:dD o H9 (upd H9 o (.ins CS dx (eY "single" (.ref Sg) [("terms",.ref T),("least",.ref L),("waiting",.ref W),("heads",.ref Hd)]))):=(dD.refl o H9).put
 have SW:(upd H9 o (.ins CS dx (eY "single" (.ref Sg) [("terms",.ref T),("least",.ref L),("waiting",.ref W),("heads",.ref Hd)]))) o=some (.ins CS dx [("terms",.ref T),("least",.ref L),("waiting",.ref W),("heads",.ref Hd),("single",.ref Sg)]):=aE
 generalize upd H9 o (.ins CS dx (eY "single" (.ref Sg) [("terms",.ref T),("least",.ref L),("waiting",.ref W),("heads",.ref Hd)]))=Bo at t9 SW ⊢
 have NJ:=t9 _ _ Fq hT9
 have L8:=b9.trans t9
 refine⟨_,O,T,O,⟨_,aZ.of NJ⟩,?_⟩
 refine yg (K:=K) (xs:=us) (.lst []) (aZ.of NJ) (by omega) (fun x hx H' sm Q' q'=>⟨(show 0<=sizeLine by decide),fun p hp=>q' p _ hp (bf hp _) aE⟩) (fun S Ka Sr hS0 rJ Z0 lSr Yn yH =>?_)
 have IM:=rJ _ _ SW
 have agk:=rJ _ _ NJ
 have b11:=L8.same rJ
 refine⟨_,O,o,CS,dx,_,O,IM,Z.cS,Z.CI,(show 5 < 1000 by decide),?_⟩
 have KQ:dD o Ka (upd Ka o (.ins CS dx (eY "steps" (.ref S) [("terms",.ref T),("least",.ref L),("waiting",.ref W),("heads",.ref Hd),("single",.ref Sg)]))):=(dD.refl o Ka).put
 have SV:(upd Ka o (.ins CS dx (eY "steps" (.ref S) [("terms",.ref T),("least",.ref L),("waiting",.ref W),("heads",.ref Hd),("single",.ref Sg)]))) o=some (.ins CS dx [("terms",.ref T),("least",.ref L),("waiting",.ref W),("heads",.ref Hd),("single",.ref Sg),("steps",.ref S)]):=aE
 generalize upd Ka o (.ins CS dx (eY "steps" (.ref S) [("terms",.ref T),("least",.ref L),("waiting",.ref W),("heads",.ref Hd),("single",.ref Sg)]))=H12 at KQ SV ⊢
 have agj:=KQ _ _ Fq agk
 have b12:=b11.trans KQ
 intro Aw φa hAw Vb
 have Hq:=bf hAw (.ext φa)
 generalize upd H12 Aw (.ext φa)=MH at Hq Vb ⊢
 have BK:=Hq _ _ SV
 have agi:=Hq _ _ agj
 have b13:=b12.same Hq
 refine⟨_,O,o,CS,dx,_,O,BK,Z.cS,Z.BG,(show 6 < 1000 by decide),?_⟩
 have KP:dD o MH (upd MH o (.ins CS dx (eY "awaited" (.ref Aw) [("terms",.ref T),("least",.ref L),("waiting",.ref W),("heads",.ref Hd),("single",.ref Sg),("steps",.ref S)]))):=(dD.refl o MH).put
 have SU:(upd MH o (.ins CS dx (eY "awaited" (.ref Aw) [("terms",.ref T),("least",.ref L),("waiting",.ref W),("heads",.ref Hd),("single",.ref Sg),("steps",.ref S)]))) o=some (.ins CS dx [("terms",.ref T),("least",.ref L),("waiting",.ref W),("heads",.ref Hd),("single",.ref Sg),("steps",.ref S),("awaited",.ref Aw)]):=aE
 generalize upd MH o (.ins CS dx (eY "awaited" (.ref Aw) [("terms",.ref T),("least",.ref L),("waiting",.ref W),("heads",.ref Hd),("single",.ref Sg),("steps",.ref S)]))=H14 at KP SU ⊢
 have agh:=KP _ _ Fq agi
 have b14:=b13.trans KP
 intro Lk φl UY dLk
 have OO:=bf UY (.ext φl)
 generalize upd H14 Lk (.ext φl)=Rk at OO dLk ⊢
 have SR:=OO _ _ SU
 have agg:=OO _ _ agh
 have b15:=b14.same OO
 refine⟨_,O,o,CS,dx,_,O,SR,Z.cS,Z.xQ,(show 7 < 1000 by decide),?_⟩
 have TR:dD o Rk (upd Rk o (.ins CS dx (eY "lacking" (.ref Lk) [("terms",.ref T),("least",.ref L),("waiting",.ref W),("heads",.ref Hd),("single",.ref Sg),("steps",.ref S),("awaited",.ref Aw)]))):=(dD.refl o Rk).put
 have Zn:(upd Rk o (.ins CS dx (eY "lacking" (.ref Lk) [("terms",.ref T),("least",.ref L),("waiting",.ref W),("heads",.ref Hd),("single",.ref Sg),("steps",.ref S),("awaited",.ref Aw)]))) o=some (.ins CS dx [("terms",.ref T),("least",.ref L),("waiting",.ref W),("heads",.ref Hd),("single",.ref Sg),("steps",.ref S),("awaited",.ref Aw),("lacking",.ref Lk)]):=aE
 generalize upd Rk o (.ins CS dx (eY "lacking" (.ref Lk) [("terms",.ref T),("least",.ref L),("waiting",.ref W),("heads",.ref Hd),("single",.ref Sg),("steps",.ref S),("awaited",.ref Aw)]))=J3 at TR Zn ⊢
 have agf:=TR _ _ Fq agg
 have b16:=b15.trans TR
 have e15:=TR
 have e14:dD o H14 J3:=fun c u n e=>e15 c u n (OO c u e)
 have Qw:=KP.trans e14
 have e12:dD o H12 J3:=fun c u n e=>Qw c u n (Hq c u e)
 have e11:=KQ.trans e12
 have e10:dD o Bo J3:=fun c u n e=>e11 c u n (rJ c u e)
 have e9:=t9.trans e10
 have e8:dD o H8 J3:=fun c u n e=>e9 c u n (s9 c u e)
 have e7:=t7.trans e8
 have e6:dD o H6 J3:=fun c u n e=>e7 c u n (s7 c u e)
 have e5:=t5.trans e6
 have e4:dD o H4 J3:=fun c u n e=>e5 c u n (s5 c u e)
 have f9:dD o H4 Bo:=fun c u n e=>t9 c u n (s9 c u (t7 c u n (s7 c u (t5 c u n (s5 c u e)))))
 -- Ro lives is no new ajL
 have al:∀ {Hk:Hp}{v:HO},dD o H Hk->Hk o=some v->∀ {c:Addr}{u:HO},H c=some u->Hk c≠none:=fun {Hk v} bk hk {c u} e z=>by
  by_cases ec:c=o
  ·rw[ec,hk]at z;cases z
  ·rw[bk c u ec e]at z;cases z
 refine q ⟨T,L,W,S,Hd,Sg,Aw,Lk,Lr,Wr,Sr⟩ J3 rfl b16 ?_ (fun c u e=>⟨?_,fun z=>al b12 SV e (by rw[z];exact hAw)⟩) (Vb.keep (fun φ e=>Qw _ _ (a9 e BK nofun) e) (fun c ys e=>Qw _ _ (a9 e BK nofun) e))
 ·refine⟨Zn,agf,ow (fun c ys e=>b16 _ _ (kT' c ys e) e) fR,e4 _ _ (a9 vO IL nofun) vO,(show Lr.length=ts.length by omega),fun a c e =>?_,e5 _ _ (a9 Ba FG nofun) Ba,(show Wr.length=ts.length by omega),fun a c e =>?_,⟨[],e7 _ _ (a9 hd7 Uw nofun) hd7,?_⟩,⟨[],?_⟩,e11 _ _ (a9 Z0 IM nofun) Z0,(show Sr.length=ts.length by omega),fun a c e =>?_,?_,⟨[],?_⟩,?_,dR⟩
  ·exact e4 _ _ (a9 (rows a c e) IL nofun) (rows a c e)
  ·have:=(ZY c (ak e)).2.1
   exact⟨[],e5 _ _ (a9 this FG nofun) this,fun b=>rfl,(fun kv cZ=>nomatch cZ),df⟩
  ·exact⟨fun a _=>rfl,fun a k b e=>(nomatch e),(fun kv cZ=>nomatch cZ),df⟩
  ·obtain⟨φ,e⟩:=QD.ext
   exact⟨QD.keep (fun φ e=>e9 _ _ (a9 e Lz nofun) e) (fun c ys e=>e9 _ _ (a9 e Lz nofun) e),fun p=>rfl,(fun kv cZ=>nomatch cZ)⟩
  ·have:=(yH c (ak e)).2.1
   exact⟨[],e11 _ _ (a9 this IM nofun) this,.nil⟩
  ·exact⟨[],Vb.keep (fun φ e=>Qw _ _ (a9 e BK nofun) e) (fun c ys e=>Qw _ _ (a9 e BK nofun) e),fun kv cZ=>(nomatch cZ),fun q => .inl ⟨O,O⟩⟩
  ·exact⟨dLk.keep (fun φ e=>e15 _ _ (a9 e SR nofun) e) (fun c ys e=>e15 _ _ (a9 e SR nofun) e),fun p=>rfl,(fun kv cZ=>nomatch cZ)⟩
  ·have ago:=f9 _ _ (a9 vO IL nofun) vO
   have agd:Bo W=_:=t9 _ _ (a9 (s9 _ _ (t7 _ _ (a9 (s7 _ _ (t5 _ _ (a9 Ba FG nofun) Ba)) Uw nofun) (s7 _ _ (t5 _ _ (a9 Ba FG nofun) Ba)))) Lz nofun) (s9 _ _ (t7 _ _ (a9 (s7 _ _ (t5 _ _ (a9 Ba FG nofun) Ba)) Uw nofun) (s7 _ _ (t5 _ _ (a9 Ba FG nofun) Ba))))
   refine⟨nLr,bQ.mpr ⟨fun z =>?_,nWr⟩,Yn,fun c hc z =>?_,fun c hc =>?_,?_,?_,?_⟩
   ·have:=(ZY Hd z).2.1
    have:=t5 _ _ (a9 this FG nofun) this
    rw[Z6]at this;cases this
   ·obtain⟨a,ha⟩:=aT hc
    have:=f9 _ _ (a9 (rows a c ha) IL nofun) (rows a c ha)
    rw[(yH c z).1]at this;cases this
   ·have acd:∀ c∈Lr,Bo c≠none:=fun c hc z=>by
     obtain⟨a,ha⟩:=aT hc
     rw[f9 _ _ (a9 (rows a c ha) IL nofun) (rows a c ha)]at z;cases z
    have hc:c ∈ [T,L,W,S]:=hc
    rcases aY.mp hc with rfl | hc
    ·exact⟨Ym,fun z=>by have:=(yH c z).1;rw[NJ]at this;cases this⟩
    rcases aY.mp hc with rfl | hc
    ·exact⟨So,fun z=>by have:=(yH c z).1;rw[ago]at this;cases this⟩
    rcases aY.mp hc with rfl | hc
    ·refine⟨fun z =>?_,fun z=>by have:=(yH c z).1;rw[agd]at this;cases this⟩
     obtain⟨a,ha⟩:=aT z
     have ha:Lr[a]? = some c:=ha
     rw[rows a c ha]at hW0;cases hW0
    ·rw[aB.mp hc]
     exact⟨fun z=>acd S z hS0,fun z=>(yH S z).2.2 rfl⟩
   ·obtain⟨φ,e⟩:=QD.ext
    have zO:=t9 _ _ (a9 e Lz nofun) e
    have Jn:=KQ _ _ (a9 (rJ _ _ zO) IM nofun) (rJ _ _ zO)
    exact fun z=>by rw[show Sg=Aw from z,hAw]at Jn;cases Jn
   ·obtain⟨φ,e⟩:=QD.ext
    have zO:=t9 _ _ (a9 e Lz nofun) e
    have Jn:=KQ _ _ (a9 (rJ _ _ zO) IM nofun) (rJ _ _ zO)
    have Qj:=KP _ _ (a9 (Hq _ _ Jn) BK nofun) (Hq _ _ Jn)
    exact fun z=>by rw[show Sg=Lk from z,UY]at Qj;cases Qj
   ·obtain⟨φ,e⟩:=Vb.ext
    have Qj:=KP _ _ (a9 e BK nofun) e
    exact fun z=>by rw[show Aw=Lk from z,UY]at Qj;cases Qj
 ·rintro((z | z | z | z) | z | z)
  ·exact al b1 IP e (LK c z).1
  ·exact al b4 IL e (ZY c z).1
  ·exact al b6 Zl e (by rw[z];exact Z6)
  ·exact al b8 Zk e (by rw[z];exact hSg)
  ·exact al L8 SW e (yH c z).1
  ·exact al b14 SU e (by rw[z];exact UY)
end
section
def sT (ts:List Tm) (ls:List Nat) (k:Nat) (m:Tm):Prop := ∃ x as,ts[k]? = some (.of x as)∧mk ls (.of x as)=m
abbrev Rw:=Tm × Addr × List Nat
structure mv (ts:List Tm) (ls:List Nat) (i:Nat) (rs:List Rw):Prop where
 row:∀ r∈rs,∀ k,k∈r.2.2↔k < i∧sT ts ls k r.1
 inc:∀ r∈rs,r.2.2.Pairwise (· < ·)
 has:∀ k m,k < i->sT ts ls k m->∃ r∈rs,r.1=m
 jo:(rs.map (·.1)).Nodup
 dR:rs.length<=i
open Classical in
def j4 (m:Tm) (k:Nat) (r:Rw):Rw:=if r.1=m then (r.1,r.2.1,r.2.2 ++ [k]) else r
theorem Ap (m:Tm) (k:Nat) (r:Rw):(j4 m k r).1=r.1:=by unfold j4;split <;> rfl
theorem Eh (m:Tm) (k:Nat) (r:Rw):(j4 m k r).2.1=r.2.1:=by unfold j4;split <;> rfl
section
variable {ts:List Tm}{ls:List Nat}{i:Nat}{rs:List Rw}{m:Tm}
theorem uG {k:Nat} {m m':Tm} (h:sT ts ls k m) (h':sT ts ls k m'):m=m':=by
 obtain⟨x,as,e,rfl⟩:=h
 obtain⟨y,bs,e',rfl⟩:=h'
 rw[e]at e'
 cases e';rfl
theorem mv.nil:mv ts ls 0 []:=⟨fun r hr=>(nomatch hr),fun r hr=>(nomatch hr),fun k m hk=>absurd hk (ip k),df,au _⟩
theorem mv.skip (h:mv ts ls i rs) (hn:∀ m, ¬ sT ts ls i m):mv ts ls (i+1) rs:=by
 refine⟨fun r hr k =>?_,h.inc,fun k m hk hm =>?_,h.jo,tL h.dR⟩
 ·rw[h.row r hr k]
  refine⟨fun z=>⟨by omega,z.2⟩,fun z=>⟨?_,z.2⟩⟩
  by_cases e:k=i
  ·subst e;exact absurd z.2 (hn _)
  ·omega
 ·by_cases e:k=i
  ·subst e;exact absurd hm (hn _)
  ·exact h.has k m (by omega) hm
theorem mv.old (h:mv ts ls i rs) (hm:sT ts ls i m) (ex:∃ r∈rs,r.1=m):mv ts ls (i+1) (rs.map (j4 m i)):=by
 refine⟨fun r hr k =>?_,fun r hr =>?_,fun k m' hk w4 =>?_,?_,by rw[ar];exact tL h.dR⟩
 ·obtain⟨r0,uN,rfl⟩:=bj.mp hr
  have h0:=h.row r0 uN k
  unfold j4
  by_cases e:r0.1=m
  ·rw[if_pos e]
   dsimp only
   rw[aA,aB,h0]
   constructor
   ·rintro(z | rfl)
    ·exact⟨by omega,z.2⟩
    ·exact⟨by omega,by rw[e];exact hm⟩
   ·rintro⟨z1,z2⟩
    by_cases ek:k=i
    ·exact .inr ek
    ·exact .inl ⟨by omega,z2⟩
  ·rw[if_neg e,h0]
   refine⟨fun z=>⟨by omega,z.2⟩,fun z=>⟨?_,z.2⟩⟩
   by_cases ek:k=i
   ·subst ek;exact absurd (uG z.2 hm) e
   ·omega
 ·obtain⟨r0,uN,rfl⟩:=bj.mp hr
  unfold j4
  by_cases e:r0.1=m
  ·rw[if_pos e]
   dsimp only
   rw[yo]
   refine⟨h.inc r0 uN,nK _ _,fun a ha b hb =>?_⟩
   rw[aB.mp hb]
   exact((h.row r0 uN a).mp ha).1
  ·rw[if_neg e];exact h.inc r0 uN
 ·by_cases e:k=i
  ·subst e
   obtain⟨r,hr,er⟩:=ex
   exact⟨_,bj.mpr ⟨r,hr,O⟩,by rw[Ap,er];exact uG hm w4⟩
  ·obtain⟨r,hr,er⟩:=h.has k m' (by omega) w4
   exact⟨_,bj.mpr ⟨r,hr,O⟩,by rw[Ap,er]⟩
 ·rw[gH]
  have:(fun r=>(j4 m i r).1)=fun r:Rw=>r.1:=funext fun r=>Ap m i r
  show (rs.map fun r=>(j4 m i r).1).Nodup
  rw[this];exact h.jo
theorem mv.new (h:mv ts ls i rs) (hm:sT ts ls i m) (nx:∀ r∈rs,r.1≠m) (c:Addr):mv ts ls (i+1) (rs ++ [(m,c, [i])]):=by
 refine⟨fun r hr k =>?_,fun r hr =>?_,fun k m' hk w4 =>?_,?_,by rw[aK];exact BY h.dR⟩
 ·rcases aA.mp hr with h1 | h1
  ·rw[h.row r h1 k]
   refine⟨fun z=>⟨by omega,z.2⟩,fun z=>⟨?_,z.2⟩⟩
   by_cases ek:k=i
   ·subst ek;exact absurd (uG z.2 hm) (nx r h1)
   ·omega
  ·rw[aB.mp h1]
   dsimp only
   rw[aB]
   constructor
   ·rintro rfl;exact⟨by omega,hm⟩
   ·rintro⟨z1,z2⟩
    by_cases ek:k=i
    ·exact ek
    ·obtain⟨r,hr,er⟩:=h.has k m (by omega) z2
     exact absurd er (nx r hr)
 ·rcases aA.mp hr with hr | hr
  ·exact h.inc r hr
  ·rw[aB.mp hr];exact nK _ _
 ·by_cases e:k=i
  ·subst e
   exact⟨_,aA.mpr (.inr (bx _)),uG hm w4⟩
  ·obtain⟨r,hr,er⟩:=h.has k m' (by omega) w4
   exact⟨r,aA.mpr (.inl hr),er⟩
 ·rw[c9,eK]
  refine⟨h.jo,bQ.mpr ⟨cY,df⟩,fun x hx y hy e =>?_⟩
  obtain⟨r,hr,er⟩:=bj.mp hx
  have hy:y=m:=aB.mp hy
  exact nx r hr (er.trans (e.trans hy))
def pE (row:List Nat) (j:Nat):List (Nat × Nat):=(bN j).flatMap fun pl=>(row.take pl).map fun a=>(a,row.getD pl 0)
def lQ (rs:List Rw) (i:Nat):List (Nat × Nat):=(rs.take i).flatMap fun r=>pE r.2.2 r.2.2.length
theorem BE (row:List Nat) (j:Nat):pE row (j+1)=pE row j ++ (row.take j).map fun a=>(a,row.getD j 0):=by
 unfold pE
 rw[kf,dX];simp
theorem Tp {rs:List Rw}{i:Nat}{r:Rw} (h:rs[i]? = some r):lQ rs (i+1)=lQ rs i ++ pE r.2.2 r.2.2.length:=by
 unfold lQ
 rw[et h,dX];simp
theorem RS (row:List Nat) {j j':Nat} (h:j<=j'):(pE row j).length<=(pE row j').length:=by
 induction h with
 | refl=>exact au _
 | step _ ih=>rw[BE,aK];omega
theorem Tq (rs:List Rw) (i:Nat):(lQ rs i).length<=(lQ rs rs.length).length:=by
 unfold lQ
 rw[bB]
 conv=>rhs;rw[<- xk i rs]
 rw[dX,aK]
 exact jK _ _
theorem Aq {row:List Nat}{p:Nat × Nat}:p∈pE row row.length↔∃ i j:Nat,i < j∧row[i]? = some p.1∧row[j]? = some p.2:=by
 unfold pE
 rw[gR]
 constructor
 ·rintro⟨j,hj,hp⟩
  rw[cI]at hj
  obtain⟨a,ha,rfl⟩:=bj.mp hp
  obtain⟨i,hi⟩:=aT ha
  rw[km]at hi
  split at hi
  ·rename_i c
   refine⟨i,j,c,hi,?_⟩
   dsimp only
   rw[bc,aj hj];rfl
  ·cases hi
 ·rintro⟨i,j,zK,hi,hj⟩
  refine⟨j,cI.mpr (ai.mp hj).1,bj.mpr ⟨p.1,?_,?_⟩⟩
  ·exact ak (i:=i) (by rw[km,if_pos zK];exact hi)
  ·rw[bc,hj];rfl
theorem Ma {p:Nat × Nat}:p∈lQ rs rs.length↔∃ r∈rs,p∈pE r.2.2 r.2.2.length:=by
 unfold lQ
 rw[bB,gR]
theorem PM {row:List Nat} (h:row.Pairwise (· < ·)) {i j a b:Nat} (hi:row[i]? = some a) (hj:row[j]? = some b) (zK:i < j):a < b:=by
 obtain⟨h1,e1⟩:=ai.mp hi
 obtain⟨h2,e2⟩:=ai.mp hj
 have:=mG.mp h i j h1 h2 zK
 rw[e1,e2]at this
 exact this
theorem YO {row:List Nat} (h:row.Pairwise (· < ·)) {a b:Nat} (ha:a∈row) (hb:b∈row) (i6:a < b):∃ i j:Nat,i < j∧row[i]? = some a∧row[j]? = some b:=by
 obtain⟨i,hi⟩:=aT ha
 obtain⟨j,hj⟩:=aT hb
 rcases AN i j with q | q | q
 ·exact⟨i,j,q,hi,hj⟩
 ·rw[q,hj]at hi;cases hi;omega
 ·have:=PM h hj hi q;omega
theorem OT {row:List Nat} (h:row.Pairwise (· < ·)):(pE row row.length).Nodup:=by
 have hn:row.Nodup:=h.imp fun {a b} (z:a < b)=>bH z
 unfold pE
 rw[yr,xm]
 refine⟨fun j hj =>?_,?_⟩
 ·rw[iC]
  refine((AO j row).nodup hn).imp fun {a b} i6 e=>i6 (congrArg cL e)
 ·refine ng ?_ (List.nodup_range (n:=row.length))
  intro j j' hj IW gv x hx y hy e
  obtain⟨a,_,rfl⟩:=bj.mp hx
  obtain⟨b,_,rfl⟩:=bj.mp hy
  have e2:row.getD j 0=row.getD j' 0:=congrArg ym e
  have hj:=cI.mp hj
  have IW:=cI.mp IW
  rw[bc,bc,aj hj,aj IW]at e2
  exact gv ((B3 hn).mp e2)
theorem HY (h:mv ts ls i rs):(lQ rs rs.length).Nodup:=by
 unfold lQ
 rw[bB,yr,xm]
 refine⟨fun r hr=>OT (h.inc r hr),?_⟩
 refine(iC.mp h.jo).imp_of_mem ?_
 intro r r' hr vM gv x hx y hy e
 obtain⟨i1,j1,_,UH,_⟩:=Aq.mp hx
 obtain⟨i2,j2,_,hi2,_⟩:=Aq.mp hy
 have m1:=((h.row r hr _).mp (ak UH)).2
 have m2:=((h.row r' vM _).mp (ak hi2)).2
 rw[<- e]at m2
 exact gv (uG m1 m2)
theorem Nl (h:mv ts ls ts.length rs) {p:Nat × Nat} (hp:p∈lQ rs rs.length):p.1 < p.2∧p.2 < ts.length∧∃ m,sT ts ls p.1 m∧sT ts ls p.2 m:=by
 obtain⟨r,hr,hpr⟩:=Ma.mp hp
 obtain⟨i1,j1,zK,UH,Zx⟩:=Aq.mp hpr
 have m1:=(h.row r hr _).mp (ak UH)
 have m2:=(h.row r hr _).mp (ak Zx)
 exact⟨PM (h.inc r hr) UH Zx zK,m2.1,r.1,m1.2,m2.2⟩
theorem Yt (h:mv ts ls ts.length rs) (hn:ts.length<=30):(lQ rs rs.length).length<=900:=by
 have:=lE (U:=((bN ts.length).flatMap fun a=>(bN ts.length).map fun b=>(a,b))) (HY h) fun x hx=>by
  obtain⟨h1,h2,_⟩:=Nl h hx
  exact gR.mpr ⟨x.1,cI.mpr (by omega),bj.mpr ⟨x.2,cI.mpr h2,O⟩⟩
 refine bq this ?_
 have fl:∀ m,((bN m).flatMap fun a=>(bN ts.length).map fun b=>(a,b)).length=m * ts.length:=fun m=>by
  induction m with
  | zero=>simp
  | succ m ih=>rw[kf,dX,aK,ih,vg];simp
 rw[fl]
 exact qS hn hn
theorem abR (h:mv ts ls ts.length rs) (rV:ts.Nodup):LP ts ls (lQ rs rs.length) (hV ts):=by
 have at_:∀ p∈lQ rs rs.length,p.1 < p.2∧∃ x as bs,ts[p.1]? = some (.of x as)∧ts[p.2]? = some (.of x bs)∧as.length=bs.length:=fun p hp=>by
  obtain⟨h1,_,m,⟨x,as,e1,e2⟩,y,bs,e3,e4⟩:=Nl h hp
  rw[<- e4]at e2
  have e2:TM.of x (as.map fun a=>ls.getD a 0)=TM.of y (bs.map fun a=>ls.getD a 0):=e2
  injection e2 with g1 g2
  subst g1
  have:=congrArg List.length g2
  rw[ar,ar]at this
  exact⟨h1,x,as,bs,e1,e3,this⟩
 refine⟨at_,fun a b x as bs i6 ha hb hl hk =>?_,HY h,fun p _=>Fp ts p,fun p _ q=>Ex,fun p hp e =>?_⟩
 ·have ma:sT ts ls a (mk ls (.of x as)):=⟨x,as,ha,O⟩
  have mb:sT ts ls b (mk ls (.of x as)):=⟨x,bs,hb,by
   show TM.of x (bs.map fun a=>ls.getD a 0)=TM.of x (as.map fun a=>ls.getD a 0)
   congr 1
   refine d8 fun k =>?_
   rw[aG,aG]
   cases e:as[k]? with
   | none=>rw[eU (by rw[<- hl];exact t6.mp e)]
   | some u =>
    have cU:=(ai.mp e).1
    have e':bs[k]? = some (bs[k]'(by omega)):=aj (by omega)
    rw[e']
    exact congrArg some (hk k u _ e e').symm⟩
  have la:=(ai.mp ha).1
  have lb:=(ai.mp hb).1
  obtain⟨r,hr,er⟩:=h.has a _ la ma
  have ra:=(h.row r hr a).mpr ⟨la,by rw[er];exact ma⟩
  have rb:=(h.row r hr b).mpr ⟨lb,by rw[er];exact mb⟩
  exact Ma.mpr ⟨r,hr,Aq.mpr (YO (h.inc r hr) ra rb i6)⟩
 ·obtain⟨cU,x,as,bs,ha,hb,hl⟩:=at_ p hp
  have gv:as≠bs:=fun z=>by
   rw[z, <- hb]at ha
   have:=(jq (by have:=(ai.mp hb).1;omega) rV).mp ha
   omega
  refine gv (d8 fun k =>?_)
  cases ek:as[k]? with
  | none=>rw[eU (by rw[<- hl];exact t6.mp ek)]
  | some u =>
   have hk:=(ai.mp ek).1
   have e':bs[k]? = some (bs[k]'(by omega)):=aj (by omega)
   generalize bs[k]'(by omega)=v at e'
   rw[e']
   by_cases euv:u=v
   ·rw[euv]
   ·have hu:(u,v)∈cN ts p.1 p.2:=by
     have eu:cN ts p.1 p.2=fg as bs:=by unfold cN;rw[ha,hb];rfl
     rw[eu]
     exact iy.mpr ⟨euv,k,ek,e'⟩
    have:=Ex.mpr ⟨_,hu,O⟩
    rw[e]at this
    cases this
end
end
section
variable {P:Program}{w:World}{K:ao}{mg:Str->Option Value}{base:Heap}{CB CF CH CS CN CE CM tB:Addr}
def rP (rs:List Rw):List (NK × V):=rs.map fun r=>(i5 r.1,V.ref r.2.1)
theorem DW {m:Tm}:∀ {rs:List Rw},(∀ v,bR (rP rs) (i5 m)=some v->∃ r∈rs,r.1=m∧v = .ref r.2.1)∧(bR (rP rs) (i5 m)=none->∀ r∈rs,r.1≠m)
 | []=>⟨fun v e=>(nomatch e),fun _ r hr=>(nomatch hr)⟩
 | r :: rs=>by
  obtain⟨h1,h2⟩:=DW (m:=m) (rs:=rs)
  have e0:rP (r :: rs)=(i5 r.1,V.ref r.2.1) :: rP rs:=rfl
  rw[e0]
  by_cases e:r.1=m
  ·rw[eO (by rw[e])]
   refine⟨fun v ev=>⟨r,bg,e,(aH ev).symm⟩,nofun⟩
  ·rw[eD (fun z=>e (GU z))]
   refine⟨fun v ev =>?_,fun z r' vM =>?_⟩
   ·obtain⟨r',vM,g⟩:=h1 v ev
    exact⟨r',aW _ vM,g⟩
   ·rcases aY.mp vM with rfl | vM
    ·exact e
    ·exact h2 z r' vM
theorem Ay {α β : Type}{f : α -> β}:∀ {l:List α},(l.map f).Nodup->∀ {a b : α},a∈l->b∈l->f a=f b->a=b
 | [],_,a,b,ha,_,_=>nomatch ha
 | x :: l,h,a,b,ha,hb,e=>by
  rw[aS,bQ]at h
  rcases aY.mp ha with ea | UR
  ·rcases aY.mp hb with eb | tH
   ·rw[ea,eb]
   ·exact absurd (bj.mpr ⟨b,tH,by rw[<- e,ea]⟩) h.1
  ·rcases aY.mp hb with eb | tH
   ·exact absurd (bj.mpr ⟨a,UR,by rw[e,eb]⟩) h.1
   ·exact Ay h.2 UR tH e
theorem Wl (rs:List Rw) (m:Tm) (k:Nat):rP (rs.map (j4 m k))=rP rs:=by
 unfold rP
 rw[gH]
 exact iO fun r _=>by show (i5 (j4 m k r).1,V.ref (j4 m k r).2.1)=_;rw[Ap,Eh]
structure NX (H H':Hp) (rs:List Rw):Prop where
 at_:∀ r∈rs,H' r.2.1=some (.lst (r.2.2.map nV))∧H r.2.1=none
 jo:(rs.map (·.2.1)).Nodup
theorem NX.same {H H1 H2:Hp}{rs:List Rw} (h:NX H H1 rs) (sm:bu H1 H2):NX H H2 rs:=⟨fun r hr=>⟨sm _ _ (h.at_ r hr).1,(h.at_ r hr).2⟩,h.jo⟩
theorem L6 (row:List Nat) (j:Nat):ly (row.map nV) none (some (j:Int))=(row.take j).map nV:=by
 unfold ly
 rw[HT.VJ,HT.RK,EU,Nat.sub_zero,ar, <- sV]
 congr 1
 rcases jb j row.length with z | z
 ·rw[iq z]
 ·rw[gQ z,bB,List.take_of_length_le z]
theorem Wo {row:List Nat}{n:Nat} (h:row.Pairwise (· < ·)) (hn:∀ k∈row,k < n):row.length<=n:=by
 have:=lE (U:=bN n) (h.imp fun {a b} (z:a < b)=>bH z) fun x hx=>cI.mpr (hn x hx)
 rw[cR]at this
 exact this
theorem Wi {ts:List Tm}{ls:List Nat}{rs:List Rw} (h:mv ts ls ts.length rs):∀ p∈lQ rs rs.length,∀ q∈cN ts p.1 p.2,ls.getD q.1 0=ls.getD q.2 0:=fun p hp q hq=>by
 obtain⟨h1,_,m,⟨x,as,e1,e2⟩,y,bs,e3,e4⟩:=Nl h hp
 rw[<- e4]at e2
 have e2:TM.of x (as.map fun a=>ls.getD a 0)=TM.of y (bs.map fun a=>ls.getD a 0):=e2
 injection e2 with g1 g2
 have ea:cN ts p.1 p.2=fg as bs:=by unfold cN;rw[e1,e3];rfl
 rw[ea]at hq
 obtain⟨_,k,hu,hv⟩:=iy.mp hq
 have this:(as.map fun a=>ls.getD a 0)[k]? = (bs.map fun a=>ls.getD a 0)[k]? := by rw[g2]
 rw[aG,aG,hu,hv]at this
 exact aH this
inductive QT (vs:List V) (H:Hp) (Q:VK):Prop
 | mk (T L:Addr) (us:List V) (ts:List Tm) (ls:List Nat) (z0:vs = [.ref T,.ref L]) (z1:H T=some (.lst us)) (z2:kJ H us ts) (z3:H L=some (.lst (ls.map nV))) (z4:∀ (i:Nat) x as,ts[i]? = some (.of x as)->as.length<=1000∧∀ a∈as,a < ls.length) (z5:ts.length<=30) (z6:ts.Nodup)
  (z7:∀ lp D jk H',bu H H'->H D=none->H' D=some (.lst jk)->dY H' jk lp->lp.length<=900->LP ts ls lp (hV ts)->(∀ p∈lp,∀ q∈cN ts p.1 p.2,ls.getD q.1 0=ls.getD q.2 0)->Q (.ref D) H'):QT vs H Q
def G8:Sp:=fun vs H Q _=>QT vs H Q
inductive LqI (P:Program) (w:World) (H:Hp) (T L p:Addr) (ts:List Tm) (ls:List Nat) (i:Nat) (σ : St) (H':Hp):Prop
 | mk (rs:List Rw) (x3 x4:Option V):(σ = [aa T,aa L,aa p,x3,x4,none,none,none,none,none])->bu H H'->DN P w H' p (rP rs)->mv ts ls i rs->NX H H' rs->LqI P w H T L p ts ls i σ H'
inductive LrI (H:Hp) (Z:Addr) (τ : St) (lp:List (Nat × Nat)) (σ : St) (H':Hp):Prop
 | mk (zs:List V) (rq:St):(σ = τ ++ [some (.ref Z)] ++ rq)->(rq.length=4)->dD Z H H'->H' Z=some (.lst zs)->dY H' zs lp->LrI H Z τ lp σ H'
inductive LsI (H:Hp) (Z:Addr) (τ : St) (lp:List (Nat × Nat)) (σ : St) (H':Hp):Prop
 | mk (zs:List V) (x7 x8 x9:Option V):(σ = τ ++ [x7,x8,x9])->dD Z H H'->H' Z=some (.lst zs)->dY H' zs lp->LsI H Z τ lp σ H'
inductive LtI (H:Hp) (Z:Addr) (τ : St) (lp:List (Nat × Nat)) (σ : St) (H':Hp):Prop
 | mk (zs:List V) (x9:Option V):(σ = τ ++ [x9])->dD Z H H'->H' Z=some (.lst zs)->dY H' zs lp->LtI H Z τ lp σ H'
theorem Gp (B:jO mg) (w8:ed P w K mg base 1 "mark" wa9 (G7 K)) (D:Def K mg "like_pairs" uz wa1):ed P w K mg base 2 "like_pairs" wa1 G8:=by
 refine D.has gI (fun vs H Q E h =>?_) (fun f cO A outer s H vs Q E hr h =>?_)
 ·obtain⟨T,L,us,ts,ls,rfl,_⟩:=h;rfl
 obtain⟨T,L,us,ts,ls,rfl,hT,fR,hL,Lw,dR,rV,q⟩:=h
 refine⟨_,(ax (bC (i:=2) gI.nd O (aM O) mV)
  (ax (dJ bI O (As O B.tV (ae (pv 0) aq)) (lY O (dH (bL (i:=3) gI.nd O (aM O)) (dH (bL (i:=4) gI.nd O (aM O)) jX)))
  (aI (cV (bE gk (aJ bp (pv 4) aD) d9 (bS _)) (aI (dF (lM bU cD cC f6 (En (mn hr) (pv 2) (bG w8 hr (by omega) O (ae (pv 4) (ae (pv 1) aq))) (kY aq) ⟨O,O,O,O⟩) (ae (pv 3) aq)))) cg)))
  (ax (bC (i:=5) gI.nd O (aM O) (kY aq))
  (ax (dJ bI O (RW (pv 2)) (bL (i:=6) gI.nd O (aM O))
  (aI (dJ bI O (As O B.tV (ae (pv 6) aq)) (lY O (dH (bL (i:=7) gI.nd O (aM O)) (dH (bL (i:=8) gI.nd O (aM O)) jX)))
  (aI (dJ bI O (eQ (ky D6 (pv 6) mf (me (pv 7)))) (bL (i:=9) gI.nd O (aM O))
  (aI (dF (lM bU cD cC f6 (pv 5) (ae (cQ (ae (pv 9) (ae (pv 8) aq))) aq)))))))))
  (aI (cm (pv 5))))))),?_⟩
 try dsimp only[dQ]
 have vL:=aP fR
 intro p φ hp zQ
 dsimp only[bw]
 have zf:=bf hp (.ext φ)
 generalize upd H p (.ext φ)=H0 at zf zQ ⊢
 refine⟨_,O,T,O,⟨us,aZ.of (zf _ _ hT)⟩,?_⟩
 refine ya (xs:=us) (LqI P w H T L p ts ls) ⟨[],none,none,O,zf,zQ,mv.nil,fun r hr=>(nomatch hr),df⟩ ?_ ?_ ?_
 ·rintro i σ H' _ ⟨rs,x3,x4,rfl,sm,_⟩
  exact aZ.of (sm _ _ hT)
 ·rintro i x a0 σ H' hx ⟨rs,x3,x4,rfl,sm,dn,ag,T4⟩ I9
  obtain⟨t,ht,vJ⟩:=wM fR hx
  have hi:i < ts.length:=(ai.mp ht).1
  have s1:=bf I9 (.tup [.int (i:Int),x])
  refine⟨a0,_,O,bD.of aE,O,_,_,O,_,_,O,O,?_⟩
  generalize upd H' a0 (.tup [.int (i:Int),x])=H1 at s1 ⊢
  have nX:=sm.trans s1
  have Iq:mr H1 t x:=vJ.keep fun c ys e=>nX _ _ e
  have xc:=dn.same s1
  have XD:=T4.same s1
  cases t with
  | num n =>
   obtain⟨a,rfl,h⟩:=id Iq
   refine⟨_,O,a,_,0,_,O,O,bD.of h,aL (j:=0) rfl,O,_,O,eF (fun z=>absurd (V.str.inj z) (by decide)) (fun _=>⟨rs,_,_,O,nX,xc,ag.skip fun m z =>?_,XD⟩)⟩
   obtain⟨y,as,e,_⟩:=z
   rw[ht]at e;cases e
  | name n =>
   obtain⟨a,rfl,h⟩:=id Iq
   refine⟨_,O,a,_,0,_,O,O,bD.of h,aL (j:=0) rfl,O,_,O,eF (fun z=>absurd (V.str.inj z) (by decide)) (fun _=>⟨rs,_,_,O,nX,xc,ag.skip fun m z =>?_,XD⟩)⟩
   obtain⟨y,as,e,_⟩:=z
   rw[ht]at e;cases e
  | of y as =>
   obtain⟨a,b,rfl,h,h2⟩:=id Iq
   have mka:sT ts ls i (mk ls (.of y as)):=⟨y,as,ht,O⟩
   refine⟨_,O,a,_,0,_,O,O,bD.of h,aL (j:=0) rfl,O,_,O,eF (fun _ =>?_) (fun z=>absurd rfl z)⟩
   refine⟨_,O,p,O,⟨_,xc⟩,_,O,_,O,_,.of y as,L,ls,O,Iq,aZ.of (nX _ _ hL),(fun x as' e=>by cases e;exact Lw i y as ht),fun v' H2 fH hm =>?_⟩
   obtain⟨b',rfl,nk⟩:=hm.key
   have LY:=xc.same fH
   have rw2:=XD.same fH
   have Xq:=nX.trans fH
   refine⟨(show 0<=sizeLine by decide),fun c hc =>?_⟩
   have s3:=bf hc (.lst [])
   have LI:=aE (H:=H2) (a:=c) (o := .lst [])
   have nk3:=nk.keep (H':=upd H2 c (.lst [])) fun d ys z=>s3 _ _ z
   have P6:∀ r∈rs,r.2.1≠c:=fun r hr z=>by rw[<- z,(rw2.at_ r hr).1]at hc;cases hc
   have P9:H c=none:=Xq.free hc
   have hpc:p≠c:=fun z=>by obtain⟨ψ,e⟩:=LY.ext;rw[z,hc]at e;cases e
   generalize upd H2 c (.lst [])=H3 at s3 LI nk3 ⊢
   have qv:=LY.same s3
   have K3:=rw2.same s3
   have Xp:=Xq.trans s3
   have hrl:(rP rs).length<=30:=by unfold rP;rw[ar];have:=ag.dR;omega
   refine⟨rP rs,i5 (mk ls (.of y as)),b',qv,O,nk3,c6 (by omega),fun v hv =>?_,fun hn Tu Va =>?_⟩
   ·obtain⟨r0,uN,em,rfl⟩:=DW.1 v hv
    obtain⟨g1,g2⟩:=K3.at_ r0 uN
    have eg:r0.2.2.length<=30:=bq (Wo (ag.inc r0 uN) fun k hk=>((ag.row r0 uN k).mp hk).1) (by omega)
    refine⟨.inl ⟨O,_,aZ.of g1⟩,_,O,r0.2.1,_,_,O,O,g1,c6 (by rw[ar];omega),⟨rs.map (j4 (mk ls (.of y as)) i),_,_,O,Xp.put g2,?_,ag.old mka ⟨r0,uN,em⟩,?_⟩⟩
    ·rw[Wl]
     exact qv.keep (fun ψ e=>by rw[aF (a9 e g1 nofun)];exact e) (fun d ys e=>by rw[aF (a9 e g1 nofun)];exact e)
    ·refine⟨fun r hr =>?_,?_⟩
     ·obtain⟨r1,Za,rfl⟩:=bj.mp hr
      rw[Eh]
      by_cases e:r1.1=mk ls (.of y as)
      ·have:r1=r0:=Ay ag.jo Za uN (e.trans em.symm)
       subst this
       refine⟨?_,g2⟩
       rw[aE]
       unfold j4
       rw[if_pos e,c9];rfl
      ·obtain⟨k1,k2⟩:=K3.at_ r1 Za
       refine⟨?_,k2⟩
       rw[aF (fun z=>e (by rw[Ay K3.jo Za uN z];exact em)),k1]
       unfold j4
       rw[if_neg e]
     ·rw[gH]
      have:(fun r=>(j4 (mk ls (.of y as)) i r).2.1)=fun r:Rw=>r.2.1:=funext fun r=>Eh _ i r
      show (rs.map fun r=>(j4 (mk ls (.of y as)) i r).2.1).Nodup
      rw[this];exact K3.jo
   ·have nx:=DW.2 hn
    obtain⟨ψ,ep⟩:=qv.ext
    have ZP:(upd H3 p (.ext Tu)) c=some (.lst []):=by rw[aF (cM hpc)];exact LI
    refine⟨.inl ⟨O,_,aZ.of ZP⟩,_,O,c,_,_,O,O,ZP,c6 (bA _),⟨rs ++ [(mk ls (.of y as),c, [i])],_,_,O,(Xp.put hp).put P9,?_,ag.new mka nx c,?_⟩⟩
    ·have:rP (rs ++ [(mk ls (.of y as),c, [i])])=rP rs ++ [(i5 (mk ls (.of y as)),.ref c)]:=by unfold rP;rw[c9];rfl
     rw[this]
     exact Va.keep (fun ψ e=>by rw[aF hpc];exact e) (fun d ys e=>by rw[aF (a9 e ZP nofun)];exact e)
    ·refine⟨fun r hr =>?_,?_⟩
     ·rcases aA.mp hr with h1 | h1
      ·obtain⟨k1,k2⟩:=K3.at_ r h1
       exact⟨by rw[aF (P6 r h1),aF (a9 k1 ep nofun)];exact k1,k2⟩
      ·rw[aB.mp h1]
       exact⟨aE,P9⟩
     ·rw[c9,eK]
      refine⟨K3.jo,bQ.mpr ⟨cY,df⟩,fun x hx y hy e =>?_⟩
      obtain⟨r,hr,er⟩:=bj.mp hx
      have hy:y=c:=aB.mp hy
      exact P6 r hr (er.trans (e.trans hy))
 ·rintro σ H' ⟨rs,x3,x4,rfl,sm,dn,ag,T4⟩
  rw[vL]at ag
  have Yr:=Yt ag dR
  have qp:=abR ag rV
  have Ys:=Wi ag
  -- ajM abO
  refine⟨(show 0<=sizeLine by decide),fun Z hZ =>?_⟩
  dsimp only[bw]
  have s5:=bf hZ (.lst [])
  have US:=aE (H:=H') (a:=Z) (o := .lst [])
  generalize upd H' Z (.lst [])=H5 at s5 US ⊢
  have OJ:=sm.trans s5
  have FT:=dn.same s5
  have rw5:=T4.same s5
  have hZ0:H Z=none:=sm.free hZ
  obtain⟨ψ,ep⟩:=FT.ext
  have hpZ:p≠Z:=a9 ep US nofun
  have Y9:∀ r∈rs,r.2.1≠Z:=fun r hr z=>by have:=(T4.at_ r hr).1;rw[z,hZ]at this;cases this
  refine⟨_,O,p,_,O,FT,fun ob Di =>?_⟩
  refine Qo (fun i σ H'=>LrI H5 Z [aa T,aa L,aa p,x3,x4] (lQ rs i) σ H') ⟨[], [none,none,none,none],O,O,dD.refl Z H5,US,.nil⟩ ?_ ?_ ?_
  ·rintro i σ H' _ ⟨zs, rq,rfl,_,bt,_⟩
   exact Di.keep (fun e=>bt _ _ hpZ e) (fun c ys e=>bt _ _ (a9 e US nofun) e)
  ·rintro i kv σ H' cZ ⟨zs, rq,rfl,zy,bt,yD,oW⟩
   obtain⟨r,hr,rfl⟩:∃ r,rs[i]? = some r∧(i5 r.1,V.ref r.2.1)=kv:=by
    unfold rP at cZ
    rw[aG]at cZ
    exact ck.mp cZ
   have CZ:=ak hr
   have uM:=bt _ _ (Y9 r CZ) (rw5.at_ r CZ).1
   obtain⟨y6,y7,y8,y9,rfl⟩:∃ y6 y7 y8 y9, rq = [y6,y7,y8,y9]:=by
    match rq,zy with
    | [a,b,c,d],_=>exact⟨a,b,c,d,O⟩
   have nxt:=Tp hr
   have lle:=Tq rs (i+1)
   rw[nxt,aK]at lle
   dsimp only[bw]
   refine⟨_,O,r.2.1,O,⟨_,aZ.of uM⟩,?_⟩
   have Us:=(rw5.at_ r CZ).1
   refine ya (xs:=r.2.2.map nV) (fun j σ H'=>LsI H5 Z [aa T,aa L,aa p,x3,x4,some (.ref Z),some (.ref r.2.1)] (lQ rs i ++ pE r.2.2 j) σ H') ⟨zs,y7,y8,y9,O,bt,yD,by show dY H' zs (lQ rs i ++ []);rw[da];exact oW⟩ ?_ ?_ ?_
   ·rintro j σ iY _ ⟨zs,x7,x8,x9,rfl,bt,_⟩
    exact aZ.of (bt _ _ (Y9 r CZ) Us)
   ·rintro j x a0 σ iY hx ⟨zs,x7,x8,x9,rfl,bt,yD,oW⟩ I9
    obtain⟨b,hb,rfl⟩:∃ b,r.2.2[j]? = some b∧nV b=x:=by
     rw[aG]at hx
     exact ck.mp hx
    have hjl:=(ai.mp hb).1
    have s6:=bf I9 (.tup [.int (j:Int),nV b])
    refine⟨a0,_,O,bD.of aE,O,_,_,O,_,_,O,O,?_⟩
    generalize upd iY a0 (.tup [.int (j:Int),nV b])=H6 at s6 ⊢
    have bt6:=bt.same s6
    have YT:=s6 _ _ yD
    have afP:=bJ oW fun c ys e=>s6 _ _ e
    dsimp only
    refine⟨_,O,_,O,_,O,r.2.1,_,O,aZ.of (bt6 _ _ (Y9 r CZ) Us),fun c hc =>?_⟩
    rw[L6]
    have s7:=bf hc (.lst ((r.2.2.take j).map nV))
    have ZO:=aE (H:=H6) (a:=c) (o := .lst ((r.2.2.take j).map nV))
    have hcZ:c≠Z:=fun z=>by rw[z,YT]at hc;cases hc
    generalize upd H6 c (.lst ((r.2.2.take j).map nV))=H7 at s7 ZO ⊢
    have UI:r.2.2.getD j 0=b:=by rw[bc,hb];rfl
    have pl:=RS r.2.2 (j:=j+1) (j':=r.2.2.length) (by omega)
    rw[BE,UI,aK,ar,cj]at pl
    refine⟨c,O,⟨_,aZ.of ZO⟩,?_⟩
    refine fK (xs:=(r.2.2.take j).map nV) (fun k σ H'=>LtI H7 Z [aa T,aa L,aa p,x3,x4,some (.ref Z),some (.ref r.2.1),some (nV j),some (nV b)] (lQ rs i ++ pE r.2.2 j ++ ((r.2.2.take k).map fun a=>(a,b))) σ H') ⟨zs,x9,O,dD.refl Z H7,s7 _ _ YT,by rw[jz,fB,da];exact bJ afP fun c ys e=>s7 _ _ e⟩ ?_ ?_ ?_
    ·rintro k σ H8 _ ⟨zs,x9,rfl,QI,_⟩
     exact aZ.of (QI _ _ hcZ ZO)
    ·rintro k x σ H8 hx ⟨zs,x9,rfl,QI,Nz,IJ⟩
     obtain⟨a,ha,rfl⟩:∃ a,(r.2.2.take j)[k]? = some a∧nV a=x:=by
      rw[aG]at hx
      exact ck.mp hx
     have UC:k < j:=by
      have:=(ai.mp ha).1
      rw[cj]at this;omega
     have UR:r.2.2[k]? = some a:=by rw[km,if_pos UC]at ha;exact ha
     dsimp only[bw]
     refine⟨_,O,.inl ⟨O,_,aZ.of Nz⟩,_,O,_,O,(show 2<=sizeLine by decide),fun t ht =>?_⟩
     obtain⟨H9,eH,s9,ht9⟩:=alloc ht (.tup [nV a,nV b])
     rw[eH]
     have hz9:=s9 _ _ Nz
     have hl:=aP IJ
     rw[aK,aK,ar,cj]at hl
     have kt:∀ c ys,H9 c=some (.tup ys)->(upd H9 Z (.lst (zs ++ [.ref t]))) c=some (.tup ys):=fun c ys e=>by rw[aF (a9 e hz9 nofun)];exact e
     refine⟨Z,_,_,O,O,hz9,c6 (by omega),⟨_,_,O,(QI.same s9).put,aE,?_⟩⟩
     rw[et UR,c9, <- kQ]
     exact gj (bJ (bJ IJ fun c ys e=>s9 _ _ e) kt) (.cons ⟨t,O,kt _ _ ht9⟩ .nil)
    ·rintro σ H8 ⟨zs,x9,rfl,QI,Nz,IJ⟩
     refine⟨zs,_,_,_,O,fun c u n e=>QI c u n (s7 c u (bt6 c u n e)),Nz,?_⟩
     rw[BE,UI, <- kQ]
     rw[ar,cj,iq (by omega)]at IJ
     exact IJ
   ·rintro σ iY ⟨zs,x7,x8,x9,rfl,bt,yD,oW⟩
    refine⟨zs, [_,_,_,_],O,O,bt,yD,?_⟩
    rw[nxt]
    rw[ar]at oW
    exact oW
  ·rintro σ H' ⟨zs, rq,rfl,_,bt,yD,oW⟩
   have kl:(rP rs).length=rs.length:=by unfold rP;rw[ar]
   rw[kl]at oW
   refine⟨_,O,q _ Z zs H' (fun c u e=>bt c u (fun z=>by rw[z,hZ0]at e;cases e) (OJ c u e)) hZ0 yD oW Yr qp Ys⟩
abbrev nC (H:Hp):List V->List cy->Prop:=Paired fun v e=>∃ q c,v=V.ref q∧H q=some (.tup [nV e.1,nV e.2.1,nV e.2.2,c])
structure mJ (ts:List Tm) (es:List cy) (ls:List Nat):Prop where
 dR:ts.length<=30
 jo:ts.Nodup
 arms:tD ts
 qo:∀ (i:Nat) x as,ts[i]? = some (.of x as)->as.length<=1000
 len:ls.length=ts.length
 uW:∀ e∈es,e.1 < ts.length∧e.2.1 < ts.length∧1<=e.2.2
 lead:∀ a b k,hG ts es a b k->a < ts.length->b < ts.length->ls.getD a 0=ls.getD b 0
theorem mJ.jQ {ts:List Tm}{es:List cy}{ls:List Nat} (ok:mJ ts es ls) {i:Nat}{x:Str}{as:List Nat} (e:ts[i]? = some (.of x as)) {a:Nat} (ha:a∈as):a < ts.length:=Ac (ok.arms i x as e a ha) (ai.mp e).1
inductive F9 (vs:List V) (H:Hp) (Q:VK):Prop
 | mk (T L Ed:Addr) (us:List V) (ts:List Tm) (ls:List Nat) (ev:List V) (es:List cy) (z0:vs = [.ref T,.ref L,.ref Ed]) (z1:H T=some (.lst us)) (z2:kJ H us ts) (z3:H L=some (.lst (ls.map nV))) (z4:H Ed=some (.lst ev)) (z5:nC H ev es) (z6:mJ ts es ls)
  (z7:∀ (R:Addr) (rows:List Addr) (H':Hp),bu H H'->H' R=some (.lst (rows.map V.ref))->rows.length=ts.length->(∀ (a:Nat) (c:Addr),rows[a]? = some c->H' c=some (.lst (ib (aO ts es) ts.length a))∧H c=none)->Q (.ref R) H'):F9 vs H Q
def E9:Sp:=fun vs H Q _=>F9 vs H Q
theorem Sk {s:SS}{es:List cy}{i:Nat}{e:cy} (h:es[i]? = some e):nv s (es.take (i+1))=ji (nv s (es.take i)) e.1 e.2.1 e.2.2 true:=by
 unfold nv
 rw[et h,nP];rfl
theorem JD {n:Nat}:∀ {l:List cy}{s:SS},(∀ e∈l,e.1 < n)->nh n s->nh n (nv s l)
 | [],s,_,h=>h
 | e :: l,s,hl,h=>JD (l:=l) (fun e he=>hl e (aW _ he)) (JC h (hl e bg))
theorem Oz:∀ (l:List cy) (s:SS),(nv s l).St=s.St
 | [],s=>rfl
 | e :: l,s=>(Oz l _).trans (Oy s e.1 e.2.1 e.2.2 true).1
def Du (ts:List Tm) (lp:List (Nat × Nat)):Nat × Nat->List (Nat × Nat):=fun q=>lp.filter fun p=>decide (q∈hV ts p)
theorem Tn {ts:List Tm}{lp:List (Nat × Nat)}{i:Nat}{p:Nat × Nat} (h:lp[i]? = some p):pR (Du ts (lp.take i)) (hV ts p) p=Du ts (lp.take (i+1)):=by
 funext q
 unfold pR Du
 rw[et h,Ad]
 by_cases e:q∈hV ts p
 ·rw[if_pos e,iK (p:=fun p=>decide (q∈hV ts p)) (decide_eq_true e)];rfl
 ·rw[if_neg e,iL (p:=fun p=>decide (q∈hV ts p)) (by rw[decide_eq_false e];decide)];exact(da _).symm
theorem Sx {ts:List Tm}{lp:List (Nat × Nat)}{i:Nat}{p:Nat × Nat} (h:lp[i]? = some p):(fun r=>if r=p then some (hV ts p).length else rO (lp.take i) (fun p=>(hV ts p).length) r)=rO (lp.take (i+1)) (fun p=>(hV ts p).length):=by
 funext r
 unfold rO
 rw[et h]
 by_cases e:r=p
 ·subst e;rw[if_pos rfl,if_pos (aA.mpr (.inr (bx _)))]
 ·rw[if_neg e]
  by_cases hr:r∈lp.take i
  ·rw[if_pos hr,if_pos (aA.mpr (.inl hr))]
  ·rw[if_neg hr,if_neg (fun z=>(aA.mp z).elim hr fun z=>e (aB.mp z))]
inductive LaI (P:Program) (w:World) (CS o dx:Addr) (A:SA) (us:List V) (ts:List Tm) (H:Hp) (τ : St) (es:List cy) (i:Nat) (σ : St) (H':Hp):Prop
 | mk (x4:Option V):(σ = τ ++ [x4,none,none])->iU A H H'->dj P w CS o dx A us ts (fun _ => []) H' (nv (mS ts.length) (es.take i)) (fun _=>none)->LaI P w CS o dx A us ts H τ es i σ H'
inductive LbI (P:Program) (w:World) (A:SA) (ts:List Tm) (H:Hp) (τ : St) (lp:List (Nat × Nat)) (i:Nat) (σ : St) (H':Hp):Prop
 | mk (x5 x6:Option V):(σ = τ ++ [x5,x6])->mM P w H A ts.length (Du ts (lp.take i)) (rO (lp.take i) fun p=>(hV ts p).length) H'->LbI P w A ts H τ lp i σ H'
theorem M8 (B:jO mg) (Z:rg K mg CS) (Jd:N1 P w K mg base 1 "Search" CS wb7 (KZ P w CS)) (k9:lU P w K mg base 2 CS "offer_step" ee (G5 P w CS)) (lg:ed P w K mg base 2 "like_pairs" wa1 G8) (uS:lU P w K mg base 2 CS "await_arms" wb5 (K0 P w CS)) (uR:lU P w K mg base 4 CS "settle_all" ["self"] (OC P w CS))
  (D:Def K mg "lengths" zj wb0):ed P w K mg base 5 "lengths" wb0 E9:=by
 have cS:=Z.cS
 refine D.has pA (fun vs H Q E h =>?_) (fun f cO A outer s H vs Q E hr h =>?_)
 ·obtain⟨T,L,Ed,us,ts,ls,ev,es,rfl,_⟩:=h;rfl
 obtain⟨T,L,Ed,us,ts,ls,ev,es,rfl,hT,fR,hL,hE,gF,ok,q⟩:=h
 refine⟨_,(ax (bC (i:=3) pA.nd O (aM O) (R6 Jd hr (by omega) zw O (ae (pv 0) aq)))
  (ax (dJ bI O (eQ (pv 2)) (bL (i:=4) pA.nd O (aM O))
  (aI (dF (tQ k9 cS hr (by omega) zw (pv 3) (ae (aJ bp (pv 4) aD) (ae (aJ bp (pv 4) aD) (ae (aJ bp (pv 4) aD) aq)))))))
  (ax (dJ bI O (eQ (bG lg hr (by omega) O (ae (pv 0) (ae (pv 1) aq)))) (lY O (dH (bL (i:=5) pA.nd O (aM O)) (dH (bL (i:=6) pA.nd O (aM O)) jX)))
  (aI (dF (tQ uS cS hr (by omega) zw (pv 3) (ae (pv 5) (ae (pv 6) aq))))))
  (ax (dF (X3 uR cS hr (by omega) zw (pv 3)))
  (aI (cm (eB (pv 3) O))))))),?_⟩
 try dsimp only[dQ]
 refine⟨_,O,fun o dx ho hdx gv =>?_⟩
 have nX:bu H (upd (upd H dx (.own o)) o (.ins CS dx [])):=fun c u e=>by rw[aF (bX e ho),aF (bX e hdx)];exact e
 have IP:(upd (upd H dx (.own o)) o (.ins CS dx [])) o=some (.ins CS dx []):=aE
 generalize upd (upd H dx (.own o)) o (.ins CS dx [])=H1 at nX IP ⊢
 refine⟨o,dx,T,us,ts,O,IP,nX _ _ hT,fh nX fR,ok.dR,fun A H2 eT b2 Ff own dA2=>⟨O,?_⟩⟩
 have b2:bu H H2:=fun c u e=>b2 c u (bX e ho) (nX c u e)
 have own:∀ c u,H c=some u->¬ t4 A c∧c≠A.Aw:=fun c u e=>own c u (nX c u e)
 dsimp only[bw]
 -- pj ajX
 refine⟨_,O,Ed,O,⟨_,aZ.of (b2 _ _ hE)⟩,?_⟩
 refine fK (xs:=ev) (LaI P w CS o dx A us ts H2 [aa T,aa L,aa Ed,aa o] es) ⟨none,O,fun c u _ e=>e,Ff⟩ ?_ ?_ ?_
 ·rintro i σ H' _ ⟨x4,rfl,bt,_⟩
  exact aZ.of (bt _ _ (own _ _ hE).1 (b2 _ _ hE))
 ·rintro i v σ H' hv ⟨x4,rfl,bt,se⟩
  obtain⟨e,he,qe,c,rfl,Uu⟩:=Paired.at gF hv
  obtain⟨e1,e2,e3⟩:=ok.uW e (ak he)
  have tF:=bt _ _ (own _ _ Uu).1 (b2 _ _ Uu)
  have dg:nh ts.length (nv (mS ts.length) (es.take i)):=JD (fun e he=>(ok.uW e (yp he)).1) (fun x hx=>if_pos ⟨O,hx⟩)
  have nx:=Sk (s:=mS ts.length) he
  dsimp only[bw]
  refine⟨_,O,o,dx,_,O,se.ins,O,_,O,qe,_,0,_,O,O,bD.of tF,aL (j:=0) rfl,_,O,qe,_,1,_,O,O,bD.of tF,aL (j:=1) rfl,_,O,qe,_,2,_,O,O,bD.of tF,aL (j:=2) rfl,?_⟩
  refine⟨o,dx,A,us,ts,_,_,_,e.1,e.2.1,e.2.2,O,se,e1,e2,fun z=>by rw[<- z];exact zR dg e1,fun H3 b3 h3=>⟨_,O,bt.trans (iU.of b3),?_⟩⟩
  rw[nx];exact h3
 ·rintro σ H3 ⟨x4,rfl,bt,se⟩
  have lv:ev.length=es.length:=aP gF
  rw[lv,bB]at se
  have k3:bu H H3:=fun c u e=>bt c u (own c u e).1 (b2 c u e)
  -- pj ie abO
  refine⟨_,O,_,O,T,L,us,ts,ls,O,k3 _ _ hT,fh k3 fR,k3 _ _ hL,fun i x as e=>⟨ok.qo i x as e,fun a ha=>by rw[ok.len];exact ok.jQ e ha⟩,ok.dR,ok.jo,fun lp D1 rA H4 s4 U4 Jl FE Yr qp _ =>?_⟩
  have Fe:=se.same s4
  refine⟨D1,O,⟨_,aZ.of Jl⟩,?_⟩
  have Ue:D1≠A.Aw∧D1≠A.Lk:=by
   obtain⟨ka,d0,_⟩:=Fe.mD
   obtain⟨kl,l0⟩:=Fe.l3
   obtain⟨φ,e1⟩:=d0.ext
   obtain⟨ψ,e2⟩:=l0.dn.ext
   exact⟨a9 Jl e1 nofun,a9 Jl e2 nofun⟩
  have WV:∀ {c ys},H4 c=some (.tup ys)->c≠A.Aw∧c≠A.Lk:=fun {c ys} e=>by
   obtain⟨ka,d0,_⟩:=Fe.mD
   obtain⟨kl,l0⟩:=Fe.l3
   obtain⟨φ,e1⟩:=d0.ext
   obtain⟨ψ,e2⟩:=l0.dn.ext
   exact⟨a9 e e1 nofun,a9 e e2 nofun⟩
  refine fK (xs:=rA) (LbI P w A ts H4 [aa T,aa L,aa Ed,aa o,x4] lp) ⟨none,none,O,?_⟩ ?_ ?_ ?_
  ·obtain⟨kl,l0⟩:=Fe.l3
   refine⟨fun c u _ _ e=>e,⟨[],?_,(fun kv cZ=>nomatch cZ),fun q => .inl ⟨O,O⟩,(fun q q' c z=>nomatch z)⟩,kl,?_⟩
   ·obtain⟨φ,eA⟩:=dA2.ext
    have nA:¬ t4 A A.Aw:=by
     rintro((z | z | z | z) | z | z)
     ·obtain⟨i,hi⟩:=aT z
      have:=Ff.rL i _ hi
      rw[eA]at this;cases this
     ·obtain⟨i,hi⟩:=aT z
      obtain⟨_,this,_⟩:=Ff.rW i _ hi
      rw[eA]at this;cases this
     ·obtain⟨_,this,_⟩:=Ff.hH
      rw[<- z,eA]at this;cases this
     ·exact Ff.sep.e1 z.symm
     ·obtain⟨i,hi⟩:=aT z
      obtain⟨_,this,_⟩:=Ff.rS i _ hi
      rw[eA]at this;cases this
     ·exact Ff.sep.e3 z
    exact dA2.keep (fun φ e=>s4 _ _ (bt _ _ nA e)) (fun c ys e=>s4 _ _ (bt _ _ (Ff.Ou e) e))
   ·exact⟨l0.dn,fun p=>by rw[l0.val];unfold rO;rw[jz,if_neg cY],l0.key⟩
  ·rintro i σ H' _ ⟨x5,x6,rfl,hx⟩
   exact aZ.of (hx.fr _ _ Ue.1 Ue.2 Jl)
  ·rintro i v σ H' hv ⟨x5,x6,rfl,hx⟩
   obtain⟨pq,FC,pa,rfl,oW⟩:=Paired.at FE hv
   have SQ:=hx.fr _ _ (WV oW).1 (WV oW).2 oW
   have hm:=ak FC
   obtain⟨cU,x,as,bs,ta,tb,hl⟩:=qp.at_ pq hm
   have seX:=hx.se Fe
   refine⟨pa,_,O,bD.of SQ,O,_,_,O,_,_,O,O,?_⟩
   dsimp only
   refine⟨_,O,o,dx,_,O,seX.ins,O,_,O,_,O,o,dx,A,us,ts,_,_,_,_,_,H4,pq.1,pq.2,x,x,as,bs,O,Fe,hx,ta,tb,hl,ok.qo _ _ _ ta,fun r hr =>?_,fun q =>?_,fun H' vJ=>⟨_,_,O,?_⟩⟩
   ·have eu:cN ts pq.1 pq.2=fg as bs:=by unfold cN;rw[ta,tb];rfl
    rw[eu]at hr
    obtain⟨_,k,h1,h2⟩:=iy.mp hr
    exact⟨ok.jQ ta (ak h1),ok.jQ tb (ak h2)⟩
   ·unfold Du
    refine bq (jh ..) ?_
    rw[cj];omega
   ·rw[Tn FC,Sx FC]at vJ
    exact vJ
  ·rintro σ H5 ⟨x5,x6,rfl,hx⟩
   have lv:rA.length=lp.length:=aP FE
   rw[lv,bB]at hx
   have se5:=hx.se Fe
   have rd:Mo P w CS o dx A us ts es ls lp (hV ts) (Du ts lp) H5 (nv (mS ts.length) es) (fun p=>(hV ts p).length):=⟨se5,QN qp ok.uW,fun x=>by rw[Oz];exact bA _⟩
   have fx:Fix ts ls lp (hV ts) (Du ts lp):=⟨qp,fun q=>(yS).nodup qp.nodup,fun q p=>by unfold Du;rw[gB,decide_eq_true_iff],fun i x as e=>⟨ok.qo i x as e,fun a ha=>ok.jQ e ha⟩⟩
   refine⟨_,O,o,dx,_,O,se5.ins,O,o,dx,A,us,ts,es,ls,lp,hV ts,Du ts lp,_,_,O,rd,fx,fun s6 lk6 H6 b6 r6 afv =>?_⟩
   have OM:=r6.at_
   have fin:∀ a b,a < ts.length->s6.L a b=aO ts es a b:=fun a b ha=>WJ r6.all qp ok.uW ok.arms ok.lead afv ha
   refine⟨_,O,o,CS,dx,_,_,O,OM.ins,Z.cS,Z.rN,O,q A.L A.Lr H6 (fun c u e =>?_) OM.hL OM.lL (fun a c hc=>⟨?_,?_⟩)⟩
   ·obtain⟨n1,n2⟩:=own c u e
    exact b6 c u n1 (hx.fr c u n2 (fun z=>n1 (.inr (.inr z))) (s4 c u (k3 c u e)))
   ·rw[OM.rL a c hc]
    have ha:a < ts.length:=by rw[<- OM.lL];exact(ai.mp hc).1
    unfold ib
    congr 2
    exact iO fun b _=>by rw[fin a b ha]
   ·cases e:H c with
    | none=>rfl
    | some u=>exact absurd (.inl (.inl (ak hc))) (own c u e).1
def ig (c p m:Int):Int:=c % p * 48271 % p % m
theorem oB (c p:Int) {m:Int} (h:0 < m):0<=ig c p m:=mK _ (by omega)
theorem yd (c p:Int) {m:Int} (h:0 < m):ig c p m < m:=su _ h
inductive QZ (vs:List V) (H:Hp) (Q:VK):Prop
 | mk (c p m:Int) (z0:vs = [.int c,.int p,.int m]) (z1:0 < p) (z2:p < 20000) (z3:0 < m) (z4:Q (.int (ig c p m)) H):QZ vs H Q
def zd:Sp:=fun vs H Q _=>QZ vs H Q
theorem V7 (D:Def K mg "_law_draw" Hn fM):ed P w K mg base 1 "_law_draw" fM zd:=by
 refine D.has VI (fun vs H Q E h =>?_) (fun f cO A outer s H vs Q E hr h =>?_)
 ·obtain⟨c,f,m,rfl,_⟩:=h;rfl
 obtain⟨c,p,m,rfl,h0,h1,h2,q⟩:=h
 refine⟨_,(aI (cm (gi uE (gi uE (gi X9 (gi uE (pv 0) (pv 1)) aD) (pv 1)) (pv 2)))),?_⟩
 try dsimp only[dQ]
 have a0:0<=c % p:=mK _ (by omega)
 have a1:c % p < p:=su _ h0
 exact⟨_,O,_,O,_,_,O,O,h0,_,_,O,O,.inl ⟨by omega,by omega⟩,_,O,_,_,O,O,h0,_,O,_,_,O,O,h2,q⟩
def uF (c:Int):Str:=g6 "mmmmmmm" none (some (ig c 10007 8))
def CJ (c:Int):Int:=ig c 10009 ((uF c).length+1)
def mw (c k:Int):Str:=g6 (uF c) none (some (CJ c)) ++ Ih k ++ g6 (uF c) (some (CJ c)) none
theorem slice_le (x:Str) (lo hi:Option Int):(g6 x lo hi).length<=x.length:=by
 show (g6 x lo hi).cps.size<=x.cps.size
 rw[<- dB,OK,cj,oI,dB]
 omega
theorem mm7 (c:Int):(uF c).length<=7:=bq (slice_le _ _ _) (by decide)
theorem Vt (c:Int):mw c 0≠mw c 1:=fun e=>by
 have e1:(mw c 0).cps.toList=(mw c 1).cps.toList:=by rw[e]
 unfold mw at e1
 generalize g6 (uF c) none (some (CJ c))=a at e1
 generalize g6 (uF c) (some (CJ c)) none=b at e1
 have ap:∀ x y:Str,(x ++ y).cps.toList=x.cps.toList ++ y.cps.toList:=fun x y=>by show (x.cps ++ y.cps).toList=_;exact Array.toList_append
 rw[ap,ap,ap,ap]at e1
 have e2:=List.append_cancel_right e1
 have e3:=List.append_cancel_left e2
 exact absurd e3 (by decide +kernel)
inductive QO (vs:List V) (H:Hp) (Q:VK):Prop
 | mk (k c:Int) (z0:vs = [.int k,.int c]) (z4:Q (.str (mw c k)) H):QO vs H Q
def G3:Sp:=fun vs H Q _=>QO vs H Q
theorem V0 (B:jO mg) (f7:ed P w K mg base 1 "_law_draw" fM zd) (D:Def K mg "_law_word" Hj wa8):ed P w K mg base 2 "_law_word" wa8 G3:=by
 refine D.has D7 (fun vs H Q E h =>?_) (fun f cO A outer s H vs Q E hr h =>?_)
 ·obtain⟨k,c,rfl,_⟩:=h;rfl
 obtain⟨k,c,rfl,q⟩:=h
 refine⟨_,(ax (bC (i:=2) D7.nd O (aM O) (ky Hg d9 mf (me (bG f7 hr (by omega) O (ae (pv 1) (ae aD (ae aD aq)))))))
  (ax (bC (i:=3) D7.nd O (aM O) (bG f7 hr (by omega) O (ae (pv 1) (ae aD (ae (gi mW (bO JI O B.iH bM (ae (pv 2) aq)) aD) aq)))))
  (aI (cm (gi Cy (gi Cy (ky Hg (pv 2) mf (me (pv 3))) (aJ YJ d9 (gi uE (pv 0) aD))) (ky Hg (pv 2) (me (pv 3)) mf)))))),?_⟩
 try dsimp only[dQ]
 have big:(1000:Nat)<=sizeLine:=by decide
 have l7:=mm7 c
 refine⟨_,O,c,10007,8,O,by decide,by decide,by decide,_,O,_,O,(by decide),?_⟩
 dsimp only[bw]
 refine⟨_,O,_,O,_,O,(show (uF c).length<=sizeLine by omega),_,_,O,O,c,10009,_,O,by decide,by decide,(show (0:Int) < ((uF c).length:Int)+1 by omega),?_⟩
 dsimp only[bw]
 have l1:=slice_le (uF c) none (some (CJ c))
 have l2:=slice_le (uF c) (some (CJ c)) none
 have hz:("abcdefghijklmnopqrstuvwxyz" : Str).length<=sizeLine:=by decide +kernel
 refine⟨_,O,_,O,_,O,_,O,(show (uF c).length<=sizeLine by omega),_,O,_,_,O,O,oy,_,_,_,O,O,hz,WK k,_,_,O,O,?_,?_⟩
 ·show (g6 (uF c) none (some (CJ c))).length+(Ih k).length<=sizeLine
  have:(Ih k).length=1:=rfl
  omega
 refine⟨_,O,_,O,_,O,_,O,(show (uF c).length<=sizeLine by omega),_,_,O,O,?_,q⟩
 show (g6 (uF c) none (some (CJ c)) ++ Ih k).length+(g6 (uF c) (some (CJ c)) none).length<=sizeLine
 have:(Ih k).length=1:=rfl
 rw[AK]
 omega
inductive QP (vs:List V) (H:Hp) (Q:VK):Prop
 | mk (c s:Int) (fu:Nat) (z0:vs = [.int c,.int s,nV fu]) (z1:0 < fu) (z4:∀ t v H',bu H H'->mr H' t v->(∀ x as,t = .of x as->as.length<=4∧∀ a∈as,a < fu)->Q v H'):QP vs H Q
def OB:Sp:=fun vs H Q _=>QP vs H Q
theorem V2 (B:jO mg) (f7:ed P w K mg base 1 "_law_draw" fM zd) (r8:ed P w K mg base 2 "_law_word" wa8 G3) (D:Def K mg "_law_term" Co wa2):ed P w K mg base 3 "_law_term" wa2 OB:=by
 refine D.has wQ (fun vs H Q E h =>?_) (fun f cO A outer s H vs Q E hr h =>?_)
 ·obtain⟨c,s,fu,rfl,_⟩:=h;rfl
 obtain⟨c,s,fu,rfl,hm,q⟩:=h
 refine⟨_,(ax (bC (i:=3) wQ.nd O (aM O) (bG f7 hr (by omega) O (ae (pv 0) (ae aD (ae aD aq)))))
  (ax (cV (bE gk (pv 3) aD (bS _)) (aI (cm (cQ (ae d9 (ae (bG r8 hr (by omega) O (ae (gi mW aD (bG f7 hr (by omega) O (ae (pv 0) (ae aD (ae aD aq))))) (ae (pv 1) aq))) aq))))) cg)
  (ax (cV (bE gk (pv 3) aD (bS _)) (ax (bC (i:=4) wQ.nd O (aM O) (gi uE (gi K9 (pv 0) aD) (gi O3 aD aD)))
  (aI (cm (cQ (ae d9 (ae (HC (bE gk (bG f7 hr (by omega) O (ae (pv 0) (ae aD (ae aD aq)))) aD (bS _)) (pv 4) (T7 Oi (pv 4))) aq)))))) cg)
  (ax (bC (i:=5) wQ.nd O (aM O) (aJ bp (cQ (ae aD (ae aD (ae aD (ae aD (ae aD (ae aD (ae aD (ae aD aq))))))))) (bG f7 hr (by omega) O (ae (pv 0) (ae aD (ae aD aq))))))
  (ax (Ct (i:=6) wQ.nd O O (te:=(tO _ _ _ (og _ (og _ (og _ sF))))) (own := ["_law_prime"]) (caps := [("_law_cell",0),("_law_many",2)]) (gK (aX Co) ["_law_cell", "_law_seed", "_law_many", "_law_kind", "_law_number", "_law_count", "_law_arms"] O O O (by decide +kernel)) (Cv (cQ (ae aD (ae aD (ae aD (ae aD aq)))))) O (fun _ _ _=>bL (i:=0) (show (["_law_prime", "_law_cell", "_law_many"]:List Str).Nodup by decide +kernel) O (aM O)) (fun _ _ _=>(bG f7 hr (by omega) O (ae (pv 1) (ae (pv 0) (ae (pv 2) aq))))) O)
  (aI (cm (cQ (ae d9 (ae (bG r8 hr (by omega) O (ae (gi mW aD (bG f7 hr (by omega) O (ae (pv 0) (ae aD (ae aD aq))))) (ae (gi K9 (pv 1) aD) aq))) (ae (iE yJ O B.Cg qZ (ae (ky D6 (pv 6) mf (me (pv 5))) aq)) aq))))))))))),?_⟩
 try dsimp only[dQ]
 refine⟨_,O,c,10067,6,O,by decide,by decide,by decide,?_⟩
 dsimp only[bw]
 refine⟨_,O,O,_,O,eF (fun _ =>?_) (fun _ =>?_)⟩
 ·refine⟨_,O,c,10061,18,O,by decide,by decide,by decide,_,_,O,O,_,O,_,s,O,?_⟩
  exact⟨(show 2<=sizeLine by decide),fun t ht=>q (.name _) _ _ (bf ht _) ⟨t,O,aE⟩ fun x as e=>nomatch e⟩
 refine⟨_,O,O,_,O,eF (fun _ =>?_) (fun _ =>?_)⟩
 ·refine⟨_,O,_,_,O,O,aaC,10,60,O,O,⟨by decide,by decide,by decide⟩,_,_,O,O,(by show (0:Int) < 10 ^ 60;decide),?_⟩
  dsimp only[bw]
  refine⟨_,O,c,10039,2,O,by decide,by decide,by decide,O,_,O,eF (fun _ =>?_) (fun _ =>?_)⟩
  ·exact⟨_,O,(show 2<=sizeLine by decide),fun t ht=>q (.num _) _ _ (bf ht _) ⟨t,O,aE⟩ fun x as e=>nomatch e⟩
  ·exact⟨_,O,_,O,(show 2<=sizeLine by decide),fun t ht=>q (.num _) _ _ (bf ht _) ⟨t,O,aE⟩ fun x as e=>nomatch e⟩
 -- how fu arms
 have r0:=oB c 10069 (m:=8) (by decide)
 have r1:=yd c 10069 (m:=8) (by decide)
 obtain⟨n,hn,n4⟩:∃ n:Nat,tI ([1,1,1,2,2,2,3,4].map V.int) (ig c 10069 8)=some (nV n)∧n<=4:=by
  obtain⟨r,hr,hr8⟩:∃ r:Nat,ig c 10069 8=(r:Int)∧r < 8:=⟨(ig c 10069 8).toNat,by omega,by omega⟩
  rw[hr]
  match r,hr8 with
  | 0,_=>exact⟨1,O,by decide⟩
  | 1,_=>exact⟨1,O,by decide⟩
  | 2,_=>exact⟨1,O,by decide⟩
  | 3,_=>exact⟨2,O,by decide⟩
  | 4,_=>exact⟨2,O,by decide⟩
  | 5,_=>exact⟨2,O,by decide⟩
  | 6,_=>exact⟨3,O,by decide⟩
  | 7,_=>exact⟨4,O,by decide⟩
 refine⟨(show 8<=sizeLine by decide),fun p hp =>?_⟩
 have s1:=bf hp (.tup ([1,1,1,2,2,2,3,4].map V.int))
 have tG:=aE (H:=H) (a:=p) (o := .tup ([1,1,1,2,2,2,3,4].map V.int))
 refine⟨_,O,c,10069,8,O,by decide,by decide,by decide,p,_,_,_,O,O,bD.of tG,hn,?_⟩
 clear hn r0 r1
 dsimp only[bw]
 have s1:bu H (upd H p (.tup [.int 1,.int 1,.int 1,.int 2,.int 2,.int 2,.int 3,.int 4])):=s1
 clear tG
 generalize upd H p (.tup [.int 1,.int 1,.int 1,.int 2,.int 2,.int 2,.int 3,.int 4])=H1 at s1 ⊢
 -- pj arms
 refine⟨(show 4<=sizeLine by decide),fun p2 oX =>?_⟩
 have s2:=s1.trans (bf oX (.tup [.int 10079,.int 10091,.int 10093,.int 10099]))
 have wZ:=aE (H:=H1) (a:=p2) (o := .tup [.int 10079,.int 10091,.int 10093,.int 10099])
 generalize upd H1 p2 (.tup [.int 10079,.int 10091,.int 10093,.int 10099])=H2 at s2 wZ ⊢
 refine⟨p2,O,⟨_,bD.of wZ⟩,?_⟩
 have dz:∀ pr:Int,((ig c pr fu).toNat:Int)=ig c pr fu:=fun pr=>by have:=oB c pr (m:=fu) (by omega);omega
 refine vT (ys:=([10079,10091,10093,10099].map fun pr:Int=>(ig c pr fu).toNat).map nV) (bD.of wZ) (by decide) (by rfl) (fun i y z hy hz H' sm Q' q' =>?_) (fun D1 H3 lh jv hD =>?_)
 ·obtain⟨pr,e1,e2,e3,e4⟩:∃ pr:Int,y = .int pr∧z=nV (ig c pr fu).toNat∧0 < pr∧pr < 20000:=by
   match i with
   | 0=>exact⟨10079,(aH hy).symm,(aH hz).symm,by decide,by decide⟩
   | 1=>exact⟨10091,(aH hy).symm,(aH hz).symm,by decide,by decide⟩
   | 2=>exact⟨10093,(aH hy).symm,(aH hz).symm,by decide,by decide⟩
   | 3=>exact⟨10099,(aH hy).symm,(aH hz).symm,by decide,by decide⟩
   | j+4=>cases hy
  subst e1 e2
  refine⟨_,O,_,O,_,O,c,pr,fu,O,e3,e4,by omega,?_⟩
  have:=q' _ (bu.refl H')
  rw[show nV (ig c pr fu).toNat=V.int (ig c pr fu) from congrArg V.int (dz pr)]at this
  exact this
 have s3:=s2.trans jv
 generalize hks:([10079,10091,10093,10099].map fun pr:Int=>(ig c pr fu).toNat)=ks at hD
 have lks:ks.length=4:=by rw[<- hks];rfl
 have CO:∀ k∈ks,k < fu:=fun k hk=>by
  rw[<- hks]at hk
  obtain⟨pr,_,rfl⟩:=bj.mp hk
  have:=yd c pr (m:=fu) (by omega)
  have:=oB c pr (m:=fu) (by omega)
  omega
 dsimp only[bw]
 refine⟨_,O,c,10103,2,O,by decide,by decide,by decide,_,_,O,O,_,O,_,_,O,O,aaC,_,_,O,?_⟩
 refine⟨_,O,_,O,_,O,D1,_,O,aZ.of hD,fun l hl =>?_⟩
 rw[L6]
 have s4:=s3.trans (bf hl (.lst ((ks.take n).map nV)))
 have hl4:=aE (H:=H3) (a:=l) (o := .lst ((ks.take n).map nV))
 generalize upd H3 l (.lst ((ks.take n).map nV))=H4 at s4 hl4 ⊢
 refine⟨l,_,O,.inl ⟨aZ.of hl4,fun tp htp =>?_⟩⟩
 have s5:=s4.trans (bf htp (.tup ((ks.take n).map nV)))
 have Zs:=aE (H:=H4) (a:=tp) (o := .tup ((ks.take n).map nV))
 generalize upd H4 tp (.tup ((ks.take n).map nV))=H5 at s5 Zs ⊢
 refine⟨(show 3<=sizeLine by decide),fun t ht=>q (.of _ (ks.take n)) _ _ (s5.trans (bf ht _)) ⟨t,tp,O,aE,by rw[aF (bX Zs ht)];exact Zs⟩ fun x as e =>?_⟩
 cases e
 exact⟨by rw[cj];omega,fun a ha=>CO a (yp ha)⟩
def agA (H:Hp) (v:V) (e:cy):Prop := ∃ q c,v=V.ref q∧H q=some (.tup [nV e.1,nV e.2.1,nV e.2.2,c])
def WIn (n:Nat) (e:cy):Prop:=e.1 < n∧e.2.1 < n∧1<=e.2.2
inductive QY (vs:List V) (H:Hp) (Q:VK):Prop
 | mk (c col:Int) (fu:Nat) (z0:vs = [.int c,nV fu,.int col]) (z1:0 < fu) (z2:fu<=1000) (z3:0 < col) (z4:∀ e v H',bu H H'->agA H' v e->WIn fu e->Q v H'):QY vs H Q
def OG:Sp:=fun vs H Q _=>QY vs H Q
def CG (a col:Int):Int->Option V:=fun k=>if (k - a) % col=0 then some (.int k) else none
def Ax (a col:Int) (n:Nat):List Nat:=(bN n).filter fun i=>decide (((i:Int) - a) % col=0)
theorem Wd (a col:Int) (n:Nat):((bN n).filterMap fun i:Nat=>CG a col (0+(i:Int)))=(Ax a col n).map nV:=by
 unfold Ax
 generalize bN n=l
 induction l with
 | nil=>rfl
 | cons i l ih =>
  unfold CG at ih ⊢
  by_cases h:((i:Int) - a) % col=0
  ·rw[List.filterMap_cons_some (b:=V.int i) (by rw[lB,if_pos h]),iK (p:=fun i:Nat=>decide (((i:Int) - a) % col=0)) (decide_eq_true h),aS,ih]
  ·rw[List.filterMap_cons_none (by rw[lB,if_neg h]),iL (p:=fun i:Nat=>decide (((i:Int) - a) % col=0)) (by rw[decide_eq_false h];decide),ih]
theorem V6 (B:jO mg) (f7:ed P w K mg base 1 "_law_draw" fM zd) (D:Def K mg "_law_edge" Cq vc):ed P w K mg base 2 "_law_edge" vc OG:=by
 refine D.has ud (fun vs H Q E h =>?_) (fun f cO A outer s H vs Q E hr h =>?_)
 ·obtain⟨c,col,fu,rfl,_⟩:=h;rfl
 obtain⟨c,col,fu,rfl,hm,hm2,af5,q⟩:=h
 refine⟨_,(ax (bC (i:=3) ud.nd O (zZ O) (bG f7 hr (by omega) O (ae (pv 0) (ae aD (ae (pv 1) aq)))))
  (ax (Kq (i:=4) ud.nd O O (te:=_) (ct:=(GA (vF _ (vF _ (vF _ _ _) _) _))) (own := ["_law_k"]) (caps := [("_law_colours",2),("_law_a",3)]) (gK (aX Cq) ["_law_cell", "_law_many", "_law_colours", "_law_a", "_law_near", "_law_b", "_law_weight"] O O O (by decide +kernel)) (oQ O B.rK (ae (pv 1) aq)) O (fun _ _ _=>bL (i:=0) (show (["_law_k", "_law_colours", "_law_a"]:List Str).Nodup by decide +kernel) O (aM O)) (fun _ _ _=>(bE gk (gi uE (gi X7 (pv 0) (pv 2)) (pv 1)) aD (bS _))) (fun _ _ _=>(pv 0)) O)
  (ax (bC (i:=5) ud.nd O (aM O) (aJ bz (pv 4) (bG f7 hr (by omega) O (ae (pv 0) (ae aD (ae (bO cn O B.iH bM (ae (pv 4) aq)) aq))))))
  (ax (bC (i:=6) ud.nd O (aM O) (gi mW aD (bG f7 hr (by omega) O (ae (pv 0) (ae aD (ae aD aq))))))
  (ax (cV (bE gk (bG f7 hr (by omega) O (ae (pv 0) (ae aD (ae aD aq)))) aD (bS _)) (aI (bC (i:=6) ud.nd O (aM O) (gi mW aD (gi uE (pv 0) (gi O3 aD aD))))) cg)
  (ax (cV (bE gk (bG f7 hr (by omega) O (ae (pv 0) (ae aD (ae aD aq)))) aD (bS _)) (aI (cm (cQ (ae (pv 3) (ae (pv 5) (ae (pv 6) (ae (cQ (ae d9 aq)) aq))))))) cg)
  (aI (cm (cQ (ae (pv 3) (ae (pv 5) (ae (pv 6) (ae (cQ (ae d9 (ae d9 (ae (cQ (ae (cQ (ae d9 (ae (pv 5) aq))) aq)) aq)))) aq))))))))))))),?_⟩
 try dsimp only[dQ]
 have a0:=oB c 10111 (m:=fu) (by omega)
 have a1:=yd c 10111 (m:=fu) (by omega)
 refine⟨_,O,_,O,c,10111,fu,O,by decide,by decide,by omega,?_⟩
 dsimp only[bw]
 obtain⟨a,ea,yG⟩:∃ a:Nat,ig c 10111 fu=(a:Int)∧a < fu:=⟨(ig c 10111 fu).toNat,by omega,by omega⟩
 rw[ea]
 refine⟨_,O,_,O,by omega,by omega,?_⟩
 rw[cx]
 refine Kw (lo:=0) (CG (a:Int) col) (by omega) (fun i hi H' sm R r =>?_) (fun i v hi hv H' sm Q' q' =>?_) fun D1 lh =>?_
 ·refine⟨_,O,_,O,_,_,O,O,_,O,_,_,O,O,af5,O,_,O,?_⟩
  unfold CG at r
  by_cases h1:(0+(i:Int) - (a:Int)) % col=0
  ·rw[if_pos h1]at r
   rw[decide_eq_true (congrArg V.int h1)]
   exact r
  ·rw[if_neg h1]at r
   rw[decide_eq_false (fun z=>h1 (V.int.inj z))]
   exact r
 ·unfold CG at hv
  split at hv
  ·cases hv
   exact⟨_,O,q'⟩
  ·cases hv
 rw[Wd]
 obtain⟨H1,eH,s1,hD⟩:=alloc lh (.lst ((Ax (a:Int) col fu).map nV))
 rw[eH]
 have am:a∈Ax (a:Int) col fu:=gB.mpr ⟨cI.mpr yG,decide_eq_true (by rw[Int.sub_self];exact Int.zero_emod _)⟩
 have Ub:∀ k∈Ax (a:Int) col fu,k < fu:=fun k hk=>cI.mp (gB.mp hk).1
 generalize Ax (a:Int) col fu=nl at hD am Ub
 have aj5:=List.length_pos_of_mem am
 have b0:=oB c 10133 (m:=nl.length) (by omega)
 have b1:=yd c 10133 (m:=nl.length) (by omega)
 obtain⟨j,ej,hj⟩:∃ j:Nat,ig c 10133 nl.length=(j:Int)∧j < nl.length:=⟨(ig c 10133 nl.length).toNat,by omega,by omega⟩
 have hbj:nl[j]? = some nl[j]:=aj hj
 have yF:=Ub nl[j] (gg hj)
 generalize nl[j]=b at hbj yF
 dsimp only[bw]
 have A9:tI (nl.map nV) (ig c 10133 ((nl.map nV).length:Int))=some (nV b):=by rw[ar,ej];exact jP hbj
 refine⟨_,O,_,O,_,O,D1,_,O,.inl (aZ.of hD),c,10133,_,O,by decide,by decide,(by rw[ar];omega),D1,_,_,_,O,O,aZ.of hD,A9,?_⟩
 dsimp only[bw]
 have w0:=oB c 10139 (m:=6) (by decide)
 refine⟨_,O,c,10139,6,O,by decide,by decide,by decide,_,_,O,O,?_⟩
 dsimp only[bw]
 refine gX (fun br H4=>∃ wt:Nat,1<=wt∧H4=H1 ∧ br = [some (.int c),some (nV fu),some (.int col),some (nV a),some (.ref D1),some (nV b),some (nV wt)]) ?_ (fun key =>?_)
 rotate_left
 ·refine⟨_,O,c,10141,3,O,by decide,by decide,by decide,O,_,O,eF (fun _ =>?_) (fun _ =>?_)⟩
  ·refine⟨_,O,10,12,O,O,⟨by decide,by decide,by decide⟩,_,_,O,O,(by show (0:Int) < 10 ^ 12;decide),_,_,O,O,key _ _ ⟨(1+c % 10 ^ 12).toNat,?_,O,?_⟩⟩
   ·have:0<=c % 10 ^ 12:=mK _ (by decide)
    omega
   ·have z:0<=c % 10 ^ 12:=mK _ (by decide)
    have:V.int (1+c % 10 ^ 12)=nV (1+c % 10 ^ 12).toNat:=congrArg V.int (by omega)
    rw[<- this];rfl
  ·refine key _ _ ⟨(1+ig c 10139 6).toNat,by omega,O,?_⟩
   have:V.int (1+ig c 10139 6)=nV (1+ig c 10139 6).toNat:=congrArg V.int (by omega)
   rw[<- this];rfl
 rintro br H4 ⟨wt,hwt,rfl,rfl⟩
 refine⟨_,O,c,10151,2,O,by decide,by decide,by decide,O,_,O,eF (fun _ =>?_) (fun _ =>?_)⟩
 ·refine⟨_,O,_,O,_,O,(show 1<=sizeLine by decide),fun q1 C0=>⟨(show 4<=sizeLine by decide),fun t1 j6 =>?_⟩⟩
  exact q (a,b,wt) _ _ (s1.trans ((bf C0 _).trans (bf j6 _))) ⟨t1,.ref q1,O,aE⟩ ⟨yG,yF,hwt⟩
 ·refine⟨_,O,_,O,_,O,_,O,(show 2<=sizeLine by decide),fun q1 C0=>⟨(show 1<=sizeLine by decide),fun q2 IG=>⟨(show 3<=sizeLine by decide),fun q3 hq3=>⟨(show 4<=sizeLine by decide),fun t1 j6 =>?_⟩⟩⟩⟩
  exact q (a,b,wt) _ _ (s1.trans ((bf C0 _).trans ((bf IG _).trans ((bf hq3 _).trans (bf j6 _))))) ⟨t1,.ref q3,O,aE⟩ ⟨yG,yF,hwt⟩
theorem afa {t:TE}{σ : St}{H:Hp}{Q:VK} (R:V->Hp->Prop) (h1:∀ Q':VK,(∀ v H',R v H'->Q' v H')->t σ H Q') (h2:∀ v H',R v H'->Q v H'):t σ H Q:=h1 _ h2
structure nF (ts:List Tm) (es:List cy):Prop where
 two:2<=ts.length
 dR:ts.length<=9
 jo:ts.Nodup
 arms:tD ts
 qo:∀ (i:Nat) x as,ts[i]? = some (.of x as)->as.length<=4
 uW:∀ e∈es,WIn ts.length e
theorem nF.eR {ts:List Tm}{es:List cy} (g:nF ts es) {e:cy} (h:WIn ts.length e):nF ts (es ++ [e]) :=
 ⟨g.two,g.dR,g.jo,g.arms,g.qo,fun x hx=>by
  rcases aA.mp hx with z | z
  ·exact g.uW x z
  ·rw[aB.mp z];exact h⟩
theorem K2 {α : Type}{l:List α}{x y : α}{i:Nat} (h:(l ++ [x])[i]? = some y):l[i]? = some y∨(i=l.length∧y=x):=by
 by_cases hi:i < l.length
 ·rw[fN hi]at h;exact .inl h
 ·have hl:=(ai.mp h).1
  rw[aK,fU]at hl
  have e:i=l.length:=by omega
  subst e
  rw[sr]at h
  exact .inr ⟨O,(aH h).symm⟩
theorem nF.term {ts:List Tm}{es:List cy} (g:nF ts es) {t:Tm} (hf:ts.length < 9) (hn:t ∉ ts) (ht:∀ x as,t = .of x as->as.length<=4∧∀ a∈as,a < ts.length):nF (ts ++ [t]) es:=by
 have hl:(ts ++ [t]).length=ts.length+1:=by rw[aK];rfl
 refine⟨by rw[hl];have:=g.two;omega,by rw[hl];omega,?_,?_,?_,fun e he =>?_⟩
 ·rw[eK]
  exact⟨g.jo,bQ.mpr ⟨cY,df⟩,fun x hx y hy e=>hn (by rw[<- aB.mp hy, <- e];exact hx)⟩
 ·intro i x as e a ha
  rcases K2 e with e1 | ⟨e0,e1⟩
  ·exact g.arms i x as e1 a ha
  ·rw[e0];exact(ht x as e1.symm).2 a ha
 ·intro i x as e
  rcases K2 e with e1 | ⟨e0,e1⟩
  ·exact g.qo i x as e1
  ·exact(ht x as e1.symm).1
 ·obtain⟨h1,h2,h3⟩:=g.uW e he
  exact⟨by rw[hl];omega,by rw[hl];omega,h3⟩
inductive Mg (K:ao) (vs:List V) (H:Hp) (Q:VK):Prop
 | mk (S:Addr) (ns:List Int) (most:Int) (z0:vs = [.ref S,.int most]) (z1:aZ K H S (ns.map V.int)) (z2:ns.length<=63) (z3:most<=9)
  (z4:∀ M T E us ev ts es H',bu H H'->H' M=some (.tup [.ref T,.ref E])->H' T=some (.lst us)->kJ H' us ts->H' E=some (.lst ev)->nC H' ev es->nF ts es->es.length<=63->Q (.ref M) H'):Mg K vs H Q
def KW (K:ao):Sp:=fun vs H Q _=>Mg K vs H Q
inductive StI (H:Hp) (S T E sl:Addr) (most XA:Int) (cs:List V) (i:Nat) (σ : St) (H':Hp):Prop
 | mk (us ev:List V) (ts:List Tm) (es:List cy) (x5 x6:Option V):(σ = [some (.ref S),some (.int most),some (.int XA),some (.ref T),some (.ref E),x5,x6])->bu H H'->H' sl=some (.lst cs)->H' T=some (.lst us)->H' E=some (.lst ev)->kJ H' us ts->nC H' ev es->nF ts es->es.length<=i->StI H S T E sl most XA cs i σ H'
theorem fX {H H':Hp}{vs:List V}{l:List cy} (h:nC H vs l) (k:∀ c ys,H c=some (.tup ys)->H' c=some (.tup ys)):nC H' vs l:=Paired.uI h fun _ _ ⟨q,c,e,hq⟩=>⟨q,c,e,k _ _ hq⟩
theorem Sb (B:jO mg) (f7:ed P w K mg base 1 "_law_draw" fM zd) (r8:ed P w K mg base 2 "_law_word" wa8 G3) (Jb:ed P w K mg base 3 "_law_term" wa2 OB) (Jf:ed P w K mg base 2 "_law_edge" vc OG)
  (D:Def K mg "_law_stuff" Ec wa6):ed P w K mg base 4 "_law_stuff" wa6 (KW K):=by
 refine D.has qE (fun vs H Q E h =>?_) (fun f cO A outer s H vs Q E hr h =>?_)
 ·obtain⟨S,ns,most,rfl,_⟩:=h;rfl
 obtain⟨S,ns,most,rfl,hS,h63,ajS,q⟩:=h
 refine⟨_,(ax (bC (i:=2) qE.nd O (aM O) (HC (bE abP (bO cn O B.iH bM (ae (pv 0) aq)) aD (bS _)) (aJ bz (pv 0) aD) aD))
  (ax (bC (i:=3) qE.nd O (aM O) (kY (ae (cQ (ae d9 (ae (bG r8 hr (by omega) O (ae aD (ae (pv 2) aq))) aq))) (ae (cQ (ae d9 (ae (bG r8 hr (by omega) O (ae aD (ae (pv 2) aq))) aq))) aq))))
  (ax (bC (i:=4) qE.nd O (aM O) (kY aq))
  (ax (dJ bI O (eQ (ky D6 (pv 0) (me aD) mf)) (bL (i:=5) qE.nd O (aM O))
  (aI (cV (bE gk (bG f7 hr (by omega) O (ae (pv 5) (ae aD (ae aD aq)))) aD (bS _)) (aI (dF (lM bU cD cC f6 (pv 4) (ae (bG Jf hr (by omega) O (ae (pv 5) (ae (bO cn O B.iH bM (ae (pv 3) aq)) (ae (gi mW aD (bG f7 hr (by omega) O (ae (pv 2) (ae aD (ae aD aq))))) aq)))) aq)))) (aI (cV (bE tR (bO cn O B.iH bM (ae (pv 3) aq)) (pv 1) (bS _)) (ax (bC (i:=6) qE.nd O (aM O) (bG Jb hr (by omega) O (ae (pv 5) (ae (pv 2) (ae (bO cn O B.iH bM (ae (pv 3) aq)) aq)))))
  (aI (cV (bE (O4 (Gy hr)) (pv 6) (pv 3) (by with_unfolding_all rfl)) (aI (dF (lM bU cD cC f6 (pv 3) (ae (pv 6) aq)))) cg))) cg)))))
  (aI (cm (cQ (ae (pv 3) (ae (pv 4) aq))))))))),?_⟩
 try dsimp only[dQ]
 refine afa (t:=tIf _ _ _) (fun v H'=>H'=H∧∃ sd:Int,v = .int sd) (fun Q' q' =>?_) ?_
 ·refine⟨_,O,S,_,O,.inl hS,_,_,O,O,_,O,eF (fun h =>?_) (fun h=>q' _ _ ⟨O,0,O⟩)⟩
  rw[ar]at h
  obtain⟨c,hc⟩:∃ c,ns[0]? = some c:=⟨_,aj (by omega)⟩
  exact⟨_,O,S,_,_,_,O,O,hS,aL (j:=0) (by rw[aG,hc];rfl),q' _ _ ⟨O,c,O⟩⟩
 rintro v H' ⟨rfl,sd,rfl⟩
 dsimp only[bw]
 -- pj first two
 refine⟨_,O,0,sd,O,(show 2<=sizeLine by decide),fun p1 tG =>?_⟩
 have s1:=bf tG (.tup [.str "name",.str (mw sd 0)])
 have h1:=aE (H:=H') (a:=p1) (o := .tup [.str "name",.str (mw sd 0)])
 generalize upd H' p1 (.tup [.str "name",.str (mw sd 0)])=H1 at s1 h1 ⊢
 refine⟨_,O,1,sd,O,(show 2<=sizeLine by decide),fun p2 oX =>?_⟩
 obtain⟨H2,eH,s2,h2⟩:=alloc oX (.tup [.str "name",.str (mw sd 1)])
 rw[eH]
 refine⟨(show 2<=sizeLine by decide),fun T hT =>?_⟩
 obtain⟨H3,eH,s3,h3⟩:=alloc hT (.lst [.ref p1,.ref p2])
 rw[eH]
 dsimp only[bw]
 refine⟨(show 0<=sizeLine by decide),fun Ed Z8 =>?_⟩
 have s4:=bf Z8 (.lst [])
 have h4:=aE (H:=H3) (a:=Ed) (o := .lst [])
 have hTE:T≠Ed:=bX h3 Z8
 generalize upd H3 Ed (.lst [])=H4 at s4 h4 ⊢
 dsimp only[bw]
 have hS4:=(s1.trans (s2.trans (s3.trans s4))).seq hS
 refine⟨_,O,_,O,S,_,O,hS4,fun sl PR =>?_⟩
 have age:T≠sl:=bX (s4 _ _ h3) PR
 have agp:Ed≠sl:=bX h4 PR
 obtain⟨cs,ecs,lcs⟩:∃ cs:List Int,ly (ns.map V.int) (some 1) none=cs.map V.int∧cs.length<=63:=by
  refine⟨((ns.drop (HT.cX ns.length 0 (some 1))).take (HT.cX ns.length ns.length none - HT.cX ns.length 0 (some 1))),?_,?_⟩
  ·unfold ly
   rw[ar, <- List.map_drop, <- sV]
  ·rw[cj,oI];omega
 rw[ecs]
 obtain⟨H5,eH,s5,h5⟩:=alloc PR (.lst (cs.map V.int))
 rw[eH]
 have sm:bu H' H5:=s1.trans (s2.trans (s3.trans (s4.trans s5)))
 have hT0:H' T=none:=(s1.trans s2).free hT
 have hE0:H' Ed=none:=(s1.trans (s2.trans s3)).free Z8
 have tw:kJ H5 [.ref p1,.ref p2] [.name (mw sd 0),.name (mw sd 1)] := .cons ⟨p1,O,s5 _ _ (s4 _ _ (s3 _ _ (s2 _ _ h1)))⟩ (.cons ⟨p2,O,s5 _ _ (s4 _ _ (s3 _ _ h2))⟩ .nil)
 have g0:nF [.name (mw sd 0),.name (mw sd 1)] []:=by
  refine⟨au _,(show 2<=9 by decide),?_,?_,?_,fun e he=>nomatch he⟩
  ·refine bQ.mpr ⟨fun z =>?_,bQ.mpr ⟨cY,df⟩⟩
   have:=aB.mp z
   injection this with z
   exact Vt sd z
  ·intro i x as e
   match i with
   | 0=>cases e
   | 1=>cases e
   | j+2=>cases e
  ·intro i x as e
   match i with
   | 0=>cases e
   | 1=>cases e
   | j+2=>cases e
 refine⟨sl,O,⟨_,aZ.of h5⟩,?_⟩
 refine fK (xs:=cs.map V.int) (StI H' S T Ed sl most sd (cs.map V.int)) ⟨_,_,_,_,none,none,O,sm,h5,s5 _ _ (s4 _ _ h3),s5 _ _ h4,tw,.nil,g0,au _⟩ ?_ ?_ ?_
 ·rintro i σ Hc _ ⟨us,ev,ts,es,x5,x6,rfl,sm,h1,_⟩
  exact aZ.of h1
 ·rintro i x σ Hc hx ⟨us,ev,ts,es,x5,x6,rfl,sm,IC,FL,Jk,zH,zG,go,el⟩
  obtain⟨c,rfl⟩:∃ c,x = .int c:=by
   rw[aG]at hx
   obtain⟨c,_,e⟩:=ck.mp hx
   exact⟨c,e.symm⟩
  have hi:=(ai.mp hx).1
  rw[ar]at hi
  have lu:=aP zH
  have le:=aP zG
  have tw:=go.two
  have fw:=go.dR
  dsimp only[bw]
  refine⟨_,O,c,10159,_,O,by decide,by decide,by decide,O,_,O,eF (fun _ =>?_) (fun _ =>?_)⟩
  ·have c0:=oB sd 10163 (m:=3) (by decide)
   refine⟨_,O,.inl ⟨O,_,aZ.of Jk⟩,_,O,_,O,T,us,O,.inl (aZ.of FL),_,O,sd,10163,3,O,by decide,by decide,by decide,_,_,O,O,c,_,us.length,O,by omega,by omega,by omega,fun e v H6 s6 he Lu =>?_⟩
   have hE6:=s6 _ _ Jk
   have kt:∀ d ys,H6 d=some (.tup ys)->(upd H6 Ed (.lst (ev ++ [v]))) d=some (.tup ys):=fun d ys e=>by rw[aF (a9 e hE6 nofun)];exact e
   obtain⟨qe,ce,ev1,Uu⟩:=he
   refine⟨Ed,_,_,O,O,hE6,c6 (by omega),⟨us,ev ++ [v],ts,es ++ [e],_,_,O,(sm.trans s6).put hE0,by rw[aF (cM agp)];exact s6 _ _ IC,by rw[aF hTE];exact s6 _ _ FL,aE,ow kt (fh s6 zH),?_,go.eR (by rw[<- lu];exact Lu),by rw[aK];exact BY el⟩⟩
   exact gj (fX (fX zG fun d ys e=>s6 _ _ e) kt) (.cons ⟨qe,ce,ev1,kt _ _ Uu⟩ .nil)
  ·refine⟨_,O,T,us,O,.inl (aZ.of FL),_,O,_,_,O,O,_,O,eF (fun cU =>?_) (fun _ =>?_)⟩
   ·refine⟨_,O,_,O,_,O,T,us,O,.inl (aZ.of FL),c,sd,us.length,O,by omega,fun t v H6 s6 hv PQ =>?_⟩
    dsimp only[bw]
    have Jh:=s6 _ _ FL
    have SN:=fh s6 zH
    refine⟨_,O,_,O,_,_,hv.den,.inl (by rw[Den];exact⟨T,us,O,Jh,Vv SN⟩),bq (GS ts) (by decide),_,O,?_⟩
    by_cases hm:yx t∈ts.map yx
    ·rw[decide_eq_true hm]
     exact gO ⟨us,ev,ts,es,_,_,O,sm.trans s6,s6 _ _ IC,Jh,s6 _ _ Jk,SN,fX zG fun d ys e=>s6 _ _ e,go,by omega⟩
    ·rw[decide_eq_false hm]
     have kt:∀ d ys,H6 d=some (.tup ys)->(upd H6 T (.lst (us ++ [v]))) d=some (.tup ys):=fun d ys e=>by rw[aF (a9 e Jh nofun)];exact e
     refine pJ ⟨_,O,.inl ⟨O,_,aZ.of Jh⟩,_,O,T,us,v,O,O,Jh,c6 (by omega),⟨us ++ [v],ev,ts ++ [t],es,_,_,O,(sm.trans s6).put hT0,by rw[aF (cM age)];exact s6 _ _ IC,aE,by rw[aF (cM hTE)];exact s6 _ _ Jk,Ru (ow kt SN) (hv.keep kt),fX (fX zG fun d ys e=>s6 _ _ e) kt,go.term (by omega) (fun z=>hm (bj.mpr ⟨t,z,O⟩)) (by rw[<- lu];exact PQ),by omega⟩⟩
   ·exact⟨us,ev,ts,es,_,_,O,sm,IC,FL,Jk,zH,zG,go,by omega⟩
 ·rintro σ Hc ⟨us,ev,ts,es,x5,x6,rfl,sm,IC,FL,Jk,zH,zG,go,el⟩
  rw[ar]at el
  refine⟨_,O,_,O,(show 2<=sizeLine by decide),fun M hM =>?_⟩
  have s9:=bf hM (.tup [.ref T,.ref Ed])
  exact q M T Ed us ev ts es _ (sm.trans s9) aE (s9 _ _ FL) (fh s9 zH) (s9 _ _ Jk) (fX zG fun d ys e=>s9 _ _ e) go (by omega)
theorem pw {n:Nat} (h:n<=100000):n < sizeLine:=gf h (by decide)
structure oa (H:Hp) (R:Addr) (rows:List Addr) (n:Nat) (M:Mx):Prop where
 at_:H R=some (.lst (rows.map V.ref))
 len:rows.length=n
 row:∀ (a:Nat) (c:Addr),rows[a]? = some c->H c=some (.lst (ib M n a))
theorem oa.same {H H':Hp}{R:Addr}{rows:List Addr}{n:Nat}{M:Mx} (h:oa H R rows n M) (sm:bu H H'):oa H' R rows n M:=⟨sm _ _ h.at_,h.len,fun a c e=>sm _ _ (h.row a c e)⟩
theorem oa.ix {H:Hp}{R:Addr}{rows:List Addr}{n:Nat}{M:Mx} (r:oa H R rows n M) {x:Nat} (hx:x < n):∃ c,rows[x]? = some c∧aZ K H c (ib M n x):=⟨_,aj (by rw[r.len];exact hx),aZ.of (r.row x _ (aj (by rw[r.len];exact hx)))⟩
def sG:dG->List V
 | (a,b,some p) => [.str "edge",nV a,nV b,nV p]
 | (a,b,none) => [.str "like",nV a,nV b]
abbrev rj (H:Hp):List V->List dG->Prop:=Paired fun v s=>∃ q,v=V.ref q∧H q=some (.tup (sG s))
theorem ia {H H':Hp}{vs:List V}{l:List dG} (h:rj H vs l) (k:∀ c ys,H c=some (.tup ys)->H' c=some (.tup ys)):rj H' vs l:=Paired.uI h fun _ _ ⟨q,e,hq⟩=>⟨q,e,k _ _ hq⟩
structure LstAt (H:Hp) (S:Addr) (Sr:List Addr) (n:Nat) (F:Nat->List dG):Prop where
 at_:H S=some (.lst (Sr.map V.ref))
 len:Sr.length=n
 jo:Sr.Nodup
 nS:S ∉ Sr
 row:∀ (c:Nat) (r:Addr),Sr[c]? = some r->∃ vs,H r=some (.lst vs)∧rj H vs (F c)
section
variable {H H':Hp}{S:Addr}{Sr:List Addr}{n:Nat}{F:Nat->List dG}
theorem LstAt.same (h:LstAt H S Sr n F) (sm:bu H H'):LstAt H' S Sr n F :=
 ⟨sm _ _ h.at_,h.len,h.jo,h.nS,fun c r e=>by obtain⟨vs,h1,h2⟩:=h.row c r e;exact⟨vs,sm _ _ h1,ia h2 fun c ys e=>sm _ _ e⟩⟩
theorem LstAt.add (h:LstAt H S Sr n F) {c:Nat}{r:Addr} (hc:Sr[c]? = some r) {vs:List V} (hr:H r=some (.lst vs)) {q:Addr}{s:dG} (hq:H q=some (.tup (sG s))) :
  LstAt (upd H r (.lst (vs ++ [.ref q]))) S Sr n fun x=>if x=c then F c ++ [s] else F x:=by
 have hm:=ak hc
 have nS:S≠r:=fun z=>h.nS (by rw[z];exact hm)
 have kt:∀ d ys,H d=some (.tup ys)->(upd H r (.lst (vs ++ [.ref q]))) d=some (.tup ys):=fun d ys e=>by rw[aF (a9 e hr nofun)];exact e
 refine⟨by rw[aF nS];exact h.at_,h.len,h.jo,h.nS,fun d r' hd =>?_⟩
 by_cases e:d=c
 ·subst e
  rw[hc]at hd
  cases hd
  obtain⟨jk,h1,h2⟩:=h.row d r hc
  rw[hr]at h1
  cases h1
  exact⟨_,aE,by rw[if_pos rfl];exact gj (ia h2 kt) (.cons ⟨q,O,kt _ _ hq⟩ .nil)⟩
 ·obtain⟨jk,h1,h2⟩:=h.row d r' hd
  exact⟨jk,by rw[aF (Dv h.jo hd hc e)];exact h1,by rw[if_neg e];exact ia h2 kt⟩
end
theorem F3 (l:List dG) (t:dG):(fun x=>if x=t.2.1 then (if t.2.1=t.1 then both l t.1 ++ [t] else both l t.2.1) ++ [(t.2.1,t.1,t.2.2)] else if x=t.1 then both l t.1 ++ [t] else both l x)=both (l ++ [t]):=by
 funext x
 have e:both (l ++ [t]) x=both l x ++ ((if t.1=x then [t] else []) ++ (if t.2.1=x then [(t.2.1,t.1,t.2.2)] else [])):=by
  unfold both
  rw[dX,i3]
 rw[e]
 by_cases h1:x=t.2.1
 ·have k1:t.2.1=x:=h1.symm
  rw[if_pos h1,if_pos k1]
  by_cases h2:t.2.1=t.1
  ·have k2:t.1=x:=h2.symm.trans k1
   rw[if_pos h2,if_pos k2,h1,h2,kQ]
  ·have k2:¬ t.1=x:=fun z=>h2 (k1.trans z.symm)
   rw[if_neg h2,if_neg k2,h1,pZ]
 ·have k1:¬ t.2.1=x:=fun z=>h1 z.symm
  rw[if_neg h1,if_neg k1]
  by_cases h2:x=t.1
  ·have k2:t.1=x:=h2.symm
   rw[if_pos h2,if_pos k2,h2,da]
  ·have k2:¬ t.1=x:=fun z=>h2 z.symm
   rw[if_neg h2,if_neg k2,da,da]
theorem yi (l:List dG) (c:Nat):(both l c).length<=2 * l.length:=by
 unfold both
 induction l with
 | nil=>exact au _
 | cons t l ih =>
  rw[tM,aK,aK,bV]
  have a1:(if t.1=c then [t] else []).length<=1:=by split;exact au _;exact bA _
  have a2:(if t.2.1=c then [(t.2.1,t.1,t.2.2)] else []).length<=1:=by split;exact au _;exact bA _
  omega
theorem Ta {M:Mx}{es:List cy}{i:Nat}{e:cy} (h:es[i]? = some e):sh M es (i+1)=sh M es i ++ (if M e.1 e.2.1=some e.2.2 then [(e.1,e.2.1,some i)] else []):=by
 unfold sh
 rw[kf,dX,i3]
 congr 1
 unfold AG
 rw[h]
theorem EK {M:Mx}{es:List cy}:∀ i,(sh M es i).length<=i
 | 0=>au _
 | i+1=>by
  have ih:=EK (M:=M) (es:=es) i
  unfold sh at ih ⊢
  rw[kf,dX,i3,aK]
  have:(AG M es i).length<=1:=by
   unfold AG
   split
   ·split
    ·exact au _
    ·exact bA _
   ·exact bA _
  omega
theorem Sy {ts:List Tm}{M:Mx}{l:List (Nat × Nat)}{p:Nat × Nat}:yC ts M (l ++ [p])=yC ts M l ++ (if M p.1 p.2=some (cK ts M p.1 p.2) then [(p.1,p.2,none)] else []):=by
 unfold yC
 rw[dX,i3]
theorem Ll {ts:List Tm}{M:Mx}:∀ l:List (Nat × Nat),(yC ts M l).length<=l.length
 | []=>au _
 | p :: l=>by
  have ih:=Ll (ts:=ts) (M:=M) l
  unfold yC at ih ⊢
  rw[tM,aK,bV]
  have:(if M p.1 p.2=some (cK ts M p.1 p.2) then [((p.1,p.2,none):dG)] else []).length<=1:=by split;exact au _;exact bA _
  omega
def GL (ts:List Tm) (es:List cy) (ls:List Nat):Prop := ∀ a b,a < ts.length->b < ts.length->ls.getD a 0=ls.getD b 0->∃ k,aO ts es a b=some k
inductive aaX (vs:List V) (H:Hp) (Q:VK):Prop
 | mk (T L Ed R:Addr) (us:List V) (ts:List Tm) (ls:List Nat) (ev:List V) (es:List cy) (rows:List Addr) (z0:vs = [.ref T,.ref L,.ref Ed,.ref R]) (z1:H T=some (.lst us)) (z2:kJ H us ts) (z3:H L=some (.lst (ls.map nV))) (z4:H Ed=some (.lst ev)) (z5:nC H ev es) (z6:mJ ts es ls) (z7:GL ts es ls) (z8:es.length<=1000) (z9:oa H R rows ts.length (aO ts es))
  (AV:∀ (S:Addr) (Sr:List Addr) (lp:List (Nat × Nat)) (H':Hp),bu H H'->LstAt H' S Sr ts.length (both (wN ts es lp))->LP ts ls lp (hV ts)->Km ts es lp->(∀ c∈Sr,H c=none)->Q (.ref S) H'):aaX vs H Q
def Xn:Sp:=fun vs H Q _=>aaX vs H Q
inductive LsA (H:Hp) (τ : St) (S:Addr) (Sr:List Addr) (ts:List Tm) (es:List cy) (i:Nat) (σ : St) (H':Hp):Prop
 | mk (x5 x6 x7 x8:Option V):(σ = τ ++ [x5,x6,x7,x8])->bu H H'->LstAt H' S Sr ts.length (both (sh (aO ts es) es i))->LsA H τ S Sr ts es i σ H'
inductive LsB (H:Hp) (τ : St) (S:Addr) (Sr:List Addr) (ts:List Tm) (es:List cy) (lp:List (Nat × Nat)) (i:Nat) (σ : St) (H':Hp):Prop
 | mk (x5 x6 x7 x8:Option V):(σ = τ ++ [x5,x6,x7,x8])->bu H H'->LstAt H' S Sr ts.length (both (sh (aO ts es) es es.length ++ yC ts (aO ts es) (lp.take i)))->LsB H τ S Sr ts es lp i σ H'
theorem Es (B:jO mg) (lg:ed P w K mg base 2 "like_pairs" wa1 G8) (jY:ed P w K mg base 2 "like_length" wa5 RD) (D:Def K mg "least_steps" oi wa3):ed P w K mg base 3 "least_steps" wa3 Xn:=by
 refine D.has gW (fun vs H Q E h =>?_) (fun f cO A outer s H vs Q E hr h =>?_)
 ·obtain⟨T,L,Ed,R,us,ts,ls,ev,es,rows,rfl,_⟩:=h;rfl
 obtain⟨T,L,Ed,R,us,ts,ls,ev,es,rows,rfl,hT,fR,hL,hE,gF,ok,ld,dR,rB,q⟩:=h
 refine⟨_,(ax (Ct (i:=4) gW.nd O O (te:=_) (own := ["term"]) (caps := []) (gK (aX oi) ["terms", "leads", "edges", "least", "steps", "place", "edge", "a", "b"] O O O (by decide +kernel)) (eQ (pv 0)) O (fun _ _ _=>bL (i:=0) (show (["term"]:List Str).Nodup by decide +kernel) O (aM O)) (fun _ _ _=>(kY aq)) O)
  (ax (dJ bI O (As O B.tV (ae (pv 2) aq)) (lY O (dH (bL (i:=5) gW.nd O (aM O)) (dH (bL (i:=6) gW.nd O (aM O)) jX)))
  (ax (bC (i:=7) gW.nd O (aM O) (aJ bp (pv 6) aD))
  (ax (bC (i:=8) gW.nd O (aM O) (aJ bp (pv 6) aD))
  (aI (cV (bE gk (aJ bp (pv 6) aD) (aJ bz (aJ bz (pv 3) (pv 7)) (pv 8)) (bS _)) (ax (dF (lM bU cD cC f6 (aJ bz (pv 4) (pv 7)) (ae (cQ (ae d9 (ae (pv 7) (ae (pv 8) (ae (pv 5) aq))))) aq)))
  (aI (dF (lM bU cD cC f6 (aJ bz (pv 4) (pv 8)) (ae (cQ (ae d9 (ae (pv 8) (ae (pv 7) (ae (pv 5) aq))))) aq))))) cg)))))
  (ax (dJ bI O (eQ (bG lg hr (by omega) O (ae (pv 0) (ae (pv 1) aq)))) (lY O (dH (bL (i:=7) gW.nd O (aM O)) (dH (bL (i:=8) gW.nd O (aM O)) jX)))
  (aI (cV (bE gk (bG jY hr (by omega) O (ae (pv 0) (ae (pv 3) (ae (pv 7) (ae (pv 8) aq))))) (aJ bz (aJ bz (pv 3) (pv 7)) (pv 8)) (bS _)) (ax (dF (lM bU cD cC f6 (aJ bz (pv 4) (pv 7)) (ae (cQ (ae d9 (ae (pv 7) (ae (pv 8) aq)))) aq)))
  (aI (dF (lM bU cD cC f6 (aJ bz (pv 4) (pv 8)) (ae (cQ (ae d9 (ae (pv 8) (ae (pv 7) aq)))) aq))))) cg)))
  (aI (cm (pv 4)))))),?_⟩
 try dsimp only[dQ]
 have vL:=aP fR
 have ajV:=ok.dR
 have evl:ev.length=es.length:=aP gF
 refine⟨_,O,T,O,⟨_,aZ.of hT⟩,?_⟩
 refine yg (K:=K) (xs:=us) (.lst []) (aZ.of hT) (by omega) (fun x hx H' sm Q' q'=>⟨(show 0<=sizeLine by decide),fun p hp=>q' p _ hp (bf hp _) aE⟩) (fun S H1 Sr hS0 s1 hS1 lSr Yn yH =>?_)
 dsimp only[bw]
 have Ji:∀ c∈Sr,H c=none:=fun c hc=>(yH c hc).1
 have L1:LstAt H1 S Sr ts.length (both (sh (aO ts es) es 0)):=⟨hS1,by rw[lSr];exact vL,Yn,fun z=>(yH S z).2.2 rfl,fun c r e=>⟨[],(yH r (ak e)).2.1,.nil⟩⟩
 refine gX (LsA H [aa T,aa L,aa Ed,aa R,aa S] S Sr ts es es.length) ?_ (fun key =>?_)
 rotate_left
 ·refine⟨_,O,Ed,O,⟨ev,aZ.of (s1 _ _ hE)⟩,?_⟩
  refine ya (xs:=ev) (LsA H [aa T,aa L,aa Ed,aa R,aa S] S Sr ts es) ⟨none,none,none,none,O,s1,L1⟩ ?_ ?_ ?_
  ·rintro i σ H' _ ⟨x5,x6,x7,x8,rfl,sm,_⟩
   exact aZ.of (sm _ _ hE)
  ·rintro i x a0 σ H' hx ⟨x5,x6,x7,x8,rfl,sm,LA⟩ I9
   obtain⟨⟨a,b,wt⟩,he,p,c,rfl,hp⟩:=Paired.at gF hx
   obtain⟨yG,yF,_⟩:=ok.uW _ (ak he)
   have yG:a < ts.length:=yG
   have yF:b < ts.length:=yF
   have s2:=bf I9 (.tup [.int (i:Int),.ref p])
   refine⟨a0,_,O,bD.of aE,O,_,_,O,_,_,O,O,?_⟩
   generalize upd H' a0 (.tup [.int (i:Int),.ref p])=H2 at s2 ⊢
   have fH:=sm.trans s2
   have Vr:=LA.same s2
   have oX:=fH _ _ hp
   have oX:H2 p=some (.tup [nV a,nV b,nV wt,c]):=oX
   refine⟨_,O,p,_,0,_,O,O,bD.of oX,aL (j:=0) rfl,?_⟩
   dsimp only[bw]
   refine⟨_,O,p,_,1,_,O,O,bD.of oX,aL (j:=1) rfl,?_⟩
   dsimp only[bw]
   have zt:=rB.same fH
   obtain⟨cA,FJ,Hs⟩:=zt.ix (K:=K) yG
   have jA:=aL (nY (L:=aO ts es) (a:=a) yF)
   obtain⟨k,hk,_⟩:=Qy (ak he)
   rw[hk]at jA
   have sn:=Ta (M:=aO ts es) he
   dsimp only at sn
   refine⟨_,O,p,_,2,_,O,O,bD.of oX,aL (j:=2) rfl,_,O,_,O,R,_,_,_,O,O,aZ.of zt.at_,fZ FJ,_,O,cA,_,_,_,O,O,Hs,jA,O,_,O,eF (fun eq =>?_) (fun ne =>?_)⟩
   ·have eq:wt=k:=by have:=V.int.inj eq;omega
    subst eq
    rw[if_pos hk]at sn
    have afC:=EK (M:=aO ts es) (es:=es) i
    have hi:i < es.length:=(ai.mp he).1
    obtain⟨ca,gy⟩:∃ c,Sr[a]? = some c:=⟨_,aj (by rw[LA.len];exact yG)⟩
    obtain⟨cb,iX⟩:∃ c,Sr[b]? = some c:=⟨_,aj (by rw[LA.len];exact yF)⟩
    obtain⟨va,rQ,jT⟩:=Vr.row a ca gy
    have la:=aP jT
    have l1:=yi (sh (aO ts es) es i) a
    refine⟨_,O,_,O,S,_,_,_,O,O,aZ.of Vr.at_,fZ gy,.inl ⟨O,_,aZ.of rQ⟩,_,O,_,O,_,O,(show 4<=sizeLine by decide),fun q1 C0 =>?_⟩
    obtain⟨H4,eH,s4,IF⟩:=alloc C0 (.tup [.str "edge",nV a,nV b,nV i])
    rw[eH]
    refine⟨ca,_,_,O,O,s4 _ _ rQ,pw (by omega),?_⟩
    have DL:=(Vr.same s4).add gy (s4 _ _ rQ) (s:=(a,b,some i)) IF
    have OJ:=(fH.trans s4).put (Ji ca (ak gy)) (o := .lst (va ++ [.ref q1]))
    generalize upd H4 ca (.lst (va ++ [.ref q1]))=H5 at DL OJ ⊢
    obtain⟨vb,j6,nH⟩:=DL.row b cb iX
    have lb:=aP nH
    have l2:=yi (sh (aO ts es) es i) b
    have lb:vb.length<=2 * (sh (aO ts es) es i).length+1:=by
     rw[lb]
     split
     ·rw[aK];exact js l1 1
     ·omega
    refine⟨_,O,_,O,S,_,_,_,O,O,aZ.of DL.at_,fZ iX,.inl ⟨O,_,aZ.of j6⟩,_,O,_,O,_,O,(show 4<=sizeLine by decide),fun q2 IG =>?_⟩
    obtain⟨H6,eH,s6,Zb⟩:=alloc IG (.tup [.str "edge",nV b,nV a,nV i])
    rw[eH]
    refine⟨cb,_,_,O,O,s6 _ _ j6,pw (by omega),?_⟩
    have LA6:=(DL.same s6).add iX (s6 _ _ j6) (s:=(b,a,some i)) Zb
    have AY:=(OJ.trans s6).put (Ji cb (ak iX)) (o := .lst (vb ++ [.ref q2]))
    refine⟨_,_,_,_,O,AY,?_⟩
    rw[sn, <- F3]
    exact LA6
   ·have ne:¬ aO ts es a b=some wt:=fun z=>ne (by rw[hk]at z;cases z;rfl)
    rw[if_neg ne,da]at sn
    exact⟨_,_,_,_,O,fH,by rw[sn];exact Vr⟩
  ·rintro σ H' ⟨x5,x6,x7,x8,rfl,sm,LA⟩
   exact key _ _ ⟨_,_,_,_,O,sm,by rw[<- evl];exact LA⟩
 rintro br H2 ⟨x5,x6,x7,x8,rfl,fH,LA⟩
 refine gX (fun br H'=>∃ lp,LsB H [aa T,aa L,aa Ed,aa R,aa S] S Sr ts es lp lp.length br H'∧LP ts ls lp (hV ts)∧Km ts es lp) ?_ (fun key =>?_)
 rotate_left
 ·refine⟨_,O,_,O,T,L,us,ts,ls,O,fH _ _ hT,fh fH fR,fH _ _ hL,fun i x as e=>⟨ok.qo i x as e,fun a ha=>by rw[ok.len];exact ok.jQ e ha⟩,ok.dR,ok.jo,fun lp D1 rA H3 s3 U4 U3 wZ Yr qp Ys =>?_⟩
  have arm:Km ts es lp:=fun p hp r hr=>by
   obtain⟨_,x,as,bs,ha,hb,hl⟩:=qp.at_ p hp
   have e:=Ys p hp r hr
   have ea:cN ts p.1 p.2=fg as bs:=by unfold cN;rw[ha,hb];rfl
   rw[ea]at hr
   obtain⟨_,k,e1,e2⟩:=iy.mp hr
   exact ld _ _ (ok.jQ ha (ak e1)) (ok.jQ hb (ak e2)) e
  have jv:=fH.trans s3
  have Vq:=LA.same s3
  have lv:rA.length=lp.length:=aP wZ
  refine⟨D1,O,⟨_,aZ.of U3⟩,?_⟩
  have nD:∀ c∈Sr,c≠D1:=fun c hc z=>by
   obtain⟨j,hj⟩:=aT hc
   obtain⟨vs,h1,_⟩:=LA.row j c hj
   rw[z,U4]at h1;cases h1
  refine fK (xs:=rA) (fun i σ H'=>LsB H [aa T,aa L,aa Ed,aa R,aa S] S Sr ts es lp i σ H'∧H' D1=some (.lst rA)∧dY H' rA lp) ⟨⟨_,_,_,_,O,jv,by rw[jz];show LstAt H3 S Sr ts.length (both (_ ++ []));rw[da];exact Vq⟩,U3,wZ⟩ ?_ ?_ ?_
  ·rintro i σ H' _ ⟨_,h,_⟩
   exact aZ.of h
  ·rintro i v σ H' hv ⟨⟨x5,x6,x7,x8,rfl,sm,LA⟩,FO,n6⟩
   obtain⟨⟨a,b⟩,i6,p,rfl,hp⟩:=Paired.at n6 hv
   have hm:=ak i6
   obtain⟨lt,x,as,bs,ha,hb,hl⟩:=qp.at_ _ hm
   have ha:ts[a]? = some (.of x as):=ha
   have hb:ts[b]? = some (.of x bs):=hb
   have yG:=(ai.mp ha).1
   have yF:=(ai.mp hb).1
   have zt:=rB.same sm
   refine⟨p,_,O,bD.of hp,O,_,_,O,_,_,O,O,?_⟩
   dsimp only[bw]
   refine⟨_,O,_,O,_,O,_,O,T,R,rows,us,ts,aO ts es,a,b,x,x,as,bs,O,sm _ _ hT,fh sm fR,ha,hb,hl,ok.qo a x as ha,zt.at_,zt.len,zt.row,fun r hr =>?_,fun H4 s4 =>?_⟩
   ·have ea:cN ts a b=fg as bs:=by unfold cN;rw[ha,hb];rfl
    obtain⟨k,hk⟩:=arm _ hm r hr
    rw[ea]at hr
    obtain⟨_,k',e1,e2⟩:=iy.mp hr
    exact⟨ok.jQ ha (ak e1),ok.jQ hb (ak e2),k,hk⟩
   have ze:=sm.trans s4
   have DL:=LA.same s4
   have rB4:=rB.same ze
   obtain⟨cA,FJ,Hs⟩:=rB4.ix (K:=K) yG
   have jA:=aL (nY (L:=aO ts es) (a:=a) yF)
   have dk:∃ k,aO ts es a b=some k:=by
    obtain⟨k,hk,_⟩:=FU (ts:=ts) (es:=es) (qM (fun p=>(aO ts es p.1 p.2).getD 0) as bs) ha hb hl fun k u v hu hv=>by
     unfold qM
     rw[hu,hv]
     dsimp only
     by_cases e:u=v
     ·rw[if_pos e,e];exact vQ v
     ·rw[if_neg e]
      have ea:cN ts a b=fg as bs:=by unfold cN;rw[ha,hb];rfl
      have hu2:(u,v)∈cN ts a b:=by rw[ea];exact iy.mpr ⟨e,k,hu,hv⟩
      obtain⟨m,em⟩:=arm _ hm (u,v) hu2
      have em:aO ts es u v=some m:=em
      rw[em];rfl
    exact⟨k,hk⟩
   obtain⟨k,hk⟩:=dk
   rw[hk]at jA
   have sn:=Sy (ts:=ts) (M:=aO ts es) (l:=lp.take i) (p:=(a,b))
   rw[<- et i6]at sn
   dsimp only at sn
   refine⟨_,O,_,O,R,_,_,_,O,O,aZ.of rB4.at_,fZ FJ,_,O,cA,_,_,_,O,O,Hs,jA,O,_,O,eF (fun eq =>?_) (fun ne =>?_)⟩
   ·have eq:cK ts (aO ts es) a b=k:=by have:=V.int.inj eq;omega
    rw[if_pos (by rw[hk,eq])]at sn
    have afC:=EK (M:=aO ts es) (es:=es) es.length
    have afB:=Ll (ts:=ts) (M:=aO ts es) (lp.take i)
    have aj6:=qA i lp
    have afD:(sh (aO ts es) es es.length ++ yC ts (aO ts es) (lp.take i)).length<=es.length+lp.length:=by
     rw[aK];rw[cj]at afB;omega
    obtain⟨ca,gy⟩:∃ c,Sr[a]? = some c:=⟨_,aj (by rw[LA.len];exact yG)⟩
    obtain⟨cb,iX⟩:∃ c,Sr[b]? = some c:=⟨_,aj (by rw[LA.len];exact yF)⟩
    obtain⟨va,rQ,jT⟩:=DL.row a ca gy
    have la:=aP jT
    have l1:=yi (sh (aO ts es) es es.length ++ yC ts (aO ts es) (lp.take i)) a
    have nda:=nD ca (ak gy)
    have ndb:=nD cb (ak iX)
    refine⟨_,O,_,O,S,_,_,_,O,O,aZ.of DL.at_,fZ gy,.inl ⟨O,_,aZ.of rQ⟩,_,O,_,O,(show 3<=sizeLine by decide),fun q1 C0 =>?_⟩
    obtain⟨H5,eH,s5,Uv⟩:=alloc C0 (.tup [.str "like",nV a,nV b])
    rw[eH]
    refine⟨ca,_,_,O,O,s5 _ _ rQ,pw (by omega),?_⟩
    have Vp:=(DL.same s5).add gy (s5 _ _ rQ) (s:=(a,b,none)) Uv
    have Fc:=(ze.trans s5).put (Ji ca (ak gy)) (o := .lst (va ++ [.ref q1]))
    have hD6:(upd H5 ca (.lst (va ++ [.ref q1]))) D1=some (.lst rA):=by rw[aF nda.symm];exact s5 _ _ (s4 _ _ FO)
    have hp6:dY (upd H5 ca (.lst (va ++ [.ref q1]))) rA lp:=bJ n6 fun d ys e=>by
     have e:=s5 _ _ (s4 _ _ e)
     rw[aF (a9 e (s5 _ _ rQ) nofun)];exact e
    generalize upd H5 ca (.lst (va ++ [.ref q1]))=H6 at Vp Fc hD6 hp6 ⊢
    obtain⟨vb,j6,nH⟩:=Vp.row b cb iX
    have lb:=aP nH
    have l2:=yi (sh (aO ts es) es es.length ++ yC ts (aO ts es) (lp.take i)) b
    have lb:vb.length<=2 * (es.length+lp.length)+1:=by
     rw[lb]
     split
     ·rw[aK];exact js (bq l1 (Nat.mul_le_mul_left 2 afD)) 1
     ·omega
    refine⟨_,O,_,O,S,_,_,_,O,O,aZ.of Vp.at_,fZ iX,.inl ⟨O,_,aZ.of j6⟩,_,O,_,O,(show 3<=sizeLine by decide),fun q2 IG =>?_⟩
    obtain⟨H7,eH,s7,IE⟩:=alloc IG (.tup [.str "like",nV b,nV a])
    rw[eH]
    refine⟨cb,_,_,O,O,s7 _ _ j6,pw (by omega),?_⟩
    have LA7:=(Vp.same s7).add iX (s7 _ _ j6) (s:=(b,a,none)) IE
    have Xr:=(Fc.trans s7).put (Ji cb (ak iX)) (o := .lst (vb ++ [.ref q2]))
    refine⟨⟨_,_,_,_,O,Xr,?_⟩,?_,?_⟩
    ·rw[sn, <- kQ, <- F3]
     exact LA7
    ·rw[aF ndb.symm];exact s7 _ _ hD6
    ·exact bJ hp6 fun d ys e=>by
      have e:=s7 _ _ e
      rw[aF (a9 e (s7 _ _ j6) nofun)];exact e
   ·have ne:¬ aO ts es a b=some (cK ts (aO ts es) a b):=fun z=>ne (congrArg nV (aH (hk.symm.trans z)).symm)
    rw[if_neg ne,da]at sn
    exact⟨⟨_,_,_,_,O,ze,by rw[sn];exact DL⟩,s4 _ _ FO,bJ n6 fun d ys e=>s4 _ _ e⟩
  ·rintro σ H' ⟨h,_⟩
   exact key _ _ ⟨lp,by rw[<- lv];exact h,qp,arm⟩
 rintro br H3 ⟨lp,⟨x5,x6,x7,x8,rfl,jv,Vq⟩,qp,arm⟩
 rw[bB]at Vq
 exact⟨_,O,q S Sr lp H3 jv Vq qp arm Ji⟩
end
section
variable {P:Program}{w:World}{K:ao}{mg:Str->Option Value}{base:Heap}{CB CF CH CS CN CE CM tB:Addr}
theorem abC (s:dG):(sG s)[1]? = some (nV s.1):=by
 obtain⟨a,b,p⟩:=s
 cases p <;> rfl
theorem TV (s:dG):(sG s)[2]? = some (nV s.2.1):=by
 obtain⟨a,b,p⟩:=s
 cases p <;> rfl
inductive aaW (vs:List V) (H:Hp) (Q:VK):Prop
 | mk (S R:Addr) (Sr rows:List Addr) (ts:List Tm) (es:List cy) (ls:List Nat) (lp:List (Nat × Nat)) (a b d:Nat) (z0:vs = [.ref S,.ref R,nV a,nV b]) (z1:LstAt H S Sr ts.length (both (wN ts es lp))) (z2:oa H R rows ts.length (aO ts es)) (z3:mJ ts es ls) (z4:LP ts ls lp (hV ts)) (z5:Km ts es lp) (z6:a < ts.length) (z7:b < ts.length) (z8:aO ts es a b=some d)
  (z9:∀ D l jk H',bu H H'->H D=none->H' D=some (.lst jk)->rj H' jk l->yj ts es a b l->Q (.ref D) H'):aaW vs H Q
def Xm:Sp:=fun vs H Q _=>aaW vs H Q
structure Mn (ts:List Tm) (es:List cy) (a b d:Nat) (l:List dG) (here m:Nat):Prop where
 lt:here < ts.length
 ch:Chain ts es a l here
 dh:aO ts es here b=some m
 tot:kL (aO ts es) l+m=d
 jo:(l.map fun s=>s.1).Nodup
 far:∀ s∈l,s.1 < ts.length∧∃ k,aO ts es s.1 b=some k∧m < k
theorem Mn.dR {ts:List Tm}{es:List cy}{a b d:Nat}{l:List dG}{here m:Nat} (h:Mn ts es a b d l here m):l.length<=ts.length:=by
 have:=lE (U:=bN ts.length) h.jo fun x hx=>by
  obtain⟨s,hs,rfl⟩:=bj.mp hx
  exact cI.mpr (h.far s hs).1
 rw[ar,cR]at this
 exact this
theorem Mn.next {ts:List Tm}{es:List cy} (he:∀ e∈es,1<=e.2.2) {a b d:Nat}{l:List dG}{here m:Nat} (h:Mn ts es a b d l here m) {s:dG} (ok:ja ts es s) (e1:s.1=here) (lt:s.2.1 < ts.length) {u v:Nat} (hu:aO ts es here s.2.1=some u) (hv:aO ts es s.2.1 b=some v) (e:u+v=m) (ne:here≠s.2.1):Mn ts es a b d (l ++ [s]) s.2.1 v∧v < m:=by
 have up:=Te he hu ne
 refine⟨⟨lt,yh ok h.ch e1,hv,?_,?_,fun t ht =>?_⟩,by omega⟩
 ·have t:=h.tot
  rw[xA,e1,hu]
  show kL (aO ts es) l+u+v=d
  omega
 ·rw[c9]
  refine eK.mpr ⟨h.jo,bQ.mpr ⟨nofun,.nil⟩,fun x hx y hy z =>?_⟩
  obtain⟨t,ht,rfl⟩:=bj.mp hx
  have hy:y=s.1:=aB.mp hy
  obtain⟨_,k,hk,lk⟩:=h.far t ht
  rw[z,hy,e1,h.dh]at hk
  cases hk
  omega
 ·rcases aA.mp ht with z | z
  ·obtain⟨l1,k,hk,lk⟩:=h.far t z
   exact⟨l1,k,hk,by omega⟩
  ·rw[aB.mp z,e1]
   exact⟨h.lt,m,h.dh,by omega⟩
inductive Vk (H:Hp) (S R D:Addr) (ts:List Tm) (es:List cy) (a b d m:Nat) (σ : St) (H':Hp):Prop
 | mk (here:Nat) (l:List dG) (vs:List V) (x6 x7:Option V):(σ = [aa S,aa R,aU a,aU b,aa D,aU here,x6,x7])->bu H H'->H' D=some (.lst vs)->rj H' vs l->Mn ts es a b d l here m->Vk H S R D ts es a b d m σ H'
inductive SbF (Hc:Hp) (τ : St) (ts:List Tm) (es:List cy) (here b m:Nat) (F:List dG) (i:Nat) (σ : St) (H':Hp):Prop
 | mk (x6 x7:Option V):(σ = τ ++ [x6,x7])->H'=Hc->(∀ j s u v,j < i->F[j]? = some s->aO ts es here s.2.1=some u->aO ts es s.2.1 b=some v->u+v≠m)->SbF Hc τ ts es here b m F i σ H'
theorem VD {ts:List Tm}{es:List cy}{ls:List Nat} (ok:mJ ts es ls) {s:dG} (h:ja ts es s):s.2.1 < ts.length:=by
 cases h with
 | eR a b p e h1 h2 h3 =>
  obtain⟨l1,l2,_⟩:=ok.uW _ (ak h1)
  show b < _
  rcases h2 with⟨_,z⟩ | ⟨z,_⟩
  ·rw[<- z];exact l2
  ·rw[<- z];exact l1
 | ie a b x as bs h0 h1 h2 h3 h4 h5=>exact(ai.mp h2).1
theorem VC {ts:List Tm}{es:List cy} (he:∀ e∈es,1<=e.2.2) {s:dG} (h:ja ts es s):s.1≠s.2.1:=by
 cases h with
 | eR a b p e h1 h2 h3 =>
  intro z
  have z:a=b:=z
  rw[z,vQ]at h3
  have:=he _ (ak h1)
  have:=aH h3
  omega
 | ie a b x as bs h0 h1 h2 h3 h4 h5=>exact h0
theorem BF (B:jO mg) (D:Def K mg "steps_between" pC wa7):ed P w K mg base 1 "steps_between" wa7 Xm:=by
 refine D.has iQ (fun vs H Q E h =>?_) (fun f cO A outer s H vs Q E hr h =>?_)
 ·obtain⟨S,R,Sr,rows,ts,es,ls,lp,a,b,d,rfl,_⟩:=h;rfl
 obtain⟨S,R,Sr,rows,ts,es,ls,lp,a,b,d,rfl,hS,rB,ok,qp,arm,ha,hb,hd,q⟩:=h
 refine⟨_,(ax (bC (i:=4) iQ.nd O (aM O) (kY aq))
  (ax (bC (i:=5) iQ.nd O (aM O) (pv 2))
  (ax (xJ bI (bE iZ (pv 5) (pv 3) (bS _))
  (aI (dJ bI O (eQ (aJ bz (pv 0) (pv 5))) (bL (i:=6) iQ.nd O (aM O))
  (ax (bC (i:=7) iQ.nd O (aM O) (aJ bp (pv 6) aD))
  (aI (cV (bE gk (gi mW (aJ bz (aJ bz (pv 1) (pv 5)) (pv 7)) (aJ bz (aJ bz (pv 1) (pv 7)) (pv 3))) (aJ bz (aJ bz (pv 1) (pv 5)) (pv 3)) (bS _)) (ax (dF (lM bU cD cC f6 (pv 4) (ae (pv 6) aq)))
  (ax (bC (i:=5) iQ.nd O (aM O) (pv 7))
  (aI HB))) cg))))))
  (aI (cm (pv 4)))))),?_⟩
 try dsimp only[dQ]
 have he:∀ e∈es,1<=e.2.2:=fun e h=>(ok.uW e h).2.2
 have dR:=ok.dR
 refine⟨(show 0<=sizeLine by decide),fun D1 lh =>?_⟩
 dsimp only[bw]
 obtain⟨H1,eH,s1,oY⟩:=alloc lh (.lst [])
 rw[eH]
 refine⟨_,O,?_⟩
 dsimp only[bw]
 refine gX (Vk H S R D1 ts es a b d 0) ?_ (fun key =>?_)
 rotate_left
 ·refine⟨Vk H S R D1 ts es a b d,⟨d,a, [], [],none,none,O,s1,oY,.nil,⟨ha,O,hd,pX _,.nil,fun s hs=>nomatch hs⟩⟩,?_⟩
  rintro m σ Hc ⟨here,l,vs,x6,x7,rfl,sm,LO,pK,I⟩
  refine⟨_,O,_,O,O,_,O,fC (fun ne =>?_) (fun eq =>?_)⟩
  ·have ne:here≠b:=fun z=>ne (by rw[z])
   refine⟨fun br H'=>∃ m',m' < m∧Vk H S R D1 ts es a b d m' br H',fun _ _ h=>h,?_⟩
   have LA:=hS.same sm
   have rC:=rB.same sm
   obtain⟨cS,hcS⟩:∃ c,Sr[here]? = some c:=⟨_,aj (by rw[LA.len];exact I.lt)⟩
   obtain⟨vS,Iy,Iw⟩:=LA.row here cS hcS
   obtain⟨cH,P9,XE⟩:=rC.ix (K:=K) I.lt
   refine⟨_,O,_,O,S,_,_,_,O,O,aZ.of LA.at_,fZ hcS,cS,O,⟨_,aZ.of Iy⟩,?_⟩
   refine fK (xs:=vS) (SbF Hc [aa S,aa R,aU a,aU b,aa D1,aU here] ts es here b m (both (wN ts es lp) here)) ⟨x6,x7,O,O,fun j s u v hj=>absurd hj (ip j)⟩ ?_ ?_ ?_
   ·rintro i σ H' _ ⟨x6,x7,rfl,rfl,_⟩
    exact aZ.of Iy
   ·rintro i v σ H' hv ⟨x6,x7,rfl,rfl,no⟩
    obtain⟨st,iW,p,rfl,hp⟩:=Paired.at Iw hv
    obtain⟨so,sf⟩:=RA qp arm (ak iW)
    have tl:=VD ok so
    have tn:=VC he so
    obtain⟨u,hu⟩:=so.dist
    rw[sf]at hu tn
    obtain⟨t,ht,_⟩:=JB (ts:=ts) (es:=es) (a:=st.2.1) (c:=here) (b:=b) (by rw[lG];exact hu) I.dh
    dsimp only[bw]
    refine⟨_,O,p,_,2,_,O,O,bD.of hp,aL (j:=2) (TV st),?_⟩
    dsimp only[bw]
    obtain⟨cT,hcT,ae7⟩:=rC.ix (K:=K) tl
    have j1:=aL (nY (L:=aO ts es) (a:=here) tl)
    have j2:=aL (nY (L:=aO ts es) (a:=st.2.1) hb)
    have j3:=aL (nY (L:=aO ts es) (a:=here) hb)
    rw[hu]at j1
    rw[ht]at j2
    rw[I.dh]at j3
    have sR:=aZ.of (K:=K) rC.at_
    refine⟨_,O,_,O,R,_,_,_,O,O,sR,fZ P9,_,O,cH,_,_,_,O,O,XE,j1,_,O,_,O,R,_,_,_,O,O,sR,fZ hcT,_,O,cT,_,_,_,O,O,ae7,j2,_,_,O,O,_,O,_,O,R,_,_,_,O,O,sR,fZ P9,_,O,cH,_,_,_,O,O,XE,j3,O,_,O,eF (fun eq =>?_) (fun ne =>?_)⟩
    ·have eq:u+t=m:=by have:=V.int.inj eq;omega
     obtain⟨I',lt⟩:=I.next he so sf tl hu ht eq tn
     have fw:=I.dR
     have lv:=aP pK
     refine⟨_,O,.inl ⟨O,_,aZ.of LO⟩,_,O,D1,_,_,O,O,LO,pw (by omega),?_⟩
     have kt:∀ c ys,H' c=some (.tup ys)->(upd H' D1 (.lst (vs ++ [.ref p]))) c=some (.tup ys):=fun c ys e=>by rw[aF (a9 e LO nofun)];exact e
     refine⟨_,O,?_⟩
     exact⟨t,lt,st.2.1,l ++ [st],_,_,_,O,sm.put lh,aE,gj (ia pK kt) (.cons ⟨p,O,kt _ _ hp⟩ .nil),I'⟩
    ·have ne:u+t≠m:=fun z=>ne (by rw[<- z];exact congrArg V.int (Int.natCast_add u t).symm)
     refine⟨_,_,O,O,fun j s u' v' hj hs CY uL =>?_⟩
     rcases gb j i with z | z
     ·exact no j s u' v' z hs CY uL
     ·have:j=i:=by omega
      subst this
      rw[iW]at hs
      cases hs
      rw[hu]at CY
      rw[ht]at uL
      cases CY
      cases uL
      exact ne
   ·rintro σ H' ⟨x6,x7,rfl,rfl,no⟩
    exfalso
    obtain⟨st,iW,u,v,hu,hv,e⟩:=RB qp he ok.arms ok.lead I.dh ne
    obtain⟨j,hj⟩:=aT iW
    have lj:=(ai.mp hj).1
    rw[<- aP Iw]at lj
    exact no j st u v lj hj hu hv e
  ·have eq:here=b:=by have:=V.int.inj eq;omega
   subst eq
   have z:=I.dh
   rw[vQ]at z
   cases z
   exact key _ _ ⟨here,l,vs,x6,x7,O,sm,LO,pK,I⟩
 rintro br H2 ⟨here,l,vs,x6,x7,rfl,sm,LO,pK,I⟩
 have e:here=b:=LZ he (fb I.dh).1 rfl
 subst e
 exact⟨_,O,q D1 l vs H2 sm lh LO pK ⟨⟨ha,hb⟩,I.ch,by rw[hd, <- I.tot];rfl,I.dR⟩⟩
inductive aaZ (vs:List V) (H:Hp) (Q:VK):Prop
 | mk (T Rw:Addr) (us vr:List V) (ts:List Tm) (es:List cy) (ls:List Nat) (a b:Nat) (l:List dG) (z0:vs = [.ref T,.ref Rw]) (z1:H T=some (.lst us)) (z2:kJ H us ts) (z3:mJ ts es ls) (z4:H Rw=some (.lst vr)) (z5:rj H vr l) (z6:yj ts es a b l) (z7:∀ (i:Nat) x as,ts[i]? = some (.of x as)->as.length<=4)
  (z8:∀ D jk H',bu H H'->H D=none->H' D=some (.lst jk)->dY H' jk (fc ts l)->(fc ts l).length<=4 * l.length->Q (.ref D) H'):aaZ vs H Q
def Xo:Sp:=fun vs H Q _=>aaZ vs H Q
theorem Kn {ts:List Tm}{l:List dG}{s:dG}:fc ts (l ++ [s])=fc ts l ++ (if s.2.2=none then cN ts s.1 s.2.1 else []):=by
 unfold fc
 rw[dX,i3]
theorem KI {ts:List Tm} (h4:∀ (i:Nat) x as,ts[i]? = some (.of x as)->as.length<=4) (a b:Nat):(cN ts a b).length<=4:=by
 unfold cN fg
 refine bq (jh ..) ?_
 rw[wb]
 refine bq (Nat.min_le_left ..) ?_
 cases e:ts[a]? with
 | none=>exact bA _
 | some t =>
  cases t with
  | of x as=>exact h4 a x as e
  | _=>exact bA _
theorem xw {ts:List Tm} (h4:∀ (i:Nat) x as,ts[i]? = some (.of x as)->as.length<=4):∀ l:List dG,(fc ts l).length<=4 * l.length
 | []=>au _
 | s :: l=>by
  have ih:=xw h4 l
  have e:fc ts (s :: l)=(if s.2.2=none then cN ts s.1 s.2.1 else []) ++ fc ts l:=by unfold fc;rw[tM]
  rw[e,aK,bV]
  have:(if s.2.2=none then cN ts s.1 s.2.1 else []).length<=4:=by split;exact KI h4 _ _;exact bA _
  omega
inductive EwI (H:Hp) (T Rw D:Addr) (ts:List Tm) (l:List dG) (i:Nat) (σ : St) (H':Hp):Prop
 | mk (x3:Option V) (vs:List V):(σ = [aa T,aa Rw,aa D,x3])->bu H H'->H' D=some (.lst vs)->dY H' vs (fc ts (l.take i))->EwI H T Rw D ts l i σ H'
theorem Et (gJ:ed P w K mg base 1 "unlike_arms" wa4 GC) (D:Def K mg "ends_within" sI wb8):ed P w K mg base 2 "ends_within" wb8 Xo:=by
 refine D.has qF (fun vs H Q E h =>?_) (fun f cO A outer s H vs Q E hr h =>?_)
 ·obtain⟨T,Rw,us,vr,ts,es,ls,a,b,l,rfl,_⟩:=h;rfl
 obtain⟨T,Rw,us,vr,ts,es,ls,a,b,l,rfl,hT,fR,ok,hR,PN,row,h4,q⟩:=h
 refine⟨_,(ax (bC (i:=2) qF.nd O (aM O) (kY aq))
  (ax (dJ bI O (eQ (pv 1)) (bL (i:=3) qF.nd O (aM O))
  (aI (cV (bE gk (aJ bp (pv 3) aD) d9 (bS _)) (aI (dF (lM bU vf vd Fs (pv 2) (ae (bG gJ hr (by omega) O (ae (pv 0) (ae (aJ bp (pv 3) aD) (ae (aJ bp (pv 3) aD) aq)))) aq)))) cg)))
  (aI (cm (pv 2))))),?_⟩
 try dsimp only[dQ]
 have lv:=aP PN
 have fw:=row.len
 have f30:=ok.dR
 refine⟨(show 0<=sizeLine by decide),fun D1 lh =>?_⟩
 dsimp only[bw]
 obtain⟨H1,eH,s1,oY⟩:=alloc lh (.lst [])
 rw[eH]
 refine gX (EwI H T Rw D1 ts l l.length) ?_ (fun key =>?_)
 rotate_left
 ·refine⟨_,O,Rw,O,⟨_,aZ.of (s1 _ _ hR)⟩,?_⟩
  refine fK (xs:=vr) (EwI H T Rw D1 ts l) ⟨none, [],O,s1,oY,.nil⟩ ?_ ?_ ?_
  ·rintro i σ H' _ ⟨x3,vs,rfl,sm,_⟩
   exact aZ.of (sm _ _ hR)
  ·rintro i v σ H' hv ⟨x3,vs,rfl,sm,FO,pK⟩
   obtain⟨st,iW,p,rfl,hp⟩:=Paired.at PN hv
   have so:=F0 row.ch (ak iW)
   have sn:=Kn (ts:=ts) (l:=l.take i) (s:=st)
   rw[<- et iW]at sn
   have n6:=sm _ _ hp
   dsimp only[bw]
   cases so with
   | eR a b pl e h1 h2 h3 =>
    have n6:H' p=some (.tup [.str "edge",nV a,nV b,nV pl]):=n6
    refine⟨_,O,p,_,0,_,O,O,bD.of n6,aL (j:=0) rfl,O,_,O,eF (fun z=>absurd (V.str.inj z) (by decide)) (fun _=>⟨_,vs,O,sm,FO,?_⟩)⟩
    rw[if_neg (by intro z;cases z),da]at sn
    rw[sn];exact pK
   | ie a b x as bs h0 h1 h2 h3 h4' h5 =>
    have n6:H' p=some (.tup [.str "like",nV a,nV b]):=n6
    rw[if_pos rfl]at sn
    refine⟨_,O,p,_,0,_,O,O,bD.of n6,aL (j:=0) rfl,O,_,O,eF (fun _ =>?_) (fun z=>absurd rfl z)⟩
    refine⟨_,O,.inl ⟨O,_,aZ.of FO⟩,_,O,_,O,p,_,1,_,O,O,bD.of n6,aL (j:=1) rfl,_,O,p,_,2,_,O,O,bD.of n6,aL (j:=2) rfl,T,us,ts,a,b,x,x,as,bs,O,sm _ _ hT,fh sm fR,h1,h2,h3,ok.qo a x as h1,fun D3 vs3 H3 s3 aj9 U3 wZ =>?_⟩
    have wl:=xw h4 (l.take i)
    have tl:=qA i l
    have l1:=aP pK
    have l2:=aP wZ
    have u4:=KI h4 a b
    have hi:=(ai.mp iW).1
    rw[cj]at wl tl
    have aad:=s3 _ _ FO
    refine⟨D1,D3,_,_,O,O,aad,U3,jJ (pw (by omega)),?_⟩
    have kt:∀ c ys,H3 c=some (.tup ys)->(upd H3 D1 (.lst (vs ++ vs3))) c=some (.tup ys):=fun c ys e=>by rw[aF (a9 e aad nofun)];exact e
    refine⟨_,_,O,(sm.trans s3).put lh,aE,?_⟩
    rw[sn]
    exact gj (bJ (bJ pK fun c ys e=>s3 _ _ e) kt) (bJ wZ kt)
  ·rintro σ H' h
   rw[lv]at h
   exact key _ _ h
 rintro br H2 ⟨x3,vs,rfl,sm,FO,pK⟩
 rw[bB]at pK
 exact⟨_,O,q D1 vs H2 sm lh FO pK (xw h4 l)⟩
abbrev nZ:Pos:=⟨147,33,147,69⟩
abbrev mi:Str:=("paper" : Str) ++ ".<locals>." ++ "<lambda>"
theorem La:∀ a:Fin 30,(toString ((a.val:Nat):Int):Str).length<=1000:=by decide +kernel
theorem O9 {a:Nat} (h:a < 30):((a:Int)).natAbs.log2 < 1920:=by
 rw[Int.natAbs_natCast]
 exact gf (Nat.log2_le_self a) (by omega)
abbrev yk (H:Hp) (Nd:Addr):List (NK × V)->List jF->Prop:=Paired fun kv r=>kv.1=bZ r.1∧∃ c vs,kv.2=V.ref c∧H c=some (.lst vs)∧rj H vs r.2∧c≠Nd
theorem qI {H H':Hp}{Nd:Addr}{kvs:List (NK × V)}{rs:List jF} (h:yk H Nd kvs rs) (kt:∀ c ys,H c=some (.tup ys)->H' c=some (.tup ys)) (kl:∀ c ys,c≠Nd->H c=some (.lst ys)->H' c=some (.lst ys)):yk H' Nd kvs rs :=
 Paired.uI h fun _ _ ⟨e,c,vs,e2,h1,h2,h3⟩=>⟨e,c,vs,e2,kl _ _ h3 h1,ia h2 kt,h3⟩
theorem Hv {H:Hp}{Nd:Addr} (q:Nat × Nat):∀ {kvs:List (NK × V)}{rs:List jF},yk H Nd kvs rs->(bR kvs (bZ q)=none∧q ∉ rs.map cL)∨∃ r∈rs,r.1=q∧∃ c vs,bR kvs (bZ q)=some (.ref c)∧H c=some (.lst vs)∧rj H vs r.2
 | _,_,.nil => .inl ⟨O,fun z=>nomatch z⟩
 | _,_, @Paired.cons _ _ _ kv r kvs rs ⟨e,c,vs,e2,h1,h2,_⟩ t=>by
  obtain⟨k,v⟩:=kv
  have e:k=bZ r.1:=e
  have e2:v = .ref c:=e2
  subst e e2
  by_cases z:r.1=q
  ·refine .inr ⟨r,bg,z,c,vs,?_,h1,h2⟩
   rw[eO (by rw[z])]
  ·rw[eD (fun y=>z (uD y))]
   rcases Hv q t with⟨g1,g2⟩ | ⟨r',g0,g⟩
   ·exact .inl ⟨g1,fun y=>by rw[aS]at y;rcases aY.mp y with y | y;exact z y.symm;exact g2 y⟩
   ·exact .inr ⟨r',aW _ g0,g⟩
abbrev Al (H:Hp) (M:Mx):List V->List jF->Prop:=Paired fun v r=>∃ q c vs d,v=V.ref q∧H q=some (.tup [nV r.1.1,nV r.1.2,nV d,.ref c])∧M r.1.1 r.1.2=some d∧H c=some (.lst vs)∧rj H vs r.2
inductive Mj (CA Pt:Addr) (vs:List V) (H:Hp) (Q:VK) (E:XK):Prop
 | mk (T L Ed:Addr) (us:List V) (ts:List Tm) (ls:List Nat) (ev:List V) (es:List cy) (a b:Nat) (z0:vs = [.ref T,.ref L,.ref Ed,nV a,nV b]) (z1:H T=some (.lst us)) (z2:kJ H us ts) (z3:H L=some (.lst (ls.map nV))) (z4:H Ed=some (.lst ev)) (z5:nC H ev es) (z6:mJ ts es ls) (z7:GL ts es ls) (z8:es.length<=1000) (z9:∀ (i:Nat) x as,ts[i]? = some (.of x as)->as.length<=4) (AV:a < ts.length) (GO:b < ts.length) (Od:i0 H Pt nZ mi) (Tz:ts.length<=9)
  (Oc:ls.getD a 0=ls.getD b 0->∀ D rs jk H',i4 Pt H H'->i0 H' Pt nZ mi->H D=none->H' D=some (.lst jk)->Al H' (aO ts es) jk rs->Kk ts es a b rs->rs.length < 64->Q (.ref D) H') (TC:ls.getD a 0≠ls.getD b 0->E (.ref CA) none H):Mj CA Pt vs H Q E
def D4 (CA Pt:Addr):Sp:=fun vs H Q E=>Mj CA Pt vs H Q E
inductive Vm (P:Program) (w:World) (H:Hp) (τ : St) (M Nd:Addr) (ts:List Tm) (es:List cy) (a b d m:Nat) (σ : St) (H':Hp):Prop
 | mk (kvs:List (NK × V)) (rs:List jF) (kB:List (Nat × Nat)) (vn:List V) (x9 tE:Option V):(σ = τ ++ [x9,tE,none])->bu H H'->DN P w H' M kvs->yk H' Nd kvs rs->H' Nd=some (.lst vn)->dY H' vn kB->oG ts es a b d rs kB->m=121 * (900 - rs.length)+kB.length->kB.length+120 * (900 - rs.length)<=120000->Vm P w H τ M Nd ts es a b d m σ H'
theorem wx {α β : Type}{R : α -> β -> Prop}:∀ {l:List α}{m:List β} (n:Nat),Paired R l m->Paired R (l.take n) (m.take n)∧Paired R (l.drop n) (m.drop n)
 | _,_,0,h=>⟨.nil,h⟩
 | _,_,n+1,.nil=>⟨.nil,.nil⟩
 | _,_,n+1,.cons h t=>⟨.cons h (wx n t).1,(wx n t).2⟩
def Dg (es:List cy):List (Nat × Nat):=es.map fun e=>(e.1,e.2.1)
theorem M7 {H:Hp}{l:List V}{m:List (Nat × Nat)} (h:dY H l m) (hp:0 < l.length):∃ l' m' p q,l=l' ++ [.ref q]∧m=m' ++ [p]∧dY H l' m'∧H q=some (.tup [nV p.1,nV p.2]):=by
 have hl:=aP h
 have e1:l=l.take (l.length - 1) ++ l.drop (l.length - 1):=(xk ..).symm
 obtain⟨v,hv⟩:∃ v,l[l.length - 1]? = some v:=⟨_,aj (by omega)⟩
 obtain⟨p,hm,q,rfl,hq⟩:=Paired.at h hv
 refine⟨l.take (l.length - 1),m.take (l.length - 1),p,q,?_,?_,?_,hq⟩
 ·conv=>lhs;rw[<- bB (l:=l),show l.length=l.length - 1+1 by omega]
  exact et hv
 ·conv=>lhs;rw[<- bB (l:=m),show m.length=l.length - 1+1 by omega]
  exact et hm
 ·exact(wx _ h).1
theorem KH {k:NK}{v:V}:∀ {kvs:List (NK × V)},bR kvs k=some v->∃ kv∈kvs,kv.2=v
 | (k',v') :: kvs,h=>by
  by_cases e:k'=k
  ·rw[eO e]at h
   exact⟨_,bg,aH h⟩
  ·rw[eD e]at h
   obtain⟨kv,h1,h2⟩:=KH h
   exact⟨kv,aW _ h1,h2⟩
theorem YD {H:Hp}{p:Nat × Nat}{c:Addr} (h:fA H (bZ p) c):H c=some (.tup [nV p.1,nV p.2]):=by
 obtain⟨ys,h,ks⟩:=h
 unfold bZ at ks
 rw[nJ]at ks
 obtain⟨y2,e,ks⟩:=ks
 rw[nJ]at ks
 obtain⟨y3,e2,ks⟩:=ks
 rw[nJ]at ks
 rw[h,e,e2,ks];rfl
theorem VU {α β : Type} (f : α -> β) {l m:List β} (h:l.Perm m):∀ {r:List α},m=r.map f->∃ r':List α,r'.Perm r∧l=r'.map f:=by
 induction h with
 | nil=>intro r e;exact⟨[],(by cases r with | nil=>exact .nil | cons=>cases e),O⟩
 | @cons x l m _ ih =>
  intro r e
  cases r with
  | nil=>cases e
  | cons y r =>
   rw[aS]at e
   injection e with e1 e2
   obtain⟨r',p,e3⟩:=ih e2
   exact⟨y :: r',p.cons y,by rw[aS,e1,e3]⟩
 | @swap x y l =>
  intro r e
  cases r with
  | nil=>cases e
  | cons a r =>
   cases r with
   | nil=>cases e
   | cons b r =>
    rw[aS,aS]at e
    injection e with e1 e2
    injection e2 with e2 e3
    exact⟨b :: a :: r,.swap a b r,by rw[aS,aS,e1,e2,e3]⟩
 | trans _ _ i1 i2 =>
  intro r e
  obtain⟨r1,p1,e1⟩:=i2 e
  obtain⟨r2,p2,e2⟩:=i1 e1
  exact⟨r2,p2.trans p1,e2⟩
def gD (M:Mx) (k:NK):Int:=match k with
 | [.inl (.inl a),.inl (.inl b)]=>((M a.toNat b.toNat).getD 0:Nat)
 | _=>0
theorem NM (M:Mx) (p:Nat × Nat):gD M (bZ p)=(((M p.1 p.2).getD 0:Nat):Int):=by
 unfold bZ gD
 dsimp only
 rw[cx,cx]
inductive PpB (P:Program) (w:World) (H7:Hp) (τ : St) (Bk:Addr) (M:Mx) (rs:List jF) (i:Nat) (σ : St) (H':Hp):Prop
 | mk (x9 tE:Option V) (vb:List V):(σ = τ ++ [x9,tE,some (.ref Bk)])->dD Bk H7 H'->H' Bk=some (.lst vb)->Al H' M vb (rs.take i)->PpB P w H7 τ Bk M rs i σ H'
theorem WE {H H':Hp}{M:Mx}{vb:List V}{rs:List jF} (h:Al H M vb rs) {Bk:Addr} (bt:dD Bk H H') {ub:List V} (hB:H Bk=some (.lst ub)) (nb:∀ v∈vb,∀ q,v=V.ref q->∀ c x y z,H q=some (.tup [x,y,z,.ref c])->c≠Bk):Al H' M vb rs:=by
 induction h with
 | nil=>exact .nil
 | @cons v r l m hh _ ih =>
  obtain⟨q,c,vs,d,e,h1,h2,h3,h4⟩:=hh
  have kt:∀ d ys,H d=some (.tup ys)->H' d=some (.tup ys):=fun d ys e=>bt _ _ (a9 e hB nofun) e
  exact .cons ⟨q,c,vs,d,e,kt _ _ h1,h2,bt _ _ (nb v bg q e c _ _ _ h1) h3,ia h4 kt⟩ (ih fun v hv=>nb v (aW _ hv))
theorem Sf {c Pt CA:Addr} (TB:TabAt base mg c Pt) (B:jO mg) (BS:mg "sorted" = none) (wU:Exc K mg "Apart" CA) (zL:ed P w K mg base 5 "lengths" wb0 E9) (sO:ed P w K mg base 3 "least_steps" wa3 Xn) (pO:ed P w K mg base 1 "steps_between" wa7 Xm) (sP:ed P w K mg base 2 "ends_within" wb8 Xo)
  (D:N4 K mg "paper" qG ue c):EW P w K mg base 6 "paper" ue (D4 CA Pt):=by
 refine D.aga lJ (fun vs H Q E h =>?_) (fun f A outer s H vs Q E hr h =>?_)
 ·obtain⟨T,L,Ed,us,ts,ls,ev,es,a,b,rfl,_⟩:=h;rfl
 obtain⟨T,L,Ed,us,ts,ls,ev,es,a,b,rfl,hT,fR,hL,hE,gF,ok,ld,fe,h4,ha,hb,tb,f9,q,qe⟩:=h
 refine⟨_,(ax (cV (bE iZ (aJ bz (pv 1) (pv 3)) (aJ bz (pv 1) (pv 4)) (bS _)) (aI (RR wU O (fun _ _ _ _ _ _ _ I hx q=>ace I hx q) (ae (O0 (Ar (K6 (pv 3)) (Ar d9 (Ar (K6 (pv 4)) (Ar d9 X0))))) aq) O)) cg)
  (ax (bC (i:=5) lJ.nd O (zZ O) (bG zL hr (by omega) O (ae (pv 0) (ae (pv 1) (ae (pv 2) aq)))))
  (ax (bC (i:=6) lJ.nd O (aM O) (bG sO hr (by omega) O (ae (pv 0) (ae (pv 1) (ae (pv 2) (ae (pv 5) aq))))))
  (ax (bC (i:=7) lJ.nd O (aM O) mV)
  (ax (bC (i:=8) lJ.nd O (aM O) (kY (ae (cQ (ae (pv 3) (ae (pv 4) aq))) aq)))
  (ax (xJ fJ (BD (pv 8) (fun _=>O))
  (ax (bC (i:=9) lJ.nd O (aM O) (X5 bU PySem.F.slot_list_pop PySem.F.type_list_pop Yp (pv 8)))
  (aI (cV (Cs (Fl (mn hr) (pv 9) (pv 7)) (by with_unfolding_all rfl)) (ax (bC (i:=10) lJ.nd O (aM O) (bG pO hr (by omega) O (ae (pv 6) (ae (pv 5) (ae (aJ bp (pv 9) aD) (ae (aJ bp (pv 9) aD) aq))))))
  (ax (wR (mn hr) (pv 7) (pv 9) (pv 10) O)
  (aI (dF (lM bU vf vd Fs (pv 8) (ae (bG sP hr (by omega) O (ae (pv 0) (ae (pv 10) aq))) aq)))))) cg))))
  (ax (bC (i:=11) lJ.nd O (aM O) (kY aq))
  (ax (dJ fJ O (eQ (RZ (i:=5) TB hr.depth O O BS O O (zZ (aM O)) O O O (pv 7) O (fun _ _ _ _ _=>O) O O O (by decide +kernel) O O)) (bL (i:=9) lJ.nd O (aM O))
  (aI (dF (lM bU cD cC f6 (pv 11) (ae (cQ (ae (aJ bp (pv 9) aD) (ae (aJ bp (pv 9) aD) (ae (aJ bz (aJ bz (pv 5) (aJ bp (pv 9) aD)) (aJ bp (pv 9) aD)) (ae (Eo (mn hr) (pv 7) (pv 9) (fun _ _=>O)) aq))))) aq)))))
  (aI (cm (pv 11))))))))))),?_⟩
 try dsimp only[dQ]
 have dR:=ok.dR
 have gd:∀ {i:Nat},i < ts.length->ls[i]? = some (ls.getD i 0):=fun {i} hi=>by rw[bc,aj (by rw[ok.len];exact hi)];rfl
 refine⟨_,O,_,O,L,_,_,_,O,O,aZ.of hL,jP (gd ha),_,O,_,O,L,_,_,_,O,O,aZ.of hL,jP (gd hb),O,_,O,fC (fun ne =>?_) (fun eq =>?_)⟩
 ·have ne:ls.getD a 0≠ls.getD b 0:=fun z=>ne (by rw[z])
  exact⟨by decide,_,O,_,O,O9 (by omega),_,O,La ⟨a,by omega⟩,_,O,by decide,_,O,_,O,O9 (by omega),_,O,La ⟨b,by omega⟩,_,O,by decide,fun z=>⟨(show 1<=sizeLine by decide),qe ne⟩⟩
 have eq:ls.getD a 0=ls.getD b 0:=by have:=V.int.inj eq;omega
 have q:=q eq
 obtain⟨d,hd⟩:=ld a b ha hb eq
 clear qe
 refine⟨_,O,_,O,_,O,T,L,Ed,us,ts,ls,ev,es,O,hT,fR,hL,hE,gF,ok,fun R rows H1 s1 hR lR Ur =>?_⟩
 dsimp only[bw]
 have rB:oa H1 R rows ts.length (aO ts es):=⟨hR,lR,fun a c e=>(Ur a c e).1⟩
 clear hR Ur
 refine⟨_,O,_,O,_,O,_,O,T,L,Ed,R,us,ts,ls,ev,es,rows,O,s1 _ _ hT,fh s1 fR,s1 _ _ hL,s1 _ _ hE,fX gF (fun d ys e=>s1 _ _ e),ok,ld,fe,rB,fun S Sr lp H2 s2 LS qp arm yH =>?_⟩
 dsimp only[bw]
 have zt:=rB.same s2
 have fH:=s1.trans s2
 intro M Ky hM zQ
 dsimp only[bw]
 have s3:=bf hM (.ext Ky)
 generalize upd H2 M (.ext Ky)=H3 at s3 zQ ⊢
 have jv:=fH.trans s3
 refine⟨_,O,_,O,(show 2<=sizeLine by decide),fun q0 hq0 =>?_⟩
 obtain⟨H4,eH,s4,IF⟩:=alloc hq0 (.tup [nV a,nV b])
 rw[eH]
 refine⟨(show 1<=sizeLine by decide),fun Nd UW =>?_⟩
 obtain⟨H5,eH,s5,hN5⟩:=alloc UW (.lst [.ref q0])
 rw[eH]
 dsimp only[bw]
 have OJ:=jv.trans (s4.trans s5)
 have hM0:H M=none:=fH.free hM
 have Bc:H Nd=none:=(jv.trans s4).free UW
 have Z3:H2 Nd=none:=(s3.trans s4).free UW
 have nMN:M≠Nd:=fun z=>by obtain⟨φ,e⟩:=zQ.ext;rw[z]at e;have:=s4 _ _ e;rw[UW]at this;cases this
 have sq4:bu H2 H5:=s3.trans (s4.trans s5)
 have Xl:Vm P w H2 [aa T,aa L,aa Ed,aU a,aU b,aa R,aa S,aa M,aa Nd] M Nd ts es a b d (121 * 900+1) ([aa T,aa L,aa Ed,aU a,aU b,aa R,aa S,aa M,aa Nd] ++ [none,none,none]) H5 :=
  ⟨[], [], [(a,b)],_,none,none,O,sq4,(zQ.same s4).same s5,.nil,hN5,.cons ⟨q0,O,s5 _ _ IF⟩ .nil,oG.start ha hb hd,O,(by show 1+120 * (900 - 0)<=120000;omega)⟩
 refine gX (fun br H'=>∃ (kvs:List (NK × V)) (rs:List jF) (x9 tE:Option V), br = [aa T,aa L,aa Ed,aU a,aU b,aa R,aa S,aa M,aa Nd,x9,tE,none]∧bu H2 H'∧DN P w H' M kvs∧yk H' Nd kvs rs∧oG ts es a b d rs []) ?_ (fun key =>?_)
 rotate_left
 ·refine⟨Vm P w H2 [aa T,aa L,aa Ed,aU a,aU b,aa R,aa S,aa M,aa Nd] M Nd ts es a b d,⟨_,Xl⟩,?_⟩
  rintro m σ H6 ⟨kvs,rs,kB,vn,x9,tE,rfl,sm,dn,rd,Qf,YZ,I,em,bd⟩
  refine⟨_,O, !vn.isEmpty,.inl ⟨_,aZ.of Qf,O⟩,?_⟩
  by_cases hz:0 < vn.length
  rotate_left
  ·have e0:vn = []:=nM.mp (by omega)
   subst e0
   cases YZ
   exact gO (key _ _ ⟨kvs,rs,x9,tE,O,sm,dn,rd,I⟩)
  obtain⟨AX,Nc,p,qa,rfl,rfl,YY,hqa⟩:=M7 YZ hz
  have gv:(!(AX ++ [V.ref qa]).isEmpty)=true:=by simp
  rw[gv]
  refine pJ ⟨fun br H'=>∃ m',m' < m∧Vm P w H2 [aa T,aa L,aa Ed,aU a,aU b,aa R,aa S,aa M,aa Nd] M Nd ts es a b d m' br H',fun _ _ h=>h,?_⟩
  refine⟨_,O,.inl ⟨O,_,aZ.of Qf⟩,Nd,_,.ref qa,O,O,Qf,(by simp),?_⟩
  dsimp only[bw]
  rw[List.dropLast_concat]
  have Uk:∀ c ys,H6 c=some (.tup ys)->(upd H6 Nd (.lst AX)) c=some (.tup ys):=fun c ys e=>by rw[aF (a9 e Qf nofun)];exact e
  have AY:=sm.put Z3 (o := .lst AX)
  have UX:=aE (H:=H6) (a:=Nd) (o := .lst AX)
  have FR:DN P w (upd H6 Nd (.lst AX)) M kvs:=dn.keep (fun φ e=>by rw[aF nMN];exact e) Uk
  have AZ:yk (upd H6 Nd (.lst AX)) Nd kvs rs:=qI rd Uk fun c ys n e=>by rw[aF n];exact e
  have CW:=bJ YY Uk
  have IE:=Uk _ _ hqa
  clear dn rd YZ YY Qf hqa
  generalize upd H6 Nd (.lst AX)=H7 at AY UX FR AZ CW IE ⊢
  rw[aK,fU]at em bd
  obtain⟨lp1,lp2,k,hk,_⟩:=I.top p (.inl (aA.mpr (.inr (bx _))))
  refine⟨_,O,_,O,M,qa,kvs,bZ p,O,O,FR,jC IE,_,O,?_⟩
  rcases Hv p AZ with⟨hn,hp⟩ | ⟨r,hr,e,c,vs,hv,_⟩
  rotate_left
  ·rw[hv]
   have mz:p∈rs.map cL:=bj.mpr ⟨r,hr,e⟩
   exact gO ⟨_,by omega,kvs,rs,Nc,AX,_,_,O,AY,FR,AZ,UX,CW,I.skip mz,O,by omega⟩
  rw[hn]
  refine pJ ?_
  have LS7:=LS.same AY
  have Cr:=zt.same AY
  refine⟨_,O,_,O,_,O,qa,_,0,_,O,O,bD.of IE,aL (j:=0) rfl,_,O,qa,_,1,_,O,O,bD.of IE,aL (j:=1) rfl,S,R,Sr,rows,ts,es,ls,lp,p.1,p.2,k,O,LS7,Cr,ok,qp,arm,lp1,lp2,hk,fun D1 l rA H8 s8 aae lh pK row =>?_⟩
  dsimp only[bw]
  have Xr:=AY.trans s8
  have U9:=FR.same s8
  have lk:kvs.length=rs.length:=aP AZ
  have RO:=I.NR f9
  refine⟨_,O,_,O,_,O,M,qa,kvs,bZ p,O,O,U9,jC (s8 _ _ IE),pw (by omega),fun N7 dn9 =>?_⟩
  rw[mU _ hn]at dn9
  obtain⟨φ8,e8⟩:=U9.ext
  have kx:∀ c o,H8 c=some o->(∀ φ,o ≠ .ext φ)->(upd H8 M (.ext N7)) c=some o:=fun c o e n=>by rw[aF (fun z=>by rw[z,e8]at e;cases e;exact n _ rfl)];exact e
  have nDN:D1≠Nd:=fun z=>by rw[z,UX]at aae;cases aae
  have T3:=Xr.put hM (o := .ext N7)
  have Z2:=kx _ _ (s8 _ _ UX) (fun _ z=>nomatch z)
  have Z9:=kx _ _ lh (fun _ z=>nomatch z)
  have Uj:∀ c ys,H8 c=some (.tup ys)->(upd H8 M (.ext N7)) c=some (.tup ys):=fun c ys e=>kx _ _ e (fun _ z=>nomatch z)
  have Y1:=bJ (bJ CW fun c ys e=>s8 _ _ e) Uj
  have rd9:yk (upd H8 M (.ext N7)) Nd kvs rs:=qI (qI AZ (fun c ys e=>s8 _ _ e) fun c ys _ e=>s8 _ _ e) Uj fun c ys _ e=>kx _ _ e (fun _ z=>nomatch z)
  have SK:=ia pK Uj
  clear kx Uj
  generalize upd H8 M (.ext N7)=H9 at T3 Z2 Z9 Y1 rd9 SK dn9 ⊢
  refine⟨_,O,.inl ⟨O,_,aZ.of Z2⟩,_,O,_,O,T,D1,us,rA,ts,es,ls,p.1,p.2,l,O,(fH.trans T3) _ _ hT,fh (fH.trans T3) fR,ok,Z9,SK,row,h4,fun D2 WT Bo zm aka oY oX fw =>?_⟩
  have Z4:=zm _ _ Z2
  have rl:=row.len
  have l1:=aP Y1
  have l2:=aP oX
  have I2:=oG.add ok.arms hd I hp row
  have afE:=I2.NR f9
  rw[aK,fU]at afE
  refine⟨Nd,D2,_,_,O,O,Z4,oY,jJ (gf (show _<=200000 by omega) (by decide)),?_⟩
  have Ii:∀ c ys,Bo c=some (.tup ys)->(upd Bo Nd (.lst (AX ++ WT))) c=some (.tup ys):=fun c ys e=>by rw[aF (a9 e Z4 nofun)];exact e
  refine⟨121 * (900 - (rs ++ [(p,l)]).length)+(Nc ++ fc ts l).length,?_,kvs ++ [(bZ p,.ref D1)],rs ++ [(p,l)],Nc ++ fc ts l,AX ++ WT,_,_,O,(T3.trans zm).put Z3,(dn9.same zm).keep (fun φ e=>by rw[aF nMN];exact e) Ii,?_,aE,gj (bJ (bJ Y1 fun c ys e=>zm _ _ e) Ii) (bJ oX Ii),I2,O,?_⟩
  ·rw[aK,aK,fU];omega
  ·refine gj (qI (qI rd9 (fun c ys e=>zm _ _ e) fun c ys _ e=>zm _ _ e) Ii fun c ys n e=>by rw[aF n];exact e) (.cons ⟨O,D1,rA,O,?_,ia (ia SK fun c ys e=>zm _ _ e) Ii,nDN⟩ .nil)
   rw[aF nDN];exact zm _ _ Z9
  ·rw[aK,aK,fU];omega
 rintro br H6 ⟨kvs,rs,x9,tE,rfl,Fc,dn6,XH,I⟩
 refine⟨(show 0<=sizeLine by decide),fun Bk LQ =>?_⟩
 dsimp only[bw]
 obtain⟨H7,eH,s7,hB7⟩:=alloc LQ (.lst [])
 rw[eH]
 have AY:=Fc.trans s7
 have FR:=dn6.same s7
 have AZ:yk H7 Nd kvs rs:=qI XH (fun c ys e=>s7 _ _ e) fun c ys _ e=>s7 _ _ e
 have Cr:=zt.same AY
 have Ow:=tb.same (fH.trans AY)
 have lk:kvs.length=rs.length:=aP AZ
 have RO:=I.NR f9
 have keys:kvs.map (·.1)=rs.map fun r=>bZ r.1:=by
  clear dn6 XH FR lk RO I
  induction AZ with
  | nil=>rfl
  | @cons kv r l m h _ ih=>rw[aS,aS,h.1,ih]
 refine gX (fun br H'=>∃ (x9 tE:Option V) (vb:List V) (kX:List jF), br = [aa T,aa L,aa Ed,aU a,aU b,aa R,aa S,aa M,aa Nd,x9,tE,some (.ref Bk)]∧i4 Pt H6 H'∧i0 H' Pt nZ mi∧H' Bk=some (.lst vb)∧Al H' (aO ts es) vb kX∧Kk ts es a b kX∧kX.length < 64) ?_ (fun key =>?_)
 rotate_left
 ·refine⟨_,O,M,R,kvs,rows,gD (aO ts es),O,FR,O,Cr.at_,by rw[lk];exact I.NR f9,by rw[Cr.len];omega,fun kv cZ =>?_,Ow,fun N H8 vo ic kb GW Z5 hN8 hvo perm G1 =>?_⟩
  ·obtain⟨i,hi⟩:=aT cZ
   obtain⟨r,hr,e,_⟩:=Paired.at AZ hi
   obtain⟨l1,l2,k,hk,_⟩:=I.top r.1 (.inr (bj.mpr ⟨r,ak hr,O⟩))
   obtain⟨cA,FJ,_⟩:=Cr.ix (K:=K) l1
   refine⟨r.1.1,r.1.2,cA,_,e,FJ,Cr.row _ _ FJ,by unfold ib;rw[ar,cR];omega,?_⟩
   rw[nY l2,hk,e,NM,hk];rfl
  obtain⟨kX,pm,eo⟩:=VU (fun r:jF=>bZ r.1) perm keys
  subst eo
  have bk:Kk ts es a b kX:=WD ok.arms hd I pm (by
   rw[iC]at G1 ⊢
   refine G1.imp fun {x y} z =>?_
   rw[NM,NM]at z
   omega)
  have kg:∀ {c:Addr}{o:HO},H7 c=some o->(∀ ps,o ≠ .oO ps)->H8 c=some o:=fun {c o} e n=>kb.get Ow e n
  have Be:=kg hB7 (fun _ z=>nomatch z)
  have kt8:∀ c ys,H7 c=some (.tup ys)->H8 c=some (.tup ys):=fun c ys e=>kg e (fun _ z=>nomatch z)
  have U9:DN P w H8 M kvs:=FR.keep (fun φ e=>kg e (fun _ z=>nomatch z)) kt8
  have rd8:yk H8 Nd kvs rs:=qI AZ kt8 fun c ys _ e=>kg e (fun _ z=>nomatch z)
  have XS:oa H8 R rows ts.length (aO ts es):=⟨kg Cr.at_ (fun _ z=>nomatch z),Cr.len,fun a c e=>kg (Cr.row a c e) (fun _ z=>nomatch z)⟩
  have nNB:N≠Bk:=fun z=>by rw[z,hB7]at Z5;cases Z5
  -- no ajP list is pj ajB
  have afu:∀ kv∈kvs,∀ c,kv.2=V.ref c->c≠Bk:=fun kv cZ c e z=>by
   obtain⟨i,hi⟩:=aT cZ
   obtain⟨r,_,_,c',vs,e2,h1,_⟩:=Paired.at XH hi
   rw[e]at e2
   cases e2
   rw[z,LQ]at h1;cases h1
  refine⟨N,O,⟨_,aZ.of hN8⟩,?_⟩
  have lvo:vo.length=kX.length:=by rw[aP hvo,ar]
  have lrs:kX.length=rs.length:=pm.length_eq
  refine fK (xs:=vo) (fun i σ H'=>PpB P w H8 [aa T,aa L,aa Ed,aU a,aU b,aa R,aa S,aa M,aa Nd] Bk (aO ts es) kX i σ H'∧∀ (v:V) (q:Addr) (vb:List V),H' Bk=some (.lst vb)->v∈vb->v=V.ref q->∀ c x y z,H' q=some (.tup [x,y,z,.ref c])->c≠Bk) ⟨⟨x9,tE, [],O,dD.refl _ _,Be,.nil⟩,fun v q vb e hv=>by rw[Be]at e;cases e;exact nomatch hv⟩ ?_ ?_ ?_
  ·rintro i σ H' _ ⟨⟨x9,tE,vb,rfl,bt,_⟩,_⟩
   exact aZ.of (bt _ _ nNB hN8)
  ·rintro i v σ H' hv ⟨⟨x9,tE,vb,rfl,bt,Jm,w6⟩,nb⟩
   obtain⟨k,hk,cc,rfl,nk⟩:=Paired.at hvo hv
   rw[aG]at hk
   obtain⟨r,hr,rfl⟩:=ck.mp hk
   have FI:H' cc=some (.tup [nV r.1.1,nV r.1.2]):=by
    have e:=YD nk
    exact bt _ _ (a9 e Be nofun) e
   have CZ:=pm.mem_iff.mp (ak hr)
   obtain⟨l1,l2,dd,gx,_⟩:=I.top r.1 (.inr (bj.mpr ⟨r,CZ,O⟩))
   have JJ:∀ {c:Addr}{o:HO},c≠Bk->H8 c=some o->H' c=some o:=fun {c o} n e=>bt _ _ n e
   have kt':∀ c ys,H8 c=some (.tup ys)->H' c=some (.tup ys):=fun c ys e=>bt _ _ (a9 e Be nofun) e
   have dn':DN P w H' M kvs:=U9.keep (fun φ e=>bt _ _ (a9 e Be nofun) e) kt'
   have rR:R≠Bk:=fun z=>by have:=Fc _ _ zt.at_;rw[z,LQ]at this;cases this
   have afe:∀ (x:Nat) (c:Addr),rows[x]? = some c->H' c=some (.lst (ib (aO ts es) ts.length x)):=fun x c e=>JJ (fun z=>by have:=Fc _ _ (zt.row x c e);rw[z,LQ]at this;cases this) (XS.row x c e)
   have rB':oa H' R rows ts.length (aO ts es):=⟨JJ rR XS.at_,XS.len,afe⟩
   obtain⟨cA,FJ,Hs⟩:=rB'.ix (K:=K) l1
   have jA:tI (ib (aO ts es) ts.length r.1.1) (r.1.2:Int)=some (nV dd):=by
    have z:=aL (nY (L:=aO ts es) (n:=ts.length) (a:=r.1.1) l2)
    rw[gx]at z;exact z
   rcases Hv r.1 rd8 with⟨_,qr⟩ | ⟨r2,hr2,e2,c,vs,hvv,hc8,hs8⟩
   ·exact absurd (bj.mpr ⟨r,CZ,O⟩) qr
   have e3:r2=r:=Ay I.key hr2 CZ e2
   subst e3
   have cB:c≠Bk:=by
    obtain⟨kv,cZ,ev⟩:=KH hvv
    exact afu kv cZ c ev
   dsimp only[bw]
   refine⟨_,O,.inl ⟨O,_,aZ.of Jm⟩,_,O,cc,_,0,_,O,O,bD.of FI,aL (j:=0) rfl,_,O,cc,_,1,_,O,O,bD.of FI,aL (j:=1) rfl,_,O,_,O,cc,_,0,_,O,O,bD.of FI,aL (j:=0) rfl,R,_,_,_,O,O,aZ.of rB'.at_,fZ FJ,_,O,cc,_,1,_,O,O,bD.of FI,aL (j:=1) rfl,cA,_,_,_,O,O,Hs,jA,_,O,_,O,M,cc,kvs,bZ r2.1,_,O,O,dn',jC FI,hvv,(show 4<=sizeLine by decide),fun p hp =>?_⟩
   have s9:=bf hp (.tup [nV r2.1.1,nV r2.1.2,nV dd,.ref c])
   have IK:=aE (H:=H') (a:=p) (o := .tup [nV r2.1.1,nV r2.1.2,nV dd,.ref c])
   generalize upd H' p (.tup [nV r2.1.1,nV r2.1.2,nV dd,.ref c])=H9 at s9 IK ⊢
   have hB9:=s9 _ _ Jm
   have lb:=aP w6
   have lt:=qA i kX
   refine⟨Bk,_,_,O,O,hB9,pw (by rw[lb,cj];omega),?_⟩
   have Np:∀ d ys,H9 d=some (.tup ys)->(upd H9 Bk (.lst (vb ++ [.ref p]))) d=some (.tup ys):=fun d ys e=>by rw[aF (a9 e hB9 nofun)];exact e
   have aaK:dD Bk H' (upd H9 Bk (.lst (vb ++ [.ref p]))):=fun d o n e=>by rw[aF n];exact s9 _ _ e
   have aca:=WE w6 aaK Jm fun v hv q e=>nb v q vb Jm hv e
   refine⟨⟨_,_,vb ++ [.ref p],O,bt.trans aaK,aE,?_⟩,fun v q vb2 e hv ev c2 x y z hq =>?_⟩
   ·rw[et hr]
    refine gj aca (.cons ⟨p,c,vs,dd,O,Np _ _ IK,gx,?_,ia (ia (ia hs8 kt') fun d ys e=>s9 _ _ e) Np⟩ .nil)
    rw[aF cB];exact s9 _ _ (JJ cB hc8)
   ·rw[aE]at e
    cases e
    rcases aA.mp hv with hv | hv
    ·have tF:H' q=some (.tup [x,y,z,.ref c2]):=by
      obtain⟨j,hj⟩:=aT hv
      obtain⟨r3,_,q3,c3,vs3,d3,e3,h3,_⟩:=Paired.at w6 hj
      rw[ev]at e3
      cases e3
      rw[Np _ _ (s9 _ _ h3)]at hq
      cases hq
      exact h3
     exact nb v q vb Jm hv ev c2 x y z tF
    ·have hv:=aB.mp hv
     rw[ev]at hv
     cases hv
     rw[Np _ _ IK]at hq
     cases hq
     exact cB
  ·rintro σ H' ⟨⟨x9,tE,vb,rfl,bt,Jm,w6⟩,_⟩
   rw[lvo,bB]at w6
   refine key _ _ ⟨x9,tE,vb,kX,O,fun d o n e =>?_,?_,Jm,w6,bk,by omega⟩
   ·exact bt _ _ (bX e LQ) (kb _ _ n (s7 _ _ e))
   ·rcases GW with z | ⟨c',oc,vs,t,z1,z2,z3⟩
    ·exact .inl (bt _ _ (a9 z Be nofun) z)
    ·exact .inr ⟨c',oc,vs,t,bt _ _ (a9 z1 Be nofun) z1,bt _ _ (a9 z2 Be nofun) z2,z3⟩
 rintro br H8 ⟨x9,tE,vb,kX,rfl,kb,GW,Be,w6,bk,r64⟩
 exact⟨_,O,q Bk kX vb H8 (Fh (fH.trans Fc) kb) GW ((fH.trans Fc).free LQ) Be w6 bk r64⟩
theorem Yz {K:ao}:lz K (.type "int") (.type "int")=some true:=by rfl
theorem YA {K:ao}:lz K (.type "int") (.type "bool")=some false:=by rfl
inductive Me (vs:List V) (H:Hp) (Q:VK):Prop
 | mk (n:Int) (z0:vs = [.int n]) (z1:Q (.bl true) H):Me vs H Q
def D0:Sp:=fun vs H Q _=>Me vs H Q
theorem Sa (B:jO mg) (D:Def K mg "_law_whole" Eb wb3):ed P w K mg base 1 "_law_whole" wb3 D0:=by
 refine D.has RJ (fun vs H Q E h =>?_) (fun f cO A outer s H vs Q E hr h =>?_)
 ·obtain⟨n,rfl,_⟩:=h;rfl
 obtain⟨n,rfl,q⟩:=h
 refine⟨_,(aI (cm (O1 (bO oE O B.kC gP (ae (pv 0) (ae (qJ (v := .ty "int") O B.afJ QJ O) aq))) (OZ (X2 (bO oE O B.kC gP (ae (pv 0) (ae (qJ (v := .ty "bool") O B.aci NV O) aq)))))))),?_⟩
 try dsimp only[dQ]
 refine⟨_,O,_,_,_,true,O,.int _,Yz,_,O,pJ ?_⟩
 exact⟨_,O,_,_,_,false,O,.int _,YA,_,O,q⟩
theorem uh {H:Hp}{t:Addr}{a b:Nat} (h:H t=some (.tup [nV a,nV b])):Den H (.tup [.int (a:Int),.int (b:Int)]) (.ref t):=by
 rw[Den]
 refine⟨t,_,O,h,?_⟩
 rw[nU]
 refine⟨_,_,O,by rw[Den];exact .inl rfl,?_⟩
 rw[nU]
 exact⟨_,_,O,by rw[Den];exact .inl rfl,by rw[nU]⟩
theorem BR (a b:Int):L2.D.dW [.int a,.int b]<=150:=by
 rw[L2.D.dW,L2.D.dW,L2.D.dW,L2.D.deep,L2.D.deep];omega
theorem Ol {a b c d:Nat}:([.int (a:Int),.int (b:Int)]:List L2.D) = [.int (c:Int),.int (d:Int)]↔a=c∧b=d:=by
 constructor
 ·intro h
  injection h with h1 h2
  injection h2 with h2 _
  injection h1 with h1
  injection h2 with h2
  omega
 ·rintro⟨rfl,rfl⟩;rfl
structure E3 (P:Program) (w:World) (H:Hp) (Ab:Addr) (kvs:List (NK × V)) (ab:Nat × Nat->Option Nat):Prop where
 dn:DN P w H Ab kvs
 val:∀ q,bR kvs (bZ q)=(ab q).map nV
theorem E3.same {H H':Hp}{Ab:Addr}{kvs:List (NK × V)}{ab:Nat × Nat->Option Nat} (h:E3 P w H Ab kvs ab) (sm:bu H H'):E3 P w H' Ab kvs ab:=⟨h.dn.same sm,h.val⟩
inductive Mh (P:Program) (w:World) (vs:List V) (H:Hp) (Q:VK):Prop
 | mk (T Ed Ab p:Addr) (us ev:List V) (ts:List Tm) (es:List cy) (ls:List Nat) (kvs:List (NK × V)) (ab:Nat × Nat->Option Nat) (st:dG) (z0:vs = [.ref T,.ref Ed,.ref Ab,.ref p]) (z1:H T=some (.lst us)) (z2:kJ H us ts) (z3:H Ed=some (.lst ev)) (z4:nC H ev es) (z5:E3 P w H Ab kvs ab) (z6:H p=some (.tup (sG st))) (z7:ja ts es st) (z8:st.2.2=none->∀ r∈cN ts st.1 st.2.1,ab r=aO ts es r.1 r.2) (z9:mJ ts es ls)
  (AV:∀ H' d,bu H H'->aO ts es st.1 st.2.1=some d->Q (nV d) H'):Mh P w vs H Q
def KY (P:Program) (w:World):Sp:=fun vs H Q _=>Mh P w vs H Q
inductive SpI (H:Hp) (τ : St) (g:Nat × Nat->Nat) (as bs:List Nat) (i:Nat) (σ : St) (H':Hp):Prop
 | mk (x8 x9:Option V):(σ = τ ++ [some (nV (1+lI g (fg (as.take i) (bs.take i)))),x8,x9])->bu H H'->SpI H τ g as bs i σ H'
theorem V3 (B:jO mg) (tY:mg "zip" = none) (D:Def K mg "_law_step" Hm gr):ed P w K mg base 1 "_law_step" gr (KY P w):=by
 refine D.has oP (fun vs H Q E h =>?_) (fun f cO A outer s H vs Q E hr h =>?_)
 ·obtain⟨T,Ed,Ab,p,us,ev,ts,es,ls,kvs,ab,st,rfl,_⟩:=h;rfl
 obtain⟨T,Ed,Ab,p,us,ev,ts,es,ls,kvs,ab,st,rfl,hT,fR,hE,gF,i6,hp,so,JN,ok,q⟩:=h
 refine⟨_,(ax (cV (PW.pt (pw_and (bE gk (aJ bp (pv 3) aD) d9 (bS _)) (pw_and1 (bE gk (bO cn O B.iH bM (ae (pv 3) aq)) aD (bS _))))) (ax (cV (iN (uC Av tR aD (aJ bp (pv 3) aD) (bO cn O B.iH bM (ae (pv 1) aq)))) (aI (cm j5)) cg)
  (ax (bC (i:=4) oP.nd O (aM O) (ky Cn (aJ bz (pv 1) (aJ bp (pv 3) aD)) mf (me aD)))
  (ax (cV (PW.pt (pw_or (bE (HG (Gy hr)) (pv 4) (cQ (ae (aJ bp (pv 3) aD) (ae (aJ bp (pv 3) aD) aq))) (bS _)) (pw_or1 (bE (HG (Gy hr)) (pv 4) (cQ (ae (aJ bp (pv 3) aD) (ae (aJ bp (pv 3) aD) aq))) (bS _))))) (aI (cm (aJ bp (aJ bz (pv 1) (aJ bp (pv 3) aD)) aD))) cg)
  (aI (cm j5))))) cg)
  (ax (cV (PW.pt (pw_or (bE iZ (aJ bp (pv 3) aD) d9 (bS _)) (pw_or (bE iZ (bO cn O B.iH bM (ae (pv 3) aq)) aD (bS _)) (pw_or1 (bE gk (aJ bp (pv 3) aD) (aJ bp (pv 3) aD) (bS _)))))) (aI (cm j5)) cg)
  (ax (cV (PW.pt (pw_or (iN (uC Av tR aD (aJ bp (pv 3) aD) (bO cn O B.iH bM (ae (pv 0) aq)))) (pw_or1 (iN (uC Av tR aD (aJ bp (pv 3) aD) (bO cn O B.iH bM (ae (pv 0) aq))))))) (aI (cm j5)) cg)
  (ax (bC (i:=5) oP.nd O (aM O) (aJ bz (pv 0) (aJ bp (pv 3) aD)))
  (ax (bC (i:=6) oP.nd O (aM O) (aJ bz (pv 0) (aJ bp (pv 3) aD)))
  (ax (cV (PW.pt (pw_or (bE iZ (aJ bp (pv 5) aD) d9 (bS _)) (pw_or (bE iZ (aJ bp (pv 6) aD) d9 (bS _)) (pw_or (bE iZ (aJ bp (pv 5) aD) (aJ bp (pv 6) aD) (bS _)) (pw_or1 (bE iZ (bO cn O B.iH bM (ae (aJ bp (pv 5) aD) aq)) (bO cn O B.iH bM (ae (aJ bp (pv 6) aD) aq)) (bS _))))))) (aI (cm j5)) cg)
  (ax (bC (i:=7) oP.nd O (aM O) aD)
  (ax (dJ bI O (Em O tY (ae (aJ bp (pv 5) aD) (ae (aJ bp (pv 6) aD) aq))) (lY O (dH (bL (i:=8) oP.nd O (aM O)) (dH (bL (i:=9) oP.nd O (aM O)) jX)))
  (ax (cV (PW.pt (pw_and (bE iZ (pv 8) (pv 9) (bS _)) (pw_and1 (Cs (Fl (mn hr) (cQ (ae (pv 8) (ae (pv 9) aq))) (pv 2)) (by with_unfolding_all rfl))))) (aI (cm j5)) cg)
  (aI (cV (bE iZ (pv 8) (pv 9) (bS _)) (aI (bC (i:=7) oP.nd O (aM O) (gi mW (pv 7) (Eo (mn hr) (pv 2) (cQ (ae (pv 8) (ae (pv 9) aq))) (fun _ _=>O))))) cg))))
  (aI (cm (pv 7))))))))))),?_⟩
 try dsimp only[dQ]
 have lu:=aP fR
 cases so with
 | eR a b pl e h1 h2 h3 =>
  have hp:H p=some (.tup [.str "edge",nV a,nV b,nV pl]):=hp
  have sp:=bD.of (K:=K) hp
  have pll:=(ai.mp h1).1
  have evl:=aP gF
  obtain⟨v,hv⟩:∃ v,ev[pl]? = some v:=⟨_,aj (by omega)⟩
  obtain⟨e',LG,qa,c,rfl,hq⟩:=Paired.at gF hv
  rw[h1]at LG
  cases LG
  refine⟨_,O,p,_,0,_,O,O,sp,aL (j:=0) rfl,O,_,O,eF (fun _ =>?_) (fun z=>absurd rfl z)⟩
  refine⟨_,O,p,_,O,.inr sp,O,_,O,eF (fun _ =>?_) (fun z=>absurd rfl z)⟩
  refine⟨_,O,p,_,3,_,O,O,sp,aL (j:=3) rfl,_,_,O,O,_,O,eF (fun _ =>?_) (fun z=>absurd (kq pl) z)⟩
  refine⟨_,O,Ed,_,O,.inl (aZ.of hE),_,_,O,O,_,O,fC (fun z=>absurd (show (pl:Int) < (ev.length:Int) by omega) z) (fun _ =>?_)⟩
  refine⟨_,O,_,O,p,_,3,_,O,O,sp,aL (j:=3) rfl,Ed,_,_,_,O,O,aZ.of hE,aL hv,_,O,qa,_,O,bD.of hq,(by show ¬ (HT.cX 4 0 none=0∧HT.cX 4 4 (some 2)=4);decide),fun t1 j6 =>?_⟩
  dsimp only[bw]
  have s1:=bf j6 (.tup (ly [nV e.1,nV e.2.1,nV e.2.2,c] none (some 2)))
  have k1:(upd H t1 (.tup (ly [nV e.1,nV e.2.1,nV e.2.2,c] none (some 2)))) t1=some (.tup [nV e.1,nV e.2.1]):=aE
  generalize upd H t1 (.tup (ly [nV e.1,nV e.2.1,nV e.2.2,c] none (some 2)))=H1 at s1 k1 ⊢
  have OH:=bD.of (K:=K) (s1 _ _ hp)
  refine⟨_,O,_,O,p,_,1,_,O,O,OH,aL (j:=1) rfl,_,O,p,_,2,_,O,O,OH,aL (j:=2) rfl,(show 2<=sizeLine by decide),fun t2 nH =>?_⟩
  obtain⟨H2,eH,s2,k2⟩:=alloc nH (.tup [nV a,nV b])
  rw[eH]
  have ret:∀ H',bu H H'->bD K H' p [.str "edge",nV a,nV b,nV pl]∧aZ K H' Ed ev∧bD K H' qa [nV e.1,nV e.2.1,nV e.2.2,c]:=fun H' sm=>⟨bD.of (sm _ _ hp),aZ.of (sm _ _ hE),bD.of (sm _ _ hq)⟩
  refine⟨[.int (e.1:Int),.int (e.2.1:Int)], [.int (a:Int),.int (b:Int)],.inl ⟨uh (s2 _ _ k1),uh k2⟩,BR _ _,_,O,eF (fun _=>pJ ?_) (fun n1 =>?_)⟩
  ·obtain⟨r1,r2,r3⟩:=ret _ (s1.trans s2)
   exact⟨_,O,_,O,p,_,3,_,O,O,r1,aL (j:=3) rfl,Ed,_,_,_,O,O,r2,aL hv,qa,_,2,_,O,O,r3,aL (j:=2) rfl,q _ _ (s1.trans s2) h3⟩
  have sp2:=bD.of (K:=K) (s2 _ _ (s1 _ _ hp))
  refine⟨_,O,_,O,p,_,2,_,O,O,sp2,aL (j:=2) rfl,_,O,p,_,1,_,O,O,sp2,aL (j:=1) rfl,(show 2<=sizeLine by decide),fun t3 Y7 =>?_⟩
  obtain⟨H3,eH,s3,k3⟩:=alloc Y7 (.tup [nV b,nV a])
  rw[eH]
  refine⟨[.int (e.1:Int),.int (e.2.1:Int)], [.int (b:Int),.int (a:Int)],.inl ⟨uh (s3 _ _ (s2 _ _ k1)),uh k3⟩,BR _ _,_,O,eF (fun _ =>?_) (fun n2 =>?_)⟩
  ·obtain⟨r1,r2,r3⟩:=ret _ ((s1.trans s2).trans s3)
   exact⟨_,O,_,O,p,_,3,_,O,O,r1,aL (j:=3) rfl,Ed,_,_,_,O,O,r2,aL hv,qa,_,2,_,O,O,r3,aL (j:=2) rfl,q _ _ ((s1.trans s2).trans s3) h3⟩
  ·rcases h2 with z | z
   ·exact absurd (Ol.mpr z) n1
   ·exact absurd (Ol.mpr z) n2
 | ie a b x as bs h0 h1 h2 h3 h4 h5 =>
  have hp:H p=some (.tup [.str "like",nV a,nV b]):=hp
  have sp:=bD.of (K:=K) hp
  have yG:=(ai.mp h1).1
  have yF:=(ai.mp h2).1
  obtain⟨ta,ca,Y3,PQ,gy⟩:=tm_val fR h1
  obtain⟨tb,cb,Y2,Lv,iX⟩:=tm_val fR h2
  refine⟨_,O,p,_,0,_,O,O,sp,aL (j:=0) rfl,O,_,O,eF (fun z=>absurd (V.str.inj z) (by decide)) (fun _=>gO ?_)⟩
  refine⟨_,O,p,_,0,_,O,O,sp,aL (j:=0) rfl,O,_,O,fC (fun z=>absurd rfl z) (fun _ =>?_)⟩
  refine⟨_,O,p,_,O,.inr sp,O,_,O,fC (fun z=>absurd rfl z) (fun _ =>?_)⟩
  refine⟨_,O,p,_,1,_,O,O,sp,aL (j:=1) rfl,_,O,p,_,2,_,O,O,sp,aL (j:=2) rfl,O,_,O,eF (fun z=>absurd (by have:=V.int.inj z;omega) h0) (fun _ =>?_)⟩
  refine⟨_,O,p,_,1,_,O,O,sp,aL (j:=1) rfl,_,_,O,O,_,O,eF (fun _ =>?_) (fun z=>absurd (kq a) z)⟩
  refine⟨_,O,T,_,O,.inl (aZ.of hT),_,_,O,O,_,O,fC (fun z=>absurd (show (a:Int) < (us.length:Int) by omega) z) (fun _ =>?_)⟩
  refine⟨_,O,p,_,2,_,O,O,sp,aL (j:=2) rfl,_,_,O,O,_,O,eF (fun _ =>?_) (fun z=>absurd (kq b) z)⟩
  refine⟨_,O,T,_,O,.inl (aZ.of hT),_,_,O,O,_,O,fC (fun z=>absurd (show (b:Int) < (us.length:Int) by omega) z) (fun _ =>?_)⟩
  refine⟨_,O,_,O,p,_,1,_,O,O,sp,aL (j:=1) rfl,T,_,_,_,O,O,aZ.of hT,aL Y3,?_⟩
  dsimp only[bw]
  refine⟨_,O,_,O,p,_,2,_,O,O,sp,aL (j:=2) rfl,T,_,_,_,O,O,aZ.of hT,aL Y2,?_⟩
  dsimp only[bw]
  have sa:=bD.of (K:=K) PQ
  have sb:=bD.of (K:=K) Lv
  refine⟨_,O,ta,_,0,_,O,O,sa,aL (j:=0) rfl,O,_,O,fC (fun z=>absurd rfl z) (fun _ =>?_)⟩
  refine⟨_,O,tb,_,0,_,O,O,sb,aL (j:=0) rfl,O,_,O,fC (fun z=>absurd rfl z) (fun _ =>?_)⟩
  refine⟨_,O,ta,_,1,_,O,O,sa,aL (j:=1) rfl,_,O,tb,_,1,_,O,O,sb,aL (j:=1) rfl,O,_,O,fC (fun z=>absurd rfl z) (fun _ =>?_)⟩
  refine⟨_,O,ta,_,2,_,O,O,sa,aL (j:=2) rfl,ca,_,O,.inr (bD.of gy),_,O,tb,_,2,_,O,O,sb,aL (j:=2) rfl,cb,_,O,.inr (bD.of iX),O,_,O,fC (fun z=>absurd (by rw[ar,ar,h3]) z) (fun _ =>?_)⟩
  dsimp only[bw]
  have ea:cN ts a b=fg as bs:=by unfold cN;rw[h1,h2];rfl
  have JN:∀ r∈fg as bs,ab r=aO ts es r.1 r.2:=fun r hr=>JN rfl r (by rw[ea];exact hr)
  have h4:∀ r∈fg as bs,∃ k,aO ts es r.1 r.2=some k:=fun r hr=>h4 r (by rw[ea];exact hr)
  refine⟨_,O,ta,_,2,_,O,O,sa,aL (j:=2) rfl,_,O,tb,_,2,_,O,O,sb,aL (j:=2) rfl,ca,cb,_,_,O,bD.of gy,bD.of iX,?_⟩
  refine S6 (xs:=as.map nV) (ys:=bs.map nV) (by rw[ar,ar,h3]) (SpI H [aa T,aa Ed,aa Ab,aa p,none,some (.ref ta),some (.ref tb)] (fun r=>(aO ts es r.1 r.2).getD 0) as bs) ⟨none,none,O,bu.refl _⟩ ?_ ?_ ?_
  ·rintro i σ H' _ ⟨x8,x9,rfl,sm⟩
   exact⟨bD.of (sm _ _ gy),bD.of (sm _ _ iX)⟩
  ·rintro i xv yv pz σ H' hx hy ⟨x8,x9,rfl,sm⟩ hpz
   rw[aG]at hx hy
   obtain⟨u,hu,rfl⟩:=ck.mp hx
   obtain⟨v,hv,rfl⟩:=ck.mp hy
   have nx:=GR hu hv
   have s1:=bf hpz (.tup [nV u,nV v])
   refine⟨pz,_,O,bD.of aE,O,_,_,O,_,_,O,O,?_⟩
   generalize upd H' pz (.tup [nV u,nV v])=H1 at s1 ⊢
   have nX:=sm.trans s1
   have agc:=i6.same nX
   by_cases e:u=v
   ·subst e
    rw[if_pos rfl,da]at nx
    refine⟨_,O,_,O,O,_,O,fC (fun z=>absurd rfl z) (fun _=>gO ?_)⟩
    refine⟨_,O,_,O,O,_,O,fC (fun z=>absurd rfl z) (fun _=>⟨some (nV u),some (nV u),?_,nX⟩)⟩
    rw[nx];rfl
   ·rw[if_neg e]at nx
    have hm:(u,v)∈fg as bs:=iy.mpr ⟨e,i,hu,hv⟩
    obtain⟨k,hk⟩:=h4 _ hm
    have hk:aO ts es u v=some k:=hk
    have av:bR kvs (bZ (u,v))=some (nV k):=by
     rw[i6.val,JN _ hm];dsimp only;rw[hk];rfl
    refine⟨_,O,_,O,O,_,O,fC (fun _ =>?_) (fun z=>absurd (by have:=V.int.inj z;omega) e)⟩
    refine⟨_,O,_,O,(show 2<=sizeLine by decide),fun t2 nH =>?_⟩
    obtain⟨H2,eH,s2,k2⟩:=alloc nH (.tup [nV u,nV v])
    rw[eH]
    have ZU:=agc.same s2
    refine⟨_,O,Ab,t2,kvs,bZ (u,v),O,O,ZU.dn,jC k2,_,O,?_⟩
    rw[av]
    refine gO ?_
    refine⟨_,O,_,O,O,_,O,fC (fun _ =>?_) (fun z=>absurd (by have:=V.int.inj z;omega) e)⟩
    refine⟨_,O,_,O,_,O,_,O,(show 2<=sizeLine by decide),fun t3 Y7 =>?_⟩
    obtain⟨H3,eH,s3,k3⟩:=alloc Y7 (.tup [nV u,nV v])
    rw[eH]
    have agb:=ZU.same s3
    refine⟨Ab,t3,kvs,bZ (u,v),_,O,O,agb.dn,jC k3,av,_,_,O,O,⟨some (nV u),some (nV v),?_,(nX.trans s2).trans s3⟩⟩
    rw[nx,y0]
    dsimp only
    rw[hk]
    generalize lI (fun r=>(aO ts es r.1 r.2).getD 0) (fg (as.take i) (bs.take i))=S
    have ev:V.int (((1+S:Nat):Int)+(k:Int))=nV (1+(S+k)):=congrArg V.int (by omega)
    show [some (V.ref T),some (V.ref Ed),some (V.ref Ab),some (V.ref p),none,some (V.ref ta),some (V.ref tb),some (V.int (((1+S:Nat):Int)+(k:Int))),some (nV u),some (nV v)] = [some (V.ref T),some (V.ref Ed),some (V.ref Ab),some (V.ref p),none,some (V.ref ta),some (V.ref tb),some (nV (1+(S+k))),some (nV u),some (nV v)]
    rw[ev]
  ·rintro σ H' ⟨x8,x9,rfl,sm⟩
   rw[ar,bB,h3,bB]
   refine⟨_,O,q _ _ sm ?_⟩
   rw[h5]
   unfold cK
   rw[ea]
inductive JQ (P:Program) (w:World) (vs:List V) (H:Hp) (Q:VK):Prop
 | mk (T Ed Ab q c:Addr) (us ev vr:List V) (ts:List Tm) (es:List cy) (ls:List Nat) (kvs:List (NK × V)) (ab:Nat × Nat->Option Nat) (a b d:Nat) (l:List dG) (z0:vs = [.ref T,.ref Ed,.ref Ab,.ref q]) (z1:H T=some (.lst us)) (z2:kJ H us ts) (z3:H Ed=some (.lst ev)) (z4:nC H ev es) (z5:E3 P w H Ab kvs ab) (z6:H q=some (.tup [nV a,nV b,nV d,.ref c])) (z7:H c=some (.lst vr)) (z8:rj H vr l) (z9:yj ts es a b l) (AV:aO ts es a b=some d) (GO:∀ r∈fc ts l,ab r=aO ts es r.1 r.2) (Od:mJ ts es ls)
  (Oc:∀ H',bu H H'->Q (nV d) H'):JQ P w vs H Q
def G4 (P:Program) (w:World):Sp:=fun vs H Q _=>JQ P w vs H Q
inductive Ts (H:Hp) (τ : St) (ts:List Tm) (es:List cy) (a:Nat) (l:List dG) (i:Nat) (σ : St) (H':Hp):Prop
 | mk (here:Nat) (x6 x7:Option V):(σ = τ ++ [some (nV here),some (nV (kL (aO ts es) (l.take i))),x6,x7])->bu H H'->Chain ts es a (l.take i) here->Ts H τ ts es a l i σ H'
theorem Sd (B:jO mg) (Jc:ed P w K mg base 1 "_law_step" gr (KY P w)) (D:Def K mg "_law_steps" Ee oq):ed P w K mg base 2 "_law_steps" oq (G4 P w):=by
 refine D.has ox (fun vs H Q E h =>?_) (fun f cO A outer s H vs Q E hr h =>?_)
 ·obtain⟨T,Ed,Ab,q,c,us,ev,vr,ts,es,ls,kvs,ab,a,b,d,l,rfl,_⟩:=h;rfl
 obtain⟨T,Ed,Ab,qa,c,us,ev,vr,ts,es,ls,kvs,ab,a,b,d,l,rfl,hT,fR,hE,gF,i6,hq,hc,PN,row,hd,JN,ok,q⟩:=h
 refine⟨_,(ax (bC (i:=4) ox.nd O (aM O) (aJ bp (pv 3) aD))
  (ax (bC (i:=5) ox.nd O (aM O) aD)
  (ax (dJ bI O (eQ (aJ bp (pv 3) aD)) (bL (i:=6) ox.nd O (aM O))
  (ax (bC (i:=7) ox.nd O (aM O) (bG Jc hr (by omega) O (ae (pv 0) (ae (pv 1) (ae (pv 2) (ae (pv 6) aq))))))
  (ax (cV (PW.pt (pw_or (bE iZ (aJ bp (pv 6) aD) (pv 4) (bS _)) (pw_or1 (bE HF (pv 7) j5 (bS _))))) (aI (cm j5)) cg)
  (ax (bC (i:=5) ox.nd O (aM O) (gi mW (pv 5) (pv 7)))
  (aI (bC (i:=4) ox.nd O (aM O) (aJ bp (pv 6) aD)))))))
  (ax (cV (PW.pt (pw_or (bE iZ (pv 4) (aJ bp (pv 3) aD) (bS _)) (pw_or1 (iN (uC Av tR aD (aJ bp (pv 3) aD) (bO cn O B.iH bM (ae (pv 0) aq))))))) (aI (cm j5)) cg)
  (aI (cm (pv 5))))))),?_⟩
 try dsimp only[dQ]
 have lu:=aP fR
 have sq:=bD.of (K:=K) hq
 refine⟨_,O,qa,_,0,_,O,O,sq,aL (j:=0) rfl,?_⟩
 dsimp only[bw]
 refine gX (fun br H' => br = [aa T,aa Ed,aa Ab,aa qa,aU a,aU 0,none,none]∧H'=H) ?_ (fun key=>key _ _ ⟨O,O⟩)
 rintro σ0 H0 ⟨e0,e00⟩
 subst e0
 subst H0
 refine gX (Ts H [aa T,aa Ed,aa Ab,aa qa] ts es a l l.length) ?_ (fun key =>?_)
 rotate_left
 ·refine⟨_,O,qa,_,3,_,O,O,sq,aL (j:=3) rfl,c,O,⟨_,aZ.of hc⟩,?_⟩
  refine fK (xs:=vr) (Ts H [aa T,aa Ed,aa Ab,aa qa] ts es a l) ⟨a,none,none,O,bu.refl _,O⟩ ?_ ?_ ?_
  ·rintro i σ H' _ ⟨here,x6,x7,rfl,sm,_⟩
   exact aZ.of (sm _ _ hc)
  ·rintro i v σ H' hv ⟨here,x6,x7,rfl,sm,ch⟩
   obtain⟨st,iW,p,rfl,hp⟩:=Paired.at PN hv
   obtain⟨ch2,so⟩:=zW row.ch iW
   have e1:here=st.1:=zV ch ch2
   subst e1
   have n6:=sm _ _ hp
   have wm:st.2.2=none->∀ r∈cN ts st.1 st.2.1,ab r=aO ts es r.1 r.2:=fun hn r hr=>JN r (Ce.mpr ⟨st,ak iW,hn,hr⟩)
   dsimp only[bw]
   refine⟨_,O,_,O,_,O,_,O,T,Ed,Ab,p,us,ev,ts,es,ls,kvs,ab,st,O,sm _ _ hT,fh sm fR,sm _ _ hE,fX gF (fun d ys e=>sm _ _ e),i6.same sm,n6,so,wm,ok,fun H1 dd s1 gx =>?_⟩
   dsimp only[bw]
   have nX:=sm.trans s1
   have OH:=bD.of (K:=K) (nX _ _ hp)
   refine⟨_,O,p,_,1,_,O,O,OH,aL (j:=1) (abC st),_,O,O,_,O,fC (fun z=>absurd rfl z) (fun _ =>?_)⟩
   refine⟨_,O,O,_,O,eF nofun (fun _ =>?_)⟩
   refine⟨_,O,_,O,_,_,O,O,?_⟩
   dsimp only[bw]
   refine⟨_,O,p,_,2,_,O,O,OH,aL (j:=2) (TV st),⟨st.2.1,some (.ref p),some (nV dd),?_,nX,?_⟩⟩
   ·rw[et iW,xA,gx]
    generalize kL (aO ts es) (l.take i)=S
    have ev:V.int (((S:Nat):Int)+(dd:Int))=nV (S+dd):=congrArg V.int (by omega)
    show [some (V.ref T),some (V.ref Ed),some (V.ref Ab),some (V.ref qa),some (nV st.2.1),some (V.int (((S:Nat):Int)+(dd:Int))),some (.ref p),some (nV dd)] = [some (V.ref T),some (V.ref Ed),some (V.ref Ab),some (V.ref qa),some (nV st.2.1),some (nV (S+dd)),some (.ref p),some (nV dd)]
    rw[ev]
   ·rw[et iW];exact yh so ch rfl
  ·rintro σ H' h
   rw[aP PN]at h
   exact key _ _ h
 rintro br H1 ⟨here,x6,x7,rfl,sm,ch⟩
 rw[bB]at ch ⊢
 have e1:here=b:=zV ch row.ch
 subst e1
 have e2:kL (aO ts es) l=d:=by have:=row.sum;rw[hd]at this;exact(aH this).symm
 rw[e2]
 have sq1:=bD.of (K:=K) (sm _ _ hq)
 have al:=row.lt.1
 refine⟨_,O,_,O,qa,_,1,_,O,O,sq1,aL (j:=1) rfl,O,_,O,fC (fun z=>absurd rfl z) (fun _ =>?_)⟩
 refine⟨_,O,qa,_,0,_,O,O,sq1,aL (j:=0) rfl,_,_,O,O,_,O,eF (fun _ =>?_) (fun z=>absurd (kq a) z)⟩
 refine⟨_,O,T,_,O,.inl (aZ.of (sm _ _ hT)),_,_,O,O,_,O,fC (fun z=>absurd (show (a:Int) < (us.length:Int) by omega) z) (fun _ =>?_)⟩
 exact⟨_,O,q _ sm⟩
open Classical in
def Mc (M:Mx) (rs:List jF) (q:Nat × Nat):Option Nat:=if q∈rs.map cL then M q.1 q.2 else none
inductive Mf (vs:List V) (H:Hp) (Q:VK):Prop
 | mk (T Ed Bk:Addr) (us ev vb:List V) (ts:List Tm) (es:List cy) (ls:List Nat) (a b:Nat) (rs:List jF) (z0:vs = [.ref T,.ref Ed,.ref Bk]) (z1:H T=some (.lst us)) (z2:kJ H us ts) (z3:H Ed=some (.lst ev)) (z4:nC H ev es) (z5:H Bk=some (.lst vb)) (z6:Al H (aO ts es) vb rs) (z7:Kk ts es a b rs) (z8:mJ ts es ls) (z9:rs.length<=900)
  (AV:∀ Ab H',bu H H'->Q (.ref Ab) H'):Mf vs H Q
def KU:Sp:=fun vs H Q _=>Mf vs H Q
inductive WkI (P:Program) (w:World) (H:Hp) (τ : St) (Ab:Addr) (M:Mx) (rs:List jF) (i:Nat) (σ : St) (H':Hp):Prop
 | mk (kvs:List (NK × V)) (x4:Option V):(σ = τ ++ [x4])->bu H H'->E3 P w H' Ab kvs (Mc M (rs.take i))->kvs.length<=i->WkI P w H τ Ab M rs i σ H'
theorem V1 (B:jO mg) (EH:ed P w K mg base 2 "_law_steps" oq (G4 P w)) (D:Def K mg "_law_walk" Hl wa0):ed P w K mg base 3 "_law_walk" wa0 KU:=by
 refine D.has D8 (fun vs H Q E h =>?_) (fun f cO A outer s H vs Q E hr h =>?_)
 ·obtain⟨T,Ed,Bk,us,ev,vb,ts,es,ls,a,b,rs,rfl,_⟩:=h;rfl
 obtain⟨T,Ed,Bk,us,ev,vb,ts,es,ls,a,b,rs,rfl,hT,fR,hE,gF,hB,Fy,bk,ok,RO,q⟩:=h
 refine⟨_,(ax (bC (i:=3) D8.nd O (aM O) mV)
  (ax (dJ bI O (eQ (pv 2)) (bL (i:=4) D8.nd O (aM O))
  (ax (cV (PW.pt (pw_or (Cs (X6 (mn hr) (cQ (ae (aJ bp (pv 4) aD) (ae (aJ bp (pv 4) aD) aq))) (pv 3)) (by with_unfolding_all rfl)) (pw_or1 (bE iZ (bG EH hr (by omega) O (ae (pv 0) (ae (pv 1) (ae (pv 3) (ae (pv 4) aq))))) (aJ bp (pv 4) aD) (bS _))))) (aI (cm j5)) cg)
  (aI (wR (mn hr) (pv 3) (cQ (ae (aJ bp (pv 4) aD) (ae (aJ bp (pv 4) aD) aq))) (aJ bp (pv 4) aD) O))))
  (aI (cm (pv 3))))),?_⟩
 try dsimp only[dQ]
 intro Ab Ky hAb zQ
 dsimp only[bw]
 have s1:=bf hAb (.ext Ky)
 generalize upd H Ab (.ext Ky)=H1 at s1 zQ ⊢
 have lb:=aP Fy
 refine gX (fun br H'=>bu H H'∧∃ x4, br = [aa T,aa Ed,aa Bk,aa Ab,x4]) ?_ (fun key =>?_)
 rotate_left
 ·refine⟨_,O,Bk,O,⟨_,aZ.of (s1 _ _ hB)⟩,?_⟩
  refine fK (xs:=vb) (WkI P w H [aa T,aa Ed,aa Bk,aa Ab] Ab (aO ts es) rs) ⟨[],none,O,s1,⟨zQ,fun q =>?_⟩,au _⟩ ?_ ?_ ?_
  ·unfold Mc
   rw[if_neg (by rw[jz];exact fun z=>nomatch z)];rfl
  ·rintro i σ H' _ ⟨kvs,x4,rfl,sm,_⟩
   exact aZ.of (sm _ _ hB)
  ·rintro i v σ H' hv ⟨kvs,x4,rfl,sm,ha,lk⟩
   obtain⟨r,hr,qa,c,vs,d,rfl,hq,hd,hc,pK⟩:=Paired.at Fy hv
   have tF:=sm _ _ hq
   have sq:=bD.of (K:=K) tF
   have il:=(ai.mp hr).1
   have row:=bk.row r (ak hr)
   have new:r.1 ∉ (rs.take i).map cL:=fun z=>by
    rw[sV]at z
    obtain⟨j,hj⟩:=aT z
    rw[km]at hj
    split at hj
    ·rename_i zJ
     have hi:(rs.map cL)[i]? = some r.1:=by rw[aG,hr];rfl
     have:=(jq (ai.mp hj).1 bk.jo).mp (hj.trans hi.symm)
     omega
    ·cases hj
   have JN:∀ p∈fc ts r.2,Mc (aO ts es) (rs.take i) p=aO ts es p.1 p.2:=fun p hp=>by
    obtain⟨j,r',hj,vM,e⟩:=bk.up i r hr p hp
    unfold Mc
    rw[if_pos]
    rw[sV]
    refine ak (i:=j) ?_
    rw[vk hj,aG,vM, <- e];rfl
   have cJ:bR kvs (bZ r.1)=none:=by
    rw[ha.val]
    unfold Mc
    rw[if_neg new];rfl
   dsimp only[bw]
   refine⟨_,O,qa,_,0,_,O,O,sq,aL (j:=0) rfl,_,O,qa,_,1,_,O,O,sq,aL (j:=1) rfl,(show 2<=sizeLine by decide),fun t1 j6 =>?_⟩
   have s2:=bf j6 (.tup [nV r.1.1,nV r.1.2])
   have k2:=aE (H:=H') (a:=t1) (o := .tup [nV r.1.1,nV r.1.2])
   generalize upd H' t1 (.tup [nV r.1.1,nV r.1.2])=H2 at s2 k2 ⊢
   have fH:=sm.trans s2
   have ZW:=ha.same s2
   refine⟨_,O,Ab,t1,kvs,bZ r.1,O,O,ZW.dn,jC k2,_,O,?_⟩
   rw[cJ]
   refine gO ⟨_,O,_,O,_,O,_,O,T,Ed,Ab,qa,c,us,ev,vs,ts,es,ls,kvs,_,r.1.1,r.1.2,d,r.2,O,fH _ _ hT,fh fH fR,fH _ _ hE,fX gF (fun d ys e=>fH _ _ e),ZW,fH _ _ hq,fH _ _ hc,ia pK (fun d ys e=>fH _ _ e),row,hd,JN,ok,fun H3 s3 =>?_⟩
   have jv:=fH.trans s3
   have TX:=bD.of (K:=K) (jv _ _ hq)
   refine⟨_,O,qa,_,2,_,O,O,TX,aL (j:=2) rfl,O,_,O,fC (fun z=>absurd rfl z) (fun _ =>?_)⟩
   refine⟨_,O,qa,_,2,_,O,O,TX,aL (j:=2) rfl,_,O,_,O,qa,_,0,_,O,O,TX,aL (j:=0) rfl,_,O,qa,_,1,_,O,O,TX,aL (j:=1) rfl,(show 2<=sizeLine by decide),fun t2 nH =>?_⟩
   obtain⟨H4,eH,s4,k4⟩:=alloc nH (.tup [nV r.1.1,nV r.1.2])
   rw[eH]
   have ha4:=(ZW.same s3).same s4
   refine⟨Ab,t2,kvs,bZ r.1,O,O,ha4.dn,jC k4,pw (by omega),fun φ FT =>?_⟩
   rw[mU _ cJ]at FT
   refine⟨kvs ++ [(bZ r.1,nV d)],_,O,(jv.trans s4).put hAb,⟨FT,fun p =>?_⟩,by rw[aK];exact js lk 1⟩
   rw[<- mU _ cJ]
   have vp:=mO kvs (bZ r.1) (bZ p) (nV d)
   rw[vp,ha.val]
   unfold Mc
   rw[et hr,c9]
   by_cases e:p=r.1
   ·subst e
    have mz:r.1∈(rs.take i).map cL ++ [r].map cL:=aA.mpr (.inr (bx _))
    rw[if_pos rfl,if_pos mz,hd];rfl
   ·rw[if_neg (fun z=>e (uD z))]
    by_cases mz:p∈(rs.take i).map cL
    ·have h2:p∈(rs.take i).map cL ++ [r].map cL:=aA.mpr (.inl mz)
     rw[if_pos mz,if_pos h2]
    ·have h2:¬ p∈(rs.take i).map cL ++ [r].map cL:=fun z=>(aA.mp z).elim mz fun z=>e (aB.mp z)
     rw[if_neg mz,if_neg h2]
  ·rintro σ H' ⟨kvs,x4,rfl,sm,_⟩
   exact key _ _ ⟨sm,x4,O⟩
 rintro br H2 ⟨sm,x4,rfl⟩
 exact⟨_,O,q Ab H2 sm⟩
theorem Ik {K:ao}:lz K (.type "list") (.type "list")=some true:=by rfl
theorem Px {K:ao}:lz K (.type "tuple") (.type "tuple")=some true:=by rfl
inductive QU (vs:List V) (H:Hp) (Q:VK):Prop
 | mk (T L Ed:Addr) (us:List V) (ts:List Tm) (ls:List Nat) (ev:List V) (es:List cy) (z0:vs = [.ref T,.ref L,.ref Ed]) (z1:H T=some (.lst us)) (z2:kJ H us ts) (z3:H L=some (.lst (ls.map nV))) (z4:H Ed=some (.lst ev)) (z5:nC H ev es) (z6:mJ ts es ls) (z7:∀ e∈es,ls.getD e.1 0=ls.getD e.2.1 0)
  (z8:∀ (a b:Nat) (x:Str) (as bs:List Nat),ts[a]? = some (.of x as)->ts[b]? = some (.of x bs)->as.length=bs.length->(∀ k u v:Nat,as[k]? = some u->bs[k]? = some v->ls.getD u 0=ls.getD v 0)->ls.getD a 0=ls.getD b 0) (z9:∀ H',bu H H'->Q (.bl true) H'):QU vs H Q
def OD:Sp:=fun vs H Q _=>QU vs H Q
inductive Vs (H:Hp) (τ : St) (i:Nat) (σ : St) (H':Hp):Prop
 | mk (x3 x4 x5 x6 x7 x8:Option V):(σ = τ ++ [x3,x4,x5,x6,x7,x8])->bu H H'->Vs H τ i σ H'
inductive KeB (H:Hp) (τ : St) (i:Nat) (σ : St) (H':Hp):Prop
 | mk (x5 x6 x7 x8:Option V):(σ = τ ++ [x5,x6,x7,x8])->bu H H'->KeB H τ i σ H'
theorem M9 (B:jO mg) (tY:mg "zip" = none) (rf:mg "all" = none) (D:Def K mg "_law_kept_up" vG Gb):ed P w K mg base 1 "_law_kept_up" Gb OD:=by
 refine D.has lK (fun vs H Q E h =>?_) (fun f cO A outer s H vs Q E hr h =>?_)
 ·obtain⟨T,L,Ed,us,ts,ls,ev,es,rfl,_⟩:=h;rfl
 obtain⟨T,L,Ed,us,ts,ls,ev,es,rfl,hT,fR,hL,hE,gF,ok,he,hc,q⟩:=h
 refine⟨_,(ax (dJ bI O (eQ (pv 2)) (bL (i:=3) lK.nd O (aM O))
  (aI (cV (bE iZ (aJ bz (pv 1) (aJ bp (pv 3) aD)) (aJ bz (pv 1) (aJ bp (pv 3) aD)) (bS _)) (aI (cm je)) cg)))
  (ax (dJ bI O (oQ O B.rK (ae (bO cn O B.iH bM (ae (pv 0) aq)) aq)) (bL (i:=4) lK.nd O (aM O))
  (aI (dJ bI O (oQ O B.rK (ae (pv 4) aq)) (bL (i:=5) lK.nd O (aM O))
  (ax (bC (i:=6) lK.nd O (aM O) (aJ bz (pv 0) (pv 4)))
  (ax (bC (i:=7) lK.nd O (aM O) (aJ bz (pv 0) (pv 5)))
  (aI (cV (PW.pt (pw_and (bE gk (aJ bp (pv 6) aD) d9 (bS _)) (pw_and (bE gk (aJ bp (pv 7) aD) d9 (bS _)) (pw_and (bE gk (aJ bp (pv 6) aD) (aJ bp (pv 7) aD) (bS _)) (pw_and1 (bE gk (bO cn O B.iH bM (ae (aJ bp (pv 6) aD) aq)) (bO cn O B.iH bM (ae (aJ bp (pv 7) aD) aq)) (bS _))))))) (ax (bC (i:=8) lK.nd O (aM O) (bO (vW O) O rf vZ (ae (oR (te:=(vF _ (vF (M4 K) _ _) (vF (M4 K) _ _))) (own := ["_law_x", "_law_y"]) (caps := [("_law_leads",1)]) (gK (aX vG) ["_law_terms", "_law_leads", "_law_edges", "_law_edge_here", "_law_a", "_law_b", "_law_one", "_law_other", "_law_met"] O O O (by decide +kernel)) (Em O tY (ae (aJ bp (pv 6) aD) (ae (aJ bp (pv 7) aD) aq))) O (fun _ _ _=>OX (K:=K) O O (show (["_law_x", "_law_y", "_law_leads"]:List Str).Nodup by decide +kernel) O O O O) (fun _ _ _=>(Au gk (aJ bz (pv 2) (pv 0)) (aJ bz (pv 2) (pv 1)) (bS _)))) aq)))
  (aI (cV (PW.pt (pw_and (jm (pv 8)) (pw_and1 (bE iZ (aJ bz (pv 1) (pv 4)) (aJ bz (pv 1) (pv 5)) (bS _))))) (aI (cm je)) cg))) cg)))))))
  (aI (cm je)))),?_⟩
 try dsimp only[dQ]
 have gd:∀ {i:Nat},i < ts.length->ls[i]? = some (ls.getD i 0):=fun {i} hi=>by rw[bc,aj (by rw[ok.len];exact hi)];rfl
 have lu:=aP fR
 have dR:=ok.dR
 have sL:∀ {H':Hp},bu H H'->aZ K H' L (ls.map nV):=fun sm=>aZ.of (sm _ _ hL)
 refine gX (Vs H [aa T,aa L,aa Ed] 0) ?_ (fun key =>?_)
 rotate_left
 ·refine⟨_,O,Ed,O,⟨_,aZ.of hE⟩,?_⟩
  refine fK (xs:=ev) (Vs H [aa T,aa L,aa Ed]) ⟨none,none,none,none,none,none,O,bu.refl _⟩ ?_ ?_ ?_
  ·rintro i σ H' _ ⟨x3,x4,x5,x6,x7,x8,rfl,sm⟩
   exact aZ.of (sm _ _ hE)
  ·rintro i v σ H' hv ⟨x3,x4,x5,x6,x7,x8,rfl,sm⟩
   obtain⟨e,P2,p,c,rfl,hp⟩:=Paired.at gF hv
   have em:=ak P2
   obtain⟨l1,l2,_⟩:=ok.uW e em
   have sp:=bD.of (K:=K) (sm _ _ hp)
   dsimp only[bw]
   refine⟨_,O,_,O,p,_,0,_,O,O,sp,aL (j:=0) rfl,L,_,_,_,O,O,sL sm,jP (gd l1),_,O,_,O,p,_,1,_,O,O,sp,aL (j:=1) rfl,L,_,_,_,O,O,sL sm,jP (gd l2),O,_,O,fC (fun z=>absurd (by rw[he e em]) z) (fun _=>⟨_,_,_,_,_,_,O,sm⟩)⟩
  ·rintro σ H' ⟨x3,x4,x5,x6,x7,x8,rfl,sm⟩
   exact key _ _ ⟨_,_,_,_,_,_,O,sm⟩
 rintro br H1 ⟨x3,x4,x5,x6,x7,x8,rfl,nX⟩
 refine⟨_,O,T,_,O,.inl (aZ.of (nX _ _ hT)),_,O,by omega,by omega,?_⟩
 rw[cx]
 refine oZ (lo:=0) (Vs H [aa T,aa L,aa Ed]) ⟨_,_,_,_,_,_,O,nX⟩ ?_ ?_
 ·rintro i σ H2 hi ⟨x3,x4,x5,x6,x7,x8,rfl,fH⟩
  have hi:i < ts.length:=by omega
  dsimp only[bw]
  rw[lB]
  refine⟨_,O,_,O,by omega,by omega,?_⟩
  rw[cx]
  refine oZ (lo:=0) (KeB H [aa T,aa L,aa Ed,x3,some (nV i)]) ⟨_,_,_,_,O,fH⟩ ?_ ?_
  ·rintro j σ H3 hj ⟨x5,x6,x7,x8,rfl,jv⟩
   have hj:j < ts.length:=by omega
   dsimp only[bw]
   rw[lB]
   obtain⟨v1,Iy⟩:∃ v,us[i]? = some v:=⟨_,aj (by omega)⟩
   obtain⟨v2,Iw⟩:∃ v,us[j]? = some v:=⟨_,aj (by omega)⟩
   obtain⟨t1,j6,Lp⟩:=wM fR Iy
   obtain⟨t2,nH,Lo⟩:=wM fR Iw
   have Lp:=Lp.same jv
   have Lo:=Lo.same jv
   refine⟨_,O,_,O,T,_,_,_,O,O,aZ.of (jv _ _ hT),aL Iy,?_⟩
   dsimp only[bw]
   refine⟨_,O,_,O,T,_,_,_,O,O,aZ.of (jv _ _ hT),aL Iw,?_⟩
   dsimp only[bw]
   refine uB (fun c Hc=>Hc=H3∧(c=true->∃ x as bs,t1 = .of x as∧t2 = .of x bs∧as.length=bs.length)) (fun Qc qc =>?_) ?_ ?_
   ·cases t1 with
    | num n =>
     obtain⟨ta,rfl,h⟩:=id Lp
     exact⟨_,O,ta,_,0,_,O,O,bD.of h,aL (j:=0) rfl,O,_,O,eF (fun z=>absurd (V.str.inj z) (by decide)) (fun _=>qc _ _ ⟨O,fun z=>nomatch z⟩)⟩
    | name n =>
     obtain⟨ta,rfl,h⟩:=id Lp
     exact⟨_,O,ta,_,0,_,O,O,bD.of h,aL (j:=0) rfl,O,_,O,eF (fun z=>absurd (V.str.inj z) (by decide)) (fun _=>qc _ _ ⟨O,fun z=>nomatch z⟩)⟩
    | of x as =>
     obtain⟨ta,ca,rfl,h,gy⟩:=id Lp
     refine⟨_,O,ta,_,0,_,O,O,bD.of h,aL (j:=0) rfl,O,_,O,eF (fun _ =>?_) (fun z=>absurd rfl z)⟩
     cases t2 with
     | num n =>
      obtain⟨tb,rfl,h⟩:=id Lo
      exact⟨_,O,tb,_,0,_,O,O,bD.of h,aL (j:=0) rfl,O,_,O,eF (fun z=>absurd (V.str.inj z) (by decide)) (fun _=>qc _ _ ⟨O,fun z=>nomatch z⟩)⟩
     | name n =>
      obtain⟨tb,rfl,h⟩:=id Lo
      exact⟨_,O,tb,_,0,_,O,O,bD.of h,aL (j:=0) rfl,O,_,O,eF (fun z=>absurd (V.str.inj z) (by decide)) (fun _=>qc _ _ ⟨O,fun z=>nomatch z⟩)⟩
     | of y bs =>
      obtain⟨tb,cb,rfl,h2,iX⟩:=id Lo
      refine⟨_,O,tb,_,0,_,O,O,bD.of h2,aL (j:=0) rfl,O,_,O,eF (fun _ =>?_) (fun z=>absurd rfl z)⟩
      refine⟨_,O,ta,_,1,_,O,O,bD.of h,aL (j:=1) rfl,_,O,tb,_,1,_,O,O,bD.of h2,aL (j:=1) rfl,O,_,O,eF (fun ex =>?_) (fun _=>qc _ _ ⟨O,fun z=>nomatch z⟩)⟩
      refine⟨_,O,ta,_,2,_,O,O,bD.of h,aL (j:=2) rfl,ca,_,O,.inr (bD.of gy),_,O,tb,_,2,_,O,O,bD.of h2,aL (j:=2) rfl,cb,_,O,.inr (bD.of iX),O,_,O,qc _ _ ⟨O,fun z =>?_⟩⟩
      have ex:x=y:=V.str.inj ex
      subst ex
      have el:=V.int.inj (of_decide_eq_true z)
      rw[ar,ar]at el
      exact⟨x,as,bs,O,O,by omega⟩
   ·rintro Hc ⟨rfl,h⟩
    obtain⟨x,as,bs,rfl,rfl,hl⟩:=h rfl
    obtain⟨ta,ca,rfl,h1,gy⟩:=id Lp
    obtain⟨tb,cb,rfl,h2,iX⟩:=id Lo
    have qo:=ok.qo i x as j6
    refine gX (fun br H'=>bu H H'∧∃ bo:Bool, br = [aa T,aa L,aa Ed,x3,some (nV i),some (nV j),some (.ref ta),some (.ref tb),some (.bl bo)]∧(bo=true->∀ k u v:Nat,as[k]? = some u->bs[k]? = some v->ls.getD u 0=ls.getD v 0)) ?_ (fun key =>?_)
    rotate_left
    ·refine⟨_,O,ta,_,2,_,O,O,bD.of h1,aL (j:=2) rfl,_,O,tb,_,2,_,O,O,bD.of h2,aL (j:=2) rfl,ca,cb,as.map nV,bs.map nV,O,bD.of gy,bD.of iX,?_⟩
     intro D hD
     refine⟨fun k m τ zs H'=>m=as.length - k∧k<=as.length∧(∃ o p, τ = [o,p,some (.ref L)])∧bu Hc H'∧H' D=some (.lst zs)∧∃ bl:List Bool,zs=bl.map V.bl∧bl.length=k∧(bl.all id=true->∀ k' u v:Nat,k' < k->as[k']? = some u->bs[k']? = some v->ls.getD u 0=ls.getD v 0),⟨as.length,by simp,bA _,⟨none,none,O⟩,bf hD _,aE, [],O,O,fun _ k' u v hk=>absurd hk (ip _)⟩,?_⟩
     rintro k m τ zs H' ⟨rfl,hk,⟨o1,o2,rfl⟩,sm,r9,bl,rfl,bll,hbl⟩
     refine⟨r9,?_⟩
     have hA:=bD.of (K:=K) (sm _ _ gy)
     have hB:=bD.of (K:=K) (sm _ _ iX)
     by_cases cU:k < as.length
     ·have hx:as[k]? = some as[k]:=aj cU
      have hy:bs[k]? = some (bs[k]'(by omega)):=aj (by omega)
      have ul:=ok.jQ j6 (gg cU)
      have vl:=ok.jQ nH (gg (l:=bs) (n:=k) (by omega))
      generalize as[k]=u at hx ul
      generalize bs[k]'(by omega)=v at hy vl
      refine .inr ⟨⟨_,_,nV u,nV v,hA,hB,by rw[aG,hx];rfl,by rw[aG,hy];rfl⟩,c6 (by rw[ar];omega),fun r H2' yl =>?_⟩
      obtain⟨p,u',v',hp,rfl,CY,uL,rfl⟩:=yl
      have eu:u'=nV u:=by have:=CY _ hA;rw[aG,hx]at this;exact(aH this).symm
      have ev:v'=nV v:=by have:=uL _ hB;rw[aG,hy]at this;exact(aH this).symm
      subst eu ev
      refine⟨p,_,O,bD.of aE,O,_,_,O,_,_,O,O,?_⟩
      have s2:=bf hp (.tup [nV u,nV v])
      have oY:=s2 _ _ r9
      have RF:=sm.trans s2
      generalize upd H' p (.tup [nV u,nV v])=H4 at s2 oY RF ⊢
      have smH:=jv.trans RF
      refine⟨_,O,_,O,L,_,_,_,O,O,sL smH,jP (gd ul),_,O,_,O,L,_,_,_,O,O,sL smH,jP (gd vl),O,?_⟩
      refine⟨oY,as.length - (k+1),by omega,O,cU,⟨_,_,O⟩,RF.put hD,aE,bl ++ [decide (nV (ls.getD u 0)=nV (ls.getD v 0))],by rw[c9];rfl,by rw[aK,bll];rfl,fun ha k' u' v' qt e1 e2 =>?_⟩
      rw[List.all_append,gU]at ha
      rcases gb k' k with z | z
      ·exact hbl ha.1 k' u' v' z e1 e2
      ·have:k'=k:=by omega
       subst this
       rw[hx]at e1
       rw[hy]at e2
       cases e1
       cases e2
       have z2:=ha.2
       rw[List.all_cons,gU]at z2
       have:=V.int.inj (of_decide_eq_true z2.1)
       omega
     ·have e:k=as.length:=by omega
      subst e
      refine .inl ⟨⟨_,hA,by rw[ar]⟩,D,bl,O,aZ.of r9,?_⟩
      refine key _ _ ⟨jv.trans sm,_,O,fun hb k' u v e1 e2=>hbl hb k' u v (ai.mp e1).1 e1 e2⟩
    rintro br H4 ⟨ze,bo,rfl,hbo⟩
    refine⟨_,O,_,O,?_⟩
    cases bo with
    | false=>exact gO (gO ⟨_,_,_,_,O,ze⟩)
    | true =>
     have e:=hc i j x as bs j6 nH hl (hbo rfl)
     exact pJ ⟨_,O,_,O,L,_,_,_,O,O,sL ze,jP (gd hi),_,O,_,O,L,_,_,_,O,O,sL ze,jP (gd hj),O,_,O,fC (fun z=>absurd (by rw[e]) z) (fun _=>⟨_,_,_,_,O,ze⟩)⟩
   ·rintro Hc ⟨rfl,_⟩
    exact⟨_,_,_,_,O,jv⟩
  ·rintro σ H3 ⟨x5,x6,x7,x8,rfl,jv⟩
   exact⟨_,_,_,_,_,_,O,jv⟩
 rintro σ H2 ⟨x3,x4,x5,x6,x7,x8,rfl,fH⟩
 exact q _ fH
inductive QW (vs:List V) (H:Hp) (Q:VK):Prop
 | mk (Bk:Addr) (vb:List V) (M:Mx) (rs:List jF) (z0:vs = [.ref Bk]) (z1:H Bk=some (.lst vb)) (z2:Al H M vb rs) (z3:∀ H',bu H H'->Q (.bl true) H'):QW vs H Q
def OE:Sp:=fun vs H Q _=>QW vs H Q
theorem BU {α : Type} (l:List α):(l.map fun _=>true).all id=true:=by
 rw[List.all_map]
 exact iS.mpr fun _ _=>rfl
inductive FoI (H:Hp) (τ : St) (i:Nat) (σ : St) (H':Hp):Prop
 | mk (x1 x2:Option V):(σ = τ ++ [x1,x2])->bu H H'->FoI H τ i σ H'
inductive FpI (H:Hp) (τ : St) (i:Nat) (σ : St) (H':Hp):Prop
 | mk (x2:Option V):(σ = τ ++ [x2])->bu H H'->FpI H τ i σ H'
def Gz:dG->List Nat
 | (a,b,some p) => [a,b,p]
 | (a,b,none) => [a,b]
theorem Rx (s:dG):ly (sG s) (some 1) none=(Gz s).map nV:=by
 obtain⟨a,b,p⟩:=s
 cases p <;> rfl
theorem Rv (s:dG):(Gz s).length<=1000:=by
 obtain⟨a,b,p⟩:=s
 cases p
 ·show 2<=1000;decide
 ·show 3<=1000;decide
theorem KS (s:dG):(sG s).length=3∨(sG s).length=4:=by
 obtain⟨a,b,p⟩:=s
 cases p
 ·exact .inl rfl
 ·exact .inr rfl
theorem Rz (s:dG):¬ (HT.cX (sG s).length 0 (some 1)=0∧HT.cX (sG s).length (sG s).length none=(sG s).length):=by
 rcases KS s with e | e <;> (rw[e];decide)
theorem V5 (B:jO mg) (rf:mg "all" = none) (qK:ed P w K mg base 1 "_law_whole" wb3 D0) (D:Def K mg "_law_form" zk ["_law_book"]):ed P w K mg base 2 "_law_form" ["_law_book"] OE:=by
 refine D.has Ea (fun vs H Q E h =>?_) (fun f cO A outer s H vs Q E hr h =>?_)
 ·obtain⟨Bk,vb,M,rs,rfl,_⟩:=h;rfl
 obtain⟨Bk,vb,M,rs,rfl,hB,Fy,q⟩:=h
 refine⟨_,(ax (cV (iN (jm (bO oE O B.kC gP (ae (pv 0) (ae (qJ (v := .ty "list") O B.oj gL O) aq))))) (aI (cm je)) cg)
  (ax (dJ bI O (eQ (pv 0)) (bL (i:=1) Ea.nd O (aM O))
  (ax (cV (PW.pt (pw_or (iN (jm (bO oE O B.kC gP (ae (pv 1) (ae (qJ (v := .ty "tuple") O B.Cg qZ O) aq))))) (pw_or (bE iZ (bO cn O B.iH bM (ae (pv 1) aq)) aD (bS _)) (pw_or1 (iN (jm (bO oE O B.kC gP (ae (aJ bp (pv 1) aD) (ae (qJ (v := .ty "list") O B.oj gL O) aq))))))))) (aI (cm je)) cg)
  (ax (cV (iN (jm (bO (vW O) O rf vZ (ae (oR (te:=(tO _ _ _ (og _ sF))) (own := ["_law_part"]) (caps := []) (gK (aX zk) wb1 O O O (by decide +kernel)) (Cv (ky Cn (pv 1) mf (me aD))) O (fun _ _ _=>bL (i:=0) (show (["_law_part"]:List Str).Nodup by decide +kernel) O (aM O)) (fun _ _ _=>(bG qK hr (by omega) O (ae (pv 0) aq)))) aq)))) (aI (cm je)) cg)
  (aI (dJ bI O (eQ (aJ bp (pv 1) aD)) (bL (i:=2) Ea.nd O (aM O))
  (aI (cV (PW.pt (pw_or (iN (jm (bO oE O B.kC gP (ae (pv 2) (ae (qJ (v := .ty "tuple") O B.Cg qZ O) aq))))) (pw_or (bE tR (bO cn O B.iH bM (ae (pv 2) aq)) aD (bS _)) (pw_or1 (iN (jm (bO (vW O) O rf vZ (ae (oR (te:=(tO _ _ _ (og _ sF))) (own := ["_law_part"]) (caps := []) (gK (aX zk) wb1 O O O (by decide +kernel)) (Cv (ky Cn (pv 2) (me aD) mf)) O (fun _ _ _=>bL (i:=0) (show (["_law_part"]:List Str).Nodup by decide +kernel) O (aM O)) (fun _ _ _=>(bG qK hr (by omega) O (ae (pv 0) aq)))) aq)))))))) (aI (cm je)) cg)))))))
  (aI (cm je)))),?_⟩
 try dsimp only[dQ]
 refine gX (fun br H' => br = [some (.ref Bk),none,none]∧H'=H) ?_ (fun key=>⟨_,O,.ref Bk, "list",.type "list",true,O,.lst hB,Ik,_,O,gO (key _ _ ⟨O,O⟩)⟩)
 rintro σ0 H0 ⟨e0,e00⟩
 subst e0
 subst H0
 have Pe:∀ {ns:List Nat}{i:Nat}{x:V},(ns.map nV)[i]? = some x->∃ n:Nat,x=nV n:=fun {ns i x} h=>by
  rw[aG]at h
  obtain⟨n,_,e⟩:=ck.mp h
  exact⟨n,e.symm⟩
 have Ov:∀ {ns:List Nat}{i:Nat}{y:V},((ns.map fun _=>true).map V.bl)[i]? = some y->y = .bl true:=fun {ns i y} h=>by
  rw[gH,aG]at h
  obtain⟨n,_,e⟩:=ck.mp h
  exact e.symm
 refine gX (FoI H [some (.ref Bk)] 0) ?_ (fun key =>?_)
 rotate_left
 ·refine⟨_,O,Bk,O,⟨_,aZ.of hB⟩,?_⟩
  refine fK (xs:=vb) (FoI H [some (.ref Bk)]) ⟨none,none,O,bu.refl _⟩ ?_ ?_ ?_
  ·rintro i σ H' _ ⟨x1,x2,rfl,sm⟩
   exact aZ.of (sm _ _ hB)
  ·rintro i v σ H' hv ⟨x1,x2,rfl,sm⟩
   obtain⟨r,hr,qa,c,vs,d,rfl,hq,hd,hc,pK⟩:=Paired.at Fy hv
   have tF:=sm _ _ hq
   have qu:=sm _ _ hc
   have sq:=bD.of (K:=K) tF
   dsimp only[bw]
   refine⟨_,O,.ref qa, "tuple",.type "tuple",true,O,.tup tF,Px,_,O,gO ?_⟩
   refine⟨_,O,qa,_,O,.inr sq,O,_,O,fC (fun z=>absurd rfl z) (fun _ =>?_)⟩
   refine⟨_,O,qa,_,3,_,O,O,sq,aL (j:=3) rfl,_, "list",.type "list",true,O,.lst qu,Ik,_,O,gO ?_⟩
   refine⟨_,O,_,O,qa,_,O,sq,(by show ¬ (HT.cX 4 0 none=0∧HT.cX 4 4 (some 3)=4);decide),fun t1 j6 =>?_⟩
   have s1:=bf j6 (.tup (ly [nV r.1.1,nV r.1.2,nV d,.ref c] none (some 3)))
   have k1:(upd H' t1 (.tup (ly [nV r.1.1,nV r.1.2,nV d,.ref c] none (some 3)))) t1=some (.tup ([r.1.1,r.1.2,d].map nV)):=aE
   generalize upd H' t1 (.tup (ly [nV r.1.1,nV r.1.2,nV d,.ref c] none (some 3)))=H1 at s1 k1 ⊢
   refine⟨t1,O,⟨_,bD.of k1⟩,?_⟩
   refine vT (ys:=([r.1.1,r.1.2,d].map fun _=>true).map V.bl) (bD.of k1) (by rw[ar];show 3<=1000;decide) (by rw[ar,ar,ar]) (fun i x y hx hy H2 fH Q' q' =>?_) (fun D1 H2 lh s2 oY =>?_)
   ·obtain⟨n,rfl⟩:=Pe hx
    rw[Ov hy]at q'
    exact⟨_,O,_,O,q' _ (bu.refl _)⟩
   refine⟨D1,_,O,aZ.of oY,_,O,?_⟩
   rw[BU]
   refine gO ?_
   have fH:=(sm.trans s1).trans s2
   have sq2:=bD.of (K:=K) (fH _ _ hq)
   refine⟨_,O,qa,_,3,_,O,O,sq2,aL (j:=3) rfl,c,O,⟨_,aZ.of (fH _ _ hc)⟩,?_⟩
   refine fK (xs:=vs) (FpI H [aa Bk,aa qa]) ⟨_,O,fH⟩ ?_ ?_ ?_
   ·rintro j σ H3 _ ⟨x2,rfl,jv⟩
    exact aZ.of (jv _ _ hc)
   ·rintro j v σ H3 hv ⟨x2,rfl,jv⟩
    obtain⟨st,iW,p,rfl,hp⟩:=Paired.at pK hv
    have n6:=jv _ _ hp
    have sp:=bD.of (K:=K) n6
    dsimp only[bw]
    refine⟨_,O,.ref p, "tuple",.type "tuple",true,O,.tup n6,Px,_,O,gO ?_⟩
    refine⟨_,O,p,_,O,.inr sp,_,_,O,O,_,O,eF (fun z=>absurd z (by rcases KS st with e | e <;> (rw[e];decide))) (fun _ =>?_)⟩
    refine⟨_,O,_,O,p,_,O,sp,Rz st,fun t1 j6 =>?_⟩
    rw[Rx]
    obtain⟨H4,eH,s1,k1⟩:=alloc j6 (.tup ((Gz st).map nV))
    rw[eH]
    refine⟨t1,O,⟨_,bD.of k1⟩,?_⟩
    refine vT (ys:=((Gz st).map fun _=>true).map V.bl) (bD.of k1) (by rw[ar];exact Rv st) (by rw[ar,ar,ar]) (fun i x y hx hy H2 fH Q' q' =>?_) (fun D1 H5 lh s2 oY =>?_)
    ·obtain⟨n,rfl⟩:=Pe hx
     rw[Ov hy]at q'
     exact⟨_,O,_,O,q' _ (bu.refl _)⟩
    refine⟨D1,_,O,aZ.of oY,_,O,?_⟩
    rw[BU]
    exact gO ⟨_,O,(jv.trans s1).trans s2⟩
   ·rintro σ H3 ⟨x2,rfl,jv⟩
    exact⟨_,_,O,jv⟩
  ·rintro σ H' ⟨x1,x2,rfl,sm⟩
   exact key _ _ ⟨x1,x2,O,sm⟩
 rintro br H1 ⟨x1,x2,rfl,sm⟩
 exact q _ sm
structure rk (Pt T L Ed:Addr) (us:List V) (ts:List Tm) (ls:List Nat) (ev:List V) (es:List cy) (a b:Nat) (H:Hp):Prop where
 hT:H T=some (.lst us)
 fR:kJ H us ts
 hL:H L=some (.lst (ls.map nV))
 hE:H Ed=some (.lst ev)
 gF:nC H ev es
 ok:mJ ts es ls
 ld:GL ts es ls
 fe:es.length<=1000
 h4:∀ (i:Nat) x as,ts[i]? = some (.of x as)->as.length<=4
 ha:a < ts.length
 hb:b < ts.length
 tb:i0 H Pt nZ mi
 f9:ts.length<=9
theorem rk.same {Pt T L Ed:Addr}{us:List V}{ts:List Tm}{ls:List Nat}{ev:List V}{es:List cy}{a b:Nat} {H H':Hp} (h:rk Pt T L Ed us ts ls ev es a b H) (sm:bu H H'):rk Pt T L Ed us ts ls ev es a b H' :=
 ⟨sm _ _ h.hT,fh sm h.fR,sm _ _ h.hL,sm _ _ h.hE,fX h.gF (fun d ys e=>sm _ _ e),h.ok,h.ld,h.fe,h.h4,h.ha,h.hb,h.tb.same sm,h.f9⟩
theorem rk.keep {Pt T L Ed:Addr}{us:List V}{ts:List Tm}{ls:List Nat}{ev:List V}{es:List cy}{a b:Nat} {H H':Hp} (h:rk Pt T L Ed us ts ls ev es a b H) (kb:i4 Pt H H') (tb:i0 H' Pt nZ mi):rk Pt T L Ed us ts ls ev es a b H' :=
 ⟨kb.get h.tb h.hT (fun _ z=>nomatch z),ow (fun c ys e=>kb.get h.tb e (fun _ z=>nomatch z)) h.fR,kb.get h.tb h.hL (fun _ z=>nomatch z),kb.get h.tb h.hE (fun _ z=>nomatch z),fX h.gF (fun d ys e=>kb.get h.tb e (fun _ z=>nomatch z)),h.ok,h.ld,h.fe,h.h4,h.ha,h.hb,tb,h.f9⟩
inductive JS (Pt:Addr) (vs:List V) (H:Hp) (Q:VK):Prop
 | mk (T L Ed:Addr) (us:List V) (ts:List Tm) (ls:List Nat) (ev:List V) (es:List cy) (a b:Nat) (z0:vs = [.ref T,.ref L,.ref Ed,nV a,nV b]) (z1:rk Pt T L Ed us ts ls ev es a b H) (z2:ls.getD a 0=ls.getD b 0)
  (z3:∀ H',i4 Pt H H'->i0 H' Pt nZ mi->Q (.bl true) H'):JS Pt vs H Q
def G9 (Pt:Addr):Sp:=fun vs H Q _=>JS Pt vs H Q
theorem O6 {CA Pt:Addr} (B:jO mg) (uf:EW P w K mg base 6 "paper" ue (D4 CA Pt)) (Je:ed P w K mg base 2 "_law_form" ["_law_book"] OE) (Ja:ed P w K mg base 3 "_law_walk" wa0 KU) (D:Def K mg "_law_joined" Bw ba):ed P w K mg base 7 "_law_joined" ba (G9 Pt):=by
 refine D.has Fg (fun vs H Q E h =>?_) (fun f cO A outer s H vs Q E hr h =>?_)
 ·obtain⟨T,L,Ed,us,ts,ls,ev,es,a,b,rfl,_⟩:=h;rfl
 obtain⟨T,L,Ed,us,ts,ls,ev,es,a,b,rfl,pi,eq,q⟩:=h
 refine⟨_,(ax (bC (i:=5) Fg.nd O (aM O) (R8 uf hr (by omega) zw O (ae (iE i9 O B.oj gL (ae (pv 0) aq)) (ae (iE i9 O B.oj gL (ae (pv 1) aq)) (ae (iE i9 O B.oj gL (ae (pv 2) aq)) (ae (pv 3) (ae (pv 4) aq)))))))
  (ax (cV (PW.pt (pw_or (iN (jm (bG Je hr (by omega) O (ae (pv 5) aq)))) (pw_or1 (bE gk (bO cn O B.iH bM (ae (pv 5) aq)) aD (bS _))))) (aI (cm je)) cg)
  (aI (cm (O1 (Au (HG (Gy hr)) (ky Cn (aJ bz (pv 5) (T7 Oi aD)) mf (me aD)) (cQ (ae (pv 3) (ae (pv 4) aq))) (bS _)) (OZ (Au VZ (bG Ja hr (by omega) O (ae (pv 0) (ae (pv 2) (ae (pv 5) aq)))) j5 (bS _)))))))),?_⟩
 try dsimp only[dQ]
 have dR:=pi.ok.dR
 refine⟨_,O,T,us,O,.inl (aZ.of pi.hT),fun c1 LJ =>?_⟩
 obtain⟨H1,eH,t1,k1⟩:=alloc LJ (.lst us)
 rw[eH]
 refine⟨_,O,L,_,O,.inl (aZ.of (t1 _ _ pi.hL)),fun c2 C7 =>?_⟩
 obtain⟨H2,eH,t2,k2⟩:=alloc C7 (.lst (ls.map nV))
 rw[eH]
 refine⟨_,O,Ed,ev,O,.inl (aZ.of (t2 _ _ (t1 _ _ pi.hE))),fun c3 LI =>?_⟩
 obtain⟨H3,eH,t3,k3⟩:=alloc LI (.lst ev)
 rw[eH]
 have u3:=t1.trans (t2.trans t3)
 have p3:=pi.same u3
 refine⟨_,O,_,O,c1,c2,c3,us,ts,ls,ev,es,a,b,O,t3 _ _ (t2 _ _ k1),p3.fR,t3 _ _ k2,k3,p3.gF,p3.ok,p3.ld,p3.fe,p3.h4,p3.ha,p3.hb,p3.tb,p3.f9,fun _ Bk rs vb H4 kb tb4 hB0 hB4 w6 bk r64 =>?_,fun z=>absurd eq z⟩
 dsimp only[bw]
 have p4:=p3.keep kb tb4
 refine⟨_,O,Bk,vb,_,rs,O,hB4,w6,fun H5 s5=>⟨_,O,gO ?_⟩⟩
 have hB5:=s5 _ _ hB4
 have lb:=aP w6
 have pos:=bk.pos
 refine⟨_,O,Bk,_,O,.inl (aZ.of hB5),O,_,O,eF (fun z=>absurd (V.int.inj z) (by omega)) (fun _ =>?_)⟩
 obtain⟨r,hr,er⟩:=bk.last
 obtain⟨v,hv⟩:∃ v,vb[vb.length - 1]? = some v:=⟨_,aj (by omega)⟩
 obtain⟨r',vM,qa,c,vs,d,rfl,hq,hd,hc,pK⟩:=Paired.at w6 hv
 rw[lb,hr]at vM
 cases vM
 have la:tI vb (-1)=some (.ref qa):=by
  unfold tI zE
  rw[if_neg (by omega),if_pos (by omega)]
  show vb[_]? = _
  rw[show (-1+((vb.length:Nat):Int)).toNat=vb.length - 1 by omega,hv]
 have Uv:=s5 _ _ hq
 have e1:r.1.1=a:=by rw[er]
 have e2:r.1.2=b:=by rw[er]
 rw[e1,e2]at Uv
 refine⟨_,O,_,O,Bk,_,_,_,O,O,aZ.of hB5,la,_,O,qa,_,O,bD.of Uv,(by show ¬ (HT.cX 4 0 none=0∧HT.cX 4 4 (some 2)=4);decide),fun Xi j6 =>?_⟩
 have s6:=bf j6 (.tup (ly [nV a,nV b,nV d,.ref c] none (some 2)))
 have k6:(upd H5 Xi (.tup (ly [nV a,nV b,nV d,.ref c] none (some 2)))) Xi=some (.tup [nV a,nV b]):=aE
 generalize upd H5 Xi (.tup (ly [nV a,nV b,nV d,.ref c] none (some 2)))=H6 at s6 k6 ⊢
 refine⟨_,O,_,O,(show 2<=sizeLine by decide),fun t2' nH =>?_⟩
 have s7:=bf nH (.tup [nV a,nV b])
 have k7:=aE (H:=H6) (a:=t2') (o := .tup [nV a,nV b])
 generalize upd H6 t2' (.tup [nV a,nV b])=H7 at s7 k7 ⊢
 refine⟨[.int (a:Int),.int (b:Int)], [.int (a:Int),.int (b:Int)],.inl ⟨uh (s7 _ _ k6),uh k7⟩,BR _ _,?_⟩
 rw[decide_eq_true rfl]
 have u7:=s5.trans (s6.trans s7)
 have p7:=p4.same u7
 have af9:Al H7 (aO ts es) vb rs:=Paired.uI w6 fun _ _ ⟨q,c,vs,d,e,g1,g2,g3,g4⟩=>⟨q,c,vs,d,e,u7 _ _ g1,g2,u7 _ _ g3,ia g4 fun d ys e=>u7 _ _ e⟩
 refine⟨_,O,pJ ⟨_,O,_,O,_,O,T,Ed,Bk,us,ev,vb,ts,es,ls,a,b,rs,O,p7.hT,p7.fR,p7.hE,p7.gF,u7 _ _ hB4,af9,bk,p7.ok,by omega,fun Ab H8 s8=>⟨O,?_⟩⟩⟩
 have e:(!decide (V.ref Ab=V.cJ))=true:=by rw[decide_eq_false nofun];rfl
 rw[e]
 exact q _ (Fh u3 (kb.then (u7.trans s8))) (tb4.same (u7.trans s8))
inductive Mm (Pt:Addr) (vs:List V) (H:Hp) (Q:VK):Prop
 | mk (T L Ed:Addr) (us:List V) (ts:List Tm) (ls:List Nat) (ev:List V) (es:List cy) (a b:Nat) (z0:vs = [.ref T,.ref L,.ref Ed,nV a,nV b]) (z1:rk Pt T L Ed us ts ls ev es a b H) (z2:ls.getD a 0≠ls.getD b 0)
  (z3:∀ H',bu H H'->Q (.bl true) H'):Mm Pt vs H Q
def K1 (Pt:Addr):Sp:=fun vs H Q _=>Mm Pt vs H Q
theorem Si {CA Pt:Addr} (B:jO mg) (wU:Exc K mg "Apart" CA) (wV:xh K (.ref CA) (.ref CA)=some true) (uf:EW P w K mg base 6 "paper" ue (D4 CA Pt)) (D:Def K mg "_law_apart" Eg ba):ed P w K mg base 7 "_law_apart" ba (K1 Pt):=by
 have Wv:=wU.glob
 refine D.has Bu (fun vs H Q E h =>?_) (fun f cO A outer s H vs Q E hr h =>?_)
 ·obtain⟨T,L,Ed,us,ts,ls,ev,es,a,b,rfl,_⟩:=h;rfl
 obtain⟨T,L,Ed,us,ts,ls,ev,es,a,b,rfl,pi,ne,q⟩:=h
 refine⟨_,(ax (bC (i:=5) Bu.nd O (aM O) d9)
  (ax (VO ⟨O,O⟩ O Wv (RQ (OY uf hr (by omega) O (ae (iE i9 O B.oj gL (ae (pv 0) aq)) (ae (iE i9 O B.oj gL (ae (pv 1) aq)) (ae (iE i9 O B.oj gL (ae (pv 2) aq)) (ae (pv 3) (ae (pv 4) aq))))))) (fun ea=>(aI (bC (i:=5) Bu.nd O (aM O) d9))))
  (aI (cm (Au gk (pv 5) d9 (bS _)))))),?_⟩
 try dsimp only[dQ]
 refine⟨_,O,T,us,O,.inl (aZ.of pi.hT),fun c1 LJ =>?_⟩
 obtain⟨H1,eH,t1,k1⟩:=alloc LJ (.lst us)
 rw[eH]
 refine⟨_,O,L,_,O,.inl (aZ.of (t1 _ _ pi.hL)),fun c2 C7 =>?_⟩
 obtain⟨H2,eH,t2,k2⟩:=alloc C7 (.lst (ls.map nV))
 rw[eH]
 refine⟨_,O,Ed,ev,O,.inl (aZ.of (t2 _ _ (t1 _ _ pi.hE))),fun c3 LI =>?_⟩
 obtain⟨H3,eH,t3,k3⟩:=alloc LI (.lst ev)
 rw[eH]
 have u3:=t1.trans (t2.trans t3)
 have p3:=pi.same u3
 refine⟨_,O,_,O,c1,c2,c3,us,ts,ls,ev,es,a,b,O,t3 _ _ (t2 _ _ k1),p3.fR,t3 _ _ k2,k3,p3.gF,p3.ok,p3.ld,p3.fe,p3.h4,p3.ha,p3.hb,p3.tb,p3.f9,fun z=>absurd z ne,fun _ =>?_⟩
 refine⟨CA,O,wV,fun ea P4 =>?_⟩
 exact⟨_,O,O,q _ (u3.trans (bf P4 _))⟩
theorem Og {H:Hp}{vs:List V}{es:List cy} (h:nC H vs es):N3 H vs (Dg es):=by
 induction h with
 | nil=>exact .nil
 | cons h _ ih=>obtain⟨q,c,e,hq⟩:=h;exact .cons ⟨q,_,e,hq⟩ ih
theorem nF.ends {ts:List Tm}{es:List cy} (g:nF ts es):∀ a b:Nat,(a,b)∈Dg es->a < ts.length∧b < ts.length:=fun a b h=>by
 obtain⟨e,he,heq⟩:=bj.mp h
 cases heq
 exact⟨(g.uW e he).1,(g.uW e he).2.1⟩
theorem nF.len {ts:List Tm}{es:List cy}{ls:List Nat} (g:nF ts es) (c:Kj ts (Dg es) ls):mJ ts es ls:=by
 refine⟨by have:=g.dR;omega,g.jo,g.arms,fun i x as e=>bq (g.qo i x as e) (by decide),c.1,g.uW,fun a b k d ha hb =>?_⟩
 have:=c.2.2.2 a b ha hb (Wz d)
 rw[bc,bc,this]
theorem Po {ts:List Tm}{es:List cy}{ls:List Nat} (hn:ts.Nodup) (c:Kj ts (Dg es) ls):GL ts es ls:=fun a b ha hb e=>by
 have hl:=c.1
 have e1:ls[a]? = some (ls.getD a 0):=by rw[bc,aj (by omega)];rfl
 have e2:ls[b]? = some (ls.getD a 0):=by rw[e,bc,aj (by omega)];rfl
 obtain⟨n,d⟩:=Wu hn (.trans (c.2.2.1 a _ e1) (.symm (c.2.2.1 b _ e2)))
 cases h:aO ts es a b with
 | none=>exact(o7 h d).elim
 | some k=>exact⟨k,O⟩
inductive Vi (Pt:Addr) (K:ao) (vs:List V) (H:Hp) (Q:VK):Prop
 | mk (a:Addr) (ns:List Int) (z0:vs = [.ref a]) (z1:aZ K H a (ns.map V.int)) (z2:ns.length<=63) (z3:H Pt=some (.oO #[])) (z4:∀ H',Q (.bl true) H'):Vi Pt K vs H Q
def GD (Pt:Addr) (K:ao):Sp:=fun vs H Q _=>Vi Pt K vs H Q
inductive LwI (Pt:Addr) (H:Hp) (τ : St) (i:Nat) (σ : St) (H':Hp):Prop
 | mk (x5 x6 x7:Option V):(σ = τ ++ [x5,x6,x7])->i4 Pt H H'->i0 H' Pt nZ mi->LwI Pt H τ i σ H'
inductive LvI (Pt:Addr) (H:Hp) (τ : St) (i:Nat) (σ : St) (H':Hp):Prop
 | mk (x7:Option V):(σ = τ ++ [x7])->i4 Pt H H'->i0 H' Pt nZ mi->LvI Pt H τ i σ H'
theorem Yd {Pt:Addr} (B:jO mg) (rf:mg "all" = none) (EG:ed P w K mg base 4 "_law_stuff" wa6 (KW K)) (BN:ed P w K mg base 3 "closed" wb4 (He K)) (qK:ed P w K mg base 1 "_law_whole" wb3 D0) (zM:ed P w K mg base 1 "_law_kept_up" Gb OD)
  (xY:ed P w K mg base 7 "_law_joined" ba (G9 Pt)) (EI:ed P w K mg base 7 "_law_apart" ba (K1 Pt))
  {f:Addr}{fd:FuncData} (F:Ah K "law" "law" qW f fd):lC P w K mg base DQ 8 f fd ["_law_script"] (GD Pt K):=by
 refine F.ok rH (fun vs H Q E h =>?_) (fun cO A outer s H vs Q E hr h =>?_)
 ·obtain⟨a,ns,rfl,_⟩:=h;rfl
 obtain⟨S,ns,rfl,hS,h63,hPt,q⟩:=h
 refine⟨_,(ax (bC (i:=1) rH.nd O (aM O) (bG EG hr (by omega) O (ae (pv 0) (ae aD aq))))
  (ax (bC (i:=2) rH.nd O (aM O) (aJ bp (pv 1) aD))
  (ax (bC (i:=3) rH.nd O (aM O) (aJ bp (pv 1) aD))
  (ax (bC (i:=4) rH.nd O (aM O) (bG BN hr (by omega) O (ae (iE i9 O B.oj gL (ae (pv 2) aq)) (ae (iE i9 O B.oj gL (ae (pv 3) aq)) aq))))
  (ax (cV (PW.pt (pw_or (iN (jm (bO oE O B.kC gP (ae (pv 4) (ae (qJ (v := .ty "list") O B.oj gL O) aq))))) (pw_or (bE iZ (bO cn O B.iH bM (ae (pv 4) aq)) (bO cn O B.iH bM (ae (pv 2) aq)) (bS _)) (pw_or1 (iN (jm (bO (vW O) O rf vZ (ae (oR (te:=(tO _ _ _ (og _ sF))) (own := ["_law_lead"]) (caps := []) (gK (aX qW) ["_law_script", "_law_made", "_law_terms", "_law_edges", "_law_leads", "_law_k", "_law_lead", "_law_other"] O O O (by decide +kernel)) (eQ (pv 4)) O (fun _ _ _=>bL (i:=0) (show (["_law_lead"]:List Str).Nodup by decide +kernel) O (aM O)) (fun _ _ _=>(bG qK hr (by omega) O (ae (pv 0) aq)))) aq)))))))) (aI (cm je)) cg)
  (ax (cV (iN (jm (bG zM hr (by omega) O (ae (pv 2) (ae (pv 4) (ae (pv 3) aq)))))) (aI (cm je)) cg)
  (ax (dJ bI O (oQ O B.rK (ae (bO cn O B.iH bM (ae (pv 2) aq)) aq)) (bL (i:=5) rH.nd O (aM O))
  (ax (bC (i:=6) rH.nd O (aM O) (aJ bz (pv 4) (pv 5)))
  (ax (cV (PW.pt (pw_or (iN (uC Av Av aD (pv 6) (pv 5))) (pw_or1 (bE iZ (aJ bz (pv 4) (pv 6)) (pv 6) (bS _))))) (aI (cm je)) cg)
  (ax (cV (PW.pt (pw_or (iN (jm (bG xY hr (by omega) O (ae (pv 2) (ae (pv 4) (ae (pv 3) (ae (pv 5) (ae (pv 6) aq)))))))) (pw_or1 (iN (jm (bG xY hr (by omega) O (ae (pv 2) (ae (pv 4) (ae (pv 3) (ae (pv 6) (ae (pv 5) aq))))))))))) (aI (cm je)) cg)
  (aI (dJ bI O (oQ O B.rK (ae (pv 5) aq)) (bL (i:=7) rH.nd O (aM O))
  (aI (cV (PW.pt (pw_and (bE iZ (aJ bz (pv 4) (pv 7)) (pv 6) (bS _)) (pw_and1 (iN (jm (bG EI hr (by omega) O (ae (pv 2) (ae (pv 4) (ae (pv 3) (ae (pv 5) (ae (pv 7) aq))))))))))) (aI (cm je)) cg))))))))
  (aI (cm je))))))))),?_⟩
 try dsimp only[dQ]
 refine⟨_,O,S,ns,9,O,hS,h63,by decide,fun M T Ed us ev ts es H1 s1 hM hT zH hE zG go el =>?_⟩
 dsimp only[bw]
 refine⟨_,O,M,_,0,_,O,O,bD.of hM,aL (j:=0) rfl,?_⟩
 dsimp only[bw]
 refine⟨_,O,M,_,1,_,O,O,bD.of hM,aL (j:=1) rfl,?_⟩
 dsimp only[bw]
 have lu:us.length=ts.length:=aP zH
 have fw:=go.dR
 have qo:∀ (i:Nat) x as,ts[i]? = some (.of x as)->as.length<=1000:=fun i x as e=>bq (go.qo i x as e) (by decide)
 refine⟨_,O,T,us,O,.inl (aZ.of hT),fun c1 LJ =>?_⟩
 obtain⟨H2,eH,t1,k1⟩:=alloc LJ (.lst us)
 rw[eH]
 refine⟨_,O,Ed,ev,O,.inl (aZ.of (t1 _ _ hE)),fun c2 C7 =>?_⟩
 obtain⟨H3,eH,t2,k2⟩:=alloc C7 (.lst ev)
 rw[eH]
 have u3:=t1.trans t2
 refine⟨c1,c2,us,ev,ts,Dg es,O,t2 _ _ k1,fh u3 zH,aZ.of k2,Og (fX zG fun d ys e=>u3 _ _ e),go.arms,by omega,qo,go.ends,fun L ls H4 s4 LM vO cl =>?_⟩
 dsimp only[bw]
 have u4:=u3.trans s4
 have FK:=u4 _ _ hT
 have hE4:=u4 _ _ hE
 have Y5:=fh u4 zH
 have YX:=fX zG (H':=H4) fun d ys e=>u4 _ _ e
 have ok:=go.len cl
 have ld:=Po go.jo cl
 have agl:=(s1.trans u4) _ _ hPt
 clear hT hE zH zG t1 t2 k1 k2 u3 u4 LJ C7 LM hM hPt
 have gd:∀ {i:Nat},i < ts.length->ls[i]? = some (ls.getD i 0):=fun {i} hi=>by rw[bc,aj (by rw[ok.len];exact hi)];rfl
 -- vD agG
 refine gX (fun br H' => br = [aa S,aa M,aa T,aa Ed,aa L,none,none,none]∧bu H4 H') ?_ (fun key =>?_)
 rotate_left
 ·refine⟨_,O,.ref L, "list",.type "list",true,O,.lst vO,Ik,_,O,gO ?_⟩
  refine⟨_,O,L,_,O,.inl (aZ.of vO),_,O,T,_,O,.inl (aZ.of FK),O,_,O,fC (fun z=>absurd (by rw[ar,ok.len,lu]) z) (fun _ =>?_)⟩
  refine⟨_,O,L,O,⟨_,aZ.of vO⟩,?_⟩
  refine QE (fun _ => .bl true) (aZ.of vO) (by rw[ar,ok.len];omega) (fun x hx H' sm Q' q' =>?_) (fun D1 lh =>?_)
  ·obtain⟨n,_,rfl⟩:=bj.mp hx
   exact⟨_,O,_,O,q'⟩
  have em:(ls.map nV).map (fun _=>V.bl true)=(ls.map fun _=>true).map V.bl:=by rw[gH,gH];rfl
  rw[em]
  refine⟨D1,_,O,aZ.of aE,_,O,?_⟩
  rw[BU]
  exact gO (key _ _ ⟨O,bf lh _⟩)
 rintro σ5 H5 ⟨rfl,s5⟩
 -- kept up
 refine gX (fun br H' => br = [aa S,aa M,aa T,aa Ed,aa L,none,none,none]∧bu H4 H') ?_ (fun key =>?_)
 rotate_left
 ·refine⟨_,O,_,O,_,O,T,L,Ed,us,ts,ls,ev,es,O,s5 _ _ FK,fh s5 Y5,s5 _ _ vO,s5 _ _ hE4,fX YX (fun d ys e=>s5 _ _ e),ok,fun e he =>?_,fun a b x as bs ha hb hl hk =>?_,fun H6 s6=>⟨_,O,gO (key _ _ ⟨O,s5.trans s6⟩)⟩⟩
  ·obtain⟨l1,l2,_⟩:=go.uW e he
   exact ok.lead _ _ _ (.eR he) l1 l2
  ·have la:=(ai.mp ha).1
   have lb:=(ai.mp hb).1
   have ex:∀ k:Nat,∃ n:Nat,∀ u v:Nat,as[k]? = some u->bs[k]? = some v->aO ts es u v=some n:=fun k=>by
    cases e1:as[k]? with
    | none=>exact⟨0,fun u v z=>nomatch z⟩
    | some u =>
     cases e2:bs[k]? with
     | none=>exact⟨0,fun u v _ z=>nomatch z⟩
     | some v =>
      obtain⟨n,d⟩:=ld u v (ok.jQ ha (ak e1)) (ok.jQ hb (ak e2)) (hk k u v e1 e2)
      exact⟨n,fun u' v' z1 z2=>by cases z1;cases z2;exact d⟩
   obtain⟨n,hn,_⟩:=FU (fun k=>(ex k).choose) ha hb hl fun k u v hu hv=>(ex k).choose_spec u v hu hv
   exact ok.lead a b n (fb hn).1 la lb
 rintro σ6 H6 ⟨rfl,s6⟩
 have tb6:i0 H6 Pt nZ mi := .inl (s6 _ _ agl)
 have pin:∀ {a b:Nat},a < ts.length->b < ts.length->rk Pt T L Ed us ts ls ev es a b H6:=fun {a b} ha hb=>⟨s6 _ _ FK,fh s6 Y5,s6 _ _ vO,s6 _ _ hE4,fX YX (fun d ys e=>s6 _ _ e),ok,ld,by omega,go.qo,ha,hb,tb6,go.dR⟩
 refine⟨_,O,T,_,O,.inl (aZ.of (s6 _ _ FK)),_,O,by omega,by omega,?_⟩
 rw[cx]
 refine oZ (lo:=0) (LwI Pt H6 [aa S,aa M,aa T,aa Ed,aa L]) ⟨none,none,none,O,fun _ _ _ e=>e,tb6⟩ ?_ ?_
 ·rintro i σ H7 hi ⟨x5,x6,x7,rfl,kb,Ow⟩
  have hi:i < ts.length:=by omega
  dsimp only[bw]
  rw[lB]
  have p7:∀ {a b:Nat},a < ts.length->b < ts.length->rk Pt T L Ed us ts ls ev es a b H7:=fun ha hb=>(pin ha hb).keep kb Ow
  have hL7:=aZ.of (K:=K) (p7 hi hi).hL
  obtain⟨g1,g2⟩:=cl.2.1 i _ (gd hi)
  have ll:ls.getD i 0 < ts.length:=by omega
  have eL:ls.getD (ls.getD i 0) 0=ls.getD i 0:=by rw[bc (l:=ls) (i:=ls.getD i 0),g2];rfl
  refine⟨_,O,_,O,L,_,_,_,O,O,hL7,jP (gd hi),?_⟩
  dsimp only[bw]
  generalize Zr:ls.getD i 0=l at g1 g2 ll eL ⊢
  refine gX (fun br H' => br = [aa S,aa M,aa T,aa Ed,aa L,aU i,aU l,x7]∧H'=H7) ?_ (fun key =>?_)
  rotate_left
  ·refine⟨_,O,_,_,O,O,_,O,eF (fun _ =>?_) (fun z=>absurd (kq l) z)⟩
   refine⟨_,O,_,_,O,O,_,O,fC (fun z=>absurd (show (l:Int)<=(i:Int) by omega) z) (fun _ =>?_)⟩
   exact⟨_,O,_,O,L,_,_,_,O,O,hL7,jP g2,_,O,O,_,O,fC (fun z=>absurd rfl z) (fun _=>key _ _ ⟨O,O⟩)⟩
  rintro σ0 H0 ⟨e0,e00⟩
  subst e0
  subst H0
  refine gX (fun br H' => br = [aa S,aa M,aa T,aa Ed,aa L,aU i,aU l,x7]∧i4 Pt H6 H'∧i0 H' Pt nZ mi) ?_ (fun key =>?_)
  rotate_left
  ·refine⟨_,O,_,O,_,O,_,O,_,O,T,L,Ed,us,ts,ls,ev,es,i,l,O,p7 hi ll,by rw[Zr,eL],fun H8 Um GW=>⟨_,O,gO ?_⟩⟩
   exact⟨_,O,_,O,_,O,_,O,_,O,T,L,Ed,us,ts,ls,ev,es,l,i,O,(p7 ll hi).keep Um GW,by rw[Zr,eL],fun H9 Io GV=>⟨_,O,gO (key _ _ ⟨O,(kb.trans Um).trans Io,GV⟩)⟩⟩
  rintro σ8 H8 ⟨rfl,Um,GW⟩
  refine⟨_,O,_,O,by omega,by omega,?_⟩
  rw[cx]
  refine oZ (lo:=0) (LvI Pt H6 [aa S,aa M,aa T,aa Ed,aa L,aU i,aU l]) ⟨x7,O,Um,GW⟩ ?_ ?_
  ·rintro j σ H9 hj ⟨x7,rfl,Io,GV⟩
   have hj:j < ts.length:=by omega
   dsimp only[bw]
   rw[lB]
   have p9:=(pin hi hj).keep Io GV
   refine⟨_,O,_,O,L,_,_,_,O,O,aZ.of p9.hL,jP (gd hj),_,O,O,_,O,fC (fun ne =>?_) (fun _=>gO ⟨_,O,Io,GV⟩)⟩
   have ne:ls.getD i 0≠ls.getD j 0:=fun z=>ne (by rw[<- z,Zr])
   exact⟨_,O,_,O,_,O,_,O,_,O,T,L,Ed,us,ts,ls,ev,es,i,j,O,p9,ne,fun Bo zm=>⟨_,O,gO ⟨_,O,Io.then zm,GV.same zm⟩⟩⟩
  ·rintro σ H9 ⟨x7,rfl,Io,GV⟩
   exact⟨_,_,_,O,Io,GV⟩
 rintro σ H7 ⟨x5,x6,x7,rfl,kb,Ow⟩
 exact q _
end
end a5
namespace a5
open PySem L2
theorem lO {n:Nat}{us:List Value} (h:us.length=n+1):∃ v vs,us=v :: vs∧vs.length=n:=by cases us with | nil=>cases h | cons v vs=>exact⟨v,vs,O,JU h⟩
theorem fk {fd:FuncData}{ps:List Str} (h:∀ v0:Value,bindArgs fd ⟨[v0], []⟩=pure (ps.zip [v0])):∀ us:List Value,us.length=1->bindArgs fd ⟨us, []⟩=pure (ps.zip us):=fun us h0=>by obtain⟨v0,us,rfl,h1⟩:=lO h0;obtain rfl:=fW h1;exact h v0
open PySem L2 Sw
theorem eW {fd:FuncData}{ps:List Str} (h:∀ v0 v1:Value,bindArgs fd ⟨[v0,v1], []⟩=pure (ps.zip [v0,v1])):∀ us:List Value,us.length=2->bindArgs fd ⟨us, []⟩=pure (ps.zip us):=fun us h0=>by obtain⟨v0,us,rfl,h1⟩:=lO h0;obtain⟨v1,us,rfl,h2⟩:=lO h1;obtain rfl:=fW h2;exact h v0 v1
open PySem L2 Sw
theorem fj {fd:FuncData}{ps:List Str} (h:∀ v0 v1 v2:Value,bindArgs fd ⟨[v0,v1,v2], []⟩=pure (ps.zip [v0,v1,v2])):∀ us:List Value,us.length=3->bindArgs fd ⟨us, []⟩=pure (ps.zip us):=fun us h0=>by obtain⟨v0,us,rfl,h1⟩:=lO h0;obtain⟨v1,us,rfl,h2⟩:=lO h1;obtain⟨v2,us,rfl,h3⟩:=lO h2;obtain rfl:=fW h3;exact h v0 v1 v2
open PySem L2 Sw
theorem fi {fd:FuncData}{ps:List Str} (h:∀ v0 v1 v2 v3:Value,bindArgs fd ⟨[v0,v1,v2,v3], []⟩=pure (ps.zip [v0,v1,v2,v3])):∀ us:List Value,us.length=4->bindArgs fd ⟨us, []⟩=pure (ps.zip us):=fun us h0=>by obtain⟨v0,us,rfl,h1⟩:=lO h0;obtain⟨v1,us,rfl,h2⟩:=lO h1;obtain⟨v2,us,rfl,h3⟩:=lO h2;obtain⟨v3,us,rfl,h4⟩:=lO h3;obtain rfl:=fW h4;exact h v0 v1 v2 v3
open PySem L2 Sw
theorem eV {fd:FuncData}{ps:List Str} (h:∀ v0 v1 v2 v3 v4:Value,bindArgs fd ⟨[v0,v1,v2,v3,v4], []⟩=pure (ps.zip [v0,v1,v2,v3,v4])):∀ us:List Value,us.length=5->bindArgs fd ⟨us, []⟩=pure (ps.zip us):=fun us h0=>by obtain⟨v0,us,rfl,h1⟩:=lO h0;obtain⟨v1,us,rfl,h2⟩:=lO h1;obtain⟨v2,us,rfl,h3⟩:=lO h2;obtain⟨v3,us,rfl,h4⟩:=lO h3;obtain⟨v4,us,rfl,h5⟩:=lO h4;obtain rfl:=fW h5;exact h v0 v1 v2 v3 v4
open PySem L2 Sw
theorem dm {K:ao}{x:Str}{st:Stmt}{ps:List Str}{f:Addr}{oc kV dc pm cd ct:Value}{od an:Option Addr}{sl:Array (Option Value)}{h:Heap}{mg:Str->Option Value} (X:K.In h) (G:h.Ns mainGlobals mg) (a:cP K mainGlobals x=some (some (.ref f))) (l:K.lookup f=some ⟨oc,od,.func (dU x x (jf st) (fT st) (aX st) .none kV dc pm an cd ct),sl⟩) (c:g9 K cd x=true) (k:dw K (.ref f)=true) (b:∀ (kV dc pm:Value) (an:Option Addr) (cd ct:Value) (us:List Value),us.length=ps.length->bindArgs (dU x x (jf st) (fT st) (aX st) .none kV dc pm an cd ct) ⟨us, []⟩=pure (ps.zip us)):Def K mg x st ps:=⟨_,_,uT l c k,oo X G a,(uT l c k).binds b⟩
theorem Jz {K:ao}{x:Str}{st:Stmt}{ps:List Str}{f:Addr}{oc kV dc pm cd ct:Value}{od an:Option Addr}{sl:Array (Option Value)}{m:Str}{C:Addr} (a:cG K (.ref C) m=some (some (.ref f))) (l:K.lookup f=some ⟨oc,od,.func (dU m x (jf st) (fT st) (aX st) .none kV dc pm an cd ct),sl⟩) (c:g9 K cd x=true) (k:dw K (.ref f)=true) (n:pT K (.ref f)=true) (b:∀ (kV dc pm:Value) (an:Option Addr) (cd ct:Value) (us:List Value),us.length=ps.length->bindArgs (dU m x (jf st) (fT st) (aX st) .none kV dc pm an cd ct) ⟨us, []⟩=pure (ps.zip us)):ni K C m x st ps:=⟨_,_,uT l c k,⟨a,n,k⟩,(uT l c k).binds b⟩
theorem all_mk {l:DF}{w:World}{K:ao}{h:Heap}{mg:Str->Option Value}{fa CS f8 f22 f33 xf:Addr} (X:K.In h) (G:h.Ns mainGlobals mg) (hfa:mg "law" = some (.ref fa))
  {od8 an8 afp agx afo aaN:Option Addr}{sl8 ae5 ae4:Array (Option Value)}{oc8 kV8 dc8 pm8 ct8 cd8 afr afH agt afl agv afq YG aaE XY aaG Th:Value}
  {cT PT:Addr}
  (aC:cP K mainGlobals "Search" = some (some (.ref CS)))
  (Kf:Def K mg "mark" Cp wa9)
  (qU:Def K mg "join_classes" qH wb2)
  (wI:Def K mg "join_like" wo wa1)
  (B9:Def K mg "closed" Bx wb4)
  (Ai:Def K mg "lengths" zj wb0)
  (vx:Def K mg "like_pairs" uz wa1)
  (sX:Def K mg "unlike_arms" oh wa4)
  (sY:Def K mg "like_length" sH wa5)
  (a8:cG K (.ref CS) "__init__" = some (some (.ref f8)))
  (l8:K.lookup f8=some ⟨oc8,od8,.func (dU "__init__" "Search.__init__" (jf md) (fT md) (aX md) .none kV8 dc8 pm8 an8 cd8 ct8),sl8⟩)
  (c8:g9 K cd8 "Search.__init__" = true)
  (k8:dw K (.ref f8)=true)
  (n8:pT K (.ref f8)=true)
  (vy:ni K CS "await_arms" "Search.await_arms" uA wb5)
  (vw:ni K CS "offer_step" "Search.offer_step" uy ee)
  (E1:ni K CS "offer" "Search.offer" Ef ee)
  (vv:ni K CS "settle_all" "Search.settle_all" ux ["self"])
  (B7:ni K CS "settle" "Search.settle" Bv ee)
  (wJ:ni K CS "find_head" "Search.find_head" wq ["self", "a"])
  (yt:ni K CS "lengthen" "Search.lengthen" xE ee)
  (Ki:Def K mg "_law_draw" Hn fM)
  (Kb:Def K mg "_law_word" Hj wa8)
  (Kd:Def K mg "_law_term" Co wa2)
  (Kh:Def K mg "_law_edge" Cq vc)
  (EY:Def K mg "_law_stuff" Ec wa6)
  (EX:Def K mg "_law_whole" Eb wb3)
  (a22:cP K mainGlobals "paper" = some (some (.ref f22)))
  (Uh:K.lookup f22=some ⟨afr,afp,.func (dU "paper" "paper" (jf qG) (fT qG) (aX qG) .none afH agt afl agx (.ref cT) agv),ae5⟩)
  (Ve:g9 K (.ref cT) "paper" = true)
  (Uo:dw K (.ref f22)=true)
  (sZ:Def K mg "least_steps" oi wa3)
  (qj:Def K mg "steps_between" pC wa7)
  (tj:Def K mg "ends_within" sI wb8)
  (Ke:Def K mg "_law_step" Hm gr)
  (EZ:Def K mg "_law_steps" Ee oq)
  (Kc:Def K mg "_law_walk" Hl wa0)
  (Kg:Def K mg "_law_form" zk ["_law_book"])
  (Aj:Def K mg "_law_kept_up" vG Gb)
  (B8:Def K mg "_law_joined" Bw ba)
  (E2:Def K mg "_law_apart" Eg ba)
  (a33:cP K mainGlobals "law" = some (some (.ref f33)))
  (Yx:K.lookup f33=some ⟨afq,afo,.func (dU "law" "law" (jf qW) (fT qW) (aX qW) .none YG aaE XY aaN Th aaG),ae4⟩)
  (c33:g9 K Th "law" = true)
  (YH:dw K (.ref f33)=true)
  (XN:v8 K CS=true)
  (XQ:dw K (.ref CS)=true)
  (XM:lT K CS F8=true)
  (XR:nN K CS=true)
  (XJ:tJ K CS=true)
  (XI:cG K (.ref CS) "__setattr__" = some (some (.builtin "object.__setattr__")))
  (Bz:cG K (.ref CS) "terms" = some none)
  (BB:cG K (.ref CS) "least" = some none)
  (xG:cG K (.ref CS) "waiting" = some none)
  (BC:cG K (.ref CS) "heads" = some none)
  (zr:cG K (.ref CS) "single" = some none)
  (BA:cG K (.ref CS) "steps" = some none)
  (xI:cG K (.ref CS) "awaited" = some none)
  (xH:cG K (.ref CS) "lacking" = some none)
  (DV:cP K mainGlobals "Apart" = some (some (.ref xf)))
  (WS:yO K xf [.type "ValueError",.type "Exception",.type "BaseException",.type "object"] "ValueError.__new__" = true)
  (wV:xh K (.ref xf) (.ref xf)=some true)
  (z0:cP K mainGlobals "len" = some none)
  (z1:cP K mainGlobals "min" = some none)
  (z2:cP K mainGlobals "max" = some none)
  (z3:cP K mainGlobals "sum" = some none)
  (z4:cP K mainGlobals "range" = some none)
  (z5:cP K mainGlobals "enumerate" = some none)
  (z6:cP K mainGlobals "isinstance" = some none)
  (z7:cP K mainGlobals "tuple" = some none)
  (z8:cP K mainGlobals "int" = some none)
  (z9:cP K mainGlobals "bool" = some none)
  (AV:cP K mainGlobals "str" = some none)
  (GO:cP K mainGlobals "list" = some none)
  (Od:cP K mainGlobals "all" = some none)
  (Oc:cP K mainGlobals "dict" = some none)
  (TC:cP K mainGlobals "sorted" = some none)
  (Tz:cP K mainGlobals "sum" = some none)
  (WR:cP K mainGlobals "zip" = some none) :
  ∃ fd:FuncData,(∀ (s:Shared) (v:Value),BindsTo s fd ⟨[v], []⟩ [("_law_script",v)])∧∀ base:Heap,K.In base->base.Ns mainGlobals mg->TabAt base mg cT PT->lC l.prog w K mg base DQ 8 fa fd ["_law_script"] (GD PT K):=by
 have e:=hfa.symm.trans (oo X G a33)
 cases e
 have B:jO mg:=⟨cE X G z0,cE X G z1,cE X G z2,cE X G z3,cE X G z4,cE X G z5,cE X G z6,cE X G z7,cE X G z8,cE X G z9,cE X G AV,cE X G GO⟩
 have rf:=cE X G Od
 have ajD:=cE X G Oc
 have BS:=cE X G TC
 have ajZ:=cE X G Tz
 have tY:=cE X G WR
 have wU:Exc K mg "Apart" xf:=⟨oo X G DV,WS⟩
 have Z:rg K mg CS:=⟨⟨XM,XR,XJ,XI⟩,Bz,BB,xG,BC,zr,BA,xI,xH⟩
 have MI:=uT (st:=md) l8 c8 k8
 have WN:N5 K mg "Search" CS "Search.__init__" md wb7:=⟨_,_,MI,oo X G aC,⟨XN,a8,n8,XQ⟩,MI.binds fun _ _ _ _ _ _ us hl=>eW (fun _ _=>O) us hl⟩
 have WM:=uT (st:=qG) Uh Ve Uo
 have WO:N4 K mg "paper" qG ue cT:=⟨_,_,_,_,_,_,_,_,_,Uh,Ve,Uo,oo X G a22,WM.binds fun _ _ _ _ _ _ us hl=>eV (fun _ _ _ _ _=>O) us hl⟩
 have acm:=uT (st:=qW) Yx c33 YH
 refine⟨dU "law" "law" (jf qW) (fT qW) (aX qW) .none YG aaE XY aaN Th aaG,fun s v => .of_eq rfl,fun base _ _ TB =>?_⟩
 have w8:=V4 (P:=l.prog) (w:=w) (base:=base) B Kf
 have jx:=Cz (P:=l.prog) (w:=w) (base:=base) B qU
 have wA:=HH B w8 jx wI
 have BN:=O7 B jx wA B9
 have ug:=Sh (P:=l.prog) (w:=w) (base:=base) B Z E1
 have k9:=Gn B Z ug vw
 have tU:=Kr B Z ug yt
 have wB:=HI (P:=l.prog) (w:=w) (base:=base) B Z wJ
 have gJ:=Ep (P:=l.prog) (w:=w) (base:=base) tY sX
 have jY:=Er gJ sY
 have BM:=O5 B Z wB tU k9 jY B7
 have uR:=Gm B Z BM vv
 have uS:=Gq B Z gJ vy
 have Jd:=Se (P:=l.prog) (w:=w) (base:=base) B Z WN
 have lg:=Gp B w8 vx
 have zL:=M8 B Z Jd k9 lg uS uR Ai
 have f7:=V7 (P:=l.prog) (w:=w) (base:=base) Ki
 have r8:=V0 B f7 Kb
 have Jb:=V2 B f7 r8 Kd
 have Jf:=V6 B f7 Kh
 have EG:=Sb B f7 r8 Jb Jf EY
 have qK:=Sa (P:=l.prog) (w:=w) (base:=base) B EX
 have sO:=Es B lg jY sZ
 have pO:=BF (P:=l.prog) (w:=w) (base:=base) B qj
 have sP:=Et gJ tj
 have uf:=Sf TB B BS wU zL sO pO sP WO
 have Jc:=V3 (P:=l.prog) (w:=w) (base:=base) B tY Ke
 have EH:=Sd B Jc EZ
 have Ja:=V1 B EH Kc
 have Je:=V5 B rf qK Kg
 have zM:=M9 (P:=l.prog) (w:=w) (base:=base) B tY rf Aj
 have xY:=O6 B uf Je Ja B8
 have EI:=Si B wU wV uf E2
 exact Yd B rf EG BN qK zM xY EI acm
theorem walk {l:DF}{q:Program}{loose:List Str}{XP:(Str->Option Value)->Heap->Prop}{YP:World->Heap->Prop}{d dC:DefRec}{K:Params->ao}{c P:Addr} (hn:l.most=some 63) (ZK:d.params.defaults = [])
  (hY:∀ (w:World) (h:Heap),YP w h->(K w.params).In h)
  (Jj:(PyProof.Rows.recsOf q).find? (fun e=>e.name == ("paper" : Str))=some dC) (Jg:∀ w:World,PySem.W.tabIn (K w.params) "paper" = some (c,P)) (qr:∀ w:World,PySem.W.noTabs (K w.params)=true)
  (F:∀ (w:World) (mg:Str->Option Value) (fa:Addr) (h:Heap),(K w.params).In h->h.Ns mainGlobals mg->mg d.name=some (.ref fa) ->
   ∃ fd:FuncData,(∀ (s:Shared) (u:Value),BindsTo s fd ⟨[u], []⟩ [("_law_script",u)])∧∀ base:Heap,(K w.params).In base->base.Ns mainGlobals mg->TabAt base mg c P->lC l.prog w (K w.params) mg base DQ 8 fa fd ["_law_script"] (GD P (K w.params))) :
  PySem.W.WalkO q loose XP YP l.row.toRowW d [] (fun f vs=>PySem.call f vs) :=
 L2.Rp (n:=63) (k:=8) (x := "_law_script") (xT := "paper") (CX:=fun _=>DQ) (sp:=fun w=>GD P (K w.params)) hn (by decide) ZK ⟨O,by decide,by decide⟩ hY Jj Jg qr F (fun _ _ a ns hl hb hS hP=>⟨a,ns,O,hS,hl,hP,fun _=>rfl⟩) fun _ _ _ _ _ z=>z
end a5
end
open PySem PySem.W PyProof.Rows
set_option maxRecDepth 100000 in
set_option maxHeartbeats 0 in
theorem PySem.Challenge.cw_samewise_k27_whole_papers_holds : PySem.Challenge.rw_samewise_k27_whole_papers.Holds := by
 refine KHd.top ?_
 k_fill
 refine' a5.walk (l:=PySem.Challenge.rw_samewise_k27_whole_papers) (c:=165) (P:=161) rfl rfl (fun w h Y=>PySem.W.km_in_of Y) ?Jj ?Jg ?hNo ?F
 case Jj=>exact rfl
 case Jg=>intro w;kernel_rfl
 case hNo=>intro w;kernel_rfl
 case F =>
  intro w mg fa h KX G Zp
  refine' a5.all_mk KX G Zp ?aC ?Kf ?qU ?wI ?B9 ?Ai ?vx ?sX ?sY ?a8 ?l8 ?c8 ?k8 ?n8 ?vy ?vw ?E1 ?vv ?B7 ?wJ ?yt ?Ki ?Kb ?Kd ?Kh ?EY ?EX ?a22 ?Uh ?Ve ?Uo ?sZ ?qj ?tj ?Ke ?EZ ?Kc ?Kg ?Aj ?B8 ?E2 ?a33 ?Yx ?c33 ?YH ?XN ?XQ ?XM ?XR ?XJ ?XI ?Bz ?BB ?xG ?BC ?zr ?BA ?xI ?xH ?DV ?WS ?wV ?z0 ?z1 ?z2 ?z3 ?z4 ?z5 ?z6 ?z7 ?z8 ?z9 ?AV ?GO ?Od ?Oc ?TC ?Tz ?WR
  (case aC=>k_is)
  (case a8=>k_is)
  (case l8=>k_is)
  (case c8=>k_is)
  (case k8=>k_is)
  (case n8=>k_is)
  (case a22=>k_is)
  (case Uh=>k_is)
  (case Ve=>k_is)
  (case Uo=>k_is)
  (case a33=>k_is)
  (case Yx=>k_is)
  (case c33=>k_is)
  (case YH=>k_is)
  (case XN=>k_is)
  (case XQ=>k_is)
  (case XM=>k_is)
  (case XR=>k_is)
  (case XJ=>k_is)
  (case XI=>k_is)
  (case Bz=>k_is)
  (case BB=>k_is)
  (case xG=>k_is)
  (case BC=>k_is)
  (case zr=>k_is)
  (case BA=>k_is)
  (case xI=>k_is)
  (case xH=>k_is)
  (case DV=>k_is)
  (case WS=>k_exc)
  (case wV=>kts_exm)
  (case z0=>k_is)
  (case z1=>k_is)
  (case z2=>k_is)
  (case z3=>k_is)
  (case z4=>k_is)
  (case z5=>k_is)
  (case z6=>k_is)
  (case z7=>k_is)
  (case z8=>k_is)
  (case z9=>k_is)
  (case AV=>k_is)
  (case GO=>k_is)
  (case Od=>k_is)
  (case Oc=>k_is)
  (case TC=>k_is)
  (case Tz=>k_is)
  (case WR=>k_is)
  all_goals first|(refine' a5.dm KX G ?a ?l ?c ?k ?b; (case a=>k_is); (case l=>k_is); (case c=>k_is); (case k=>k_is); (case b=>(intro _ _ _ _ _ _ us hl;first | exact a5.fk (fun _=>O) us hl | exact a5.eW (fun _ _=>O) us hl | exact a5.fj (fun _ _ _=>O) us hl | exact a5.fi (fun _ _ _ _=>O) us hl | exact a5.eV (fun _ _ _ _ _=>O) us hl)))|(refine' a5.Jz ?a ?l ?c ?k ?n ?b; (case a=>k_is); (case l=>k_is); (case c=>k_is); (case k=>k_is); (case n=>k_is); (case b=>(intro _ _ _ _ _ _ us hl;first | exact a5.fk (fun _=>O) us hl | exact a5.eW (fun _ _=>O) us hl | exact a5.fj (fun _ _ _=>O) us hl | exact a5.fi (fun _ _ _ _=>O) us hl | exact a5.eV (fun _ _ _ _ _=>O) us hl)))
#print axioms PySem.Challenge.cw_samewise_k27_whole_papers_holds
