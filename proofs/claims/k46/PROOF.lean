import PyProof.Rows.All
import Wide.All
import OpenK.AllK
import Wide.FinOn
import Lean
import PyProof.EqAt
import PyProof.EqKinds
import PyProof.TupleCall
import KE.KTryMore
import KE.KIntText
import KE.RegKTryMore
import PySem.Challenge.RW_samewise_k46_whole_matches
set_option Elab.async false
set_option linter.all false
open Array renaming length_toList → bq, toList_append → cF, toList_push → cI, toList_extract → fS, perm_iff_toList_perm → gF, mk → iL, extract_eq_empty_of_le → iM, getElem?_eq_some_iff → ja, eq_empty_of_size_eq_zero → jS, getElem?_toList → kG, toList_reverse → lh, getElem?_setIfInBounds_ne → oC, forIn_toList → qW, toList_setIfInBounds → rf, toList_inj → sW, append_empty → yV, append_assoc → yW
open Array.Perm renaming refl → t4
open Bool renaming false_ne_true → bx, false_eq_true → eG, and_eq_true_iff → fQ, and_eq_true → lg, not_true → lB, eq_iff_iff → pC, or_eq_true → Co
open Classical renaming propDecidable → jI
open False renaming elim → fO
open ForInStep renaming yield → mh
open Int renaming emod_lt_of_pos → bp, emod_nonneg → bI, toNat_natCast → bR, le_refl → gW, toNat_of_nonneg → iE, le_trans → iR, lt_of_lt_of_le → mR, toNat → oB, ofNat_lt → yF, lt_of_le_of_lt → yG
open List renaming getElem?_eq_some_iff → ah, getElem?_eq_getElem → ai, length_map → aj, length_append → au, mem_singleton → av, getElem?_map → aH, mem_cons_of_mem → aI, map_cons → aJ, mem_of_getElem? → aK, mem_cons → aN, size_toArray → aR, mem_cons_self → aU, append_assoc → aV, replicate → aX, mem_append → bg, getD_eq_getElem?_getD → br, mem_map → bu, length_take → bA, length_cons → bB, mem_append_right → bE, take_length → bG, take_add_one → bQ, Pairwise → bV, map_append → cf, append_nil → cg, range → cu, mem_flatMap → cH, length_singleton → cP, cons_append → cU, take_append_drop → c6, getElem?_append_right → dk, mem_singleton_self → dq, map_nil → du, nil_append → dB, map_map → dF, nodup_cons → dO, eq_nil_of_length_eq_zero → dU, map_congr_left → dW, getElem?_eq_none → d7, mem_filter → eg, find?_cons → eC, mem_append_left → eO, length_drop → eP, getElem?_of_mem → eQ, length_range → fb, length_replicate → fk, mem_filterMap → fC, take_zero → fM, mem_of_mem_take → fN, pairwise_singleton → fV, length_eq_zero_iff → fW, nodup_append → fZ, replicate_succ → gp, filterMap_cons → gu, take_of_length_le → gB, lookup_cons → gJ, getElem?_append_left → gR, mem_of_mem_drop → ie, pairwise_map → ij, flatten_cons → ik, ext_getElem? → il, nodup_nil → iI, mem_range → iJ, length_filter_le → iW, any_cons → i6, drop_eq_getElem_cons → jj, length → jq, not_mem_nil → jB, getElem?_take_of_lt → jC, eraseIdx_cons_succ → jH, length_nil → jP, flatMap_cons → j6, pairwise_flatMap → kE, getElem?_concat_length → kJ, getElem_mem → k4, lookup → lM, reverse_append → lO, getElem?_range → lP, flatMap_append → lQ, pairwise_iff_getElem → md, mem_of_find?_eq_some → me, pairwise_cons → mP, filter_append → mQ, take_sublist → ng, drop_of_length_le → nF, mem_reverse → nW, filter_cons → nX, all_eq_true → nY, perm_append_comm → oy, mem_iff_getElem? → oz, filterMap_append → oA, of_mem_zip → pe, extract → pf, drop_zero → qb, map_id → qr, getElem?_drop → qS, sum_cons → qZ, zipIdx_cons → sQ, length_filterMap_le → sR, getElem?_replicate → sY, forIn_cons → tV, foldl_cons → tW, pairwise_lt_range → uu, length_pos_of_mem → uw, getElem?_set_self → ux, drop_eq_nil_of_le → uy, set_append_right → vk, pairwise_append → wy, getElem?_set_ne → wz, dropLast_concat → wA, take_succ_cons → w5, mem_replicate → yz, getElem?_take → yA, getElem_take → zr, foldl_append → zt, perm_middle → AH, nodup_range → AI, any_toArray → AJ, zipIdx_nil → B9, range_succ → Ca, foldl → Cb, forIn_nil → Dg
open List.Pairwise renaming imp_of_mem → d8, nil → f6, filter → jk, sublist → kF
open List.Perm renaming append_left → fm, append_right → jY, trans → mf, refl → qd, of_eq → Cc
open List.cons renaming injEq → jQ
open Nat renaming le_refl → ao, le_trans → aF, zero_le → aS, lt_of_lt_of_le → bK, ne_of_lt → bP, zero_add → cO, min_eq_left → dj, le_of_eq → dt, mul_le_mul_right → eM, lt_irrefl → eU, le_of_lt → fA, le_add_right → fB, add_assoc → gE, pow_le_pow_right → ic, ne_of_gt → jA, add_sub_cancel_left → jG, lt_succ_of_lt → j5, min_eq_right → kY, max_eq_right → kZ, le_succ → lL, max_eq_left → l9, sub_zero → mK, lt_succ_iff_lt_or_eq → mL, le_total → mM, add_zero → mN, lt_succ_self → nU, not_lt_zero → o9, pow_le_pow_left → pI, lt_of_le_of_lt → qQ, eq_zero_or_pos → qR, sub_self → yt, add_sub_cancel → yu, le_succ_of_le → zq, pow_add → zQ, one_mul → zR, le_add_left → B8
open Nat.succ renaming inj → mJ
open Ne renaming symm → dh
open Option renaming map_eq_some_iff → bS, isSome_iff_exists → d6, isSome_map → j4, map_some → l7, map_eq_none_iff → ur, getD_none → AE, bind_some → AF
open Option.some renaming inj → aB
open Or renaming inl → aP
open Prod.mk renaming injEq → Eo
open PyProof.Rows renaming callWith_type1 → gk
open PyProof.Rows.SortSt renaming mk' → fh
open PySem renaming boot_len → bD, mem_of_lookup → jE, Within → sL, evalArgs_none → w4, Fin → Ea
open PySem.Around renaming under_plainId → wG, under → yX
open PySem.Builtin.Int renaming intBits → w8
open PySem.Builtin.List renaming listTooLong → jD
open PySem.Builtin.Range renaming rangeSize → sZ
open PySem.Builtin.SmallTypes renaming nextOf → dS, ownedTupleIsFree → fP, ownedTupleHandOut → mT, stopIteration → AQ
open PySem.Builtin.Str renaming strSliceIndices → qV
open PySem.Builtin.Tuple renaming tupleHashOf → fj
open PySem.Calls renaming callWith_builtin → gC, spliced_cons → iS, evalArgs_plain → k7, spliced_nil → nq, Name_function_global → q8
open PySem.Challenge renaming rw_samewise_k46_whole_matches → aq, pw_samewise_k46_whole_matches → jO
open PySem.Code renaming isFrame → yR
open PySem.Data renaming cell → tZ, fields → zY
open PySem.EntryCells renaming newEntry → w6
open PySem.F renaming plainAttrs_list → bL, type_list_append → cw, slot_list_append → cx, slot_dict_setdefault → iH, slot_tuple_iterator_next → i9, plainAttrs_dict → jF, type_list_extend → mH, slot_list_extend → mI, slot_tuple_hash → nj, args_dict_setdefault_3 → o8, slot_zip_next → pB, entry_dict_setdefault → pD, type_dict_setdefault → p9, args_tuple_iterator_next_1 → qe, entry_tuple_iterator_next → qU, slot_dict_values → sM, type_list_pop → vg, slot_list_pop → vh, slot_dict_get → vi, slot_list_lt → wu, args_zip_next_1 → zu
open PySem.Heap renaming get?_push_of_some → aA, lt_size → aW, get?_push_size → bh, SameBut → cQ, get?_update_other → e6, size_push → iK, get?_update_self → iX, get?_none_of_le → k6, FlyingW → pA, ExtBut → zV
open PySem.Heap.SameBut renaming update → dG
open PySem.NameKind renaming free → eV
open PySem.Obj renaming data_mapFields → gQ, mapSeq → iN, mapFields → nM, isFreed_of_fields → ox, data_mapDictKeys → wx, cls_mapFields → zo
open PySem.Paired renaming length → bJ, snoc → lK
open PySem.PassesOwn renaming never → cy, leaving → rA
open PySem.SeqAt renaming EqAt → oZ
open PySem.SeqAt.EqAt renaming int_int → yq, same → yK, of_refs → yL
open PySem.Str renaming length_append → j3, ofString → ky, length → wq
open PySem.Txt renaming slice → cN, slice_le → hV
open PySem.Value renaming ref → bf, none → fJ, type → gD, bool → jN, int → ow, str → qN, float → zN, isStrOf → En
open PySem.Value.type renaming inj → js
open PySem.W renaming Frag → ak, mg_none_of → cD, findIn → cW, nsIn → de, fnOf → dr, kia_one → d9, keepIn → eZ, emptyDict → e9, codeIn → gP, instObj → hZ, kitOne → jt, plainGet → kW, hasDictIn → nc, isFn → o7, plainGet_of → pG, lookIn → p8, callWith_K → qO, plainOver → rp, methodObj → rq, takerIn → tS, makesIn → tT, cellsFrom_some → uq, mg_of → wX, kitx_list → zk, kitx_dict → zm, handedIn → AD, OpenLaw → B6, KeqHits → B7
open PySem.W.KeqHits renaming hit → Lv
open PySem.W.RowW renaming records → sJ
open PySem.W.SharedT renaming abs → HC
open PySem.W.WData renaming int → tR, weight → yp, weightAll → BW, list → BX
open Sum renaming inr → ig, inl → iV
open Sum.inl renaming injEq → wW, inj → zP
open Sum.inr renaming injEq → wV, inj → zO
open True renaming intro → fg
noncomputable section
namespace ZZ
open PySem PySem.W PySem.Calls PyProof.Rows
theorem MK {p q:Program}{loose:List Str}{Xt:Shared->Bool}{α : Type}{Yf:Shared -> α}{Ya:World -> α}{N:Nat} (e:opening p=plainProg p.main.scope.names) (hN:Nat.ble 600 N=true) (f:∀ s,fenceModules? p s=some s)
  (h:∀ (w:World) (os:OsState),(topFrom treeTable p w N ⟨boot_heap w.params,iL [],boot_drawn,boot_toks,os⟩).map (fun s=>(openSeen q loose (importedModules p.main.body) Xt true s,Yf s))=some (openGood q loose,Ya w)):LeftO p q loose Xt Yf Ya N:=fun w=>by
 obtain⟨⟨hp,gs,d,k,os⟩,e1,e2⟩:=bS.mp (boot_open e hN f w)
 have e3:hp=boot_heap w.params∧gs=iL []∧d=boot_drawn∧k=boot_toks:=by simpa only [Eo] using e2
 obtain⟨z1,z2,z3,z4⟩:=e3
 subst z1 z2 z3 z4
 unfold openEnds
 rw[e1]
 exact h w os
def Xv {α : Type} (l:List α) (is:List Nat):List α := is.filterMap fun i=>l[i]?
def Ue:Program:=jO
def view:Program := { Ue with main := { Ue.main with body:=Xv Ue.main.body [1,2,3,4,5,6,8,9,10,11,13,14,15,16,17,18,19,20,21,22,23,24,25,26,27,28] } }
theorem kQ {α β γ : Type}{x:Option α}{f : α -> β}{g : α -> γ}{a : β}{b : γ} (h1:x.map f=some a) (h2:x.map g=some b):x.map (fun s=>(f s,g s))=some (a,b):=by
 cases x with
 | none=>cases h1
 | some s=>cases h1;cases h2;rfl
theorem y9 {α β γ : Type}{x:Option α}{f : α -> β}{g : α -> γ}{a : β}{b : γ} (h:x.map (fun s=>(f s,g s))=some (a,b)):x.map f=some a:=by
 cases x with
 | none=>cases h
 | some s=>cases h;rfl
theorem lG {α β γ : Type}{x:Option α}{f : α -> β}{g : α -> γ}{a : β}{b : γ} (h:x.map (fun s=>(f s,g s))=some (a,b)):x.map g=some b:=by
 cases x with
 | none=>cases h
 | some s=>cases h;rfl
theorem SW {α : Type}{x:Option α}{a b c d e f g : α -> Bool} (h1:x.map a=some true) (h2:x.map (fun s=>b s && c s && d s && e s && f s && g s)=some true):x.map (fun s=>a s && b s && c s && d s && e s && f s && g s)=some true:=by
 cases x with
 | none=>cases h1
 | some s =>
  have e1:a s=true:=aB h1
  have e2:(b s && c s && d s && e s && f s && g s)=true:=aB h2
  simp only[lg]at e2
  show some (a s && b s && c s && d s && e s && f s && g s)=some true
  simp only[e1,e2,Bool.and_self]
def T0 (P:Params):BT:=(((((((((((BT.nil.ins 0 (boot_o_0 P)).ins 1 (boot_o_1 P)).ins 2 (boot_o_2 P)).ins 3 (boot_o_3 P)).ins 4 (boot_o_4 P)).ins 5 (boot_o_5 P)).ins 6 (boot_o_6 P)).ins 7 (boot_o_7 P)).ins 8 (boot_o_8 P)).ins 9 (boot_o_9 P)).ins 10 (boot_o_10 P))
theorem TX (P:Params):absHeap (T0 P) 11 (boot_heap P).life=boot_heap P:=by kernel_rfl
theorem Sh (P:Params):((boot_heap P).isNs mainGlobals,(boot_heap P).objs.size,(boot_heap P).nsMap mainGlobals "__annotations__")=(true,11,some (.ref 6)):=by kernel_rfl
def Kt (tb:String->Option Builtin) (p:Program) (w:World) (vP : Nat) (BS:Option Value) (N:Nat):SharedT->Thread->Option SharedT :=
 Nat.rec (motive:=fun _=>SharedT->Thread->Option SharedT) (fun _ _=>none) (fun _ ih s t=>match through t with
  | true=>some s
  | false=>match stepOk vP BS t with
   | false=>none
   | true=>match stepT (denote tb) p w s t with
    | some (s',t')=>ih s' t'
    | none=>none) N
theorem L9 {tb:String->Option Builtin}{p:Program}{w:World}{vP : Nat}{BS:Option Value}{n:Nat}{s:SharedT}{t:Thread}:Kt tb p w vP BS (n+1) s t=(match through t with
  | true=>some s
  | false=>match stepOk vP BS t with
   | false=>none
   | true=>match stepT (denote tb) p w s t with
    | some (s',t')=>Kt tb p w vP BS n s' t'
    | none=>none):=rfl
theorem Ij {tb:String->Option Builtin}{p:Program}{w:World}{vP : Nat}{BS:Option Value}:∀ {n:Nat} {s s':SharedT}{t:Thread},Kt tb p w vP BS n s t=some s'->topRun tb p w vP BS n s.abs t=some s'.abs
 | 0,_,_,_,h=>by cases h
 | n+1,s,s',t,h=>by
  rw[L9]at h
  unfold topRun
  cases he:through t with
  | true=>rw[he]at h;cases h;rfl
  | false =>
   rw[he]at h
   cases hk:stepOk vP BS t with
   | false=>rw[hk]at h;cases h
   | true =>
    rw[hk]at h
    cases hs:stepT (denote tb) p w s t with
    | none=>rw[hs]at h;cases h
    | some r=>obtain⟨nO,aeI⟩:=r;rw[hs]at h;rw[stepT_spec hs];exact Ij h
def ud (p:Program) (w:World) (N:Nat) (os:OsState):Option SharedT:=Kt treeTable p w 11 (some (.ref 6)) N ⟨T0 w.params,11,(boot_heap w.params).life,iL [],boot_drawn,boot_toks,os⟩ (topStub p)
theorem su {p:Program}{w:World}{N:Nat}{os:OsState}{α : Type}{F:Shared -> α}{G : α} (hc:(ud p w N os).map (fun s=>staticsOk (importedModules p.main.body) (boot_heap w.params) s.abs.heap && namesBound p s.abs.heap && gensDone s.abs && laidKept (boot_heap w.params) s.abs.heap)=some true) (h:(ud p w N os).map (fun s=>F s.abs)=some G) :
  (topFrom treeTable p w N ⟨boot_heap w.params,iL [],boot_drawn,boot_toks,os⟩).map F=some G:=by
 cases hr:ud p w N os with
 | none=>rw[hr]at h;cases h
 | some s =>
  rw[hr]at h hc
  have e1:F s.abs=G:=aB h
  have e2:(staticsOk (importedModules p.main.body) (boot_heap w.params) s.abs.heap && namesBound p s.abs.heap && gensDone s.abs && laidKept (boot_heap w.params) s.abs.heap)=true:=aB hc
  have r:=Ij hr
  have ea:(HC ⟨T0 w.params,11,(boot_heap w.params).life,iL [],boot_drawn,boot_toks,os⟩)=⟨boot_heap w.params,iL [],boot_drawn,boot_toks,os⟩:=by
   unfold HC
   dsimp only
   rw[TX]
  rw[ea]at r
  obtain⟨z1,z2,z3⟩:_∧_∧_:=by simpa only [Eo] using Sh w.params
  have t:topFrom treeTable p w N ⟨boot_heap w.params,iL [],boot_drawn,boot_toks,os⟩=some s.abs:=by
   unfold topFrom
   dsimp only
   rw[z1,z2,z3,r]
   show (match staticsOk (importedModules p.main.body) (boot_heap w.params) s.abs.heap && namesBound p s.abs.heap && gensDone s.abs && laidKept (boot_heap w.params) s.abs.heap with | true=>_ | false=>_)=_
   rw[e2]
  rw[t]
  exact congrArg some e1
set_option maxRecDepth 100000 in
set_option maxHeartbeats 0 in
theorem GX (w:World) (os:OsState):(ud aq.prog w 2366 os).map (fun s=>staticsOk (importedModules aq.prog.main.body) (boot_heap w.params) s.abs.heap && namesBound aq.prog s.abs.heap && gensDone s.abs && laidKept (boot_heap w.params) s.abs.heap)=some true:=by kernel_rfl
set_option maxRecDepth 100000 in
set_option maxHeartbeats 0 in
theorem q0T (w:World) (os:OsState):(ud aq.prog w 2366 os).map (fun s=>seen ((recsOf view).map (·.name)) (ownsOf view) [] { s.abs with gens := #[] })=some (expectedOf view):=by kernel_rfl
set_option maxRecDepth 100000 in
set_option maxHeartbeats 0 in
theorem qaT (w:World) (os:OsState):(ud aq.prog w 2366 os).map (fun s=>(s.abs.heap.bltView,s.abs.heap.accountedOkI (importedModules aq.prog.main.body) && s.abs.heap.isNs mainGlobals && s.abs.heap.isNs builtinsNs && tablesOk view s.abs.heap && (xlAt view [] s.abs && recOk (sJ aq.row.toRowW) s.abs) && (if true then s.abs.gens.size == 0 else !leftWithCleanup s.abs.gens),pinSeenD view (drecsOf view) s.abs,plainSeenD view [] s.abs,clsSeenW view [] s.abs))=some ((bltViewBooted,true,pinGoodD (drecsOf view),plainGoodD view [],clsGoodW view [])):=by kernel_rfl
set_option maxRecDepth 100000 in
set_option maxHeartbeats 0 in
theorem q2T (w:World) (os:OsState):(ud aq.prog w 2366 os).map (fun s=>s.abs.heap.keysOk (looseW view []) ((recsOf view).map (·.name)) ((litsOf view).map (·.1)) ((clssOf view (looseW view [])).map (·.name)))=some (true):=by kernel_rfl
set_option maxRecDepth 100000 in
set_option maxHeartbeats 0 in
theorem q3T (w:World) (os:OsState):(ud aq.prog w 2366 os).map (fun s=>tabsOk view s.abs)=some (true):=by kernel_rfl
set_option maxRecDepth 100000 in
set_option maxHeartbeats 0 in
theorem q5T (w:World) (os:OsState):(ud aq.prog w 2366 os).map (fun s=>plainSeenE view (looseW view []) s.abs)=some (plainGoodE view (looseW view [])):=by kernel_rfl
set_option maxRecDepth 100000 in
set_option maxHeartbeats 0 in
theorem q7T (w:World) (os:OsState):(ud aq.prog w 2366 os).map (fun s=>wideSeen view s.abs)=some (wideGood view):=by kernel_rfl
theorem q0 (w:World) (os:OsState):(topFrom treeTable aq.prog w 2366 ⟨boot_heap w.params,iL [],boot_drawn,boot_toks,os⟩).map (fun s=>seen ((recsOf view).map (·.name)) (ownsOf view) [] { s with gens := #[] })=some (expectedOf view):=su (GX w os) (q0T w os)
theorem qa (w:World) (os:OsState):(topFrom treeTable aq.prog w 2366 ⟨boot_heap w.params,iL [],boot_drawn,boot_toks,os⟩).map (fun s=>(s.heap.bltView,s.heap.accountedOkI (importedModules aq.prog.main.body) && s.heap.isNs mainGlobals && s.heap.isNs builtinsNs && tablesOk view s.heap && (xlAt view [] s && recOk (sJ aq.row.toRowW) s) && (if true then s.gens.size == 0 else !leftWithCleanup s.gens),pinSeenD view (drecsOf view) s,plainSeenD view [] s,clsSeenW view [] s))=some ((bltViewBooted,true,pinGoodD (drecsOf view),plainGoodD view [],clsGoodW view [])):=su (GX w os) (qaT w os)
theorem q2 (w:World) (os:OsState):(topFrom treeTable aq.prog w 2366 ⟨boot_heap w.params,iL [],boot_drawn,boot_toks,os⟩).map (fun s=>s.heap.keysOk (looseW view []) ((recsOf view).map (·.name)) ((litsOf view).map (·.1)) ((clssOf view (looseW view [])).map (·.name)))=some (true):=su (GX w os) (q2T w os)
theorem q3 (w:World) (os:OsState):(topFrom treeTable aq.prog w 2366 ⟨boot_heap w.params,iL [],boot_drawn,boot_toks,os⟩).map (fun s=>tabsOk view s)=some (true):=su (GX w os) (q3T w os)
theorem q5 (w:World) (os:OsState):(topFrom treeTable aq.prog w 2366 ⟨boot_heap w.params,iL [],boot_drawn,boot_toks,os⟩).map (fun s=>plainSeenE view (looseW view []) s)=some (plainGoodE view (looseW view [])):=su (GX w os) (q5T w os)
theorem q7 (w:World) (os:OsState):(topFrom treeTable aq.prog w 2366 ⟨boot_heap w.params,iL [],boot_drawn,boot_toks,os⟩).map (fun s=>wideSeen view s)=some (wideGood view):=su (GX w os) (q7T w os)
theorem TZ (w:World) (os:OsState):(topFrom treeTable aq.prog w 2366 ⟨boot_heap w.params,iL [],boot_drawn,boot_toks,os⟩).map (fun s=>openSeen view [] (importedModules aq.prog.main.body) (fun s=>xlAt view [] s && recOk (sJ aq.row.toRowW) s) true s)=some (openGood view []) :=
 kQ (q0 w os) (kQ (y9 (qa w os)) (kQ (SW (q2 w os) (y9 (lG (qa w os)))) (kQ (q3 w os) (kQ (y9 (lG (lG (qa w os)))) (kQ (q5 w os) (kQ (y9 (lG (lG (lG (qa w os))))) (kQ (q7 w os) (lG (lG (lG (lG (qa w os))))))))))))
local macro_rules | `(tactic| o_head $H) => `(tactic| (refine holds_open (q:=view) (loose := []) (Xt:=fun s=>xlAt view [] s && recOk (sJ aq.row.toRowW) s) (XP:=XL view []) (Yf:=Hook.obs $H) (Ya:=Hook.val $H) (YP:=Hook.says $H) (N:=2366) ?hl (Hook.of $H) (Hook.keeps $H) (fun s e=>xl_of s (fQ.mp e).1) XL.keeps (by rfl) (by rfl) (by rfl) (fun s e=>recFacts_of (fQ.mp e).2) (by rfl) (by first | assumption | decide +kernel) (by decide +kernel) ⟨rfl,rfl,rfl,rfl,rfl,by decide +kernel⟩ ?hw ?hc;case hl=>(refine MK (by rfl) (by decide) (fun s=>by rfl) ?_;intro w os;refine kQ (TZ w os) (su (GX w os) ?_);kernel_rfl)))
set_option maxRecDepth 100000 in
set_option maxHeartbeats 0 in
open_top top for aq
end ZZ
set_option Elab.async false
set_option linter.all false
set_option maxRecDepth 100000
set_option maxHeartbeats 4000000
namespace L2
open PySem PySem.Spec PyProof.Rows
abbrev Key:=Sum Int Str
def vR:Key->Value->Bool
 | .inl k,v=>Value.isInt k v
 | .inr x,v=>En x v
def aaQ (w:World):Key->Int
 | .inl k=>hashInt k
 | .inr x=>hashStr w x
theorem eW:∀ {k:Key}{v:Value},vR k v=true->(∃ i t,k=iV i∧v=ow i t)∨(∃ x t,k=ig x∧v=qN x t)
 | .inl i,v,h=>by
  obtain⟨t,e⟩:=Value.isInt_shape (k:=i) (v:=v) h
  exact .inl ⟨i,t,rfl,e⟩
 | .inr x,v,h=>by
  obtain⟨t,e⟩:=Value.isStrOf_shape (x:=x) (v:=v) h
  exact .inr ⟨x,t,rfl,e⟩
theorem MT (i:Int) (t:Tok):vR (.inl i) (.int i t)=true:=by simp[vR,Value.isInt]
theorem MS (x:Str) (t:Tok):vR (.inr x) (.str x t)=true:=by simp[vR,En]
theorem UN (a b:Int):decide ((iV a:Key)=iV b)=(a == b):=by
 by_cases e:a=b
 ·subst e;simp
 ·have h:¬ (iV a:Key)=iV b:=fun q=>e (zP q)
  rw[decide_eq_false h]
  exact(beq_eq_false_iff_ne.mpr e).symm
theorem UK (a b:Str):decide ((ig a:Key)=ig b)=decide (a=b):=by
 by_cases e:a=b
 ·subst e;simp
 ·have h:¬ (ig a:Key)=ig b:=fun q=>e (zO q)
  rw[decide_eq_false h,decide_eq_false e]
theorem UM (a:Int) (b:Str):decide ((iV a:Key)=ig b)=false:=decide_eq_false (fun q=>nomatch q)
theorem UL (a:Str) (b:Int):decide ((ig a:Key)=iV b)=false:=decide_eq_false (fun q=>nomatch q)
def dg (prog:Program) (w:World):PySem.KeyKind prog w Key where
 is:=vR
 hash:=aaQ w
 inj:=fun v a b ha hb=>by
  rcases eW ha with⟨i,t,rfl,rfl⟩ | ⟨x,t,rfl,rfl⟩
  ·rcases eW hb with⟨j,u,rfl,e⟩ | ⟨y,u,rfl,e⟩
   ·injection e with e1 _;rw[e1]
   ·exact nomatch e
  ·rcases eW hb with⟨j,u,rfl,e⟩ | ⟨y,u,rfl,e⟩
   ·exact nomatch e
   ·injection e with e1 _;rw[e1]
 byValue:=fun k v h=>by
   rcases eW h with⟨i,t,rfl,rfl⟩ | ⟨x,t,rfl,rfl⟩ <;> rfl
 pyHash:=fun hv h=>by
  rcases eW hv with⟨i,t,rfl,rfl⟩ | ⟨x,t,rfl,rfl⟩
  ·exact wpAny_pyHash_int h
  ·exact wpAny_pyHash_str h
 eqBool:=fun hu hv h=>by
  rcases eW hu with⟨i,t,rfl,rfl⟩ | ⟨x,t,rfl,rfl⟩
  ·rcases eW hv with⟨j,u,rfl,rfl⟩ | ⟨y,u,rfl,rfl⟩
   ·rw[UN]at h;exact wpAny_eqBool_int h
   ·rw[UM]at h;exact oZ.int_str i t y u _ _ _ _ h
  ·rcases eW hv with⟨j,u,rfl,rfl⟩ | ⟨y,u,rfl,rfl⟩
   ·rw[UL]at h;exact oZ.str_int x t j u _ _ _ _ h
   ·rw[UK]at h;exact wpAny_eqBool_str h
 «strs» := fun k x t v h=>by
  rcases eW h with⟨i,u,rfl,e⟩ | ⟨y,u,rfl,e⟩
  ·exact nomatch e
  ·injection e with e1 _
   subst e1
   cases v <;> rfl
theorem Hy (prog:Program) (w:World) (i:Int) (t:Tok):(dg prog w).is (.inl i) (.int i t)=true:=MT i t
theorem Hx (prog:Program) (w:World) (x:Str) (t:Tok):(dg prog w).is (.inr x) (.str x t)=true:=MS x t
inductive V where
 | df | bl (b:Bool) | int (i:Int) | str (x:Str) | wU (b:Array UInt8) | GC (b:UInt64) | ref (a:Addr) | ty (n:String)
 deriving DecidableEq
def RelV:V->Value->Prop
 | .df,u=>u=fJ
 | .bl b,u=>u=jN b
 | .int i,u=>∃ t,u=ow i t
 | .str x,u=>∃ t,u=qN x t
 | .wU b,u=>∃ t,u=Value.bytes b t
 | .GC b,u=>∃ t,u=zN b t
 | .ref a,u=>u=bf a
 | .ty n,u=>u=gD n
abbrev Vals:List V->List Value->Prop:=Paired RelV
theorem Vals.length {xs:List V}{us:List Value} (r:Vals xs us):xs.length=us.length:=bJ r
theorem Vals.get:∀ {xs:List V}{us:List Value}{i:Nat}{x:V},Vals xs us->xs[i]? = some x->∃ u,us[i]? = some u∧RelV x u
 | _,_,_,_,.nil,e=>by simp at e
 | _,_,0,_,.cons r _,e=>by simp at e;subst e;exact⟨_,rfl,r⟩
 | _,_,i+1,x,.cons _ t,e=>by
  obtain⟨u,h1,h2⟩:=Vals.get (i:=i) (x:=x) t (by simpa using e)
  exact⟨u,by simpa using h1,h2⟩
theorem Vals.set {x:V}{u:Value} (r:RelV x u):∀ {xs:List V}{us:List Value} (i:Nat),Vals xs us->Vals (xs.set i x) (us.set i u)
 | _,_,_,.nil => .nil
 | _,_,0,.cons _ t => .cons r t
 | _,_,i+1,.cons q t => .cons q (Vals.set r i t)
theorem Vals.append:∀ {xs ys:List V}{us ws:List Value},Vals xs us->Vals ys ws->Vals (xs ++ ys) (us ++ ws)
 | _,_,_,_,.nil,s=>s
 | _,_,_,_,.cons r t,s => .cons r (Vals.append t s)
theorem Vals.take:∀ {xs:List V}{us:List Value} (n:Nat),Vals xs us->Vals (xs.take n) (us.take n)
 | _,_,0,_ => .nil
 | _,_,_+1,.nil => .nil
 | _,_,n+1,.cons r t => .cons r (Vals.take n t)
theorem Vals.drop:∀ {xs:List V}{us:List Value} (n:Nat),Vals xs us->Vals (xs.drop n) (us.drop n)
 | _,_,0,r=>r
 | _,_,_+1,.nil => .nil
 | _,_,n+1,.cons _ t=>Vals.drop n t
def kU:Option V->Option Value->Prop
 | some v,some u=>RelV v u
 | none,none=>True
 | _,_=>False
def KV {κ : Type}:List (κ × V)->List (κ × Value)->Prop:=Paired fun (p : κ × V) (q : κ × Value)=>p.1=q.1∧RelV p.2 q.2
def kV:Key->V
 | .inl i => .int i
 | .inr x => .str x
inductive HO where
  | lst (xs:List V)
  | tup (xs:List V)
  | dK (kvs:List (Key × V)) | dT (kvs:List (List Key × V))
  | set (S:Int->Bool) (n:Nat)
  | ins (C dx:Addr) (fs:List (Str × V))
  | own (x:Addr)
  | xd (fs:List (Str × V))
  | met (f x:Addr)
  | xB (lo hi:Int)
  | sr (o:Obj) (u:HO)
  | nu (ps:Array Value)
  | ext (φ : Heap->Prop)
abbrev Hp:=Addr->Option HO
def aG (H:Hp) (a:Addr) (o:HO):Hp:=fun b=>if b=a then some o else H b
theorem ay {H:Hp}{a:Addr}{o:HO}:aG H a o a=some o:=by unfold aG;rw[if_pos rfl]
theorem aD {H:Hp}{a b:Addr}{o:HO} (h:b≠a):aG H a o b=H b:=by unfold aG;rw[if_neg h]
theorem Cr {H:Hp}{a:Addr}{o u:HO}:aG (aG H a o) a u=aG H a u:=by
 funext b;unfold aG;split <;> rfl
theorem cX {H:Hp}{a b:Addr}{o u:HO} (h:H a=some o) (h':H b=some u) (d:o≠u):a≠b:=by
 intro e;subst e;rw[h]at h';exact d (aB h')
theorem bM {H:Hp}{a b:Addr}{o:HO} (h:H a=some o) (h':H b=none):a≠b:=by
 intro e;subst e;rw[h]at h';cases h'
def vq (h:Heap) (a:Addr) (dA:Array Value):Prop := ∃ o,h.get? a=some o∧o.cls = .type "tuple" ∧ ∃ n,o.data = .seq dA n∧o.dict=none
theorem vq.tup {h:Heap}{a:Addr}{dA:Array Value} (x:vq h a dA):IsTup h a dA:=let ⟨o,e,c,n,d,_⟩:=x; ⟨o,e,c,n,d⟩
theorem vq.new (h:Heap) (dA:Array Value):vq (h.push { cls := .type "tuple",data := .seq dA }) h.objs.size dA:=⟨_,bh _ rfl,rfl,_,rfl,rfl⟩
section
variable (P:Program) (w:World)
def cR (H:Hp) (h:Heap) (a:Addr):HO->Prop
 | .lst xs=>xs.length<=sizeLine∧∃ (its:List Value) (n:Nat),Vals xs its∧h.get? a=some { cls := .type "list",data := .seq its.toArray n }
 | .tup xs=>xs.length<=sizeLine∧∃ its:List Value,Vals xs its∧vq h a its.toArray
 | .dK kvs=>kvs.length<=sizeLine∧(a == sysModules)=false∧∃ vs,KV kvs vs∧h.DictOf (dg P w) a vs
 | .dT kvs=>kvs.length<=sizeLine∧(a == sysModules)=false∧∃ xs:List (List Key × Addr × Value),
   Paired (fun (p:List Key × V) (q:List Key × Addr × Value)=>p.1=q.1∧H q.2.1=some (.tup (p.1.map kV))∧RelV p.2 q.2.2) kvs xs ∧
   ∃ o es ep,h.get? a=some o∧o.ExactDict∧o.data = .dict es ep∧es.toList=xs.map (entryOfKey (tupleKind (dg P w)))∧(xs.map (·.1)).Nodup
 | .set S n=>h.SetOf (intKind P w) a S n
 | .ins C dx fs=>H dx=some (.own a)∧fs.length<=1000∧dx≠a∧h.get? a=some (hZ C dx) ∧
   ∃ mA,h.Ns1 dx mA∧(∀ f,kU (fs.lookup f) (mA f))∧sL mA (fs.map (·.1))
 | .own _=>∃ o,h.get? a=some o
 | .xd fs=>∃ mA,h.Ns1 a mA∧∀ f,kU (fs.lookup f) (mA f)
 | .xB lo hi=>∃ t u v,h.get? a=some { cls := .type "range",data := .fields #[.int lo t,.int hi u,.int 1 v] }
 | .sr o u=>h.get? a=some o∧cR H h a u
 | .nu ps=>h.get? a=some { cls := .none,data := .fields ps }
 | .met f x=>h.get? a=some (rq (.ref f) (.ref x))
 | .ext φ => φ h∧(∃ o,h.get? a=some o)∧∀ h1 h2:Heap, φ h1->(∀ o,h1.get? a=some o->h2.get? a=some o) -> φ h2
def ir (H:Hp) (h:Heap):Prop := ∀ a o,H a=some o->cR P w H h a o
end
section
variable {P:Program}{w:World} {H H':Hp} {h h':Heap}{a:Addr}{o:HO}
theorem cR.lt (x:cR P w H h a o):a < h.objs.size:=by
 cases o with
 | lst xs=>obtain⟨_,_,_,_,e⟩:=x;exact aW e
 | tup xs=>obtain⟨_,_,_,p⟩:=x;exact p.tup.lt
 | dK kvs=>obtain⟨_,_,_,_,o,_,_,e,_⟩:=x;exact aW e
 | dT kvs=>obtain⟨_,_,_,_,o,_,_,e,_⟩:=x;exact aW e
 | set S n=>obtain⟨o,_,_,_,e,_⟩:=x;exact aW e
 | ins C dx fs=>obtain⟨_,_,_,e,_⟩:=x;exact aW e
 | own y=>obtain⟨_,e⟩:=x;exact aW e
 | xd fs=>obtain⟨_,⟨_,_,_,e,_⟩,_⟩:=x;exact aW e
 | xB lo hi=>obtain⟨_,_,_,e⟩:=x;exact aW e
 | sr ob u=>obtain⟨e,_⟩:=x;exact aW e
 | nu ps=>exact aW (show h.get? a=some _ from x)
 | met f y=>exact aW (show h.get? a=some _ from x)
 | ext φ => obtain⟨_,⟨_,e⟩,_⟩:=x;exact aW e
theorem Paired.ug {α β : Type}{F G : α -> β -> Prop}:∀ {FE : List α}{FD : List β},Paired F FE FD -> (∀ a b,F a b->G a b)->Paired G FE FD
 | _,_,.nil,_ => .nil
 | _,_,.cons r t,f => .cons (f _ _ r) (Paired.ug t f)
theorem cR.vD (x:cR P w H h a o) (k:∀ b u,(b=a∨H b=some (.own a))->h.get? b=some u->h'.get? b=some u)
  (ho:∀ b,H b=some (.own a)->H' b=some (.own a)) (ht:∀ b xs,H b=some (.tup xs)->H' b=some (.tup xs)):cR P w H' h' a o:=by
 induction o with
 | lst xs=>obtain⟨z,its,n,r,e⟩:=x;exact⟨z,its,n,r,k _ _ (.inl rfl) e⟩
 | tup xs=>obtain⟨z,its,r,ob,e,c⟩:=x;exact⟨z,its,r,ob,k _ _ (.inl rfl) e,c⟩
 | dK kvs=>obtain⟨z,y,vs,r,ob,es,ep,e,c⟩:=x;exact⟨z,y,vs,r,ob,es,ep,k _ _ (.inl rfl) e,c⟩
 | dT kvs =>
  obtain⟨z,y,xs,r,ob,es,ep,e,c⟩:=x
  exact⟨z,y,xs,Paired.ug r fun p q z=>⟨z.1,ht _ _ z.2.1,z.2.2⟩,ob,es,ep,k _ _ (.inl rfl) e,c⟩
 | set S n=>obtain⟨ob,es,ep,t,e,c⟩:=x;exact⟨ob,es,ep,t,k _ _ (.inl rfl) e,c⟩
 | ins C dx fs =>
  obtain⟨d,z,ne,e,mA,⟨od,es,ep,e2,c⟩,r⟩:=x
  exact⟨ho _ d,z,ne,k _ _ (.inl rfl) e,mA,⟨od,es,ep,k _ _ (.inr d) e2,c⟩,r⟩
 | own y=>obtain⟨ob,e⟩:=x;exact⟨ob,k _ _ (.inl rfl) e⟩
 | xd fs=>obtain⟨mA,⟨od,es,ep,e,c⟩,r⟩:=x;exact⟨mA,⟨od,es,ep,k _ _ (.inl rfl) e,c⟩,r⟩
 | xB lo hi=>obtain⟨t,u,v,e⟩:=x;exact⟨t,u,v,k _ _ (.inl rfl) e⟩
 | sr ob u ih=>obtain⟨e,q⟩:=x;exact⟨k _ _ (.inl rfl) e,ih q⟩
 | nu ps =>
  have e:h.get? a=some { cls := .none,data := .fields ps }:=x
  show h'.get? a=some { cls := .none,data := .fields ps }
  exact k a _ (.inl rfl) e
 | met f y =>
  have e:h.get? a=some (rq (.ref f) (.ref y)):=x
  show h'.get? a=some (rq (.ref f) (.ref y))
  exact k a _ (.inl rfl) e
 | ext φ => obtain⟨p,⟨o,e⟩,st⟩:=x;exact⟨st _ _ p fun o q=>k _ _ (.inl rfl) q,⟨o,k _ _ (.inl rfl) e⟩,st⟩
theorem ir.lt (x:ir P w H h) (e:H a=some o):a < h.objs.size:=(x a o e).lt
theorem ir.fresh (x:ir P w H h) (e:h.objs.size<=a):H a=none:=by
 cases q:H a with
 | none=>rfl
 | some u=>exact absurd (bK (x.lt q) e) (eU _)
theorem ir.kept (x:ir P w H h) (k:∀ b u,h.get? b=some u->h'.get? b=some u):ir P w H h':=fun a o e =>
 (x a o e).vD (fun b u _ q=>k b u q) (fun _ q=>q) fun _ _ q=>q
theorem ir.laid (x:ir P w H h) (k:∀ b u,h.get? b=some u->h'.get? b=some u) (hp:h.objs.size<=a) (new:cR P w (aG H a o) h' a o):ir P w (aG H a o) h':=fun b u e=>by
 have hn:=x.fresh hp
 by_cases hb:b=a
 ·subst hb;rw[ay]at e;cases e;exact new
 ·rw[aD hb]at e
  exact(x b u e).vD (fun c v _ q=>k c v q) (fun c q=>by rw[aD (bM q hn)];exact q) fun c xs q=>by rw[aD (bM q hn)];exact q
end
def Rd (H:Hp) (a:Addr) (u:HO):Prop:=H a=some u∨∃ o,H a=some (.sr o u)
theorem Rd.ok {P:Program}{w:World}{H:Hp}{h:Heap}{a:Addr}{u:HO} (r:Rd H a u) (x:ir P w H h):cR P w H h a u:=by
 rcases r with r | ⟨o,r⟩
 ·exact x a u r
 ·obtain⟨_,q⟩:=x a _ r
  exact q
def Od:Option HO->Prop
 | some (.lst _)=>True
 | some (.dK _)=>True
 | some (.dT _)=>True
 | some (.set _ _)=>True
 | some (.ins _ _ _)=>True
 | some (.ext _)=>True
 | _=>False
section
variable {P:Program}{w:World}{H:Hp} {h h':Heap}{x e:Addr} {o':HO}
theorem ir.write (ok:ir P w H h) (mu:Od (H x)) (he:e=x∨H e=some (.own x)) (k:∀ b u,b≠e->h.get? b=some u->h'.get? b=some u) (I8:∃ u,h'.get? e=some u)
  (new:cR P w (aG H x o') h' x o'):ir P w (aG H x o') h':=fun b u q=>by
 have Uv:∀ c y,H c=some (.own y)->c≠x:=fun c y r z=>by subst z;rw[r]at mu;exact mu
 have aaH:∀ c xs,H c=some (.tup xs)->c≠x:=fun c xs r z=>by subst z;rw[r]at mu;exact mu
 by_cases hb:b=x
 ·subst hb;rw[ay]at q;cases q;exact new
 ·rw[aD hb]at q
  by_cases Ge:b=e
  ·have q':H b=some (.own x):=by
    rcases he with z | z
    ·exact absurd (Ge.trans z) hb
    ·rw[Ge];exact z
   rw[q]at q';cases q'
   obtain⟨v,hv⟩:=I8
   exact⟨v,by rw[Ge];exact hv⟩
  ·refine(ok b u q).vD (fun c v hc r=>k c v ?_ r) (fun c r=>by rw[aD (Uv c b r)];exact r) fun c xs r=>by rw[aD (aaH c xs r)];exact r
   rcases hc with rfl | hc
   ·exact Ge
   ·rintro rfl
    rcases he with z | z
    ·exact Uv c b hc z
    ·rw[hc]at z;cases z;exact hb rfl
end
structure Un (fs ex:List Addr) (H H':Hp) (h h':Heap):Prop where
 keep:∀ b o,h.get? b=some o->H b=none->b ∉ fs->b ∉ ex->h'.get? b=some o
 slot:∀ b o,h.get? b=some o->H b=none->b∈fs->b ∉ ex->∃ sl,h'.get? b=some { o with slots:=sl }
 free:∀ b o,h.get? b=some o->H b=none->b ∉ ex->H' b=none
 there:∀ b o,h.get? b=some o->b ∉ ex->∃ o',h'.get? b=some o'
 qX:∀ b xs,H b=some (.tup xs)->H' b=some (.tup xs)
 sq:∀ b o u,H b=some (.sr o u)->H' b=some (.sr o u)
 rS:∀ b ps,H b=some (.nu ps)->∃ more,H' b=some (.nu (ps ++ more))
section
variable {fs fs' ex ex':List Addr}{H H1 H2:Hp} {h h1 h2 h':Heap}{a x e:Addr}{o:HO}
theorem Un.any (u:Un fs ex H H1 h h1) {b:Addr}{ob:Obj} (q:h.get? b=some ob) (n:H b=none) (hx:b ∉ ex):∃ sl,h1.get? b=some { ob with slots:=sl }:=by
 by_cases hb:b∈fs
 ·exact u.slot b ob q n hb hx
 ·exact⟨ob.slots,u.keep b ob q n hb hx⟩
theorem Un.kept (k:∀ b u,h.get? b=some u->h'.get? b=some u):Un fs ex H H h h' :=
 ⟨fun b ob q _ _ _=>k b ob q,fun b ob q _ _ _=>⟨ob.slots,k b ob q⟩,fun _ _ _ n _=>n,fun b ob q _=>⟨ob,k b ob q⟩,fun _ _ q=>q,fun _ _ _ q=>q,fun _ ps q=>⟨#[],by rw[q];simp⟩⟩
theorem Un.refl:Un fs ex H H h h:=Un.kept fun _ _ q=>q
theorem Un.laid (k:∀ b u,h.get? b=some u->h'.get? b=some u) (hp:h.objs.size<=a) (hn:H a=none):Un fs ex H (aG H a o) h h' where
 keep:=fun b u q _ _ _=>k b u q
 slot:=fun b u q _ _ _=>⟨u.slots,k b u q⟩
 free:=fun b u q n _=>by rw[aD (bP (bK (aW q) hp))];exact n
 there:=fun b u q _=>⟨u,k b u q⟩
 qX:=fun b xs q=>by rw[aD (bM q hn)];exact q
 sq:=fun b u xs q=>by rw[aD (bM q hn)];exact q
 rS:=fun b ps q=>⟨#[],by rw[aD (bM q hn),q];simp⟩
theorem Un.write (mu:Od (H x)) (he:e=x∨H e=some (.own x)) (k:∀ b u,b≠e->h.get? b=some u->h'.get? b=some u) (I8:∃ u,h'.get? e=some u):Un fs ex H (aG H x o) h h':=by
 have hx:∀ b,H b=none->b≠x:=fun b n z=>by subst z;rw[n]at mu;exact mu
 have hb:∀ b,H b=none->b≠e:=fun b n z=>by
  subst z
  rcases he with r | r
  ·exact hx b n r
  ·rw[n]at r;cases r
 have hm:∀ b u,H b=some u->¬ Od (some u)->b≠x:=fun b u q nm z=>by subst z;rw[q]at mu;exact nm mu
 refine⟨fun b u q n _ _=>k b u (hb b n) q,fun b u q n _ _=>⟨u.slots,k b u (hb b n) q⟩,fun b u q n _=>by rw[aD (hx b n)];exact n,fun b u q _ => ?_,
  fun b xs q=>by rw[aD (hm b _ q fun z=>z)];exact q,fun b u xs q=>by rw[aD (hm b _ q fun z=>z)];exact q,fun b ps q=>⟨#[],by rw[aD (hm b _ q fun z=>z),q];simp⟩⟩
 by_cases Ge:b=e
 ·subst Ge;exact I8
 ·exact⟨u,k b u Ge q⟩
end
def Qv (h:Heap) (H:Hp):List Addr:=(cu h.objs.size).filter fun a=>(H a).isSome
def vW (h:Heap) (H:Hp):Heap:=PySem.W.hideAll h (Qv h H)
theorem Nd (h:Heap) (H:Hp):(vW h H).objs.size=h.objs.size:=PySem.W.hideAll_size _ _
theorem vV {h:Heap}{H:Hp}{b:Addr}{o:Obj} (e:h.get? b=some o) (n:H b=none):(vW h H).get? b=some o :=
 PySem.W.hideAll_get _ e fun hm=>by
  have q:(H b).isSome=true:=(eg.mp hm).2
  rw[n]at q;simp at q
theorem SN {h:Heap}{H:Hp}{b:Addr}{o:Obj} (e:(vW h H).get? b=some o):h.get? b=some o∧H b=none:=by
 have e':h.get? b=some o:=PySem.W.of_hideAll (Qv h H) e
 refine⟨e',?_⟩
 cases q:H b with
 | none=>rfl
 | some x =>
  have hm:b∈Qv h H:=eg.mpr ⟨iJ.mpr (aW e'),by simp[q]⟩
  have z:(vW h H).get? b=none:=PySem.W.hideAll_none (Qv h H) hm
  rw[z]at e;cases e
structure Mod (K:ak) (mg:Str->Option Value) (base:Heap):Prop where
 MR:K.In base
 glob:base.Ns mainGlobals mg
 blt:∃ mb,base.Ns builtinsNs mb∧∀ x:Str,x ≠ "__name__" -> mb x=bootBuiltins x
 nolimit:base.NoLimit
structure Cx where
 prog:Program
 w:World
 K:ak
 mg:Str->Option Value
 base:Heap
 A:Around
 N:List Str
 kd : Shared
 yH : Hp
 env:Env
 outer:List Env
 stack:List Env
 ex:List Addr
 fn:Str->Bool
 calm:Bool
 pn:List (Addr × Obj)
 xe:Value->Shared->Prop
def mC (l:List Env):List Addr:=l.filterMap (·.frame)
abbrev Cx.fs (X:Cx):List Addr:=mC X.outer
def WW (sc:Scope) (x:Str):Prop:=sc.names.lookup x=some .local∨sc.names.lookup x=some .cell∨sc.names.lookup x=some .free
def Loc (sc:Scope) (x:Str):Prop:=sc.names.lookup x=some .local∨sc.names.lookup x=some .cell
def Look (env:Env) (h:Heap) (m:Str->Option Value) (x:Str) (u:Value):Prop :=
 (env.kindOf x=some .local∧m x=some u)∨((env.kindOf x=some .cell∨env.kindOf x=some .free)∧∃ c,env.cells.lookup x=some c∧h.IsCell c (some u))
structure Cx.Ok (X:Cx):Prop where
 mod:Mod X.K X.mg X.base
 kind:X.env.scope.kind = .function
 glob:X.env.globals=mainGlobals
 blt:X.env.builtins=builtinsNs
 above:X.kd.heap.objs.size<=X.env.locals
 inj:∀ x y c,X.env.cells.lookup x=some c->X.env.cells.lookup y=some c->x=y
 has:∀ x,(X.env.kindOf x=some .cell∨X.env.kindOf x=some .free)->∃ c,X.env.cells.lookup x=some c
 JB:∀ x c,X.fn x=true->X.env.cells.lookup x=some c->X.kd.heap.objs.size<=c
 hd:X.calm=true->X.A.handled=none
 frames:X.A.frames=some X.stack
 LQ:X.stack=X.outer∨(X.stack=X.env :: X.outer∧X.env.frame=some X.env.locals)
 Wy:∀ b∈X.ex,b≠X.env.locals∧∀ x c,X.env.cells.lookup x=some c->c≠b
 bs:∀ b o,X.base.get? b=some o->X.kd.heap.get? b=some o∧X.yH b=none
 zL:X.base.objs.size<=X.kd.heap.objs.size
 CI:∀ b o,X.base.get? b=some o->b ∉ X.ex
 GJ:∀ b∈X.ex,b ∉ X.fs
 pY:X.kd.heap.FunFrames X.base X.outer
 DQ:∀ b∈X.fs,X.yH b=none
structure Inv (X:Cx) (ae:List (Addr × Obj)) (σ : List (Option V)) (H:Hp) (s:Shared):Prop where
 ok:X.Ok
 os:s.os=X.kd.os
 bare:AllBare s.gens
 base:Un X.fs X.ex X.yH H X.kd.heap s.heap
 loc:∃ m,s.heap.Ns X.env.locals m∧∀ (i:Nat) (x:Str) (v:V),X.N[i]? = some x -> σ[i]? = some (some v)->WW X.env.scope x->∃ u,RelV v u∧Look X.env s.heap m x u
 cell:∀ x c,X.env.cells.lookup x=some c->∃ v,s.heap.IsCell c v
 free:H X.env.locals=none
 qq:∀ x c,X.env.cells.lookup x=some c->H c=none
 pin:∀ p∈X.pn ++ ae,s.heap.get? p.1=some p.2∧H p.1=none∧p.1≠X.env.locals∧p.1 ∉ X.fs∧∀ v,p.2.data ≠ .cell v
 bw:ir X.prog X.w H s.heap
 len : σ.length=X.N.length
section
variable {X:Cx}{ae:List (Addr × Obj)}{σ : List (Option V)} {H H':Hp}{s:Shared} {h':Heap}
theorem Cx.Ok.aaJ (ok:X.Ok) {b:Addr}{o:Obj} (e:X.base.get? b=some o):b ∉ X.fs:=fun hb=>by
 have:=(ok.pY.mem hb).1
 rw[e]at this;cases this
theorem Inv.bs (I:Inv X ae σ H s):∀ b o,X.base.get? b=some o->s.heap.get? b=some o∧H b=none:=fun b o e =>
 ⟨I.base.keep b o (I.ok.bs b o e).1 (I.ok.bs b o e).2 (I.ok.aaJ e) (I.ok.CI b o e),I.base.free b o (I.ok.bs b o e).1 (I.ok.bs b o e).2 (I.ok.CI b o e)⟩
theorem Inv.bk (I:Inv X ae σ H s):∀ b o,X.base.get? b=some o->s.heap.get? b=some o:=fun b o e=>(I.bs b o e).1
theorem Inv.mod (I:Inv X ae σ H s):Mod X.K X.mg X.base:=I.ok.mod
theorem Inv.lW (I:Inv X ae σ H s):X.K.In s.heap:=I.ok.mod.MR.keeps I.bk
theorem Inv.lt (I:Inv X ae σ H s):X.env.locals < s.heap.objs.size:=let ⟨_,hn,_⟩:=I.loc;hn.lt
theorem Inv.sz (I:Inv X ae σ H s):X.kd.heap.objs.size<=s.heap.objs.size:=aF I.ok.above (fA I.lt)
theorem Inv.aaI (I:Inv X ae σ H s) {a:Addr} (h:s.heap.objs.size<=a):a ∉ X.fs:=fun hb=>by
 obtain⟨_,o,ho,_⟩:=I.ok.pY.mem hb
 exact absurd (bK (aW ho) (aF I.sz h)) (eU _)
theorem Inv.GS (I:Inv X ae σ H s):∀ x c,X.env.cells.lookup x=some c->c≠X.env.locals:=fun x c e z=>by
 obtain⟨v,o,ho,hd⟩:=I.cell x c e
 obtain⟨m,⟨o',es,ep,Bp,VC,_⟩,_⟩:=I.loc
 rw[z,Bp]at ho;cases ho;rw[VC]at hd;cases hd
theorem Inv.pY (I:Inv X ae σ H s):s.heap.FunFrames X.base X.outer:=by
 have all:∀ (l:List Env),(∀ b∈mC l,b∈X.fs)->X.kd.heap.FunFrames X.base l->s.heap.FunFrames X.base l:=by
  intro l
  induction l with
  | nil=>intro _ _;trivial
  | cons env r ih =>
   intro hs hl
   obtain⟨hk,⟨L,o,hf,hn,ho,hd⟩,hr⟩:=hl
   have hL:L∈X.fs:=hs L (by unfold mC;rw[gu,hf];exact aU)
   obtain⟨sl,e⟩:=I.base.slot L o ho (I.ok.DQ L hL) hL fun z=>I.ok.GJ L z hL
   exact⟨hk,⟨L,_,hf,hn,e,hd⟩,ih (fun b hb=>hs b (by unfold mC;rw[gu,hf];exact aI _ hb)) hr⟩
 exact all X.outer (fun _ hb=>hb) I.ok.pY
theorem Inv.stack (I:Inv X ae σ H s):s.heap.FunFrames X.base X.stack:=by
 rcases I.ok.LQ with e | ⟨e,hf⟩
 ·rw[e];exact I.pY
 ·rw[e]
  obtain⟨m,hn,_⟩:=I.loc
  refine .cons (by rw[I.ok.kind];decide) hf hn ?_ I.pY
  exact k6 (aF I.ok.zL I.ok.above)
theorem Inv.xo (I:Inv X ae σ H s):∀ b∈mC X.stack,b∈X.env.locals :: X.fs:=fun b hb=>by
 rcases I.ok.LQ with e | ⟨e,hf⟩
 ·rw[e]at hb;exact aI _ hb
 ·rw[e]at hb
  unfold mC at hb
  rw[gu,hf]at hb
  exact hb
theorem Inv.HU (I:Inv X ae σ H s):∀ b∈mC X.stack,H b=none:=fun b hb=>by
 rcases aN.mp (I.xo b hb) with e | hb
 ·rw[e];exact I.free
 ·obtain⟨_,o,ho,_⟩:=I.ok.pY.mem hb
  exact I.base.free b o ho (I.ok.DQ b hb) fun z=>I.ok.GJ b z hb
theorem Inv.step {g':Array GenState} {t':Nat} {d':Drawn}{ch:List Addr} (I:Inv X ae σ H s)
  (tK:∀ b∈ch,(b∈X.ex∨X.kd.heap.objs.size<=b)∧b≠X.env.locals∧(∀ x c,X.env.cells.lookup x=some c->c≠b)∧∀ p∈X.pn ++ ae,p.1≠b)
  (keep:∀ b o,b≠X.env.locals->b ∉ X.fs->b ∉ ch->s.heap.get? b=some o->H b=none->h'.get? b=some o)
  (slot:∀ b o,b≠X.env.locals->b∈X.fs->b ∉ ch->s.heap.get? b=some o->H b=none->∃ sl,h'.get? b=some { o with slots:=sl }) (free:∀ b o,b ∉ ch->s.heap.get? b=some o->H b=none->H' b=none)
  (there:∀ b o,b ∉ ch->s.heap.get? b=some o->∃ o',h'.get? b=some o')
  (qX:∀ b xs,H b=some (.tup xs)->H' b=some (.tup xs)) (sq:∀ b o u,H b=some (.sr o u)->H' b=some (.sr o u)) (rS:∀ b ps,H b=some (.nu ps)->∃ more,H' b=some (.nu (ps ++ more)))
  (ns:∀ m,s.heap.Ns X.env.locals m->h'.Ns X.env.locals m) (bw:ir X.prog X.w H' h') (hg:AllBare g') :
  Inv X ae σ H' { s with heap:=h',gens:=g',drawn:=d',toks:=t' }:=by
 have Yz:∀ b o,X.kd.heap.get? b=some o->b≠X.env.locals:=fun b o e=>bP (bK (aW e) I.ok.above)
 have Q1:∀ b o,X.kd.heap.get? b=some o->b ∉ X.ex->b ∉ ch:=fun b o e hx hb=>by
  rcases(tK b hb).1 with z | z
  ·exact hx z
  ·exact absurd (bK (aW e) z) (eU _)
 have RL:∀ x c,X.env.cells.lookup x=some c->∀ v,s.heap.IsCell c v->h'.IsCell c v:=fun x c e v ⟨o,ho,hd⟩=>by
  have Mt:c ∉ ch:=fun z=>(tK c z).2.2.1 x c e rfl
  by_cases hc:c∈X.fs
  ·obtain⟨sl,q⟩:=slot c o (I.GS x c e) hc Mt ho (I.qq x c e)
   exact⟨_,q,hd⟩
  ·exact⟨o,keep c o (I.GS x c e) hc Mt ho (I.qq x c e),hd⟩
 refine⟨I.ok,I.os,hg,⟨fun b o e n hb hx => ?_,fun b o e n hb hx => ?_,fun b o e n hx => ?_,fun b o e hx => ?_,fun b xs e=>qX b xs (I.base.qX b xs e),fun b o xs e=>sq b o xs (I.base.sq b o xs e),fun b ps e => ?_⟩,?_,fun x c e => ?_,?_,fun x c e => ?_,fun p hp => ?_,bw,I.len⟩
 ·exact keep b o (Yz b o e) hb (Q1 b o e hx) (I.base.keep b o e n hb hx) (I.base.free b o e n hx)
 ·obtain⟨sl,e1⟩:=I.base.slot b o e n hb hx
  obtain⟨sl',e2⟩:=slot b _ (Yz b o e) hb (Q1 b o e hx) e1 (I.base.free b o e n hx)
  exact⟨sl',e2⟩
 ·obtain⟨o',e1⟩:=I.base.there b o e hx
  exact free b o' (Q1 b o e hx) e1 (I.base.free b o e n hx)
 ·obtain⟨o',e1⟩:=I.base.there b o e hx
  exact there b o' (Q1 b o e hx) e1
 ·obtain⟨m1,e1⟩:=I.base.rS b ps e
  obtain⟨m2,e2⟩:=rS b _ e1
  exact⟨m1 ++ m2,by rw[e2,yW]⟩
 ·obtain⟨m,hn,hl⟩:=I.loc
  refine⟨m,ns m hn,fun i x v e1 e2 e3 => ?_⟩
  obtain⟨u,r,l⟩:=hl i x v e1 e2 e3
  refine⟨u,r,?_⟩
  rcases l with l | ⟨k,c,e,z⟩
  ·exact .inl l
  ·exact .inr ⟨k,c,e,RL x c e _ z⟩
 ·obtain⟨v,z⟩:=I.cell x c e
  exact⟨v,RL x c e v z⟩
 ·obtain⟨m,⟨o,_,_,ho,_⟩,_⟩:=I.loc
  exact free _ o (fun z=>(tK _ z).2.1 rfl) ho I.free
 ·obtain⟨v,o,ho,hd⟩:=I.cell x c e
  exact free c o (fun z=>(tK c z).2.2.1 x c e rfl) ho (I.qq x c e)
 ·obtain⟨e,n,ne,nf,d⟩:=I.pin p hp
  have Mt:p.1 ∉ ch:=fun z=>(tK p.1 z).2.2.2 p hp rfl
  exact⟨keep p.1 p.2 ne nf Mt e n,free p.1 p.2 Mt e n,ne,nf,d⟩
theorem Inv.un {t':Nat} (I:Inv X ae σ H s) (u:Un X.fs [] H H' s.heap h') (bw:ir X.prog X.w H' h'):Inv X ae σ H' { s with heap:=h',toks:=t' }:=by
 obtain⟨m,⟨o,es,ep,ho,r⟩,_⟩:=id I.loc
 obtain⟨sl,hL⟩:=u.any ho I.free (by simp)
 exact I.step (g':=s.gens) (d':=s.drawn) (ch := []) (fun _ z=>nomatch z) (fun b o _ hb _ e n=>u.keep b o e n hb (by simp)) (fun b o _ hb _ e n=>u.slot b o e n hb (by simp)) (fun b o _ e n=>u.free b o e n (by simp)) (fun b o _ e=>u.there b o e (by simp)) u.qX u.sq u.rS (fun m' hm=>by
  obtain⟨o',RF,WB,Bp,r'⟩:=hm
  rw[ho]at Bp;cases Bp
  exact⟨_,RF,WB,hL,r'⟩) bw I.bare
theorem Inv.call {g':Array GenState} {t':Nat} {d':Drawn}{ch:List Addr} (I:Inv X ae σ H s) (u:Un (mC X.stack) ch H H' s.heap h') (bw:ir X.prog X.w H' h') (hg:AllBare g')
  (tK:∀ b∈ch,(b∈X.ex∨X.kd.heap.objs.size<=b)∧b≠X.env.locals∧(∀ x c,X.env.cells.lookup x=some c->c≠b)∧∀ p∈X.pn ++ ae,p.1≠b) :
  Inv X ae σ H' { s with heap:=h',gens:=g',drawn:=d',toks:=t' }:=by
 obtain⟨m,⟨o,es,ep,ho,r⟩,_⟩:=id I.loc
 obtain⟨sl,hL⟩:=u.any ho I.free fun z=>(tK _ z).2.1 rfl
 exact I.step (ch:=ch) tK (fun b o hL hb hc e n=>u.keep b o e n (fun z=>(aN.mp (I.xo b z)).elim hL hb) hc) (fun b o _ _ hc e n=>u.any e n hc) (fun b o hc e n=>u.free b o e n hc) (fun b o hc e=>u.there b o e hc) u.qX u.sq u.rS (fun m' hm=>by
  obtain⟨o',RF,WB,Bp,r'⟩:=hm
  rw[ho]at Bp;cases Bp
  exact⟨_,RF,WB,hL,r'⟩) bw hg
theorem Inv.turned {t':Nat}{it:Addr} (I:Inv X ae σ H s) (k:∀ b o,b≠it->s.heap.get? b=some o->h'.get? b=some o) (hn:H it=none) (hL:it≠X.env.locals)
  (h1:it∈X.ex∨X.kd.heap.objs.size<=it) (h2:∀ x c,X.env.cells.lookup x=some c->c≠it) (h3:∀ p∈X.pn ++ ae,p.1≠it):Inv X ae σ H { s with heap:=h',toks:=t' }:=by
 have Mr:∀ b u,H b=some u->b≠it:=fun b u e z=>by rw[z,hn]at e;cases e
 refine I.step (g':=s.gens) (d':=s.drawn) (ch := [it]) (fun b hb => ?_) (fun b o _ _ hc e _=>k b o (fun z=>hc (by simp[z])) e) (fun b o _ _ hc e _=>⟨o.slots,k b o (fun z=>hc (by simp[z])) e⟩) (fun _ _ _ _ n=>n)
  (fun b o hc e=>⟨o,k b o (fun z=>hc (by simp[z])) e⟩) (fun _ _ e=>e) (fun _ _ _ e=>e) (fun b ps e=>⟨#[],by rw[e];simp⟩) (fun m hm => ?_) (fun b u e => ?_) I.bare
 ·have e:b=it:=by simpa using hb
  subst e
  exact⟨h1,hL,h2,h3⟩
 ·obtain⟨o,es,ep,ho,r⟩:=hm
  exact⟨o,es,ep,k _ o (dh hL) ho,r⟩
 ·refine(I.bw b u e).vD (fun c v hc q=>k c v ?_ q) (fun _ q=>q) fun _ _ q=>q
  rcases hc with z | z
  ·rw[z];exact Mr b u e
  ·exact Mr c _ z
theorem Inv.tok (I:Inv X ae σ H s) (t:Nat):Inv X ae σ H { s with toks:=t }:=I.un (h':=s.heap) (t':=t) Un.refl I.bw
theorem Inv.kept {t':Nat} (I:Inv X ae σ H s) (k:∀ b u,s.heap.get? b=some u->h'.get? b=some u):Inv X ae σ H { s with heap:=h',toks:=t' }:=I.un (Un.kept k) (I.bw.kept k)
theorem Inv.laid {a:Addr}{o:HO} {t':Nat} (I:Inv X ae σ H s) (k:∀ b u,s.heap.get? b=some u->h'.get? b=some u) (hp:s.heap.objs.size<=a) (new:cR X.prog X.w (aG H a o) h' a o) :
  Inv X ae σ (aG H a o) { s with heap:=h',toks:=t' }:=I.un (Un.laid k hp (I.bw.fresh hp)) (I.bw.laid k hp new)
theorem Inv.write {x e:Addr}{o:HO} {t':Nat} (I:Inv X ae σ H s) (mu:Od (H x)) (he:e=x∨H e=some (.own x)) (k:∀ b u,b≠e->s.heap.get? b=some u->h'.get? b=some u) (I8:∃ u,h'.get? e=some u)
  (new:cR X.prog X.w (aG H x o) h' x o):Inv X ae σ (aG H x o) { s with heap:=h',toks:=t' }:=I.un (Un.write mu he k I8) (I.bw.write mu he k I8 new)
theorem Inv.Ik {QS:List (Addr × Obj)} (I:Inv X ae σ H s) (h:∀ p∈QS,s.heap.get? p.1=some p.2∧H p.1=none∧p.1≠X.env.locals∧p.1 ∉ X.fs∧∀ v,p.2.data ≠ .cell v):Inv X QS σ H s :=
 ⟨I.ok,I.os,I.bare,I.base,I.loc,I.cell,I.free,I.qq,fun p hp=>(bg.mp hp).elim (fun z=>I.pin p (eO _ z)) (h p),I.bw,I.len⟩
theorem Fy {N:List Str} (hN:N.Nodup) {i j:Nat}{x:Str} (a:N[i]? = some x) (b:N[j]? = some x):i=j:=by
 obtain⟨h1,e1⟩:=ah.mp a
 obtain⟨h2,e2⟩:=ah.mp b
 exact(List.getElem_inj hN).mp (e1.trans e2.symm)
theorem xn {M:Model}{A:Around}{E:Value->Shared->Prop}{i:Nat}{x:Str}{v:V}{u:Value}{Q:Unit->Shared->Prop} (I:Inv X ae σ H s) (hN:X.N.Nodup) (hi:X.N[i]? = some x) (hx:Loc X.env.scope x) (r:RelV v u)
  (h:∀ s',Inv X ae (σ.set i (some v)) H s'->(∃ a,cQ a s.heap s'.heap∧(a=X.env.locals∨X.env.cells.lookup x=some a))->Q () s') (hf:X.fn x=true∨X.env.scope.names.lookup x=some .local:=by first | exact .inl rfl | exact .inr rfl | assumption):wpAny M A (storeName X.env x u) Q E s:=by
 obtain⟨m,hn,hl⟩:=id I.loc
 have abb:(X.env.scope.kind == .class || (X.env.scope.kind == .module && X.env.locals != X.env.globals))=false:=by rw[I.ok.kind];rfl
 have Vn : i < σ.length:=by rw[I.len];exact(ah.mp hi).1
 have GS:=I.GS
 have HM:∀ {a:Addr} {h':Heap},(∃ o,s.heap.get? a=some o∧H a=none)->cQ a s.heap h'->ir X.prog X.w H h':=fun {a h'} ha hs b ob e=>by
  obtain⟨_,_,zd⟩:=ha
  refine(I.bw b ob e).vD (fun c w' hc q=>(hs.2 c ?_).trans q) (fun _ q=>q) fun _ _ q=>q
  rintro rfl
  rcases hc with rfl | hc
  ·rw[zd]at e;cases e
  ·rw[zd]at hc;cases hc
 rcases hx with hk | hk
 ·refine wpAny_storeName_local hk hn (fun h' Vi hs => ?_) abb
  obtain⟨oL,_,_,hoL,_⟩:=id hn
  refine h _ ⟨I.ok,I.os,I.bare,⟨fun b o e n hb hx => ?_,fun b o e n hb hx => ?_,I.base.free,fun b o e hx => ?_,I.base.qX,I.base.sq,I.base.rS⟩,⟨_,Vi,fun j y v' e1 e2 e3 => ?_⟩,fun y c e => ?_,I.free,I.qq,fun p hp => ?_,HM ⟨oL,hoL,I.free⟩ hs,by simpa using I.len⟩ ⟨_,hs,.inl rfl⟩
  ·exact(hs.2 b (bP (bK (aW e) I.ok.above))).trans (I.base.keep b o e n hb hx)
  ·obtain⟨sl,e1⟩:=I.base.slot b o e n hb hx
   exact⟨sl,(hs.2 b (bP (bK (aW e) I.ok.above))).trans e1⟩
  ·obtain⟨o',e1⟩:=I.base.there b o e hx
   exact⟨o',(hs.2 b (bP (bK (aW e) I.ok.above))).trans e1⟩
  ·by_cases hj:j=i
   ·subst hj
    rw[hi]at e1;cases e1
    rw[ux Vn]at e2
    cases e2
    exact⟨u,r,.inl ⟨hk,by simp⟩⟩
   ·rw[wz (dh hj)]at e2
    obtain⟨u',r',q⟩:=hl j y v' e1 e2 e3
    refine⟨u',r',?_⟩
    rcases q with⟨k,e⟩ | ⟨k,c,e,z⟩
    ·refine .inl ⟨k,?_⟩
     have:y≠x:=fun e=>hj (Fy hN e1 (e ▸ hi))
     simp[this,e]
    ·exact .inr ⟨k,c,e,z.sameBut hs (GS y c e)⟩
  ·obtain⟨w',z⟩:=I.cell y c e
   exact⟨w',z.sameBut hs (GS y c e)⟩
  ·obtain⟨e,n,ne,nf,d⟩:=I.pin p hp
   exact⟨(hs.2 p.1 ne).trans e,n,ne,nf,d⟩
 ·have Vu:X.fn x=true:=by
   rcases hf with z | z
   ·exact z
   ·rw[z]at hk;cases hk
  obtain⟨c,hc⟩:=I.ok.has x (.inl hk)
  obtain⟨w',z⟩:=I.cell x c hc
  refine wpAny_storeName_cell I.ok.kind hk hc z (fun h' gN hs => ?_)
  obtain⟨oc,IM,aaW⟩:=id z
  refine h { s with heap:=h' } ⟨I.ok,I.os,I.bare,⟨fun b o e n hb hx => ?_,fun b o e n hb hx => ?_,I.base.free,fun b o e hx => ?_,I.base.qX,I.base.sq,I.base.rS⟩,⟨m,hn.sameBut hs (dh (GS x c hc)),fun j y v' e1 e2 e3 => ?_⟩,fun y c' e => ?_,I.free,I.qq,fun p hp => ?_,HM ⟨oc,IM,I.qq x c hc⟩ hs,by simpa using I.len⟩ ⟨c,hs,.inr hc⟩
  ·exact(hs.2 b (bP (bK (aW e) (I.ok.JB x c Vu hc)))).trans (I.base.keep b o e n hb hx)
  ·obtain⟨sl,e1⟩:=I.base.slot b o e n hb hx
   exact⟨sl,(hs.2 b (bP (bK (aW e) (I.ok.JB x c Vu hc)))).trans e1⟩
  ·obtain⟨o',e1⟩:=I.base.there b o e hx
   exact⟨o',(hs.2 b (bP (bK (aW e) (I.ok.JB x c Vu hc)))).trans e1⟩
  ·by_cases hj:j=i
   ·subst hj
    rw[hi]at e1;cases e1
    rw[ux Vn]at e2
    cases e2
    exact⟨u,r,.inr ⟨.inl hk,c,hc,gN⟩⟩
   ·rw[wz (dh hj)]at e2
    obtain⟨u',r',q⟩:=hl j y v' e1 e2 e3
    refine⟨u',r',?_⟩
    rcases q with q | ⟨k,c',e,z'⟩
    ·exact .inl q
    ·refine .inr ⟨k,c',e,z'.sameBut hs ?_⟩
     rintro rfl
     exact hj (Fy hN e1 (I.ok.inj _ _ _ e hc ▸ hi))
  ·by_cases Y6:c'=c
   ·subst Y6;exact⟨_,gN⟩
   ·obtain⟨w2,z2⟩:=I.cell y c' e
    exact⟨w2,z2.sameBut hs Y6⟩
  ·obtain⟨e,n,ne,nf,d⟩:=I.pin p hp
   refine⟨(hs.2 p.1 ?_).trans e,n,ne,nf,d⟩
   intro q
   rw[q,IM]at e
   have q':oc=p.2:=aB e
   exact d w' (by rw[<- q'];exact aaW)
theorem ET {M:Model}{A:Around}{E:Value->Shared->Prop}{i:Nat}{x:Str}{v:V}{u:Value}{Q:Unit->Shared->Prop} (I:Inv X ae σ H s) (hN:X.N.Nodup) (hi:X.N[i]? = some x) (hx:Loc X.env.scope x) (r:RelV v u)
  (h:∀ s',Inv X ae (σ.set i (some v)) H s'->Q () s') (hf:X.fn x=true∨X.env.scope.names.lookup x=some .local:=by first | exact .inl rfl | exact .inr rfl | assumption):wpAny M A (storeName X.env x u) Q E s :=
 xn I hN hi hx r (fun s' I' _=>h s' I') hf
theorem Inv.X2 {s':Shared}{ch:List Addr} (I:Inv X ae σ H s) (ho:s'.os=s.os) (u:Un (mC X.stack) ch H H' s.heap s'.heap) (bw:ir X.prog X.w H' s'.heap) (hg:AllBare s'.gens)
  (tK:∀ b∈ch,(b∈X.ex∨X.kd.heap.objs.size<=b)∧b≠X.env.locals∧(∀ x c,X.env.cells.lookup x=some c->c≠b)∧∀ p∈X.pn ++ ae,p.1≠b):Inv X ae σ H' s':=by
 obtain⟨h',g',d',t',o'⟩:=s'
 have e:o'=s.os:=ho
 subst e
 exact I.call (g':=g') (t':=t') (d':=d') u bw hg tK
end
abbrev XK:=Value->Option Addr->Hp->Prop
abbrev St:=List (Option V)
abbrev VK:=V->Hp->Prop
abbrev TE:=St->Hp->VK->Prop
abbrev TT:=St->Hp->(Bool->Hp->Prop)->Prop
abbrev TA:=St->Hp->(List V->Hp->Prop)->Prop
structure Ends where
 nx:St->Hp->Prop
 rt:VK
 bk:St->Hp->Prop:=fun _ _=>False
 ct:St->Hp->Prop:=fun _ _=>False
abbrev TS:=Ends->St->Hp->Prop
def EP (X:Cx) (ae:List (Addr × Obj)) (σ : St) (Q:VK) (u:Value) (s':Shared):Prop := ∃ v H',Inv X ae σ H' s'∧RelV v u∧Q v H'
def TP (X:Cx) (ae:List (Addr × Obj)) (σ : St) (Q:Bool->Hp->Prop) (b:Bool) (s':Shared):Prop := ∃ H',Inv X ae σ H' s'∧Q b H'
def AP (X:Cx) (ae:List (Addr × Obj)) (σ : St) (Q:List V->Hp->Prop) (us:List Value) (s':Shared):Prop := ∃ vs H',Inv X ae σ H' s'∧Vals vs us∧Q vs H'
def SP (X:Cx) (ae:List (Addr × Obj)) (D:Ends) (f:Flow) (s':Shared):Prop :=
 match f with
 | .next=>∃ cc H',Inv X ae cc H' s'∧D.nx cc H'
 | .brk=>∃ cc H',Inv X ae cc H' s'∧D.bk cc H'
 | .cont=>∃ cc H',Inv X ae cc H' s'∧D.ct cc H'
 | .ret u=>∃ v cc H',Inv X ae cc H' s'∧RelV v u∧D.rt v H'
def PE (X:Cx) (e:Expr) (t:TE):Prop :=
 ∀ (ae:List (Addr × Obj)) (s:Shared) (σ : St) (H:Hp) (Q:VK),Inv X ae σ H s->t σ H Q->wpAny (model X.prog X.w) X.A (eval e X.env) (EP X ae σ Q) X.xe s
def PT (X:Cx) (e:Expr) (t:TT):Prop :=
 ∀ (ae:List (Addr × Obj)) (s:Shared) (σ : St) (H:Hp) (Q:Bool->Hp->Prop),Inv X ae σ H s->t σ H Q->wpAny (model X.prog X.w) X.A (isTrue e X.env (eval e X.env)) (TP X ae σ Q) X.xe s
def PW (X:Cx) (e:Expr) (t:TT):Prop :=
 ∀ (Ep:Sem Value) (ae:List (Addr × Obj)) (s:Shared) (σ : St) (H:Hp) (Q:Bool->Hp->Prop),Inv X ae σ H s->t σ H Q->wpAny (model X.prog X.w) X.A (isTrue e X.env Ep) (TP X ae σ Q) X.xe s
theorem PW.pt {X:Cx}{e:Expr}{t:TT} (h:PW X e t):PT X e t:=h _
def PA (X:Cx) (es:List Expr) (t:TA):Prop :=
 ∀ (pos:Pos) (ae:List (Addr × Obj)) (s:Shared) (σ : St) (H:Hp) (Q:List V->Hp->Prop),Inv X ae σ H s->t σ H Q->wpAny (model X.prog X.w) X.A (spliced (backTo pos (starEach es X.env))) (AP X ae σ Q) X.xe s
def PS (X:Cx) (st:Stmt) (t:TS):Prop :=
 ∀ (ae:List (Addr × Obj)) (s:Shared) (σ : St) (H:Hp) (D:Ends),Inv X ae σ H s->t D σ H->wpAny (model X.prog X.w) X.A (exec st X.env) (SP X ae D) X.xe s
def pH (X:Cx) (st:List Stmt) (t:TS):Prop :=
 ∀ (ae:List (Addr × Obj)) (s:Shared) (σ : St) (H:Hp) (D:Ends),Inv X ae σ H s->t D σ H->wpAny (model X.prog X.w) X.A (execs st X.env) (SP X ae D) X.xe s
theorem bW {α : Type}{t:Sem α} {Q Q' : α -> Shared->Prop}{M:Model}{A:Around}{E:Value->Shared->Prop}{s:Shared} (h:wpAny M A t Q E s) (hQ:∀ a s,Q a s->Q' a s):wpAny M A t Q' E s:=wpAny_mono h hQ fun _ _ x=>x
section
variable {X:Cx}
inductive WY (i:Nat) (σ : St) (H:Hp) (Q:VK):Prop
 | mk (v:V) (e : σ[i]? = some (some v)) (q:Q v H):WY i σ H Q
def TK (i:Nat):TE:=fun σ H Q=>WY i σ H Q
def tC (v:V):TE:=fun _ H Q=>Q v H
theorem Uk {i:Nat}{x:Str}{pos:Pos} (hN:X.N[i]? = some x) (hv:WW X.env.scope x) (hd:(x == ("__debug__" : Str))=false:=by decide) (ly:(x == ("__classdict__" : Str))=false:=by decide):PE X (.Name x pos) (TK i):=by
 intro ae s σ H Q I h
 obtain⟨v,e,h⟩:=h
 obtain⟨m,hn,hl⟩:=I.loc
 obtain⟨u,r,l⟩:=hl i x v hN e hv
 have fin:EP X ae σ Q u s:=⟨v,H,I,r,h⟩
 rcases l with⟨hk,hm⟩ | ⟨hk,c,hc,iT⟩
 ·exact wpAny_Name (wpAny_loadName_local I.ok.kind hk hn hm fin) hd
 ·rcases hk with hk | hk
  ·exact wpAny_Name (wpAny_loadName_cell I.ok.kind hk hc iT fin) hd
  ·exact wpAny_Name (wpAny_loadName_free I.ok.kind hk hc iT fin ly) hd
theorem az {i j pos}:PE X (.Constant (.int i) j pos) (tC (.int i)):=fun _ _ _ H _ I h=>wpAny_Constant_int ⟨.int i,H,I.tok _,⟨_,rfl⟩,h⟩
theorem lV {b j pos}:PE X (.Constant (.bool b) j pos) (tC (.bl b)):=fun _ _ _ H _ I h=>Constant_bool ⟨.bl b,H,I,rfl,h⟩
theorem r8 {j pos}:PE X (.Constant .none j pos) (tC .df):=fun _ _ _ H _ I h=>Constant_none ⟨.df,H,I,rfl,h⟩
theorem eF {x j pos}:PE X (.Constant (.str x) j pos) (tC (.str x)):=fun _ _ _ H _ I h=>Calls.Constant_str ⟨.str x,H,I.tok _,⟨_,rfl⟩,h⟩
def Gl (X:Cx) (x:Str):Prop:=X.env.kindOf x=some .globalImplicit
theorem IB {E:Value->Shared->Prop}{ae:List (Addr × Obj)}{s:Shared}{σ : St}{H:Hp}{x:Str}{u:Value}{pos:Pos}{Q:Value->Shared->Prop} (I:Inv X ae σ H s) (hg:Gl X x) (hm:X.mg x=some u) (h:Q u s)
  (hd:(x == ("__debug__" : Str))=false:=by decide):wpAny (model X.prog X.w) X.A (eval (.Name x pos) X.env) Q E s :=
 q8 I.ok.kind hg (Calls.loadGlobal_global (by rw[I.ok.glob];exact I.mod.glob.keeps I.bk) hm h) hd
theorem qG {E:Value->Shared->Prop}{ae:List (Addr × Obj)}{s:Shared}{σ : St}{H:Hp}{x:Str}{u:Value}{pos:Pos}{Q:Value->Shared->Prop} (I:Inv X ae σ H s) (hg:Gl X x) (hm:X.mg x=none) (hv:bootBuiltins x=some u) (h:Q u s)
  (hn:x ≠ "__name__" := by decide) (hd:(x == ("__debug__" : Str))=false:=by decide):wpAny (model X.prog X.w) X.A (eval (.Name x pos) X.env) Q E s:=by
 obtain⟨mb,h1,h2⟩:=I.mod.blt
 exact q8 I.ok.kind hg (Calls.loadGlobal_builtin (by rw[I.ok.glob];exact I.mod.glob.keeps I.bk) hm (by rw[I.ok.blt];exact h1.keeps I.bk) ((h2 x hn).trans hv) h) hd
theorem pW {x:Str}{v:V}{u:Value}{pos:Pos} (hg:Gl X x) (hm:X.mg x=none) (hv:bootBuiltins x=some u) (r:RelV v u) (hn:x ≠ "__name__" := by decide) (hd:(x == ("__debug__" : Str))=false:=by decide):PE X (.Name x pos) (tC v) :=
 fun _ _ _ H _ I h=>qG I hg hm hv ⟨v,H,I,r,h⟩ hn hd
variable {a b:Expr}{ta tb:TE}{pos:Pos}
def PC (X:Cx) (op:CmpOp) (a b:Expr) (t:TE):Prop :=
 ∀ (ae:List (Addr × Obj)) (s:Shared) (σ : St) (H:Hp) (Q:VK),Inv X ae σ H s->t σ H Q ->
  wpAny (model X.prog X.w) X.A (eval a X.env) (fun v dQ => wpAny (model X.prog X.w) X.A (eval b X.env) (fun u nO => wpAny (model X.prog X.w) X.A (compareOp op v u) (EP X ae σ Q) X.xe nO) X.xe dQ) X.xe s
inductive Xd (Q:Bool->Hp->Prop) (x:V) (H1:Hp):Prop
 | mk:∀ c,(x = .bl c)->(Q c H1)->Xd Q x H1
def tB (t:TE):TT:=fun σ H Q=>t σ H fun x H1=>Xd Q x H1
theorem A0 {op:CmpOp}{t:TE} (h:PC X op a b t) (h1:behindInMarks op b=false:=by first | exact aaK _ (by decide) (by decide) | rfl):PT X (.Compare a [op] [b] pos) (tB t):=by
 intro ae s σ H Q I hw
 refine wpAny_isTrue_Compare1 (bW (h ae s σ H _ I hw) fun v s1 h1=>bW h1 fun u s2 h2=>bW h2 fun c s3 ⟨x,H1,I1,r1,q1⟩ => ?_) h1
 obtain⟨d,rfl,q⟩:=q1
 cases r1
 exact wpAny_truthy_bool ⟨H1,I1,q⟩
theorem nv {e:Expr}{t:TE} (h:PE X e t) (he:∀ Ep,isTrue e X.env Ep=(do let v <- Ep;standAt e.pos;holding [v] (truthy v)):=by intro _;rfl):PT X e (tB t):=by
 intro ae s σ H Q I hw
 refine isTrue_plain (bW (h ae s σ H _ I hw) fun v s1 ⟨x,H1,I1,r1,q1⟩ => ?_) (he _)
 obtain⟨d,rfl,q⟩:=q1
 cases r1
 exact wpAny_truthy_bool ⟨H1,I1,q⟩
variable {tA Qz:TT}{rest:List Expr}
def aar (t u:TT):TT:=fun σ H Q=>t σ H fun c H1=>if c=true then u σ H1 Q else Q false H1
def tOr (t u:TT):TT:=fun σ H Q=>t σ H fun c H1=>if c=true then Q true H1 else u σ H1 Q
def aal (t:TT):TT:=fun σ H Q=>t σ H fun c H1=>Q (!c) H1
theorem pw_and1 (ha:PT X a tA):PW X (.BoolOp .And [a] pos) tA:=by
 intro wh ae s σ H Q I h
 refine isTrue_and (bW (ha ae s σ H Q I h) fun c s1 e => ?_)
 cases c with
 | true=>exact isTrue_and_nil e
 | false=>exact e
theorem pw_or1 (ha:PT X a tA):PW X (.BoolOp .Or [a] pos) tA:=by
 intro wh ae s σ H Q I h
 refine isTrue_or (bW (ha ae s σ H Q I h) fun c s1 e => ?_)
 cases c with
 | false=>exact isTrue_or_nil e
 | true=>exact e
theorem pw_and (ha:PT X a tA) (hb:PW X (.BoolOp .And (b :: rest) pos) Qz):PW X (.BoolOp .And (a :: b :: rest) pos) (aar tA Qz):=by
 intro wh ae s σ H Q I h
 refine isTrue_and (bW (ha ae s σ H _ I h) fun c s1 ⟨H1,I1,q1⟩ => ?_)
 cases c with
 | true=>exact hb wh ae s1 σ H1 Q I1 q1
 | false=>exact⟨H1,I1,q1⟩
theorem pw_or (ha:PT X a tA) (hb:PW X (.BoolOp .Or (b :: rest) pos) Qz):PW X (.BoolOp .Or (a :: b :: rest) pos) (tOr tA Qz):=by
 intro wh ae s σ H Q I h
 refine isTrue_or (bW (ha ae s σ H _ I h) fun c s1 ⟨H1,I1,q1⟩ => ?_)
 cases c with
 | true=>exact⟨H1,I1,q1⟩
 | false=>exact hb wh ae s1 σ H1 Q I1 q1
theorem rX (ha:PT X a tA):PT X (.UnaryOp .Not a pos) (aal tA):=by
 intro ae s σ H Q I h
 exact isTrue_not (ha ae s σ H (fun c H1=>Q (!c) H1) I h)
def tIf (t:TT) (ta tb:TE):TE:=fun σ H Q=>t σ H fun c H1=>if c=true then ta σ H1 Q else tb σ H1 Q
theorem Fn {c:Expr} (hc:PT X c tA) (ha:PE X a ta) (hb:PE X b tb):PE X (.IfExp c a b pos) (tIf tA ta tb):=by
 intro ae s σ H Q I h
 refine wpAny_IfExp (bW (hc ae s σ H _ I h) fun d s1 ⟨H1,I1,q1⟩ => ?_)
 cases d with
 | true=>exact ha ae s1 σ H1 Q I1 q1
 | false=>exact hb ae s1 σ H1 Q I1 q1
end
def bo (K:ak) (H:Hp) (a:Addr) (xs:List V):Prop :=
 Rd H a (.lst xs) ∨
  ∃ (o:Obj) (its:Array Value) (n:Nat),K.lookup a=some o∧o.cls = .type "list" ∧ o.dict=none∧o.data = .seq its n∧its.size<=sizeLine∧Vals xs its.toList
def bY (K:ak) (H:Hp) (a:Addr) (xs:List V):Prop :=
 Rd H a (.tup xs) ∨
  ∃ (o:Obj) (its:Array Value) (n:Nat),K.lookup a=some o∧o.cls = .type "tuple" ∧ o.data = .seq its n∧its.size<=sizeLine∧Vals xs its.toList
def abC:Value->Option V
 | .none=>some .df
 | .bool b=>some (.bl b)
 | .int i _=>some (.int i)
 | .str x _=>some (.str x)
 | .bytes b _=>some (.wU b)
 | .float b _=>some (.GC b)
 | .ref a=>some (.ref a)
 | .type n=>some (.ty n)
 | _=>none
theorem RelV.abs {x:V}{u:Value} (r:RelV x u):abC u=some x:=by
 cases x with
 | df=>cases r;rfl
 | bl _=>cases r;rfl
 | int _=>obtain⟨t,rfl⟩:=r;rfl
 | str _=>obtain⟨t,rfl⟩:=r;rfl
 | wU _=>obtain⟨t,rfl⟩:=r;rfl
 | GC _=>obtain⟨t,rfl⟩:=r;rfl
 | ref _=>cases r;rfl
 | ty _=>cases r;rfl
theorem RelV.inj {x y:V}{u:Value} (r:RelV x u) (q:RelV y u):x=y:=aB (r.abs.symm.trans q.abs)
theorem Vals.inj:∀ {xs ys:List V}{us:List Value},Vals xs us->Vals ys us->xs=ys
 | _,_,_,.nil,.nil=>rfl
 | _,_,_,.cons r t,.cons r' t'=>by rw[r.inj r',Vals.inj t t']
section
variable {X:Cx}{ae:List (Addr × Obj)}{σ : St}{H:Hp}{s:Shared}{a:Addr}{xs ys:List V}
theorem bo.of {K:ak} (h:H a=some (.lst xs)):bo K H a xs := .inl (.inl h)
theorem bY.of {K:ak} (h:H a=some (.tup xs)):bY K H a xs := .inl (.inl h)
theorem Inv.list (I:Inv X ae σ H s) (h:bo X.K H a xs):∃ its:List Value,Vals xs its∧PlainL s.heap a its.toArray∧xs.length<=sizeLine:=by
 rcases h with h | ⟨o,its,n,hk,hc,hd,hs,hz,r⟩
 ·obtain⟨z,its,n,r,e⟩:=h.ok I.bw
  exact⟨its,r,⟨_,n,e,rfl,rfl,rfl⟩,z⟩
 ·refine⟨its.toList,r,⟨o,n,I.lW a o hk,hc,hd,by simpa using hs⟩,?_⟩
  have e:=r.length
  simp only[bq]at e
  omega
theorem Inv.tuple (I:Inv X ae σ H s) (h:bY X.K H a xs):∃ its:List Value,Vals xs its∧IsTup s.heap a its.toArray∧xs.length<=sizeLine:=by
 rcases h with h | ⟨o,its,n,hk,hc,hs,hz,r⟩
 ·obtain⟨z,its,r,p⟩:=h.ok I.bw
  exact⟨its,r,p.tup,z⟩
 ·refine⟨its.toList,r,⟨o,I.lW a o hk,hc,n,by simpa using hs⟩,?_⟩
  have e:=r.length
  simp only[bq]at e
  omega
theorem Inv.FI (I:Inv X ae σ H s) (h:bo X.K H a xs) (h':bo X.K H a ys):xs=ys:=by
 obtain⟨its,r,⟨o,n,e,_,_,d⟩,_⟩:=I.list h
 obtain⟨its',r',⟨o',n',e',_,_,d'⟩,_⟩:=I.list h'
 rw[e]at e';cases e'
 rw[d]at d'
 injection d' with d1 _
 have:its=its':=by simpa using congrArg Array.toList d1
 subst this
 exact r.inj r'
theorem Inv.xi (I:Inv X ae σ H s) (h:bY X.K H a xs) (h':bY X.K H a ys):xs=ys:=by
 obtain⟨its,r,⟨o,e,_,n,d⟩,_⟩:=I.tuple h
 obtain⟨its',r',⟨o',e',_,n',d'⟩,_⟩:=I.tuple h'
 rw[e]at e';cases e'
 rw[d]at d'
 injection d' with d1 _
 have:its=its':=by simpa using congrArg Array.toList d1
 subst this
 exact r.inj r'
end
abbrev Cx.t6 (X:Cx) (E:Value->Shared->Prop):Cx := { X with xe:=E }
abbrev Cx.Fw (X:Cx):Cx:=X.t6 fun _ _=>False
theorem Cx.Ok.t6 {X:Cx} (ok:X.Ok) (E:Value->Shared->Prop):(X.t6 E).Ok :=
 ⟨ok.mod,ok.kind,ok.glob,ok.blt,ok.above,ok.inj,ok.has,ok.JB,ok.hd,ok.frames,ok.LQ,ok.Wy,ok.bs,ok.zL,ok.CI,ok.GJ,ok.pY,ok.DQ⟩
theorem Cx.Ok.qw {X:Cx}{E:Value->Shared->Prop} (ok:(X.t6 E).Ok):X.Ok :=
 ⟨ok.mod,ok.kind,ok.glob,ok.blt,ok.above,ok.inj,ok.has,ok.JB,ok.hd,ok.frames,ok.LQ,ok.Wy,ok.bs,ok.zL,ok.CI,ok.GJ,ok.pY,ok.DQ⟩
section
variable {X:Cx}{ae:List (Addr × Obj)}{σ : St}{H:Hp}{s:Shared}{E:Value->Shared->Prop}
theorem Inv.t6 (I:Inv X ae σ H s) (E:Value->Shared->Prop):Inv (X.t6 E) ae σ H s:=⟨I.ok.t6 E,I.os,I.bare,I.base,I.loc,I.cell,I.free,I.qq,I.pin,I.bw,I.len⟩
theorem Inv.qw (I:Inv (X.t6 E) ae σ H s):Inv X ae σ H s:=⟨I.ok.qw,I.os,I.bare,I.base,I.loc,I.cell,I.free,I.qq,I.pin,I.bw,I.len⟩
theorem SP.qw {D:Ends}{f:Flow} {s':Shared} (h:SP (X.t6 E) ae D f s'):SP X ae D f s':=by
 cases f with
 | next=>obtain⟨cc,H',I,q⟩:=h;exact⟨cc,H',I.qw,q⟩
 | brk=>obtain⟨cc,H',I,q⟩:=h;exact⟨cc,H',I.qw,q⟩
 | cont=>obtain⟨cc,H',I,q⟩:=h;exact⟨cc,H',I.qw,q⟩
 | ret u=>obtain⟨v, cc,H',I,r,q⟩:=h;exact⟨v, cc,H',I.qw,r,q⟩
theorem pH.Fw {st:List Stmt}{t:TS} (h:pH X.Fw st t):pH X st t:=fun ae s σ H D I hw =>
 wpAny_mono (h ae s σ H D (I.t6 _) hw) (fun _ _ q=>q.qw) fun _ _ z=>fO z
end
section
variable {X:Cx}{st:Stmt}{rest:List Stmt}{t u:TS}{e:Expr}{te:TE}{pos:Pos}
def Kj:TS:=fun D σ H=>D.nx σ H
def OH (t u:TS):TS:=fun D σ H=>t { D with nx:=u D } σ H
theorem cJ:pH X [] Kj:=fun _ _ σ H _ I h=>wpAny_execs_nil ⟨σ,H,I,h⟩
theorem ax (h1:PS X st t) (h2:pH X rest u):pH X (st :: rest) (OH t u):=by
 intro ae s σ H D I h
 refine wpAny_execs_cons (bW (h1 ae s σ H { D with nx:=u D } I h) fun f s1 q => ?_)
 cases f with
 | next =>
  obtain⟨cc,H',I',q⟩:=q
  exact h2 ae s1 cc H' D I' q
 | ret v=>exact q
 | brk=>exact q
 | cont=>exact q
theorem aO (h1:PS X st t):pH X [st] t:=by
 intro ae s σ H D I h
 refine wpAny_execs_cons (bW (h1 ae s σ H D I h) fun f s1 q => ?_)
 cases f with
 | next=>exact wpAny_execs_nil q
 | ret v=>exact q
 | brk=>exact q
 | cont=>exact q
theorem Sq:PS X (.Pass pos) Kj:=fun _ _ σ H _ I h=>wpAny_Pass ⟨σ,H,I,h⟩
theorem Inv.quiet {ae:List (Addr × Obj)}{σ : St}{H:Hp}{s:Shared} (I:Inv X ae σ H s):interactive X.env=false:=by simp[interactive,I.ok.kind]
def Xn (te:TE):TS:=fun D σ H=>te σ H fun _ H1=>D.nx σ H1
theorem gK (he:PE X e te) (hs:swapsWith e none pos.line X.env=pure false:=by rfl):PS X (.Expr e pos) (Xn te):=by
 intro ae s σ H D I h
 exact wpAny_Expr_any (bW (he ae s σ H _ I h) fun v s1 ⟨x,H1,I1,r1,q1⟩=>⟨σ,H1,I1,q1⟩) I.quiet hs
def aak (te:TE):TS:=fun D σ H=>te σ H D.rt
theorem bZ (he:PE X e te):PS X (.Return (some e) pos) (aak te):=by
 intro ae s σ H D I h
 exact wpAny_Return_some (bW (he ae s σ H _ I h) fun v s1 ⟨x,H1,I1,r1,q1⟩=>⟨x, σ,H1,I1,r1,q1⟩)
def OI (c:TT) (t u:TS):TS:=fun D σ H=>c σ H fun b H1=>if b=true then t D σ H1 else u D σ H1
theorem dz {c:Expr}{a b:List Stmt}{tc:TT} (hc:PT X c tc) (ha:pH X a t) (hb:pH X b u):PS X (.If c a b pos) (OI tc t u):=by
 intro ae s σ H D I h
 refine wpAny_If (bW (hc ae s σ H _ I h) fun d s1 ⟨H1,I1,q1⟩ => ?_)
 cases d with
 | true=>exact ha ae s1 σ H1 D I1 q1
 | false=>exact hb ae s1 σ H1 D I1 q1
end
abbrev TG:=V->St->Hp->(St->Hp->Prop)->Prop
abbrev BY:=List V->St->Hp->(St->Hp->Prop)->Prop
def PG (X:Cx) (ml:Expr) (t:TG):Prop :=
 ∀ (ae:List (Addr × Obj)) (s:Shared) (σ : St) (H:Hp) (v:V) (u:Value) (Q:St->Hp->Prop),Inv X ae σ H s->RelV v u->t v σ H Q ->
  wpAny (model X.prog X.w) X.A (assign ml X.env u) (fun _ s'=>∃ cc H',Inv X ae cc H' s'∧Q cc H') X.xe s
def RW (X:Cx) (ts:List Expr) (t:BY):Prop :=
 ∀ (ae:List (Addr × Obj)) (s:Shared) (σ : St) (H:Hp) (vs:List V) (us:List Value) (Q:St->Hp->Prop),Inv X ae σ H s->Vals vs us->t vs σ H Q ->
  wpAny (model X.prog X.w) X.A (assignInOrder ((assignEach ts X.env).map (·.2)) us) (fun _ s'=>∃ cc H',Inv X ae cc H' s'∧Q cc H') X.xe s
abbrev Qo:=V->V->V->Hp->(Hp->Prop)->Prop
def W9 (X:Cx) (t:Qo):Prop :=
 ∀ (ae:List (Addr × Obj)) (s:Shared) (σ : St) (H:Hp) (o i v:V) (ov iv u:Value) (Q:Hp->Prop),Inv X ae σ H s->RelV o ov->RelV i iv->RelV v u->t o i v H Q ->
  wpAny (model X.prog X.w) X.A (setItem ov iv u) (fun _ s'=>∃ H',Inv X ae σ H' s'∧Q H') X.xe s
section
variable {X:Cx}{pos:Pos}
def bH (i:Nat):TG:=fun v σ H Q=>Q (σ.set i (some v)) H
theorem cB {i:Nat}{x:Str} (hN:X.N.Nodup) (hi:X.N[i]? = some x) (hx:Loc X.env.scope x) (hf:X.fn x=true∨X.env.scope.names.lookup x=some .local:=by first | exact .inl rfl | exact .inr rfl | assumption):PG X (.Name x pos) (bH i):=by
 intro ae s σ H v u Q I r h
 exact wpAny_assign_Name (ET I hN hi hx r (fun s' I'=>⟨_,H,I',h⟩) hf)
def abv:BY:=fun vs σ H Q=>vs = []∧Q σ H
inductive Ka (t:TG) (u:BY) (vs:List V) (σ : St) (H:Hp) (Q:St->Hp->Prop):Prop
 | mk:∀ v r,(vs=v :: r)->(t v σ H fun cc H'=>u r cc H' Q)->Ka t u vs σ H Q
def XU (t:TG) (u:BY):BY:=fun vs σ H Q=>Ka t u vs σ H Q
theorem pV:RW X [] abv:=by
 intro ae s σ H vs us Q I r h
 obtain⟨e,h⟩:=h
 subst e
 cases r
 exact assignInOrder_nil ⟨σ,H,I,h⟩
theorem gG {e:Expr}{es:List Expr}{t:TG}{u:BY} (h1:PG X e t) (h2:RW X es u)
  (hs:(assignEach (e :: es) X.env).map (·.2)=assign e X.env :: (assignEach es X.env).map (·.2):=by rfl):RW X (e :: es) (XU t u):=by
 intro ae s σ H vs us Q I r h
 obtain⟨v,vr,e1,h⟩:=h
 subst e1
 cases r with
 | cons r rr =>
  rw[hs]
  refine assignInOrder_cons (bW (h1 ae s σ H _ _ _ I r h) fun _ s1 ⟨HD,H1,I1,q1⟩ => ?_)
  exact h2 ae s1 HD H1 _ _ Q I1 rr q1
inductive Ot (K:ak) (n:Nat) (t:BY) (v:V) (σ : St) (H:Hp) (Q:St->Hp->Prop):Prop
 | mk:∀ a xs,(v = .ref a)->(bY K H a xs)->(xs.length=n)->(t xs σ H Q)->Ot K n t v σ H Q
def abt (K:ak) (n:Nat) (t:BY):TG:=fun v σ H Q=>Ot K n t v σ H Q
theorem r6 {es:List Expr}{k:Nat}{t:BY}{n:Nat} (hc:X.calm=true) (h:RW X es t)
  (hn:(assignEach es X.env).length=n:=by rfl) (FZ:(assignEach es X.env).findIdx? (·.1)=none:=by rfl):PG X (.Tuple es k pos) (abt X.K n t):=by
 intro ae s σ H v u Q I r hw
 obtain⟨a,xs,e1,hq,hl,hw⟩:=hw
 subst e1
 cases r
 obtain⟨its,rv,ht,hz⟩:=I.tuple hq
 refine assign_Tuple_tuple (I.ok.hd hc) ht (by simp[hn, <- hl,rv.length]) FZ fun h' hx => ?_
 have I1:Inv X ae σ H { s with heap:=h' }:=I.kept (t':=s.toks) fun b o e=>hx b o (bP (aW e)) e
 exact h ae _ σ H xs _ Q I1 (by simpa using rv) hw
def abu (to ti:TE) (t:Qo):TG:=fun v σ H Q=>to σ H fun o H1=>ti σ H1 fun i H2=>t o i v H2 fun H3=>Q σ H3
theorem Mi {o i:Expr}{to ti:TE}{t:Qo} (ho:PE X o to) (hi:PE X i ti) (hs:W9 X t)
  (ha:∀ v,assign (.Subscript o i pos) X.env v=(do
   let ov <- holding [v] (eval o X.env)
   let iv <- holding [v,ov] (eval i X.env)
   standAt pos
   holding [v,ov,iv] (setItem ov iv v)
   release [v,ov,iv] []):=by intro _;rfl):PG X (.Subscript o i pos) (abu to ti t):=by
 intro ae s σ H v u Q I r h
 rw[ha]
 refine wpAny_bind (wpAny_holding (bW (ho ae s σ H _ I h) fun ov s1 ⟨x,H1,I1,r1,q1⟩ => ?_))
 refine wpAny_bind (wpAny_holding (bW (hi ae s1 σ H1 _ I1 q1) fun iv s2 ⟨y,H2,I2,r2,q2⟩ => ?_))
 refine wpAny_bind (wpAny_standAt (wpAny_bind (wpAny_holding (bW (hs ae s2 σ H2 x y v ov iv u _ I2 r1 r2 r q2) fun _ s3 ⟨H3,I3,q3⟩ => ?_))))
 exact wpAny_release ⟨σ,H3,I3,q3⟩
def Kl (te:TE) (g:TG):TS:=fun D σ H=>te σ H fun x H1=>g x σ H1 D.nx
theorem A4 {tg e:Expr}{te:TE}{g:TG} (he:PE X e te) (hg:PG X tg g) (hs:swapsWithSole [tg] e pos.line X.env=pure false:=by rfl) (hw:swappedStores [tg] e X.env=pure none:=by rfl)
  (h1:(assignEach [tg] X.env).map (·.2) = [assign tg X.env]:=by rfl):PS X (.Assign [tg] e pos) (Kl te g):=by
 intro ae s σ H D I h
 refine wpAny_Assign_stores (bW (he ae s σ H _ I h) fun v s1 ⟨x,H1,I1,r1,q1⟩ => ?_) hs hw
 rw[h1]
 exact bW (hg ae s1 σ H1 x v _ I1 r1 q1) fun _ s2 q=>q
theorem bC {i:Nat}{x:Str}{e:Expr}{te:TE}{eI:Pos} (hN:X.N.Nodup) (hi:X.N[i]? = some x) (hx:Loc X.env.scope x) (he:PE X e te) (hs:swapsWith e (some (.Name x eI)) pos.line X.env=pure false:=by rfl) (hf:X.fn x=true∨X.env.scope.names.lookup x=some .local:=by first | exact .inl rfl | exact .inr rfl | assumption) :
  PS X (.Assign [.Name x eI] e pos) (Kl te (bH i)):=by
 intro ae s σ H D I h
 refine wpAny_Assign_Name (bW (he ae s σ H _ I h) fun v s1 ⟨y,H1,I1,r1,q1⟩ => ?_) hs
 exact ET I1 hN hi hx r1 (fun s2 I2=>⟨_,H1,I2,q1⟩) hf
def TJ (c:TT) (tb:TS):TS:=fun D σ H=>∃ W:Nat->St->Hp->Prop,(∃ m,W m σ H)∧∀ m σ H,W m σ H ->
 c σ H fun b H1=>if b=true then ∃ N:St->Hp->Prop,(∀ cc H',N cc H'->∃ m',m' < m∧W m' cc H')∧tb { D with nx:=N,ct:=N,bk:=D.nx } σ H1 else D.nx σ H1
theorem O0 {c:Expr}{body:List Stmt}{tc:TT}{tb:TS} (hp:PassesOwn (model X.prog X.w) X.A X.env X.xe) (hc:PT X c tc) (hb:pH X body tb):PS X (.While c body [] pos) (TJ tc tb):=by
 intro ae s σ H D I h
 obtain⟨W,⟨m0,w0⟩,turn⟩:=h
 refine wpAny_While (codeAny_whileLoop (fun n s'=>∃ cc H',Inv X ae cc H' s'∧W n cc H') ?_ m0 ⟨σ,H,I,w0⟩)
 rintro n s1 ⟨HD,H1,I1,w1⟩
 refine wpAny_passesOwn hp (bW (hc ae s1 HD H1 _ I1 (turn n HD H1 w1)) fun b s2 ⟨H2,I2,q2⟩ => ?_)
 cases b with
 | true =>
  obtain⟨N,hN,q2⟩:=q2
  rw[if_pos rfl]
  refine wpAny_passesOwn hp (bW (hb ae s2 HD H2 _ I2 q2) fun f s3 q3 => ?_)
  cases f with
  | next =>
   obtain⟨xc,H3,I3,n3⟩:=q3
   obtain⟨m',hm,w3⟩:=hN xc H3 n3
   exact⟨m',hm, xc,H3,I3,w3⟩
  | cont =>
   obtain⟨xc,H3,I3,n3⟩:=q3
   obtain⟨m',hm,w3⟩:=hN xc H3 n3
   exact⟨m',hm, xc,H3,I3,w3⟩
  | brk=>exact q3
  | ret v=>exact q3
 | false =>
  rw[if_neg bx]
  exact wpAny_execs_nil ⟨HD,H2,I2,q2⟩
end
structure It where
 go:Nat->Hp->Prop
 zv:Nat->Hp->V->Hp->Prop
 stop:Nat->Hp->Prop
def nh (X:Cx) (ae:List (Addr × Obj)) (H:Hp) (b:Addr):Prop :=
 H b=none∧b≠X.env.locals∧b ∉ X.fs∧(b∈X.ex∨X.kd.heap.objs.size<=b)∧(∀ x c,X.env.cells.lookup x=some c->c≠b)∧∀ p∈X.pn ++ ae,p.1≠b
theorem Inv.Av {X:Cx}{ae:List (Addr × Obj)}{σ : St} {H H':Hp}{s:Shared}{b:Addr} (I:Inv X ae σ H s) (hb:s.heap.objs.size<=b) (hn:H' b=none):nh X ae H' b:=by
 refine⟨hn,jA (bK I.lt hb),I.aaI hb,.inr (aF I.sz hb),fun x c e z => ?_,fun p hp z => ?_⟩
 ·obtain⟨v,q⟩:=I.cell x c e
  exact absurd (bK q.lt (by rw[z];exact hb)) (eU _)
 ·exact absurd (bK (aW (I.pin p hp).1) (by rw[z];exact hb)) (eU _)
structure Turn (P:Program) (w:World) (K:ak) (tg:Expr) (J:It) (fp:List Addr) (it:Addr) (tn:Nat->Heap->Prop):Prop where
 mem:it∈fp
 obj:∀ i h,tn i h->∀ b∈fp,∃ o,h.get? b=some o∧∀ v,o.data ≠ .cell v
 keep:∀ i h h',tn i h->(∀ b∈fp,∀ o,h.get? b=some o->h'.get? b=some o)->tn i h'
 item:∀ (X:Cx),X.prog=P->X.w=w->X.K=K->X.calm=true->∀ (i:Nat) (ae:List (Addr × Obj)) (s:Shared) (σ : St) (H:Hp) (E:Value->Shared->Prop),Inv X ae σ H s->(∀ b∈fp,nh X ae H b)->tn i s.heap->J.go i H ->
  wpAny (model P w) X.A (pyNext (.ref it)) (fun r s1=>∃ u,r=some u ∧
   wpAny (model P w) X.A (letOwnedTupleGo tg (.ref it) u) (fun _ s2=>∃ x H',Inv X ae σ H' s2∧RelV x u∧J.zv i H x H'∧tn (i+1) s2.heap∧∀ b∈fp,H' b=none) E s1) E s
 done:∀ (X:Cx),X.prog=P->X.w=w->X.K=K->X.calm=true->∀ (i:Nat) (ae:List (Addr × Obj)) (s:Shared) (σ : St) (H:Hp) (E:Value->Shared->Prop),Inv X ae σ H s->(∀ b∈fp,nh X ae H b)->tn i s.heap->J.stop i H ->
   wpAny (model P w) X.A (pyNext (.ref it)) (fun r s1=>r=none∧Inv X ae σ H s1) E s
 self:∀ (A:Around) (i:Nat) (s:Shared) (Q:Value->Shared->Prop) (E:Value->Shared->Prop),tn i s.heap->Q (.ref it) s->wpAny (model P w) A (pyIter (.ref it)) Q E s
abbrev TI:=St->Hp->(It->Hp->Prop)->Prop
def ZU (X:Cx) (ae:List (Addr × Obj)) (σ : St) (tg:Expr) (R:It->Hp->Prop) (FQ:Value) (s2:Shared):Prop :=
 ∃ (it:Addr) (fp:List Addr) (tn:Nat->Heap->Prop) (J:It) (H':Hp),FQ = .ref it∧Inv X ae σ H' s2∧Turn X.prog X.w X.K tg J fp it tn∧tn 0 s2.heap∧(∀ b∈fp,nh X ae H' b)∧R J H'
def PI (X:Cx) (tg dD:Expr) (wi:TI):Prop :=
 ∀ (ae:List (Addr × Obj)) (s:Shared) (σ : St) (H:Hp) (R:It->Hp->Prop),Inv X ae σ H s->wi σ H R ->
  wpAny (model X.prog X.w) X.A (eval dD X.env) (fun v s1=>wpAny (model X.prog X.w) X.A (pyIter v) (ZU X ae σ tg R) X.xe s1) X.xe s
theorem Ez {M:Model}{A:Around}{E:Value->Shared->Prop}{s:Shared}{tg:Expr}{it:Addr}{u:Value}{o:Obj}{n:String}{vs:Array Value}{Q:Unit->Shared->Prop} (ho:s.heap.get? it=some o) (hc:o.cls = .type n) (hd:o.data = .fields vs)
  (hn : ["enumerate", "zip", "dict_itemiterator", "dict_reverseitemiterator", "odict_iterator", "itertools.zip_longest", "itertools.pairwise"].contains n=false) (hQ:Q () s):wpAny M A (letOwnedTupleGo tg (.ref it) u) Q E s:=by
 unfold letOwnedTupleGo
 cases tg <;> first
  | exact wpAny_pure hQ
  | (cases u <;> first
    | exact wpAny_pure hQ
    | (refine wpAny_bind (wpAny_load ho ?_)
       rw[hc,hd]
       show wpAny M A (if (["enumerate", "zip", "dict_itemiterator", "dict_reverseitemiterator", "odict_iterator", "itertools.zip_longest", "itertools.pairwise"].contains n && vs[0]? == some (rawInt _))=true then _ else _) Q E s
       rw[if_neg (by intro h;rw[hn,Bool.false_and]at h;cases h)]
       exact wpAny_pure hQ))
def Kd (K:ak) (a:Addr):It :=
 ⟨fun i H=>∃ xs x,bo K H a xs∧xs[i]? = some x,fun i H x H'=>H'=H∧∀ xs,bo K H a xs->xs[i]? = some x,fun i H=>∃ xs,bo K H a xs∧xs.length<=i⟩
def Kc (K:ak) (a:Addr):It :=
 ⟨fun i H=>∃ xs x,bY K H a xs∧xs[i]? = some x,fun i H x H'=>H'=H∧∀ xs,bY K H a xs->xs[i]? = some x,fun i H=>∃ xs,bY K H a xs∧xs.length<=i⟩
def Cj (lo:Int) (n:Nat):It:=⟨fun i _=>i < n,fun i H x H'=>H'=H∧x = .int (lo+i),fun i _=>n<=i⟩
theorem LN {P:Program}{w:World}{K:ak}{tg:Expr} (a it:Addr):Turn P w K tg (Kd K a) [it] it (fun i h=>h.IsListIter it a i) where
 mem:=by simp
 obj:=fun i h st b hb=>by
  have e:b=it:=by simpa using hb
  subst e
  obtain⟨o,e,c,d⟩:=st
  exact⟨o,e,fun v z=>by rw[d]at z;cases z⟩
 keep:=fun i h h' st k=>st.at fun o e=>k it (by simp) o e
 item:=by
  intro X hP hw hK hc i ae s σ H E I hf st hg
  subst hP hw hK
  obtain⟨xs,x,hq,hx⟩:=hg
  obtain⟨its,rv,p,hz⟩:=I.list hq
  obtain⟨u,hu,ru⟩:=rv.get hx
  obtain⟨f0,f1,f2,f3,f4,f5⟩:=hf it (by simp)
  refine wpAny_pyNext_list_item st p.isList (x:=u) (by simpa using hu) fun h' aE sb => ?_
  have I1:Inv X ae σ H { s with heap:=h' }:=I.turned (t':=s.toks) (fun b o hb e=>(sb.2 b hb).trans e) f0 f1 f3 f4 f5
  obtain⟨o,e,c,d⟩:=id aE
  exact⟨u,rfl,Ez (s := { s with heap:=h' }) e c d (by decide) ⟨x,H,I1,ru,⟨rfl,fun ys hy=>by rw[I.FI hy hq];exact hx⟩,aE,fun b hb=>(hf b hb).1⟩⟩
 done:=by
   intro X hP hw hK hc i ae s σ H E I hf st hg
   subst hP hw hK
   obtain⟨xs,hq,hx⟩:=hg
   obtain⟨its,rv,p,hz⟩:=I.list hq
   obtain⟨f0,f1,f2,f3,f4,f5⟩:=hf it (by simp)
   have hl:=rv.length
   exact wpAny_pyNext_list_end (I.ok.hd hc) st p.isList (by simp;omega) fun h' eb=>⟨rfl,I.turned (t':=s.toks) (fun b o hb e=>eb b o hb e) f0 f1 f3 f4 f5⟩
 self:=fun _ _ _ _ _ st h=>wpAny_pyIter_listiter st h
theorem Kh {P:Program}{w:World}{K:ak}{tg:Expr} (a it:Addr):Turn P w K tg (Kc K a) [it] it (fun i h=>h.IsTupleIter it a i) where
 mem:=by simp
 obj:=fun i h st b hb=>by
  have e:b=it:=by simpa using hb
  subst e
  obtain⟨o,e,c,d⟩:=st
  exact⟨o,e,fun v z=>by rw[d]at z;cases z⟩
 keep:=fun i h h' st k=>st.at fun o e=>k it (by simp) o e
 item:=by
  intro X hP hw hK hc i ae s σ H E I hf st hg
  subst hP hw hK
  obtain⟨xs,x,hq,hx⟩:=hg
  obtain⟨its,rv,p,hz⟩:=I.tuple hq
  obtain⟨u,hu,ru⟩:=rv.get hx
  obtain⟨f0,f1,f2,f3,f4,f5⟩:=hf it (by simp)
  refine wpAny_pyNext_tuple_item st (show s.heap.IsTuple a its.toArray from p) (x:=u) (by simpa using hu) fun h' aE sb => ?_
  have I1:Inv X ae σ H { s with heap:=h' }:=I.turned (t':=s.toks) (fun b o hb e=>(sb.2 b hb).trans e) f0 f1 f3 f4 f5
  obtain⟨o,e,c,d⟩:=id aE
  exact⟨u,rfl,Ez (s := { s with heap:=h' }) e c d (by decide) ⟨x,H,I1,ru,⟨rfl,fun ys hy=>by rw[I.xi hy hq];exact hx⟩,aE,fun b hb=>(hf b hb).1⟩⟩
 done:=by
   intro X hP hw hK hc i ae s σ H E I hf st hg
   subst hP hw hK
   obtain⟨xs,hq,hx⟩:=hg
   obtain⟨its,rv,p,hz⟩:=I.tuple hq
   obtain⟨f0,f1,f2,f3,f4,f5⟩:=hf it (by simp)
   have hl:=rv.length
   exact wpAny_pyNext_tuple_end (I.ok.hd hc) st (show s.heap.IsTuple a its.toArray from p) (by simp;omega) fun h' eb=>⟨rfl,I.turned (t':=s.toks) (fun b o hb e=>eb b o hb e) f0 f1 f3 f4 f5⟩
 self:=fun _ _ _ _ _ st h=>wpAny_pyIter_tupleiter st h
theorem Ki {P:Program}{w:World}{K:ak}{tg:Expr} (it:Addr) (lo:Int) (n:Nat):Turn P w K tg (Cj lo n) [it] it (fun i h=>IsRangeIter h it (lo+(i:Nat) * 1) ((n:Int) - (i:Nat)) 1) where
 mem:=by simp
 obj:=fun i h st b hb=>by
  have e:b=it:=by simpa using hb
  subst e
  exact⟨_,st,fun v z=>by
   have z':zY _=tZ v:=z
   cases z'⟩
 keep:=fun i h h' st k=>k it (by simp) _ st
 item:=by
  intro X hP hw hK hc i ae s σ H E I hf st hg
  subst hP hw hK
  obtain⟨f0,f1,f2,f3,f4,f5⟩:=hf it (by simp)
  have W:=Walks.range (prog:=X.prog) (w:=X.w) (I.ok.hd hc) it lo 1 n
  refine W.item i s _ _ hg st fun v h' tk hv aE kk => ?_
  obtain⟨t,rfl⟩:=hv
  have I1:Inv X ae σ H { s with heap:=h',toks:=tk }:=I.turned (fun b o hb e=>kk b o (by simpa using hb) e) f0 f1 f3 f4 f5
  refine⟨_,rfl,Ez (s := { s with heap:=h',toks:=tk }) (n := "range_iterator") aE rfl rfl (by decide) ⟨.int (lo+i),H,I1,⟨t,?_⟩,⟨rfl,rfl⟩,aE,fun b hb=>(hf b hb).1⟩⟩
  rw[Int.mul_one]
 done:=by
   intro X hP hw hK hc i ae s σ H E I hf st hg
   subst hP hw hK
   obtain⟨f0,f1,f2,f3,f4,f5⟩:=hf it (by simp)
   exact wpAny_pyNext_range_end (I.ok.hd hc) st (by have:n<=i:=hg;omega) fun h' eb=>⟨rfl,I.turned (t':=s.toks) (fun b o hb e=>eb b o hb e) f0 f1 f3 f4 f5⟩
 self:=fun _ _ _ _ _ st h=>wpAny_pyIter_rangeiter st h
section
variable {X:Cx}{tg:Expr}
inductive JZ (K:ak) (R:It->Hp->Prop) (x:V) (H1:Hp):Prop
 | mk:∀ a,(x = .ref a)->((∃ xs,bo K H1 a xs))->(R (Kd K a) H1)->JZ K R x H1
def XM (K:ak) (tl:TE):TI:=fun σ H R=>tl σ H fun x H1=>JZ K R x H1
inductive Oq (K:ak) (R:It->Hp->Prop) (x:V) (H1:Hp):Prop
 | mk:∀ a,(x = .ref a)->((∃ xs,bY K H1 a xs))->(R (Kc K a) H1)->Oq K R x H1
def aaR (K:ak) (tl:TE):TI:=fun σ H R=>tl σ H fun x H1=>Oq K R x H1
theorem ki {l:Expr}{tl:TE} (hl:PE X l tl):PI X tg l (XM X.K tl):=by
 intro ae s σ H R I h
 refine bW (hl ae s σ H _ I h) fun v s1 ⟨x,H1,I1,r1,q1⟩ => ?_
 obtain⟨a,e,⟨xs,hq⟩,q⟩:=q1
 subst e
 cases r1
 obtain⟨its,rv,p,hz⟩:=I1.list hq
 refine wpAny_pyIter_list p.isList ?_
 refine⟨s1.heap.objs.size, [s1.heap.objs.size],_,_,H1,rfl,I1.kept (t':=s1.toks) fun b o e=>aA _ e,LN a _,⟨_,bh _ rfl,rfl,rfl⟩,fun b hb => ?_,q⟩
 have e:b=s1.heap.objs.size:=by simpa using hb
 subst e
 exact I1.Av (ao _) (I1.bw.fresh (ao _))
theorem A5 {l:Expr}{tl:TE} (hl:PE X l tl):PI X tg l (aaR X.K tl):=by
 intro ae s σ H R I h
 refine bW (hl ae s σ H _ I h) fun v s1 ⟨x,H1,I1,r1,q1⟩ => ?_
 obtain⟨a,e,⟨xs,hq⟩,q⟩:=q1
 subst e
 cases r1
 obtain⟨its,rv,p,hz⟩:=I1.tuple hq
 refine wpAny_pyIter_tuple (show s1.heap.IsTuple a its.toArray from p) ?_
 refine⟨s1.heap.objs.size, [s1.heap.objs.size],_,_,H1,rfl,I1.kept (t':=s1.toks) fun b o e=>aA _ e,Kh a _,⟨_,bh _ rfl,rfl,rfl⟩,fun b hb => ?_,q⟩
 have e:b=s1.heap.objs.size:=by simpa using hb
 subst e
 exact I1.Av (ao _) (I1.bw.fresh (ao _))
theorem Fj {ae:List (Addr × Obj)}{σ : St}{H:Hp}{s:Shared}{R:It->Hp->Prop}{E:Value->Shared->Prop}{lo hi:Int}{t u v:Tok}{tk:Nat} (I:Inv X ae σ H s) (h1 : -(2 ^ 62)<=lo) (h2:lo < 2 ^ 62) (h3 : -(2 ^ 62)<=hi) (h4:hi < 2 ^ 62)
  (q:R (Cj lo (hi - lo).toNat) H):wpAny (model X.prog X.w) X.A (pyIter (.ref s.heap.objs.size)) (ZU X ae σ tg R) E { s with heap:=s.heap.push { cls := .type "range",data := .fields #[.int lo t,.int hi u,.int 1 v] },toks:=tk }:=by
 refine wpAny_pyIter_range (IsRange.new ..) (small_one h1 h2 h3 h4) ?_
 have I1:Inv X ae σ H { s with heap:=s.heap.push { cls := .type "range",data := .fields #[.int lo t,.int hi u,.int 1 v] },toks:=tk }:=I.kept fun b o e=>aA _ e
 refine⟨(s.heap.push { cls := .type "range",data := .fields #[.int lo t,.int hi u,.int 1 v] }).objs.size, [(s.heap.push { cls := .type "range",data := .fields #[.int lo t,.int hi u,.int 1 v] }).objs.size],_,_,H,rfl,
  I1.kept (t':=tk) fun b o e=>aA _ e,Ki _ lo (hi - lo).toNat,?_,fun b hb => ?_,q⟩
 ·have e1:lo+((0:Nat):Int) * 1=lo:=by simp
  have e2:(((hi - lo).toNat:Nat):Int) - ((0:Nat):Int)=sZ lo hi 1:=by rw[rangeSize_one];split <;> omega
  show IsRangeIter _ _ (lo+((0:Nat):Int) * 1) ((((hi - lo).toNat:Nat):Int) - ((0:Nat):Int)) 1
  rw[e1,e2]
  exact bh _ rfl
 ·have e:b=(s.heap.push { cls := .type "range",data := .fields #[.int lo t,.int hi u,.int 1 v] }).objs.size:=by simpa using hb
  subst e
  exact I1.Av (ao _) (I1.bw.fresh (ao _))
inductive JY (R:It->Hp->Prop) (vs:List V) (H1:Hp):Prop
 | mk:∀ (j:Int),(vs = [.int j])->(-(2 ^ 62)<=j)->(j < 2 ^ 62)->(R (Cj 0 j.toNat) H1)->JY R vs H1
def XJ (ta:TA):TI:=fun σ H R=>ta σ H fun vs H1=>JY R vs H1
inductive JX (R:It->Hp->Prop) (vs:List V) (H1:Hp):Prop
 | mk:∀ (i j:Int),(vs = [.int i,.int j])->((-(2 ^ 62)<=i∧i < 2 ^ 62 ∧ -(2 ^ 62)<=j∧j < 2 ^ 62))->(R (Cj i (j - i).toNat) H1)->JX R vs H1
def XI (ta:TA):TI:=fun σ H R=>ta σ H fun vs H1=>JX R vs H1
theorem og {a:Expr}{ta:TA}{p pos:Pos} (hg:Gl X "range") (hm:X.mg "range" = none) (ha:PA X [a] ta) (hs:starEach [a] X.env = [(false,eval a X.env)]:=by rfl):PI X tg (.Call (.Name "range" p) [a] [] pos) (XJ ta):=by
 intro ae s σ H R I h
 refine Call_ (qG I hg hm boot_range (gk (bW (ha pos ae s σ H _ I h) fun us s1 ⟨vs,H1,I1,r1,q1⟩ => ?_) hs rfl))
 obtain⟨j,e,q1,q2,q⟩:=q1
 subst e
 cases r1 with
 | cons r rr =>
  cases rr
  obtain⟨t,rfl⟩:=r
  exact call_range_1 (Fj I1 (by omega) (by omega) q1 q2 (by simpa using q))
theorem Mh {a b:Expr}{ta:TA}{p pos:Pos} (hg:Gl X "range") (hm:X.mg "range" = none) (ha:PA X [a,b] ta) (hs:starEach [a,b] X.env = [(false,eval a X.env),(false,eval b X.env)]:=by rfl) (cq:starEach [b] X.env = [(false,eval b X.env)]:=by rfl) :
  PI X tg (.Call (.Name "range" p) [a,b] [] pos) (XI ta):=by
 intro ae s σ H R I h
 refine Call_ (qG I hg hm boot_range (gk (bW (ha pos ae s σ H _ I h) fun us s1 ⟨vs,H1,I1,r1,q1⟩ => ?_) (by rw[hs,cq]) (by rw[cq];rfl)))
 obtain⟨i,j,e,⟨q1,q2,q3,q4⟩,q⟩:=q1
 subst e
 cases r1 with
 | cons r rr =>
  cases rr with
  | cons r' rr =>
   cases rr
   obtain⟨t,rfl⟩:=r
   obtain⟨t',rfl⟩:=r'
   exact call_range_2 (Fj I1 q1 q2 q3 q4 q)
def aan (wi:TI) (g:TG) (tb:TS):TS:=fun D σ H=>wi σ H fun J H1=>∃ W:Nat->Nat->St->Hp->Prop,(∃ m,W 0 m σ H1)∧∀ i m σ H,W i m σ H ->
 (J.stop i H∧D.nx σ H)∨(J.go i H∧∃ N:St->Hp->Prop,(∀ cc H',N cc H'->∃ m',m' < m∧W (i+1) m' cc H')∧∀ x H',J.zv i H x H'->g x σ H' fun ll H2=>tb { D with nx:=N,ct:=N,bk:=D.nx } ll H2)
def xG (fp:List Addr) (h:Heap):List (Addr × Obj):=fp.filterMap fun b=>(h.get? b).map fun o=>(b,o)
theorem mV {fp:List Addr}{h:Heap}{b:Addr}{o:Obj} (hb:b∈fp) (e:h.get? b=some o):(b,o)∈xG fp h:=fC.mpr ⟨b,hb,by rw[e];rfl⟩
theorem Mq {fp:List Addr}{h:Heap}{p:Addr × Obj} (hp:p∈xG fp h):p.1∈fp∧h.get? p.1=some p.2:=by
 obtain⟨b,hb,e⟩:=fC.mp hp
 cases q:h.get? b with
 | none=>rw[q]at e;cases e
 | some o =>
  rw[q]at e
  have e':(b,o)=p:=aB e
  subst e'
  exact⟨hb,q⟩
theorem Inv.pinned {ae:List (Addr × Obj)}{σ : St}{H:Hp}{s:Shared}{fp:List Addr} (I:Inv X ae σ H s) (hf:∀ b∈fp,nh X ae H b) (ho:∀ b∈fp,∃ o,s.heap.get? b=some o∧∀ v,o.data ≠ .cell v):Inv X (ae ++ xG fp s.heap) σ H s :=
 I.Ik fun p hp=>(bg.mp hp).elim (fun z=>I.pin p (bE _ z)) fun z=>by
  obtain⟨hb,e⟩:=Mq z
  obtain⟨f0,f1,f2,_⟩:=hf p.1 hb
  obtain⟨o,e',d⟩:=ho p.1 hb
  rw[e]at e';cases e'
  exact⟨e,f0,f1,f2,d⟩
theorem Inv.pL {ae pl:List (Addr × Obj)}{σ : St}{H:Hp}{s:Shared} (I:Inv X (ae ++ pl) σ H s):Inv X ae σ H s:=I.Ik fun p hp=>I.pin p (bE _ (eO _ hp))
theorem gw {dD:Expr}{body:List Stmt}{wi:TI}{g:TG}{tb:TS}{pos:Pos} (hp:PassesOwn (model X.prog X.w) X.A X.env X.xe) (hc:X.calm=true) (hi:PI X tg dD wi) (hg:PG X tg g) (hb:pH X body tb)
  (hs:∀ x,foldedSetIterable dD X.env x=pure x:=by intro _;rfl):PS X (.For tg dD body [] pos) (aan wi g tb):=by
 intro ae s σ H D I h
 refine wpAny_For (bW (hi ae s σ H _ I h) fun v s1 h1=>bW h1 fun FQ s2 h2 => ?_) hs
 obtain⟨it,fp,tn,J,H2,e,I2,T,c9,f2,W,⟨m0,w0⟩,turn⟩:=h2
 subst e
 -- aaf aeB true of EL XF abG through EL loop
 have stat:∀ {H':Hp},(∀ b∈fp,H' b=none)->∀ b∈fp,nh X ae H' b:=fun hn b hb=>⟨hn b hb,(f2 b hb).2⟩
 refine codeAny_forLoop_any (fun n s'=>∃ i cc H',Inv X ae cc H' s'∧tn i s'.heap∧(∀ b∈fp,H' b=none)∧W i n cc H') ?_ m0 ⟨0, σ,H2,I2,c9,fun b hb=>(f2 b hb).1,w0⟩
 rintro n s3 ⟨i, xc,H3,I3,HV,Zv,w3⟩
 rcases turn i n xc H3 w3 with⟨stop,qn⟩ | ⟨go,N,hN,step⟩
 ·refine wpAny_passesOwn hp (bW (T.done X rfl rfl rfl hc i ae s3 xc H3 X.xe I3 (stat Zv) HV stop) fun r s4 ⟨hr,I4⟩ => ?_)
  subst hr
  exact wpAny_execs_nil ⟨xc,H3,I4,qn⟩
 ·refine wpAny_passesOwn hp (bW (T.item X rfl rfl rfl hc i ae s3 xc H3 X.xe I3 (stat Zv) HV go) fun r s4 ⟨u,hr,h4⟩ => ?_)
  subst hr
  refine wpAny_passesOwn hp (bW h4 fun _ s5 ⟨x,H5,I5,r5,y5,gv,Nz⟩ => ?_)
  have I5':=I5.pinned (stat Nz) (T.obj _ _ gv)
  refine wpAny_passesOwn hp (bW (hg _ s5 xc H5 x u _ I5' r5 (step x H5 y5)) fun _ s6 ⟨σ6,H6,I6,q6⟩ => ?_)
  refine wpAny_passesOwn hp (bW (hb _ s6 σ6 H6 _ I6 q6) fun f s7 q7 => ?_)
  have again:∀ {xa:St}{H7:Hp},Inv X (ae ++ xG fp s5.heap) xa H7 s7->N xa H7->∃ m,m < n∧∃ i cc H',Inv X ae cc H' s7∧tn i s7.heap∧(∀ b∈fp,H' b=none)∧W i m cc H':=fun {xa H7} I7 n7=>by
   obtain⟨m',hm,w7⟩:=hN xa H7 n7
   refine⟨m',hm,i+1, xa,H7,I7.pL,T.keep _ _ _ gv fun b hb o e=>(I7.pin (b,o) (bE _ (bE _ (mV hb e)))).1,fun b hb => ?_,w7⟩
   obtain⟨o,e,d⟩:=T.obj _ _ gv b hb
   exact(I7.pin (b,o) (bE _ (bE _ (mV hb e)))).2.1
  cases f with
  | next=>obtain⟨xa,H7,I7,n7⟩:=q7;exact again I7 n7
  | cont=>obtain⟨xa,H7,I7,n7⟩:=q7;exact again I7 n7
  | brk=>obtain⟨xa,H7,I7,q7⟩:=q7;exact⟨xa,H7,I7.pL,q7⟩
  | ret v=>obtain⟨x7, xa,H7,I7,r7,q7⟩:=q7;exact⟨x7, xa,H7,I7.pL,r7,q7⟩
end
theorem jX {K:ak}{a:Addr}{xs:List V}{g:TG}{tb:TS}{D:Ends}{σ : St}{H:Hp} (Pv:Nat->St->Hp->Prop) (h0:Pv 0 σ H) (hl:∀ i σ H,i<=xs.length->Pv i σ H->bo K H a xs)
  (hs:∀ i x σ H,xs[i]? = some x->Pv i σ H->g x σ H fun ll H2=>tb { D with nx:=Pv (i+1),ct:=Pv (i+1),bk:=D.nx } ll H2) (hd:∀ σ H,Pv xs.length σ H->D.nx σ H) :
  ∃ W:Nat->Nat->St->Hp->Prop,(∃ m,W 0 m σ H)∧∀ i m σ H,W i m σ H ->
   ((Kd K a).stop i H∧D.nx σ H)∨((Kd K a).go i H∧∃ N:St->Hp->Prop,(∀ cc H',N cc H'->∃ m',m' < m∧W (i+1) m' cc H')∧∀ x H',(Kd K a).zv i H x H'->g x σ H' fun ll H2=>tb { D with nx:=N,ct:=N,bk:=D.nx } ll H2):=by
 refine⟨fun i m σ H=>m=xs.length - i∧i<=xs.length∧Pv i σ H,⟨xs.length,by simp,aS _,h0⟩,?_⟩
 rintro i m σ H ⟨rfl,hi,p⟩
 have q:=hl i σ H hi p
 by_cases cS:i < xs.length
 ·refine .inr ⟨⟨xs,xs[i],q,by simp[cS]⟩,Pv (i+1),fun cc H' p'=>⟨xs.length - (i+1),by omega,rfl,cS,p'⟩,fun x H' y => ?_⟩
  obtain⟨e,y⟩:=y
  subst e
  exact hs i x σ _ (y xs q) p
 ·have e:i=xs.length:=by omega
  subst e
  exact .inl ⟨⟨xs,q,ao _⟩,hd σ H p⟩
theorem Jk {K:ak}{a:Addr}{xs:List V}{g:TG}{tb:TS}{D:Ends}{σ : St}{H:Hp} (Pv:Nat->St->Hp->Prop) (h0:Pv 0 σ H) (hl:∀ i σ H,i<=xs.length->Pv i σ H->bY K H a xs)
  (hs:∀ i x σ H,xs[i]? = some x->Pv i σ H->g x σ H fun ll H2=>tb { D with nx:=Pv (i+1),ct:=Pv (i+1),bk:=D.nx } ll H2) (hd:∀ σ H,Pv xs.length σ H->D.nx σ H) :
  ∃ W:Nat->Nat->St->Hp->Prop,(∃ m,W 0 m σ H)∧∀ i m σ H,W i m σ H ->
   ((Kc K a).stop i H∧D.nx σ H)∨((Kc K a).go i H∧∃ N:St->Hp->Prop,(∀ cc H',N cc H'->∃ m',m' < m∧W (i+1) m' cc H')∧∀ x H',(Kc K a).zv i H x H'->g x σ H' fun ll H2=>tb { D with nx:=N,ct:=N,bk:=D.nx } ll H2):=by
 refine⟨fun i m σ H=>m=xs.length - i∧i<=xs.length∧Pv i σ H,⟨xs.length,by simp,aS _,h0⟩,?_⟩
 rintro i m σ H ⟨rfl,hi,p⟩
 have q:=hl i σ H hi p
 by_cases cS:i < xs.length
 ·refine .inr ⟨⟨xs,xs[i],q,by simp[cS]⟩,Pv (i+1),fun cc H' p'=>⟨xs.length - (i+1),by omega,rfl,cS,p'⟩,fun x H' y => ?_⟩
  obtain⟨e,y⟩:=y
  subst e
  exact hs i x σ _ (y xs q) p
 ·have e:i=xs.length:=by omega
  subst e
  exact .inl ⟨⟨xs,q,ao _⟩,hd σ H p⟩
theorem yf {lo:Int}{n:Nat}{g:TG}{tb:TS}{D:Ends}{σ : St}{H:Hp} (Pv:Nat->St->Hp->Prop) (h0:Pv 0 σ H)
  (hs:∀ i σ H,i < n->Pv i σ H->g (.int (lo+i)) σ H fun ll H2=>tb { D with nx:=Pv (i+1),ct:=Pv (i+1),bk:=D.nx } ll H2) (hd:∀ σ H,Pv n σ H->D.nx σ H) :
  ∃ W:Nat->Nat->St->Hp->Prop,(∃ m,W 0 m σ H)∧∀ i m σ H,W i m σ H ->
   ((Cj lo n).stop i H∧D.nx σ H)∨((Cj lo n).go i H∧∃ N:St->Hp->Prop,(∀ cc H',N cc H'->∃ m',m' < m∧W (i+1) m' cc H')∧∀ x H',(Cj lo n).zv i H x H'->g x σ H' fun ll H2=>tb { D with nx:=N,ct:=N,bk:=D.nx } ll H2):=by
 refine⟨fun i m σ H=>m=n - i∧i<=n∧Pv i σ H,⟨n,by simp,aS _,h0⟩,?_⟩
 rintro i m σ H ⟨rfl,hi,p⟩
 by_cases cS:i < n
 ·refine .inr ⟨cS,Pv (i+1),fun cc H' p'=>⟨n - (i+1),by omega,rfl,cS,p'⟩,fun x H' y => ?_⟩
  obtain⟨e,y⟩:=y
  subst e y
  exact hs i σ _ cS p
 ·have e:i=n:=by omega
  subst e
  exact .inl ⟨ao _,hd σ H p⟩
abbrev R2:=V->V->Hp->VK->Prop
def kC (X:Cx) (f:Value->Value->Sem Value) (r:R2):Prop :=
 ∀ (ae:List (Addr × Obj)) (s:Shared) (σ : St) (H:Hp) (x y:V) (v u:Value) (Q:VK),Inv X ae σ H s->RelV x v->RelV y u->r x y H Q ->
  wpAny (model X.prog X.w) X.A (f v u) (EP X ae σ Q) X.xe s
def WX (X:Cx) (f:Value->Sem Value) (r:V->Hp->VK->Prop):Prop :=
 ∀ (ae:List (Addr × Obj)) (s:Shared) (σ : St) (H:Hp) (x:V) (v:Value) (Q:VK),Inv X ae σ H s->RelV x v->r x H Q ->
  wpAny (model X.prog X.w) X.A (f v) (EP X ae σ Q) X.xe s
def k9 (X:Cx) (f:Value) (r:List V->Hp->VK->Prop):Prop :=
 ∀ (ae:List (Addr × Obj)) (s:Shared) (σ : St) (H:Hp) (xs:List V) (us:List Value) (Q:VK),Inv X ae σ H s->Vals xs us->r xs H Q ->
  wpAny (model X.prog X.w) X.A (call f us) (EP X ae σ Q) X.xe s
def pE (r:R2) (ta tb:TE):TE:=fun σ H Q=>ta σ H fun x H1=>tb σ H1 fun y H2=>r x y H2 Q
def tUn (r:V->Hp->VK->Prop) (ta:TE):TE:=fun σ H Q=>ta σ H fun x H1=>r x H1 Q
inductive RI (C:Int->Int->Prop) (g:Int->Int->V) (x y:V) (H:Hp) (Q:VK):Prop
 | mk (i j:Int) (hx:x = .int i) (hy:y = .int j) (hc:C i j) (q:Q (g i j) H):RI C g x y H Q
def rI (C:Int->Int->Prop) (g:Int->Int->V):R2:=fun x y H Q=>RI C g x y H Q
inductive ZS (g:Int->Int->V) (x y:V) (H:Hp) (Q:VK):Prop
 | mk (i j:Int) (hx:x = .int i) (hy:y = .int j) (q:Q (g i j) H):ZS g x y H Q
def DA (g:Int->Int->V):R2:=fun x y H Q=>ZS g x y H Q
inductive RU (g:Int->V) (x:V) (H:Hp) (Q:VK):Prop
 | mk (i:Int) (hx:x = .int i) (q:Q (g i) H):RU g x H Q
def rU (g:Int->V):V->Hp->VK->Prop:=fun x H Q=>RU g x H Q
section
variable {X:Cx}{a b c:Expr}{ta tb tc:TE}{pos:Pos}
theorem WS (ha:PE X a ta) (hb:PE X b tb) {ae:List (Addr × Obj)}{s:Shared}{σ : St}{H:Hp}{R:V->V->Hp->Prop} (I:Inv X ae σ H s)
  (h:ta σ H fun x H1=>tb σ H1 fun y H2=>R x y H2) {Q:Value->Shared->Prop}{f:Value->Value->Sem Value}
  (hf:∀ v u s2 x y H2,Inv X ae σ H2 s2->RelV x v->RelV y u->R x y H2->wpAny (model X.prog X.w) X.A (f v u) Q X.xe s2) :
  wpAny (model X.prog X.w) X.A (eval a X.env) (fun v dQ => wpAny (model X.prog X.w) X.A (eval b X.env) (fun u nO => wpAny (model X.prog X.w) X.A (f v u) Q X.xe nO) X.xe dQ) X.xe s:=by
 refine bW (ha ae s σ H _ I h) fun v s1 ⟨x,H1,I1,r1,q1⟩ => ?_
 refine bW (hb ae s1 σ H1 _ I1 q1) fun u s2 ⟨y,H2,I2,r2,q2⟩ => ?_
 exact hf v u s2 x y H2 I2 r1 r2 q2
theorem bb {op:Operator}{r:R2} (ho:kC X (binaryOp op) r) (ha:PE X a ta) (hb:PE X b tb):PE X (.BinOp a op b pos) (pE r ta tb):=by
 intro ae s σ H Q I h
 exact wpAny_BinOp (WS ha hb I h fun v u s2 x y H2 I2 rx ry q=>ho ae s2 σ H2 x y v u Q I2 rx ry q)
theorem QT {op:UnaryOp}{r:V->Hp->VK->Prop} (ho:WX X (unaryOp op) r) (ha:PE X a ta):PE X (.UnaryOp op a pos) (tUn r ta):=by
 intro ae s σ H Q I h
 exact UnaryOp_ (bW (ha ae s σ H _ I h) fun v s1 ⟨x,H1,I1,r1,q1⟩=>ho ae s1 σ H1 x v Q I1 r1 q1)
theorem QW {f:Value->Value->Sem Value}{C:Int->Int->Prop}{g:Int->Int->Int}
  (rule:∀ (i j:Int) (t u:Tok) (s:Shared) (Q:Value->Shared->Prop) (E:Value->Shared->Prop),C i j->Q (.int (g i j) s.toks) { s with toks:=s.toks+1 }->wpAny (model X.prog X.w) X.A (f (.int i t) (.int j u)) Q E s) :
  kC X f (rI C fun i j => .int (g i j)):=by
 intro ae s σ H x y v u Q I rx ry h
 obtain⟨i,j,rfl,rfl,hc,q⟩:=h
 obtain⟨t,rfl⟩:=rx
 obtain⟨t',rfl⟩:=ry
 exact rule i j t t' s _ _ hc ⟨.int (g i j),H,I.tok _,⟨_,rfl⟩,q⟩
theorem Uq {f:Value->Value->Sem Value}{g:Int->Int->Int}
  (rule:∀ (i j:Int) (t u:Tok) (s:Shared) (Q:Value->Shared->Prop) (E:Value->Shared->Prop),Q (.int (g i j) s.toks) { s with toks:=s.toks+1 }->wpAny (model X.prog X.w) X.A (f (.int i t) (.int j u)) Q E s) :
  kC X f (DA fun i j => .int (g i j)):=by
 intro ae s σ H x y v u Q I rx ry h
 obtain⟨i,j,rfl,rfl,q⟩:=h
 obtain⟨t,rfl⟩:=rx
 obtain⟨t',rfl⟩:=ry
 exact rule i j t t' s _ _ ⟨.int (g i j),H,I.tok _,⟨_,rfl⟩,q⟩
theorem KA {f:Value->Value->Sem Value}{g:Int->Int->Bool}
  (rule:∀ (i j:Int) (t u:Tok) (s:Shared) (Q:Value->Shared->Prop) (E:Value->Shared->Prop),Q (.bool (g i j)) s->wpAny (model X.prog X.w) X.A (f (.int i t) (.int j u)) Q E s) :
  kC X f (DA fun i j => .bl (g i j)):=by
 intro ae s σ H x y v u Q I rx ry h
 obtain⟨i,j,rfl,rfl,q⟩:=h
 obtain⟨t,rfl⟩:=rx
 obtain⟨t',rfl⟩:=ry
 exact rule i j t t' s _ _ ⟨.bl (g i j),H,I,rfl,q⟩
def Xh (i j:Int):Prop:=0 < j∧j < 1073741824
def abF (i j:Int):Prop:=0<=j∧j<=1000000∧i.natAbs < 2 ^ 64
def Qp (i j:Int):Prop:=(-(2 ^ 64) < i∧i < 2 ^ 64)∨(-(2 ^ 64) < j∧j < 2 ^ 64)
theorem Qp.ok {i j:Int} (h:Qp i j):IntMulOk i j:=by
 rcases h with⟨h1,h2⟩ | ⟨h1,h2⟩
 ·exact .of_left (intBits_le_64 h1 h2)
 ·exact .of_right (intBits_le_64 h1 h2)
theorem jJ:kC X (binaryOp .Add) (DA fun i j => .int (i+j)):=Uq fun _ _ _ _ _ _ _ q=>add_int q
theorem A7:kC X (binaryOp .Sub) (DA fun i j => .int (i - j)):=Uq fun _ _ _ _ _ _ _ q=>sub_int q
theorem uJ:kC X (binaryOp .Mult) (rI Qp fun i j => .int (i * j)):=QW fun _ _ _ _ _ _ _ hc q=>mul_int q hc.ok
theorem dR:kC X (binaryOp .FloorDiv) (rI Xh fun i j => .int (i / j)):=QW fun i j _ _ _ _ _ hc q=>by
 have h1:(0:Int) < j:=hc.1
 have h2:j < 1073741824:=hc.2
 exact floordiv_int (by omega) (by rw[Int.fdiv_eq_ediv_of_nonneg i (by omega)];exact q) (.inl (PyProof.noPylong_small (by omega)))
theorem cK:kC X (binaryOp .Mod) (rI (fun _ j=>0 < j) fun i j => .int (i % j)):=QW fun i j _ _ _ _ _ hc q=>by
 have h1:(0:Int) < j:=hc
 exact mod_int' (by omega) (by rw[Int.fmod_eq_emod_of_nonneg i (by omega)];exact q)
theorem xH:kC X (binaryOp .Pow) (rI abF fun i j => .int (i ^ j.toNat)):=QW fun _ _ _ _ _ _ _ hc q=>pow_int_small hc.1 hc.2.1 hc.2.2 q
theorem unI {f:Value->Sem Value}{g:Int->Int}
  (rule:∀ (i:Int) (t:Tok) (s:Shared) (Q:Value->Shared->Prop) (E:Value->Shared->Prop),Q (.int (g i) s.toks) { s with toks:=s.toks+1 }->wpAny (model X.prog X.w) X.A (f (.int i t)) Q E s) :
  WX X f (rU fun i => .int (g i)):=by
 intro ae s σ H x v Q I rx h
 obtain⟨i,rfl,q⟩:=h
 obtain⟨t,rfl⟩:=rx
 exact rule i t s _ _ ⟨.int (g i),H,I.tok _,⟨_,rfl⟩,q⟩
theorem LJ:WX X (unaryOp .USub) (rU fun i => .int (-i)):=unI fun _ _ _ _ _ q=>neg_int q
end
def T2:V->V->Bool
 | .df,.df=>true | .df,.int _=>true | .int _,.df=>true | .df,.bl _=>true | .bl _,.df=>true | .df,.str _=>true | .str _,.df=>true
 | .int _,.int _=>true | .bl _,.bl _=>true | .str _,.str _=>true | .wU _,.wU _=>true
 | .int _,.str _=>true | .str _,.int _=>true | .bl _,.str _=>true | .str _,.bl _=>true
 | _,_=>false
def rEq:R2:=fun x y H Q=>T2 x y=true∧Q (.bl (decide (x=y))) H
def rNe:R2:=fun x y H Q=>T2 x y=true∧Q (.bl (!decide (x=y))) H
theorem Jv {i j:Int}:decide (V.int i=V.int j)=(i == j):=by
 rw[pC]
 simp
theorem NJ {i j:Bool}:decide (V.bl i=V.bl j)=(i == j):=by
 rw[pC]
 simp
theorem Ju {i j:Str}:decide (V.str i=V.str j)=(i == j):=by
 rw[pC]
 simp
theorem Jw {i j:Array UInt8}:decide (V.wU i=V.wU j)=(i.toList == j.toList):=by
 rw[pC]
 cases i
 cases j
 simp
section
variable {X:Cx}{a b c:Expr}{ta tb tc:TE}{pos:Pos}
theorem dw {ae:List (Addr × Obj)}{σ : St}{H:Hp}{s:Shared}{Q:VK} {k k':Bool} (I:Inv X ae σ H s) (q:Q (.bl k) H) (e:k=k'):EP X ae σ Q (.bool k') s:=by
 subst e
 exact⟨.bl k,H,I,rfl,q⟩
theorem je:kC X (compareOp .Eq) rEq:=by
 intro ae s σ H x y v u Q I rx ry h
 obtain⟨hs,q⟩:=h
 cases x with
 | df =>
  cases rx
  cases y with
  | df=>cases ry;exact PySem.EqNone.eq_none_none (dw I q (by simp))
  | bl j=>cases ry;exact PySem.EqNone.eq_none_bool (dw I q (by simp))
  | int j=>obtain⟨t',rfl⟩:=ry;exact PySem.EqNone.eq_none_int (dw I q (by simp))
  | str j=>obtain⟨t',rfl⟩:=ry;exact PySem.EqNone.eq_none_str (dw I q (by simp))
  | _=>exact absurd (show false=true from hs) bx
 | bl i =>
  cases rx
  cases y with
  | df=>cases ry;exact PySem.EqNone.eq_bool_none (dw I q (by simp))
  | bl j=>cases ry;exact eq_bool (dw I q NJ)
  | str j=>obtain⟨t',rfl⟩:=ry;exact PySem.EqMixed.eq_bool_str (dw I q (by simp))
  | _=>exact absurd (show false=true from hs) bx
 | int i =>
  obtain⟨t,rfl⟩:=rx
  cases y with
  | df=>cases ry;exact PySem.EqNone.eq_int_none (dw I q (by simp))
  | int j=>obtain⟨t',rfl⟩:=ry;exact eq_int (dw I q Jv)
  | str j=>obtain⟨t',rfl⟩:=ry;exact PySem.EqMixed.eq_int_str (dw I q (by simp))
  | _=>exact absurd (show false=true from hs) bx
 | str i =>
  obtain⟨t,rfl⟩:=rx
  cases y with
  | df=>cases ry;exact PySem.EqNone.eq_str_none (dw I q (by simp))
  | bl j=>cases ry;exact PySem.EqMixed.eq_str_bool (dw I q (by simp))
  | int j=>obtain⟨t',rfl⟩:=ry;exact PySem.EqMixed.eq_str_int (dw I q (by simp))
  | str j=>obtain⟨t',rfl⟩:=ry;exact eq_str (dw I q Ju)
  | _=>exact absurd (show false=true from hs) bx
 | wU i =>
  obtain⟨t,rfl⟩:=rx
  cases y with
  | wU j=>obtain⟨t',rfl⟩:=ry;exact PySem.W.eq_bytes (dw I q Jw)
  | _=>exact absurd (show false=true from hs) bx
 | _=>cases y <;> exact absurd (show false=true from hs) bx
theorem nH:kC X (compareOp .NotEq) rNe:=by
 intro ae s σ H x y v u Q I rx ry h
 obtain⟨hs,q⟩:=h
 cases x with
 | df =>
  cases rx
  cases y with
  | df=>cases ry;exact PySem.EqNone.ne_none_none (dw I q (by simp))
  | bl j=>cases ry;exact PySem.EqNone.ne_none_bool (dw I q (by simp))
  | int j=>obtain⟨t',rfl⟩:=ry;exact PySem.EqNone.ne_none_int (dw I q (by simp))
  | str j=>obtain⟨t',rfl⟩:=ry;exact PySem.EqNone.ne_none_str (dw I q (by simp))
  | _=>exact absurd (show false=true from hs) bx
 | bl i =>
  cases rx
  cases y with
  | df=>cases ry;exact PySem.EqNone.ne_bool_none (dw I q (by simp))
  | bl j=>cases ry;exact ne_bool (dw I q (congrArg not NJ))
  | str j=>obtain⟨t',rfl⟩:=ry;exact PySem.EqMixed.ne_bool_str (dw I q (by simp))
  | _=>exact absurd (show false=true from hs) bx
 | int i =>
  obtain⟨t,rfl⟩:=rx
  cases y with
  | df=>cases ry;exact PySem.EqNone.ne_int_none (dw I q (by simp))
  | int j=>obtain⟨t',rfl⟩:=ry;exact ne_int (dw I q (congrArg not Jv))
  | str j=>obtain⟨t',rfl⟩:=ry;exact PySem.EqMixed.ne_int_str (dw I q (by simp))
  | _=>exact absurd (show false=true from hs) bx
 | str i =>
  obtain⟨t,rfl⟩:=rx
  cases y with
  | df=>cases ry;exact PySem.EqNone.ne_str_none (dw I q (by simp))
  | bl j=>cases ry;exact PySem.EqMixed.ne_str_bool (dw I q (by simp))
  | int j=>obtain⟨t',rfl⟩:=ry;exact PySem.EqMixed.ne_str_int (dw I q (by simp))
  | str j=>obtain⟨t',rfl⟩:=ry;exact ne_str (dw I q (congrArg not Ju))
  | _=>exact absurd (show false=true from hs) bx
 | wU i =>
  obtain⟨t,rfl⟩:=rx
  cases y with
  | wU j=>obtain⟨t',rfl⟩:=ry;exact PySem.W.ne_bytes (dw I q (congrArg not Jw))
  | _=>exact absurd (show false=true from hs) bx
 | _=>cases y <;> exact absurd (show false=true from hs) bx
theorem vN:kC X (compareOp .Lt) (DA fun i j => .bl (decide (i < j))):=KA fun _ _ _ _ _ _ _ q=>lt_int q
theorem Xy:kC X (compareOp .LtE) (DA fun i j => .bl (decide (i<=j))):=KA fun _ _ _ _ _ _ _ q=>le_int q
theorem Xz:kC X (compareOp .Gt) (DA fun i j => .bl (decide (j < i))):=KA fun _ _ _ _ _ _ _ q=>gt_int q
theorem XA:kC X (compareOp .GtE) (DA fun i j => .bl (decide (j<=i))):=KA fun _ _ _ _ _ _ _ q=>ge_int q
theorem Fs:kC X (compareOp .Is) (fun x y H Q=>y = .df∧Q (.bl (decide (x = .df))) H):=by
 intro ae s σ H x y v u Q I rx ry h
 obtain⟨rfl,q⟩:=h
 cases ry
 refine is_none_gen (dw I q ?_)
 cases x <;> first
  | (cases rx;rfl)
  | (obtain⟨t,rfl⟩:=rx;rfl)
theorem SE:kC X (compareOp .IsNot) (fun x y H Q=>y = .df∧Q (.bl (!decide (x = .df))) H):=by
 intro ae s σ H x y v u Q I rx ry h
 obtain⟨rfl,q⟩:=h
 cases ry
 refine isnot_none_gen (dw I q ?_)
 cases x <;> first
  | (cases rx;rfl)
  | (obtain⟨t,rfl⟩:=rx;rfl)
theorem cC (b:Expr) {op:CmpOp} (h:op ≠ .In:=by decide) (h2:op ≠ .NotIn:=by decide):behindInMarks op b=false:=by
 have e1:(op == CmpOp.In)=false:=by cases op <;> first | rfl | exact absurd rfl h
 have e2:(op == CmpOp.NotIn)=false:=by cases op <;> first | rfl | exact absurd rfl h2
 cases b <;> simp[behindInMarks,e1,e2]
inductive RV (x:V) (H:Hp) (Q:Bool->Hp->Prop):Prop
 | mk (k:Bool) (hx:x = .bl k) (q:Q k H):RV x H Q
def yY (t:TE):TT:=fun σ H Q=>t σ H fun x H'=>RV x H' Q
theorem b8 {op:CmpOp}{r:R2} (ho:kC X (compareOp op) r) (ha:PE X a ta) (hb:PE X b tb) (hm:behindInMarks op b=false):PT X (.Compare a [op] [b] pos) (yY (pE r ta tb)):=by
 intro ae s σ H Q I h
 refine wpAny_isTrue_Compare1 (bW (ha ae s σ H _ I h) fun v s1 ⟨x,H1,I1,r1,q1⟩=>bW (hb ae s1 σ H1 _ I1 q1) fun u s2 ⟨y,H2,I2,r2,q2⟩ =>
  bW (ho ae s2 σ H2 x y v u _ I2 r1 r2 q2) fun c s3 ⟨z,H3,I3,r3,k,e,q3⟩ => ?_) hm
 subst e
 cases r3
 exact wpAny_truthy_bool ⟨H3,I3,q3⟩
def TV (r r':R2) (ta tb tc:TE):TE:=fun σ H Q=>ta σ H fun x H1=>tb σ H1 fun y H2=>r x y H2 fun z H3=>∃ k,z = .bl k ∧
 (if k=true then tc σ H3 fun w' H4=>r' y w' H4 Q else Q (.bl false) H3)
theorem OZ {op Ur:CmpOp} {r r':R2} (ho:kC X (compareOp op) r) (Bp:kC X (compareOp Ur) r') (ha:PE X a ta) (hb:PE X b tb) (hc:PE X c tc)
  (hm:lastMarks [op,Ur] [b,c]=false:=by with_unfolding_all rfl):PT X (.Compare a [op,Ur] [b,c] pos) (yY (TV r r' ta tb tc)):=by
 intro ae s σ H Q I h
 refine isTrue_chain (bW (ha ae s σ H _ I h) fun v s1 ⟨x,H1,I1,r1,q1⟩=>test_link (bW (hb ae s1 σ H1 _ I1 q1) fun u s2 ⟨y,H2,I2,r2,q2⟩ =>
  bW (ho ae s2 σ H2 x y v u _ I2 r1 r2 q2) fun d s3 ⟨z,H3,I3,r3,k,e,q3⟩ => ?_)) hm
 subst e
 cases r3
 refine wpAny_truthy_bool ?_
 cases k with
 | false =>
  obtain⟨k',e',q'⟩:=q3
  cases e'
  exact ite_ff ⟨H3,I3,q'⟩
 | true =>
  refine ite_tt (test_last (bW (hc ae s3 σ H3 _ I3 q3) fun w' s4 ⟨z',H4,I4,r4,q4⟩=>bW (Bp ae s4 σ H4 y z' u w' _ I4 r2 r4 q4) fun d' s5 ⟨z2,H5,I5,r5,k2,e2,q5⟩ => ?_))
  subst e2
  cases r5
  exact wpAny_truthy_bool ⟨H5,I5,q5⟩
theorem uL:(sizeLine:Nat) < 2 ^ 63:=by rw[sizeLine_eq];decide
inductive yC (x:V) (y:V) (H:Hp) (Q:VK):Prop
 | mk:∀ i j,(x = .str i)->(y = .str j)->(i.length+j.length<=sizeLine)->(Q (.str (i ++ j)) H)->yC x y H Q
theorem kN:kC X (binaryOp .Add) (fun x y H Q=>yC x y H Q):=by
 intro ae s σ H x y v u Q I rx ry h
 obtain⟨i,j,rfl,rfl,hz,q⟩:=h
 obtain⟨t,rfl⟩:=rx
 obtain⟨t',rfl⟩:=ry
 exact add_str (fun t' tk=>⟨.str (i ++ j),H,I.tok _,⟨_,rfl⟩,q⟩) hz
theorem vals1 {x:V}{us:List Value} (r:Vals [x] us):∃ u,us = [u]∧RelV x u:=by
 cases r with
 | cons r1 r2=>cases r2;exact⟨_,rfl,r1⟩
theorem vals2 {x y:V}{us:List Value} (r:Vals [x,y] us):∃ u w',us = [u,w']∧RelV x u∧RelV y w':=by
 cases r with
 | cons r1 r2 =>
  cases r2 with
  | cons r3 r4=>cases r4;exact⟨_,_,rfl,r1,r3⟩
inductive zT (xs:List V) (H:Hp) (Q:VK):Prop
 | mk:∀ i j,(xs = [.int i,.int j])->(Q (.int (if j > i then j else i)) H)->zT xs H Q
theorem NT (hc:X.calm=true):k9 X (.builtin "max") (fun xs H Q=>zT xs H Q):=by
 intro ae s σ H xs us Q I r h
 obtain⟨i,j,rfl,q⟩:=h
 obtain⟨u,w',rfl,⟨t,rfl⟩,⟨t',rfl⟩⟩:=vals2 r
 refine max_two_ints (I.ok.hd hc) fun h' tk k=>⟨_,H,I.kept k,?_,q⟩
 by_cases hj:j > i
 ·rw[if_pos hj,if_pos hj];exact⟨_,rfl⟩
 ·rw[if_neg hj,if_neg hj];exact⟨_,rfl⟩
inductive zS (xs:List V) (H:Hp) (Q:VK):Prop
 | mk:∀ i j,(xs = [.int i,.int j])->(Q (.int (if j < i then j else i)) H)->zS xs H Q
theorem NS (hc:X.calm=true):k9 X (.builtin "min") (fun xs H Q=>zS xs H Q):=by
 intro ae s σ H xs us Q I r h
 obtain⟨i,j,rfl,q⟩:=h
 obtain⟨u,w',rfl,⟨t,rfl⟩,⟨t',rfl⟩⟩:=vals2 r
 refine min_two_ints (I.ok.hd hc) fun h' tk k=>⟨_,H,I.kept k,?_,q⟩
 by_cases hj:j < i
 ·rw[if_pos hj,if_pos hj];exact⟨_,rfl⟩
 ·rw[if_neg hj,if_neg hj];exact⟨_,rfl⟩
end
structure AG (h:Heap) (x dx C:Addr) (mA:Str->Option Value):Prop where
 obj:h.get? x=some (hZ C dx)
 ns:h.Ns1 dx mA
 ne:dx≠x
theorem MJ {h:Heap}{dx:Addr}{mA:Str->Option Value} (n:h.Ns1 dx mA):∃ od,h.get? dx=some od∧∀ name,p8 name od=some (mA name):=by
 obtain⟨o,es,ep,ho,hd,hk,_,hm⟩:=n
 refine⟨o,ho,fun name => ?_⟩
 have e:=hm name
 unfold nsFind findBy at e
 rw[<- Array.find?_toList]at e
 unfold p8
 rw[hd]
 dsimp only
 split
 ·rename_i y q
  rw[q]at e
  exact congrArg some e
 ·rename_i q
  rw[q]at e
  have a:es.toList.any (·.refKey)=false:=by
   rw[List.any_eq_false]
   intro y hy
   obtain⟨z,t,vU⟩:=hk y (Array.mem_toList_iff.mp hy)
   simp[DictEntry.refKey,vU]
  have a':¬ es.toList.any (·.refKey)=true:=by rw[a];exact bx
  rw[if_neg a']
  exact congrArg some e
theorem AG.look {h:Heap}{x dx C:Addr}{mA:Str->Option Value} (I:AG h x dx C mA):∃ od,PySem.W.InstAt h x (hZ C dx) C (some od)∧∀ name,p8 name od=some (mA name) :=
 let ⟨od,ho,hl⟩:=MJ I.ns
 ⟨od,⟨I.obj,rfl,rfl,ho⟩,hl⟩
section
variable {prog:Program}{w:World}{A:Around}{E:Value->Shared->Prop}{s:Shared}{K:ak}{x dx C f:Addr}{mA:Str->Option Value}{name:Str}{v:Value}
theorem S7 {expr:Bool}{Q:Value->Shared->Prop} (X:K.In s.heap) (I:AG s.heap x dx C mA) (hg:kW K C name=true) (hh:nc K C=true)
  (ha:cW K (.ref C) name=some none) (hv:mA name=some v) (uR:AD v=true) (h:Q v { s with toks:=s.toks+1 }) :
  wpAny (model prog w) A (getAttr (.ref x) name expr) Q E s:=by
 obtain⟨od,J,hl⟩:=I.look
 exact PySem.W.get_value X J (pG hg).1 (PySem.W.findObj_own hh ha rfl (by rw[hl,hv])) uR h
theorem P2 {pl:Sem Bool}{Q:Value × List Value->Shared->Prop} (X:K.In s.heap) (I:AG s.heap x dx C mA) (hg:kW K C name=true)
  (hf:cW K (.ref C) name=some (some (.ref f))) (ht:o7 K (.ref f)=true) (hv:mA name=none) (h:Q (.ref f, [.ref x]) s) :
  wpAny (model prog w) A (getMethod (.ref x) name pl) Q E s:=by
 obtain⟨od,J,hl⟩:=I.look
 exact PySem.W.method_fn X J (pG hg).1 (pG hg).2 hf (beq_iff_eq.mp ht) (by show (p8 name od).map (·.isSome)=some false;rw[hl,hv];rfl) h
theorem Sj {ns:List Str}{Q:Unit->Shared->Prop} (X:K.In s.heap) (I:AG s.heap x dx C mA)
  (hs:cW K (.ref C) "__setattr__" = some (some (.builtin "object.__setattr__"))) (hp:rp K C=true) (ht:tS K C name=some none) (hh:nc K C=true)
  (hw:sL mA ns) (hsz:ns.length<=sizeLine)
  (h:∀ h',AG h' x dx C (fun y=>if y=name then some v else mA y)->cQ dx s.heap h'->Q () { s with heap:=h',toks:=s.toks+2 }) :
  wpAny (model prog w) A (setAttr (.ref x) name v) Q E s:=by
 obtain⟨od,J,hl⟩:=I.look
 refine PySem.W.set_plain X J hs (PySem.W.osa_open (s := { s with toks:=s.toks+1 }) (r:=none) X J hp ht fun b => ?_)
 obtain⟨cd,hc,VC⟩:=PySem.W.any_some hh
 have hx:s.heap.get? x=some ⟨.ref C,some dx,.plain, #[]⟩:=I.obj
 refine wpAny_bind (wpAny_pure (wpAny_bind (wpAny_bind (wpAny_loadPart hx (wpAny_bind (PySem.W.Looks.here (s := { s with toks:=s.toks+1 }) (PySem.W.looks_clsIn X hc) ?_))))))
 rw[VC]
 refine wpAny_pure (a:=some dx) (wpAny_bind (wpAny_pure (wpAny_bind ?_)))
 refine wpAny_nsSet1 (s := { s with toks:=s.toks+1 }) I.ns fun h' Rf cq => ?_
 obtain⟨oD,esD,epD,hoD,hdD,hcD⟩:=Rf.count (sL.cons name v hw)
 refine wpAny_bind (wpAny_lookBehind hoD (by rw[hdD];exact pastItsLine_dict (aF hcD (by rw[bB];omega))) ?_)
 exact wpAny_pure (h _ ⟨(cq.2 _ (dh I.ne)).trans I.obj,Rf,I.ne⟩ cq)
theorem Pl {R:Result->Shared->Prop}{vs:List Value}{kw:List (Str × Value)} (X:K.In s.heap) (hm:tT K C=true)
  (hi:cW K (.ref C) "__init__" = some (some (.ref f))) (hf:PySem.W.typeIn K (.ref f)=some (.type "function"))
  (h:codeAny (model prog w) (A.under (.builtin "type.__call__" ⟨.ref C :: vs,kw⟩)) (.call (.ref f) ⟨.ref (s.heap.objs.size+1) :: vs,kw⟩) (PySem.W.InitBack (s.heap.objs.size+1) R)
   { s with heap:=(s.heap.push e9).push (hZ C s.heap.objs.size) }) :
  codeAny (model prog w) A (.call (.ref C) ⟨vs,kw⟩) R s:=by
 obtain⟨hh,g,d,t,os⟩:=s
 exact PySem.W.make_core (PySem.W.makes_of X hm) (PySem.W.looks_findIn X hi) (fun self=>PySem.W.bind_fn X self hf) (.inl rfl) h
end
def gX (f:Str) (v:V):List (Str × V)->List (Str × V)
 | [] => [(f,v)]
 | (g,x) :: r=>if g=f then (g,v) :: r else (g,x) :: gX f v r
theorem zC (f g:Str) (v:V):∀ fs:List (Str × V),(gX f v fs).lookup g=if g=f then some v else fs.lookup g
 | []=>by
  show lM g [(f,v)]=_
  by_cases h:g=f
  ·have hb:(g == f)=true:=beq_iff_eq.mpr h
   simp only[lM,hb,if_pos h]
  ·have hb:(g == f)=false:=beq_eq_false_iff_ne.mpr h
   simp only[lM,hb,if_neg h]
 | (k,x) :: r=>by
  have ih:=zC f g v r
  rw[show gX f v ((k,x) :: r)=(if k=f then (k,v) :: r else (k,x) :: gX f v r) from rfl]
  by_cases hk:k=f
  ·rw[if_pos hk]
   by_cases h:g=k
   ·have hb:(g == k)=true:=beq_iff_eq.mpr h
    simp only[lM,hb,if_pos (h.trans hk)]
   ·have hb:(g == k)=false:=beq_eq_false_iff_ne.mpr h
    simp only[lM,hb,if_neg (fun e:g=f=>h (e.trans hk.symm))]
  ·rw[if_neg hk]
   by_cases h:g=k
   ·have hb:(g == k)=true:=beq_iff_eq.mpr h
    simp only[lM,hb,if_neg (fun e:g=f=>hk (h.symm.trans e))]
   ·have hb:(g == k)=false:=beq_eq_false_iff_ne.mpr h
    simp only[lM,hb]
    exact ih
theorem xO (f:Str) (v:V):∀ fs:List (Str × V),f∈(gX f v fs).map (·.1)∧∀ g,g∈fs.map (·.1)->g∈(gX f v fs).map (·.1)
 | []=>⟨by simp[gX],fun g h=>by simp at h⟩
 | (k,x) :: r=>by
  obtain⟨i1,i2⟩:=xO f v r
  rw[show gX f v ((k,x) :: r)=(if k=f then (k,v) :: r else (k,x) :: gX f v r) from rfl]
  by_cases hk:k=f
  ·rw[if_pos hk]
   subst hk
   exact⟨by simp,fun g h=>by simpa using h⟩
  ·rw[if_neg hk]
   refine⟨?_,fun g h => ?_⟩
   ·rw[aJ]
    exact aI _ i1
   ·rw[aJ]at h ⊢
    rcases aN.mp h with e | e
    ·exact aN.mpr (.inl e)
    ·exact aI _ (i2 g e)
theorem zE (f:Str) (v:V):∀ fs:List (Str × V),(gX f v fs).length<=fs.length+1
 | []=>by simp[gX]
 | (k,x) :: r=>by
  have ih:=zE f v r
  rw[show gX f v ((k,x) :: r)=(if k=f then (k,v) :: r else (k,x) :: gX f v r) from rfl]
  by_cases hk:k=f
  ·rw[if_pos hk,bB,bB];omega
  ·rw[if_neg hk,bB,bB];omega
theorem kU.some_of {v:V}{o:Option Value} (r:kU (some v) o):∃ u,o=some u∧RelV v u:=by
 cases o with
 | none=>exact(show False from r).elim
 | some u=>exact⟨u,rfl,r⟩
theorem kU.none_of {o:Option Value} (r:kU none o):o=none:=by
 cases o with
 | none=>rfl
 | some u=>exact(show False from r).elim
theorem Ni {v:V}{u:Value} (r:RelV v u):AD u=true:=by
 cases v with
 | df=>cases (show u=fJ from r);rfl
 | bl b=>cases (show u=jN b from r);rfl
 | int i=>obtain⟨t,e⟩:=(show ∃ t,u=ow i t from r);cases e;rfl
 | str x=>obtain⟨t,e⟩:=(show ∃ t,u=qN x t from r);cases e;rfl
 | wU b=>obtain⟨t,e⟩:=(show ∃ t,u=Value.bytes b t from r);cases e;rfl
 | GC b=>obtain⟨t,e⟩:=(show ∃ t,u=zN b t from r);cases e;rfl
 | ref a=>cases (show u=bf a from r);rfl
 | ty n=>cases (show u=gD n from r);rfl
section
variable {P:Program}{w:World} {H H':Hp} {h h':Heap}{a C dx:Addr} {fs fs':List (Str × V)}
theorem zc (bw:ir P w H h) (e:H a=some (.ins C dx fs)):∃ mA,AG h a dx C mA∧(∀ f,kU (fs.lookup f) (mA f))∧sL mA (fs.map (·.1))∧fs.length<=1000∧H dx=some (.own a):=by
 obtain⟨d,z,ne,ob,mA,n,r,q⟩:=(show cR P w H h a (.ins C dx fs) from bw a _ e)
 exact⟨mA,⟨ob,n,ne⟩,r,q,z,d⟩
end
structure yS (K:ak) (C:Addr):Prop where
 pg:kW K C Str.empty=true
 hd:nc K C=true
 po:rp K C=true
 sa:cW K (.ref C) "__setattr__" = some (some (.builtin "object.__setattr__"))
theorem yS.get {K:ak}{C:Addr} (c:yS K C) (f:Str):kW K C f=true:=c.pg
def nE (K:ak) (C:Addr) (f:Str):Prop:=cW K (.ref C) f=some none
theorem nE.Xj {K:ak}{C:Addr}{f:Str} (n:nE K C f):tS K C f=some none:=by
 unfold tS
 rw[show cW K (.ref C) f=some none from n]
 rfl
structure Meth (K:ak) (C:Addr) (m:Str) (f:Addr):Prop where
 at_:cW K (.ref C) m=some (some (.ref f))
 fn:o7 K (.ref f)=true
 kp:eZ K (.ref f)=true
section
variable {X:Cx}{ae:List (Addr × Obj)}{σ : St}{H:Hp}{s:Shared}{a C dx:Addr}{fs:List (Str × V)}{f:Str}{v:V}{A:Around}{E:Value->Shared->Prop}
theorem Ld {b:Bool}{Q:Value->Shared->Prop} (I:Inv X ae σ H s) (e:H a=some (.ins C dx fs)) (c:yS X.K C) (n:nE X.K C f) (l:fs.lookup f=some v)
  (h:∀ u s',Inv X ae σ H s'->RelV v u->Q u s'):wpAny (model X.prog X.w) A (getAttr (.ref a) f b) Q E s:=by
 obtain⟨mA,O,r,_,_,_⟩:=zc I.bw e
 obtain⟨u,hu,ru⟩:=kU.some_of (v:=v) (o:=mA f) (by rw[<- l];exact r f)
 exact S7 I.lW O (c.get f) c.hd n hu (Ni ru) (h u _ (I.tok _) ru)
theorem Lc {m:Str}{g:Addr}{pl:Sem Bool}{Q:Value × List Value->Shared->Prop} (I:Inv X ae σ H s) (e:H a=some (.ins C dx fs)) (c:yS X.K C) (k:Meth X.K C m g) (l:fs.lookup m=none)
  (h:Q (.ref g, [.ref a]) s):wpAny (model X.prog X.w) A (getMethod (.ref a) m pl) Q E s:=by
 obtain⟨mA,O,r,_,_,_⟩:=zc I.bw e
 have hn:mA m=none:=kU.none_of (by rw[<- l];exact r m)
 exact P2 I.lW O (c.get m) k.at_ k.fn hn h
theorem Kp {y:V}{u:Value}{Q:Unit->Shared->Prop} (I:Inv X ae σ H s) (e:H a=some (.ins C dx fs)) (c:yS X.K C) (n:nE X.K C f) (hl:fs.length < 1000) (ry:RelV y u)
  (h:∀ s',Inv X ae σ (aG H a (.ins C dx (gX f y fs))) s'->Q () s'):wpAny (model X.prog X.w) A (setAttr (.ref a) f u) Q E s:=by
 obtain⟨mA,O,r,wi,_,ho⟩:=zc I.bw e
 have hz:(fs.map (·.1)).length<=sizeLine:=by rw[aj,sizeLine_eq];omega
 refine Sj I.lW O c.sa c.po n.Xj c.hd wi hz fun h' O' sb=>h _ ?_
 have hd:∃ o,h'.get? dx=some o:=let ⟨o,_,_,e',_⟩:=O'.ns; ⟨o,e'⟩
 refine I.write (x:=a) (e:=dx) (by rw[e];exact fg) (.inr ho) (fun b q hb z=>(sb.2 b hb).trans z) hd ?_
 refine⟨by rw[aD O.ne];exact ho,?_,O.ne,O'.obj,_,O'.ns,fun g => ?_,fun g hg => ?_⟩
 ·have:=zE f y fs;omega
 ·show kU ((gX f y fs).lookup g) (if g=f then some u else mA g)
  rw[zC]
  by_cases q:g=f
  ·rw[if_pos q,if_pos q];exact ry
  ·rw[if_neg q,if_neg q];exact r g
 ·by_cases q:g=f
  ·rw[q];exact(xO f y fs).1
  ·refine(xO f y fs).2 g (wi g fun z=>hg ?_)
   show (if g=f then some u else mA g)=none
   rw[if_neg q];exact z
theorem Inv.made (I:Inv X ae σ H s):Inv X ae σ (aG (aG H s.heap.objs.size (.own (s.heap.objs.size+1))) (s.heap.objs.size+1) (.ins C s.heap.objs.size []))
  { s with heap:=(s.heap.push e9).push (hZ C s.heap.objs.size) }:=by
 have e1:(s.heap.push e9).get? s.heap.objs.size=some e9:=bh s.heap rfl
 have e2:((s.heap.push e9).push (hZ C s.heap.objs.size)).get? (s.heap.objs.size+1)=some (hZ C s.heap.objs.size):=by
  have:=bh (s.heap.push e9) (o:=hZ C s.heap.objs.size) rfl
  rwa [iK]at this
 have e3:(s.heap.push e9).Ns s.heap.objs.size (fun _=>none):=⟨e9, #[],_,e1,rfl,(fun e he=>absurd he (by simp)),fun _=>rfl⟩
 have I1:=I.laid (a:=s.heap.objs.size) (o := .own (s.heap.objs.size+1)) (h':=s.heap.push e9) (t':=s.toks) (fun b u q=>aA _ q) (ao _) ⟨_,e1⟩
 refine I1.laid (a:=s.heap.objs.size+1) (o := .ins C s.heap.objs.size []) (t':=s.toks) (fun b u q=>aA _ q) (dt (iK _ _)) ?_
 have ne:s.heap.objs.size≠s.heap.objs.size+1:=bP (nU _)
 refine⟨by rw[aD ne,ay],aS _,ne,e2,fun _=>none,(Heap.Ns1.of_empty e3).at fun o q=>aA _ q,fun _=>fg,fun y hy=>absurd rfl hy⟩
theorem Tn {prog:Program}{w:World}{env:Env}{e:Expr}{f:Str}{pos:Pos}{s:Shared}{Q:Value->Shared->Prop} (hb:attributeBase e f env (eval e env)=eval e env)
  (h:wpAny (model prog w) A (eval e env) (fun o dQ => wpAny (model prog w) A (getAttr o f true) Q E dQ) E s):wpAny (model prog w) A (eval (.Attribute e f pos) env) Q E s :=
 Attribute_any_ h (by rw[arm_eval_Attribute,hb])
end
inductive W8 (K:ak) (f:Str) (x:V) (H:Hp) (Q:VK):Prop
 | mk (a C dx:Addr) (fs:List (Str × V)) (v:V) (hx:x = .ref a) (h:H a=some (.ins C dx fs)) (c:yS K C) (n:nE K C f) (l:fs.lookup f=some v) (q:Q v H):W8 K f x H Q
def aao (K:ak) (ta:TE) (f:Str):TE:=fun σ H Q=>ta σ H fun x H1=>W8 K f x H1 Q
inductive Of (K:ak) (f:Str) (D:Ends) (σ : St) (y:V) (x:V) (H2:Hp):Prop
 | mk:∀ a C dx fs,(x = .ref a)->(H2 a=some (.ins C dx fs))->(yS K C)->(nE K C f)->(fs.length < 1000)->(D.nx σ (aG H2 a (.ins C dx (gX f y fs))))->Of K f D σ y x H2
def aav (K:ak) (ta tv:TE) (f:Str):TS:=fun D σ H=>tv σ H fun y H1=>ta σ H1 fun x H2=>Of K f D σ y x H2
section
variable {X:Cx}{o e value:Expr}{f:Str}{pos eI aah:Pos}{ta tv:TE}
theorem A6 (he:PE X e ta) (hb:attributeBase e f X.env (eval e X.env)=eval e X.env):PE X (.Attribute e f pos) (aao X.K ta f):=by
 intro ae s σ H Q I h
 refine Tn hb (bW (he ae s σ H _ I h) fun u s1 ⟨x,H1,I1,rx,a,C,dx,fs,v,ex,ea,c,n,l,q⟩ => ?_)
 subst ex
 obtain rfl:u=bf a:=rx
 exact Ld I1 ea c n l fun u' s2 I2 ru=>⟨v,H1,I2,ru,q⟩
theorem A3 (ha:PE X o ta) (hv:PE X value tv) (hs:swapsWith value (some (.Attribute o f eI)) pos.line X.env=pure false):PS X (.Assign [.Attribute o f eI] value pos) (aav X.K ta tv f):=by
 intro ae s σ H D I h
 refine plainObj_wpAny_Assign_Attribute (bW (hv ae s σ H _ I h) fun u s1 ⟨y,H1,I1,ry,q⟩=>bW (ha ae s1 σ H1 _ I1 q) fun ov s2 ⟨x,H2,I2,rx,a,C,dx,fs,ex,ea,c,n,l,q2⟩ => ?_) hs
 subst ex
 obtain rfl:ov=bf a:=rx
 exact Kp I2 ea c n l ry fun s3 I3=>⟨σ,_,I3,q2⟩
end
section
variable {X:Cx}{ae:List (Addr × Obj)}{σ : St}{H:Hp}{s:Shared}{A:Around}{E:Value->Shared->Prop}{Q:Value->Shared->Prop}{c:Value}{b:Bool}
inductive p6 (K:ak) (H:Hp):V->Value->Prop where
 | df:p6 K H .df (.type "NoneType")
 | bl (x:Bool):p6 K H (.bl x) (.type "bool")
 | int (i:Int):p6 K H (.int i) (.type "int")
 | str (x:Str):p6 K H (.str x) (.type "str")
 | GC (x:UInt64):p6 K H (.GC x) (.type "float")
 | lst {a:Addr}{xs:List V} (e:H a=some (.lst xs)):p6 K H (.ref a) (.type "list")
 | sr {a:Addr}{o:Obj}{xs:List V} (e:H a=some (.sr o (.lst xs))):p6 K H (.ref a) (.type "list")
 | tup {a:Addr}{xs:List V} (e:H a=some (.tup xs)):p6 K H (.ref a) (.type "tuple")
 | dK {a:Addr}{kvs:List (Key × V)} (e:H a=some (.dK kvs)):p6 K H (.ref a) (.type "dict")
 | dT {a:Addr}{kvs:List (List Key × V)} (e:H a=some (.dT kvs)):p6 K H (.ref a) (.type "dict")
 | ins {a C dx:Addr}{fs:List (Str × V)} (e:H a=some (.ins C dx fs)) (cl:yS K C) (ha:cW K (.ref C) "__class__" = some (some (.builtin "object.__class__")))
   (hn:PySem.W.specialIn K (.builtin "object.__class__") "__get__" = some (some (.builtin "getset_descriptor.__get__"))) (YR:PySem.W.takesIn K (.builtin "object.__class__")=some true)
   (hm:PySem.W.mroIn K C (.type "object")=some true):p6 K H (.ref a) (.ref C)
theorem MW {x:V}{u t:Value} (I:Inv X ae σ H s) (rx:RelV x u) (ty:p6 X.K H x t) (e:jt X.K t c=some b) (h:∀ tk,Q (.bool b) { s with toks:=tk }) :
  wpAny (model X.prog X.w) A (call (.builtin "isinstance") [u,c]) Q E s:=by
 cases ty with
 | df=>cases (show u=fJ from rx);exact d9 PySem.W.kitx_none I.lW fg e (fun z=>nomatch z) h
 | bl y=>cases (show u=jN y from rx);exact d9 PySem.W.kitx_bool I.lW fg e (fun z=>nomatch z) h
 | int i=>obtain⟨t,q⟩:=(show ∃ t,u=ow i t from rx);cases q;exact d9 PySem.W.kitx_int I.lW fg e (fun z=>nomatch z) h
 | str y=>obtain⟨t,q⟩:=(show ∃ t,u=qN y t from rx);cases q;exact d9 PySem.W.kitx_str I.lW fg e (fun z=>nomatch z) h
 | GC y=>obtain⟨t,q⟩:=(show ∃ t,u=zN y t from rx);cases q;exact d9 PySem.W.kitx_float I.lW fg e (fun z=>nomatch z) h
 | @lst a xs ea =>
  cases (show u=bf a from rx)
  obtain⟨_,_,n,_,h1⟩:=(show cR X.prog X.w H s.heap a (.lst xs) from I.bw a _ ea)
  exact d9 zk I.lW ⟨_,h1,rfl⟩ e (fun z=>nomatch z) h
 | @sr a ob xs ea =>
  cases (show u=bf a from rx)
  obtain⟨_,_,_,n,_,h1⟩:=(show cR X.prog X.w H s.heap a (.sr ob (.lst xs)) from I.bw a _ ea)
  exact d9 zk I.lW ⟨_,h1,rfl⟩ e (fun z=>nomatch z) h
 | @tup a xs ea =>
  cases (show u=bf a from rx)
  obtain⟨_,_,_,p⟩:=(show cR X.prog X.w H s.heap a (.tup xs) from I.bw a _ ea)
  obtain⟨o,h1,h2,_⟩:=p
  exact d9 PySem.W.kitx_tuple I.lW ⟨o,h1,h2⟩ e (fun z=>nomatch z) h
 | @dK a kvs ea =>
  cases (show u=bf a from rx)
  obtain⟨_,_,vs,_,p⟩:=(show cR X.prog X.w H s.heap a (.dK kvs) from I.bw a _ ea)
  obtain⟨o,es,ep,h1,h2,_⟩:=p
  exact d9 zm I.lW ⟨o,h1,h2.1⟩ e (fun z=>nomatch z) h
 | @dT a kvs ea =>
  cases (show u=bf a from rx)
  obtain⟨_,_,xs,_,o,es,ep,h1,h2,_⟩:=(show cR X.prog X.w H s.heap a (.dT kvs) from I.bw a _ ea)
  exact d9 zm I.lW ⟨o,h1,h2.1⟩ e (fun z=>nomatch z) h
 | @ins a C dx fs ea cl ha hn YR hm =>
  cases (show u=bf a from rx)
  obtain⟨mA,O,_⟩:=zc I.bw ea
  obtain⟨od,J,_⟩:=O.look
  exact d9 (PySem.W.kitx_own (cl.get _) cl.hd ha hn YR hm) I.lW J e (fun z=>nomatch z) h
end
structure fK (k:Nat) (A:Around):Prop where
 hd:A.handled=none
 dp:A.depth+3 * k+5 < recursionLimit
 un:A.units+16 * k+200 < cLine
theorem fK.mono {j k:Nat}{A:Around} (r:fK k A) (h:j<=k):fK j A:=⟨r.hd,by have:=r.dp;omega,by have:=r.un;omega⟩
theorem fK.deeper {k:Nat}{A:Around} (r:fK (k+1) A) (env:Env):fK k (A.deeper env) :=
 ⟨r.hd,by have:=r.dp;show A.depth+1+3 * k+5 < _;omega,by have:=r.un;show A.units+3+16 * k+200 < _;omega⟩
theorem KO {A:Around}{C:Addr}{us:List Value}{kw:List (Str × Value)}:(A.under (.builtin "type.__call__" ⟨.ref C :: us,kw⟩)).depth=A.depth+1:=by
 first | rfl | simp[yX,Code.weight,Code.isCreation,Code.isGuard,Code.isCaller,Code.frames,yR,guardIds]
theorem KL {A:Around}{C:Addr}{us:List Value}{kw:List (Str × Value)}:(A.under (.builtin "type.__call__" ⟨.ref C :: us,kw⟩)).units=A.units+1:=by
 first | rfl | simp[yX,Code.cUnits,Code.frames,yR]
theorem fK.make {k:Nat}{A:Around} (r:fK (k+1) A) (C:Addr) (us:List Value) (kw:List (Str × Value)):fK k (A.under (.builtin "type.__call__" ⟨.ref C :: us,kw⟩)) :=
 ⟨r.hd,by have:=r.dp;rw[KO];omega,by have:=r.un;rw[KL];omega⟩
theorem fK.depth {k:Nat}{A:Around} (r:fK k A):A.depth < recursionLimit:=by have:=r.dp;omega
theorem fK.units {k:Nat}{A:Around} (r:fK k A):A.units+64 < cLine:=by have:=r.un;omega
def xm:TA:=fun _ H Q=>Q [] H
def qk (ta:TE) (tr:TA):TA:=fun σ H Q=>ta σ H fun x H1=>tr σ H1 fun xs H2=>Q (x :: xs) H2
section
variable {X:Cx}{e:Expr}{es:List Expr}{te:TE}{t:TA}{pos:Pos}
theorem aw:PA X [] xm:=fun _ _ _ _ H Q I h=>nq ⟨[],H,I,.nil,h⟩
theorem ag (ha:PE X e te) (hr:PA X es t) (hs:starEach (e :: es) X.env=(false,eval e X.env) :: starEach es X.env:=by rfl):PA X (e :: es) (qk te t):=by
 intro pos ae s σ H Q I h
 rw[hs]
 show wpAny _ _ (spliced ((false,eval e X.env) :: backTo pos (starEach es X.env))) _ _ s
 refine iS (bW (ha ae s σ H _ I h) fun u s1 ⟨x,H1,I1,r1,q1⟩ => ?_)
 exact bW (hr pos ae s1 σ H1 _ I1 q1) fun us s2 ⟨xs,H2,I2,r2,q2⟩=>⟨x :: xs,H2,I2,.cons r1 r2,q2⟩
def aaj (t:TA):TE:=fun σ H Q=>t σ H fun xs H1=>xs.length<=sizeLine∧∀ p,H1 p=none->Q (.ref p) (aG H1 p (.tup xs))
def aam (t:TA):TE:=fun σ H Q=>t σ H fun xs H1=>xs.length<=sizeLine∧∀ p,H1 p=none->Q (.ref p) (aG H1 p (.lst xs))
theorem gL {x1} (h:PA X es t):PE X (.Tuple es x1 pos) (aaj t):=by
 intro ae s σ H Q I hq
 refine wpAny_Tuple_spliced (bW (h pos ae s σ H _ I hq) fun us s1 ⟨xs,H1,I1,r,z,q⟩=>⟨by rw[<- r.length];exact z,?_⟩)
 have hf:H1 s1.heap.objs.size=none:=I1.bw.fresh (ao _)
 refine⟨.ref s1.heap.objs.size,aG H1 s1.heap.objs.size (.tup xs),I1.laid (t':=s1.toks) (fun b u e=>aA _ e) (ao _) ?_,rfl,q _ hf⟩
 exact⟨z,us,r,⟨_,bh _ rfl,rfl,_,rfl,rfl⟩⟩
theorem dZ (h:PA X es t):PE X (.List es pos) (aam t):=by
 intro ae s σ H Q I hq
 refine wpAny_List_spliced (bW (h pos ae s σ H _ I hq) fun us s1 ⟨xs,H1,I1,r,z,q⟩=>⟨by rw[<- r.length];exact z,?_⟩)
 have hf:H1 s1.heap.objs.size=none:=I1.bw.fresh (ao _)
 refine⟨.ref s1.heap.objs.size,aG H1 s1.heap.objs.size (.lst xs),I1.laid (t':=s1.toks) (fun b u e=>aA _ e) (ao _) ?_,rfl,q _ hf⟩
 exact⟨z,us,0,r,bh _ rfl⟩
end
abbrev Sp:=List V->Hp->VK->XK->Prop
abbrev vt:=List Env->Hp->Shared->XK->Value->Shared->Prop
structure AK (P:Program) (w:World) (K:ak) (mg:Str->Option Value) (base:Heap) (A:Around) (outer:List Env) (s:Shared) (H:Hp):Prop where
 frames:A.frames=some outer
 mod:Mod K mg base
 bs:∀ b o,base.get? b=some o->s.heap.get? b=some o∧H b=none
 zL:base.objs.size<=s.heap.objs.size
 pY:s.heap.FunFrames base outer
 DQ:∀ b∈mC outer,H b=none
 bw:ir P w H s.heap
 bare:AllBare s.gens
def CE (outer:List Env) (P:Program) (w:World) (H:Hp) (s:Shared) (Q:VK) (u:Value) (s':Shared):Prop :=
 ∃ v H',s'.os=s.os∧AllBare s'.gens∧Un (mC outer) [] H H' s.heap s'.heap∧ir P w H' s'.heap∧RelV v u∧Q v H'
def CR (CX:vt) (outer:List Env) (P:Program) (w:World) (H:Hp) (s:Shared) (Q:VK) (E:XK) (r:Result) (s':Shared):Prop :=
 match r with
 | .ok (.ret u)=>CE outer P w H s Q u s'
 | .ok _=>False
 | .error e=>CX outer H s E e s'
structure mS (P:Program) (w:World) (K:ak) (mg:Str->Option Value) (base:Heap) (CX:vt) (k:Nat) (f:Addr) (fd:FuncData) (ps:List Str) (sp:Sp):Prop where
 len:∀ vs H Q E,sp vs H Q E->vs.length=ps.length
 run:∀ (A:Around) (outer:List Env) (s:Shared) (H:Hp) (args:Args) (us:List Value) (vs:List V) (Q:VK) (E:XK),fK k A->AK P w K mg base A outer s H->BindsTo s fd args (ps.zip us)->Vals vs us->sp vs H Q E ->
  codeAny (model P w) A (.call (.ref f) args) (CR CX outer P w H s Q E) s
theorem AK.make {P:Program}{w:World}{K:ak}{mg:Str->Option Value}{base:Heap}{A:Around}{outer:List Env}{s:Shared}{H:Hp} (e:AK P w K mg base A outer s H) (C:Addr) (us:List Value) (kw:List (Str × Value)) :
  AK P w K mg base (A.under (.builtin "type.__call__" ⟨.ref C :: us,kw⟩)) outer s H:=⟨by first | exact e.frames | (simpa [yX,Code.envs,yR,pushEnvs] using e.frames),e.mod,e.bs,e.zL,e.pY,e.DQ,e.bw,e.bare⟩
section
variable {X:Cx}{ae:List (Addr × Obj)}{σ : St}{H:Hp} {s s':Shared}
theorem Inv.WC (I:Inv X ae σ H s):AK X.prog X.w X.K X.mg X.base X.A X.stack s H :=
 ⟨I.ok.frames,I.ok.mod,I.bs,aF I.ok.zL I.sz,I.stack,I.HU,I.bw,I.bare⟩
theorem Inv.after {Q:VK}{u:Value} (I:Inv X ae σ H s) (h:CE X.stack X.prog X.w H s Q u s'):EP X ae σ Q u s':=by
 obtain⟨v,H',os,bare,un,bw,r,q⟩:=h
 obtain⟨hh,g,d,t,os'⟩:=s'
 obtain rfl:os'=s.os:=os
 exact⟨v,H',I.call (h':=hh) (g':=g) (d':=d) (t':=t) (ch := []) un bw bare (fun b z=>absurd z (by simp)),r,q⟩
end
def Er (sp:Sp) (lY:List V) (E:XK) (t:TA):TE:=fun σ H Q=>t σ H fun vs H1=>sp (vs ++ lY) H1 Q E
inductive JQ (C:Addr) (m:Str) (sp:Sp) (lY:List V) (E:XK) (t:TA) (σ : St) (Q:VK) (x:V) (H1:Hp):Prop
 | mk:∀ a dx fs,(x = .ref a)->(H1 a=some (.ins C dx fs))->(fs.lookup m=none)->(t σ H1 fun vs H2=>sp (x :: (vs ++ lY)) H2 Q E)->JQ C m sp lY E t σ Q x H1
def Qw (C:Addr) (m:Str) (sp:Sp) (lY:List V) (E:XK) (ta:TE) (t:TA):TE:=fun σ H Q=>ta σ H fun x H1=>JQ C m sp lY E t σ Q x H1
def Qx (C:Addr) (sp:Sp) (lY:List V) (E:XK) (t:TA):TE:=fun σ H Q=>t σ H fun vs H1=>∀ x dx,H1 x=none->H1 dx=none->dx≠x ->
 sp (.ref x :: (vs ++ lY)) (aG (aG H1 dx (.own x)) x (.ins C dx [])) (fun v H2=>v = .df∧Q (.ref x) H2) E
def Binds (K:ak) (fd:FuncData) (ps:List Str) (ds:List Value):Prop :=
 ∀ (s:Shared) (us:List Value),K.In s.heap->(us ++ ds).length=ps.length->BindsTo s fd ⟨us, []⟩ (ps.zip (us ++ ds))
theorem Binds.all {K:ak}{fd:FuncData}{ps:List Str} (h:∀ us:List Value,us.length=ps.length->bindArgs fd ⟨us, []⟩=pure (ps.zip us)):Binds K fd ps []:=fun s us _ hl=>by
 rw[cg]at hl ⊢
 exact .of_eq (h us hl)
def Passes (CX:vt) (X:Cx) (E:XK):Prop := ∀ (ae:List (Addr × Obj)) (σ : St) (H:Hp) (s:Shared) (e:Value) (s':Shared),Inv X ae σ H s->CX X.stack H s E e s'->X.xe e s'
section
variable {X:Cx}{CX:vt}{k:Nat}{f C:Addr}{fd:FuncData}{ps:List Str}{sp:Sp}{lY:List V}{ds:List Value}{E:XK}{x m:Str}{p pos fI:Pos}{e o:Expr}{es:List Expr}{ta:TE}{t:TA}
theorem L8 {ae:List (Addr × Obj)}{σ : St}{H:Hp}{s:Shared}{Q:VK}{us:List Value}{vs:List V} (F:mS X.prog X.w X.K X.mg X.base CX k f fd ps sp) (hr:fK k X.A) (hb:Binds X.K fd ps ds) (hd:Vals lY ds) (hx:Passes CX X E)
  (I:Inv X ae σ H s) (r:Vals vs us) (h:sp (vs ++ lY) H Q E):wpAny (model X.prog X.w) X.A (call (.ref f) us) (EP X ae σ Q) X.xe s:=by
 have r2:Vals (vs ++ lY) (us ++ ds):=r.append hd
 have hl:(us ++ ds).length=ps.length:=by rw[<- r2.length];exact F.len _ _ _ _ h
 refine wpAny_call (codeAny_mono (F.run X.A X.stack s H ⟨us, []⟩ (us ++ ds) (vs ++ lY) Q E hr I.WC (hb s us I.lW hl) r2 h) fun r s' hq => ?_)
 cases r with
 | error e=>exact hx ae σ H s e s' I hq
 | ok fl =>
  cases fl with
  | ret u=>exact I.after hq
  | next=>exact fO hq
  | brk=>exact fO hq
  | cont=>exact fO hq
theorem SA (F:mS X.prog X.w X.K X.mg X.base CX k f fd ps sp) (hr:fK k X.A) (hg:Gl X x) (hm:X.mg x=some (.ref f)) (hk:eZ X.K (.ref f)=true) (hb:Binds X.K fd ps ds) (hd:Vals lY ds) (hx:Passes CX X E)
  (ha:PA X (e :: es) t) (xV:(x == ("__debug__" : Str))=false:=by decide) (he:starEach (e :: es) X.env=(false,eval e X.env) :: starEach es X.env:=by rfl) (lu:(backTo pos (starEach es X.env)).any (·.1)=false:=by rfl) :
  PE X (.Call (.Name x p) (e :: es) [] pos) (Er sp lY E t):=by
 intro ae s σ H Q I h
 refine wpAny_Call_Name_kw (IB I hg hm ?_ xV)
 refine qO (h₀ := X.base) I.ok.mod.MR hk (bW (ha pos ae s σ H _ I h) fun us s1 ⟨vs,H1,I1,r,q⟩=>⟨I1.lW,?_⟩) he lu
 exact L8 F hr hb hd hx I1 r q
theorem Sy {pl:Sem Bool} (he:PE X o ta) (c:yS X.K C) (hm:Meth X.K C m f) (F:mS X.prog X.w X.K X.mg X.base CX k f fd ps sp) (hr:fK k X.A) (hb:Binds X.K fd ps ds) (hd:Vals lY ds) (hx:Passes CX X E) (ha:PA X (e :: es) t)
  (FZ:starEach (e :: es) X.env=(false,eval e X.env) :: starEach es X.env:=by rfl) (lu:(backTo pos (starEach es X.env)).any (·.1)=false:=by rfl)
  (ht:eval (.Call (.Attribute o m fI) (e :: es) [] pos) X.env=(do
   let ov <- eval o X.env
   standAt fI.atName
   let (f,first) <- holding [ov] (getMethod ov m pl)
   callWith pos f first (backTo pos (starEach (e :: es) X.env)) (backToKw pos (keywordEach [] X.env))):=by rfl) :
  PE X (.Call (.Attribute o m fI) (e :: es) [] pos) (Qw C m sp lY E ta t):=by
 intro ae s σ H Q I h
 refine PySem.W.methodCall_KW (pl:=pl) (bW (he ae s σ H _ I h) fun u s1 ⟨x,H1,I1,rx,a,dx,fs,ex,ea,l,q⟩ => ?_) ht
 subst ex
 obtain rfl:u=bf a:=rx
 refine Lc I1 ea c hm l ?_
 refine qO (first := [.ref a]) (h₀ := X.base) I.ok.mod.MR hm.kp (bW (ha pos ae s1 σ H1 _ I1 q) fun us s2 ⟨vs,H2,I2,r,q2⟩=>⟨I2.lW,?_⟩) FZ lu
 exact L8 (us := .ref a :: us) (vs := .ref a :: vs) F hr hb hd hx I2 (.cons rfl r) q2
structure Mk (K:ak) (C f:Addr):Prop where
 makes:tT K C=true
 init:cW K (.ref C) "__init__" = some (some (.ref f))
 fn:o7 K (.ref f)=true
 kp:eZ K (.ref C)=true
theorem OQ {ae:List (Addr × Obj)}{σ : St}{H:Hp}{s:Shared}{Q:VK}{us:List Value}{vs:List V} (M:Mk X.K C f) (F:mS X.prog X.w X.K X.mg X.base CX k f fd ps sp) (hr:fK (k+1) X.A) (hb:Binds X.K fd ps ds) (hd:Vals lY ds)
  (hx:Passes CX X E) (I:Inv X ae σ H s) (r:Vals vs us)
  (h:∀ x dx,H x=none->H dx=none->dx≠x->sp (.ref x :: (vs ++ lY)) (aG (aG H dx (.own x)) x (.ins C dx [])) (fun v H2=>v = .df∧Q (.ref x) H2) E) :
  wpAny (model X.prog X.w) X.A (call (.ref C) us) (EP X ae σ Q) X.xe s:=by
 have hq:=h (s.heap.objs.size+1) s.heap.objs.size (I.bw.fresh (lL _)) (I.bw.fresh (ao _)) (bP (nU _))
 have I2:=Inv.made (C:=C) I
 have r2:Vals (V.ref (s.heap.objs.size+1) :: (vs ++ lY)) (bf (s.heap.objs.size+1) :: (us ++ ds)) := .cons rfl (r.append hd)
 have hl:(bf (s.heap.objs.size+1) :: us ++ ds).length=ps.length:=by
  have e:=r2.length
  rw[F.len _ _ _ _ hq]at e
  exact e.symm
 refine wpAny_call (Pl (f:=f) I.lW M.makes M.init (beq_iff_eq.mp M.fn) (codeAny_mono (F.run _ X.stack _ _ ⟨bf (s.heap.objs.size+1) :: us, []⟩ (bf (s.heap.objs.size+1) :: (us ++ ds)) _ _ E (hr.make C us [])
  (I2.WC.make C us []) (hb _ (bf (s.heap.objs.size+1) :: us) I2.lW hl) r2 hq) fun r s' zF => ?_))
 cases r with
 | error e=>exact hx ae σ _ _ e s' I2 zF
 | ok fl =>
  cases fl with
  | ret u =>
   obtain⟨v,H',I3,rv,ev,q3⟩:=I2.after zF
   subst ev
   exact⟨rv,⟨V.ref (s.heap.objs.size+1),H',I3,rfl,q3⟩⟩
  | next=>exact fO zF
  | brk=>exact fO zF
  | cont=>exact fO zF
theorem Sz (M:Mk X.K C f) (F:mS X.prog X.w X.K X.mg X.base CX k f fd ps sp) (hr:fK (k+1) X.A) (hg:Gl X x) (hm:X.mg x=some (.ref C)) (hb:Binds X.K fd ps ds) (hd:Vals lY ds) (hx:Passes CX X E)
  (ha:PA X (e :: es) t) (xV:(x == ("__debug__" : Str))=false:=by decide) (he:starEach (e :: es) X.env=(false,eval e X.env) :: starEach es X.env:=by rfl) (lu:(backTo pos (starEach es X.env)).any (·.1)=false:=by rfl) :
  PE X (.Call (.Name x p) (e :: es) [] pos) (Qx C sp lY E t):=by
 intro ae s σ H Q I h
 refine wpAny_Call_Name_kw (IB I hg hm ?_ xV)
 refine qO (h₀ := X.base) I.ok.mod.MR M.kp (bW (ha pos ae s σ H _ I h) fun us s1 ⟨vs,H1,I1,r,q⟩=>⟨I1.lW,?_⟩) he lu
 exact OQ M F hr hb hd hx I1 r q
end
def PK (X:Cx) (MO:List Keyword) (t:TA):Prop :=
 ∀ (pos:Pos) (ae:List (Addr × Obj)) (s:Shared) (σ : St) (H:Hp) (Q:List V->Hp->Prop),Inv X ae σ H s->t σ H Q->wpAny (model X.prog X.w) X.A (evalAll ((backToKw pos (keywordEach MO X.env)).map (·.2))) (AP X ae σ Q) X.xe s
section
variable {X:Cx}{CX:vt}{k:Nat}{f C:Addr}{fd:FuncData}{ps ks:List Str}{sp:Sp}{E:XK}{x m:Str}{p pos fI KQ:Pos}{e o:Expr}{es:List Expr}{MO:List Keyword}{te ta:TE}{t tk:TA}{nm:Option Str}
theorem Uj:PK X [] xm:=fun _ _ _ _ H Q I h=>wpAny_evalAll_nil ⟨[],H,I,.nil,h⟩
theorem Sr (ha:PE X e te) (hr:PK X MO t):PK X (⟨nm,e,KQ⟩ :: MO) (qk te t):=by
 intro pos ae s σ H Q I h
 show wpAny _ _ (evalAll ((do let v <- eval e X.env;standAt pos;pure v) :: (backToKw pos (keywordEach MO X.env)).map (·.2))) _ _ s
 refine wpAny_evalAll_cons (wpAny_bind (bW (ha ae s σ H _ I h) fun u s1 ⟨x,H1,I1,r1,q1⟩=>wpAny_bind (wpAny_standAt (wpAny_pure ?_))))
 exact bW (hr pos ae s1 σ H1 _ I1 q1) fun us s2 ⟨xs,H2,I2,r2,q2⟩=>⟨x :: xs,H2,I2,.cons r1 r2,q2⟩
variable {g:List Value->List Value->List Value}{gV:List V->List V->List V}
end
structure cG (N P:List Str) (sc:Scope):Prop where
 kind:sc.kind = .function
 co:sc.isCoroutine=false
 gen:sc.isGenerator=false
 nd:N.Nodup
 pre:N.take P.length=P
 par:∀ x∈P,sc.names.lookup x=some .local∨sc.names.lookup x=some .cell
 Uw:∀ y∈sc.names,y.2 ≠ .free
theorem D5 {kindOf:Str->Option NameKind}{x:Str}:∀ {binds:List (Str × Value)}{m:Str->Option Value},(∀ v,(x,v) ∉ binds)->bindL kindOf binds m x=m x
 | [],_,_=>rfl
 | (n,v) :: r,m,h=>by
  unfold bindL
  rw[D5 fun w hw=>h w (aI _ hw)]
  split
  ·have:x≠n:=by rintro rfl;exact h v aU
   simp[this]
  ·rfl
theorem D7 {kindOf:Str->Option NameKind}{x:Str}:∀ {binds:List (Str × Value)}{m:Str->Option Value},(∀ v,(x,v) ∉ binds)->bindC kindOf binds m x=m x
 | [],_,_=>rfl
 | (n,v) :: r,m,h=>by
  unfold bindC
  rw[D7 fun w hw=>h w (aI _ hw)]
  split
  ·rfl
  ·have:x≠n:=by rintro rfl;exact h v aU
   simp[this]
theorem D6 {kindOf:Str->Option NameKind}{x:Str}{v:Value}:∀ {P:List Str}{vs:List Value}{i:Nat}{m:Str->Option Value},P.Nodup->P[i]? = some x->vs[i]? = some v->kindOf x=some .local ->
  bindL kindOf (P.zip vs) m x=some v
 | [],_,_,_,_,h,_,_=>by simp at h
 | _ :: _, [],_,_,_,_,h,_=>by simp at h
 | p :: P,w :: vs,0,m,nd,h1,h2,hk=>by
  simp at h1 h2;subst h1;subst h2
  show bindL kindOf ((p,w) :: P.zip vs) m p=_
  unfold bindL
  rw[D5 fun v hv=>(dO.mp nd).1 (pe hv).1,if_pos hk]
  simp
 | p :: P,w :: vs,i+1,m,nd,h1,h2,hk=>by
  show bindL kindOf ((p,w) :: P.zip vs) m x=_
  unfold bindL
  exact D6 (i:=i) (dO.mp nd).2 (by simpa using h1) (by simpa using h2) hk
theorem D8 {kindOf:Str->Option NameKind}{x:Str}{v:Value}:∀ {P:List Str}{vs:List Value}{i:Nat}{m:Str->Option Value},P.Nodup->P[i]? = some x->vs[i]? = some v->kindOf x≠some .local ->
  bindC kindOf (P.zip vs) m x=some v
 | [],_,_,_,_,h,_,_=>by simp at h
 | _ :: _, [],_,_,_,_,h,_=>by simp at h
 | p :: P,w :: vs,0,m,nd,h1,h2,hk=>by
  simp at h1 h2;subst h1;subst h2
  show bindC kindOf ((p,w) :: P.zip vs) m p=_
  unfold bindC
  rw[D7 fun v hv=>(dO.mp nd).1 (pe hv).1,if_neg hk]
  simp
 | p :: P,w :: vs,i+1,m,nd,h1,h2,hk=>by
  show bindC kindOf ((p,w) :: P.zip vs) m x=_
  unfold bindC
  exact D8 (i:=i) (dO.mp nd).2 (by simpa using h1) (by simpa using h2) hk
def start (N:List Str) (vs:List V):St:=vs.map some ++ aX (N.length - vs.length) none
def eD (CX:vt) (P:Program) (w:World) (K:ak) (mg:Str->Option Value) (base:Heap) (N:List Str) (qual:Str) (scope:Scope) (f:Addr) (cd:Value) (A:Around) (outer:List Env) (s:Shared) (H:Hp) (E:XK):Cx where
 prog:=P
 w:=w
 K:=K
 mg:=mg
 base:=base
 A:=A.deeper (envOfC qual scope s.heap.objs.size f cd)
 N:=N
 kd := s
 yH := H
 env:=envOfC qual scope s.heap.objs.size f cd
 outer:=outer
 stack:=envOfC qual scope s.heap.objs.size f cd :: outer
 ex := []
 calm:=true
 fn:=fun _=>true
 pn := []
 xe:=fun e s'=>wpAny (model P w) (A.deeper (envOfC qual scope s.heap.objs.size f cd)) (leaving (envOfC qual scope s.heap.objs.size f cd) e) (fun _ T4=>CX outer H s E e T4) (fun e' T4=>CX outer H s E e' T4) s'
theorem GY {sc:Scope}{n:Nat}{x:Str} (h:sc.names.lookup x=some .cell):∃ c,(cellsFrom n sc.names []).lookup x=some c:=by
 have q:=uq sc.names n [] (.inl h)
 exact d6.mp q
theorem MY {CX:vt}{P:Program}{w:World}{K:ak}{mg:Str->Option Value}{base:Heap}{N ps:List Str}{qual:Str}{scope:Scope}{f:Addr}{cd:Value}{A:Around}{outer:List Env}{s s1:Shared}{H:Hp}{E:XK}{us:List Value}{vs:List V}
  (S:cG N ps scope) (hd:A.handled=none) (e0:AK P w K mg base A outer s H) (hl:vs.length=ps.length) (r:Vals vs us)
  (x:InCallC s s.heap.objs.size (bindL (envOfC qual scope s.heap.objs.size f cd).kindOf (ps.zip us) fun _=>none) (cellsFrom (s.heap.objs.size+1) scope.names []) (bindC (envOfC qual scope s.heap.objs.size f cd).kindOf (ps.zip us) fun _=>none) s1) :
  Inv (eD CX P w K mg base N qual scope f cd A outer s H E) [] (start N vs) H s1:=by
 have lu:ps.length<=N.length:=by have:=congrArg jq S.pre;rw[bA]at this;omega
 obtain⟨h1,tk,rfl,hk⟩:=x.done
 have Ux:∀ b:Addr,b ∉ (eD CX P w K mg base N qual scope f cd A outer s H E).ex:=fun b z=>absurd (show b∈([]:List Addr) from z) (by simp)
 refine⟨⟨e0.mod,S.kind,rfl,rfl,ao _,fun y z c h1 h2 => ?_,fun y hy => ?_,fun y c _ h => ?_,fun _=>hd,Around.frames_deeper e0.frames,.inr ⟨rfl,rfl⟩,fun b z=>absurd z (Ux b),e0.bs,e0.zL,fun b _ _=>Ux b,fun b z=>absurd z (Ux b),e0.pY,e0.DQ⟩,
  rfl,e0.bare,Un.kept hk,⟨_,x.toInCall.ns,fun i y v h1 h2 h3 => ?_⟩,fun y c h=>⟨_,x.cell y c h⟩,e0.bw.fresh (ao _),fun y c h => ?_,fun p hp=>absurd (show p∈([]:List (Addr × Obj)) from hp) (by simp),e0.bw.kept hk,?_⟩
 ·exact name_of_addr x.apart (jE h1) (jE h2)
 ·have hy:scope.names.lookup y=some .cell∨scope.names.lookup y=some .free:=hy
  rcases hy with hy | hy
  ·exact GY hy
  ·exact absurd rfl (S.Uw _ (jE hy))
 ·exact fA (x.above y c (jE h))
 ·have hi:i < vs.length:=by
   unfold start at h2
   by_cases hi:i < vs.length
   ·exact hi
   ·rw[dk (by simpa using hi)]at h2
    rw[sY]at h2
    split at h2 <;> cases h2
  have ha:vs[i]? = some v:=by
   unfold start at h2
   rw[gR (by simpa using hi),aH]at h2
   cases e:vs[i]? with
   | none=>rw[e]at h2;cases h2
   | some a=>rw[e]at h2;cases h2;rfl
  obtain⟨u,hu,rv⟩:=r.get ha
  have hp:ps[i]? = some y:=by
   rw[<- S.pre,jC (by omega)];exact h1
  have YA:ps.Nodup:=by rw[<- S.pre];exact S.nd.sublist (ng _ _)
  refine⟨u,rv,?_⟩
  rcases S.par y (aK hp) with k | k
  ·exact .inl ⟨k,D6 YA hp hu k⟩
  ·obtain⟨c,e⟩:=GY (n:=s.heap.objs.size+1) k
   refine .inr ⟨.inl k,c,e,?_⟩
   have q:=x.cell y c e
   rw[D8 YA hp hu (by show scope.names.lookup y≠_;rw[k];decide)]at q
   exact q
 ·exact e0.bw.fresh (fA (x.above y c (jE h)))
 ·unfold start
  show _=N.length
  rw[au,aj,fk]
  omega
theorem Lf {CX:vt}{P:Program}{w:World}{K:ak}{mg:Str->Option Value}{base:Heap}{k:Nat}{f:Addr}{name qual:Str}{params:Arguments}{body:List Stmt}{scope:Scope}{dV kV doc pm da ct oc:Value}{an od:Option Addr}
  {uI:Array (Option Value)}{N ps:List Str}{sp:Sp} (lk:K.lookup f=some ⟨oc,od,.func (dr name qual params body scope dV kV doc pm an da ct),uI⟩) (ly:gP K da qual=true) (S:cG N ps scope)
  (len:∀ vs H Q E,sp vs H Q E->vs.length=ps.length)
  (mW:∀ (A:Around) (outer:List Env) (s:Shared) (H:Hp) (vs:List V) (Q:VK) (E:XK),fK k (A.deeper (envOfC qual scope s.heap.objs.size f da))->sp vs H Q E ->
   ∃ t,pH (eD CX P w K mg base N qual scope f da A outer s H E) body t∧t { nx:=fun _ H'=>Q .df H',rt:=Q } (start N vs) H) :
  mS P w K mg base CX (k+1) f (dr name qual params body scope dV kV doc pm an da ct) ps sp:=by
 refine⟨len,fun A outer s H args us vs Q E hr e0 hb r wN => ?_⟩
 have hl:=len _ _ _ _ wN
 have KX:K.In s.heap:=e0.mod.MR.keeps fun b o e=>(e0.bs b o e).1
 have lim:s.heap.NoLimit:=e0.mod.nolimit.keeps fun b o e=>(e0.bs b o e).1
 have Bv:∀ y∈ps.zip us,scope.names.lookup y.1=some .local∨(scope.names.lookup y.1=some .cell∧((cellsFrom (s.heap.objs.size+1) scope.names []).lookup y.1).isSome=true):=fun ⟨n,v⟩ hy=>by
  rcases S.par n (pe hy).1 with q | q
  ·exact .inl q
  ·exact .inr ⟨q,uq _ _ _ (.inl q)⟩
 refine codeAny_call_function hr.depth (KX _ _ lk) rfl S.co S.gen rfl (PySem.W.codeRec_of KX ly) (hb _ _ _ _ ?_)
 refine wpAny_newFunctionEnv_cells S.kind Bv fun env he s1 x => ?_
 subst he
 refine⟨lim.keeps x.toInCall.keep,codeAny_func ?_⟩
 obtain⟨t,ht,hq⟩:=mW A outer s H vs Q E (hr.deeper _) wN
 have I:Inv (eD CX P w K mg base N qual scope f da A outer s H E) [] (start N vs) H s1:=MY S hr.hd e0 hl r x
 refine wpAny_mono (ht [] s1 (start N vs) H _ I hq) (fun fl s' hs => ?_) fun e s' hs=>hs
 have fin:∀ {cc:St} {H':Hp}{v:V}{u:Value},Inv (eD CX P w K mg base N qual scope f da A outer s H E) [] cc H' s'->RelV v u->Q v H'->CE outer P w H s Q u s' :=
  fun {cc H' v u} J rv q=>⟨v,H',J.os,J.bare,J.base,J.bw,rv,q⟩
 cases fl with
 | ret u =>
  obtain⟨v, cc,H',J,rv,q⟩:=hs
  exact fin J rv q
 | next =>
  obtain⟨cc,H',J,q⟩:=hs
  exact fin (v:=V.df) (u:=fJ) J rfl q
 | brk =>
  obtain⟨_,_,_,q⟩:=hs
  exact fO q
 | cont =>
  obtain⟨_,_,_,q⟩:=hs
  exact fO q
section
variable {X:Cx}{x:Str}{p pos:Pos}{e:Expr}{es:List Expr}{t:TA}{id T:String}{r:List V->Hp->VK->Prop}
def Yh (r:List V->Hp->VK->Prop) (t:TA):TE:=fun σ H Q=>t σ H fun vs H1=>r vs H1 Q
theorem bX (hc:k9 X (.builtin id) r) (hg:Gl X x) (hm:X.mg x=none) (hv:bootBuiltins x=some (.builtin id)) (ha:PA X (e :: es) t) (hn:x ≠ "__name__" := by decide) (xV:(x == ("__debug__" : Str))=false:=by decide)
  (he:starEach (e :: es) X.env=(false,eval e X.env) :: starEach es X.env:=by rfl) (lu:(backTo pos (starEach es X.env)).any (·.1)=false:=by rfl):PE X (.Call (.Name x p) (e :: es) [] pos) (Yh r t):=by
 intro ae s σ H Q I h
 refine wpAny_Call_Name_kw (qG I hg hm hv ?_ hn xV)
 exact PyProof.Rows.callWith_builtin1 (bW (ha pos ae s σ H _ I h) fun us s1 ⟨vs,H1,I1,r1,q1⟩=>hc ae s1 σ H1 vs us Q I1 r1 q1) he lu
theorem fy (hc:k9 X (.type T) r) (hg:Gl X x) (hm:X.mg x=none) (hv:bootBuiltins x=some (.type T)) (ha:PA X (e :: es) t) (hn:x ≠ "__name__" := by decide) (xV:(x == ("__debug__" : Str))=false:=by decide)
  (he:starEach (e :: es) X.env=(false,eval e X.env) :: starEach es X.env:=by rfl) (lu:(backTo pos (starEach es X.env)).any (·.1)=false:=by rfl):PE X (.Call (.Name x p) (e :: es) [] pos) (Yh r t):=by
 intro ae s σ H Q I h
 refine wpAny_Call_Name_kw (qG I hg hm hv ?_ hn xV)
 exact gk (bW (ha pos ae s σ H _ I h) fun us s1 ⟨vs,H1,I1,r1,q1⟩=>hc ae s1 σ H1 vs us Q I1 r1 q1) he lu
end
end L2
namespace HT
open PySem PyProof.Rows
def lexLt:List Int->List Int->Bool
 | [], []=>false
 | [],_ :: _=>true
 | _ :: _, []=>false
 | x :: xs,y :: ys=>if x=y then lexLt xs ys else decide (x < y)
theorem oO (x y:Int) (xs ys:List Int):lexLt (x :: xs) (y :: ys)=if x=y then lexLt xs ys else decide (x < y):=rfl
theorem CO (x:Int) (xs:List Int):lexLt (x :: xs) []=false:=rfl
theorem P7 (A:Around) (s:Shared) (a:Int) (t:Tok) (c:Int) (u:Tok):∃ e,oZ A s (.int a t) (.int c u) e∧(e=true↔a=c) :=
 ⟨(a == c),yq a t c u,by simp⟩
theorem OU (A:Around) (s:Shared) (a:Int) (t:Tok) (c:Int) (u:Tok) (prog:Program) (w:World) (E:Value->Shared->Prop) (Q:Value->Shared->Prop) (h:Q (.bool (decide (a < c))) s) :
  wpAny (model prog w) A (richCompare .Lt (.int a t) (.int c u)) Q E s :=
 (PyProof.Rows.lt_int h:wpAny (model prog w) A (compareOp .Lt (.int a t) (.int c u)) Q E s)
section
open PySem.SeqAt
open PySem.AutoSeq1 (wpAny_loadPart')
open PySem.MeetsSeq PySem.MeetsSeq2 PySem.MeetsSeq3
end
section
variable {prog:Program}{w:World}{A:Around}{E:Value->Shared->Prop}{s:Shared}
def ip (n d:Nat):Option Int->Nat
 | none=>d
 | some v=>if v < 0 then (v+(n:Int)).toNat else min v.toNat n
theorem pU (n d:Nat):ip n d none=d:=rfl
theorem rK (n d k:Nat):ip n d (some (k:Int))=min k n:=by
 show (if (k:Int) < 0 then ((k:Int)+(n:Int)).toNat else min (k:Int).toNat n)=min k n
 rw[if_neg (by omega),bR]
theorem L5 (n d:Nat) (hd:d<=n) (o:Option Int):ip n d o<=n:=by
 cases o with
 | none=>exact hd
 | some v =>
  show (if v < 0 then (v+(n:Int)).toNat else min v.toNat n)<=n
  by_cases hv:v < 0
  ·rw[if_pos hv];omega
  ·rw[if_neg hv];exact Nat.min_le_right _ _
end
end HT
namespace L2
open PySem PySem.Spec PyProof.Rows
abbrev TO:=St->Hp->(Option Int->Hp->Prop)->Prop
def PO (X:Cx) (e:Option Expr) (t:TO):Prop :=
 ∀ (ae:List (Addr × Obj)) (s:Shared) (σ : St) (H:Hp) (Q:Option Int->Hp->Prop),Inv X ae σ H s->t σ H Q ->
  wpAny (model X.prog X.w) X.A (evalPart e X.env) (fun u s'=>∃ o H',Inv X ae σ H' s'∧IsPart u o∧Q o H') X.xe s
def Se:TO:=fun _ H Q=>Q none H
inductive JP (Q:Option Int->Hp->Prop) (x:V) (H1:Hp):Prop
 | mk:∀ i,(x = .int i)->(Q (some i) H1)->JP Q x H1
def Xm (t:TE):TO:=fun σ H Q=>t σ H fun x H1=>JP Q x H1
theorem intsAre_of {ns:List Int}:∀ {us:List Value},Vals (ns.map V.int) us->IntsAre us ns:=by
 induction ns with
 | nil=>intro us r;rw[du]at r;cases r;exact .nil
 | cons n ns ih =>
  intro us r
  rw[aJ]at r
  cases r with
  | cons r1 r2 =>
   obtain⟨t,e⟩:=r1
   subst e
   exact .cons n t (ih r2)
section
variable {X:Cx}{e:Expr}{te:TE}{lo hi:Option Expr}{tl th:TO}{pos p2:Pos}
theorem lF:PO X none Se:=by
 intro ae s σ H Q I h
 rw[evalPart_none]
 exact wpAny_pure ⟨none,H,I,.none,h⟩
theorem lE (h:PE X e te):PO X (some e) (Xm te):=by
 intro ae s σ H Q I hw
 rw[evalPart_some]
 refine bW (h ae s σ H _ I hw) fun u s1 ⟨x,H1,I1,r1,q1⟩ => ?_
 obtain⟨i,rfl,q⟩:=q1
 obtain⟨t,rfl⟩:=r1
 exact⟨some i,H1,I1,.int i t,q⟩
def W3 (X:Cx) (r:V->Option Int->Option Int->Hp->VK->Prop):Prop :=
 ∀ (ae:List (Addr × Obj)) (s:Shared) (σ : St) (H:Hp) (x:V) (v vl vu:Value) (lo hi:Option Int) (sl:Addr) (Q:VK),Inv X ae σ H s->RelV x v->s.heap.IsSliceOf sl vl vu .none->IsPart vl lo->IsPart vu hi->r x lo hi H Q ->
  ∃ T id,typeLookup (.type T) "__getitem__" = pure (some (.builtin id))∧s.TypeIs v T∧wpAny (model X.prog X.w) X.A (getItem v (.ref sl)) (EP X ae σ Q) X.xe s
def tSl (r:V->Option Int->Option Int->Hp->VK->Prop) (te:TE) (tl th:TO):TE:=fun σ H Q=>te σ H fun x H1=>tl σ H1 fun l H2=>th σ H2 fun u H3=>r x l u H3 Q
theorem jV {r:V->Option Int->Option Int->Hp->VK->Prop} (hr:W3 X r) (he:PE X e te) (hl:PO X lo tl) (hu:PO X hi th):PE X (.Subscript e (.Slice lo hi none p2) pos) (tSl r te tl th):=by
 intro ae s σ H Q I h
 refine Subscript_ (bW (he ae s σ H _ I h) fun v s1 ⟨x,H1,I1,r1,q1⟩ => ?_)
 refine wpAny_Slice (bW (hl ae s1 σ H1 _ I1 q1) fun vl s2 ⟨l,H2,I2,pl,q2⟩=>bW (hu ae s2 σ H2 _ I2 q2) fun vu s3 ⟨u,H3,I3,pu,q3⟩ => ?_)
 rw[evalPart_none]
 refine wpAny_pure ?_
 have I4:Inv X ae σ H3 { s3 with heap:=s3.heap.push { cls := .type "slice",data := .fields #[vl,vu,.none] } }:=I3.kept (t':=s3.toks) fun b ob q=>aA _ q
 obtain⟨T,id,hT,ht,hg⟩:=hr ae { s3 with heap:=s3.heap.push { cls := .type "slice",data := .fields #[vl,vu,.none] } } σ H3 x v vl vu l u s3.heap.objs.size Q I4 r1 (Heap.IsSliceOf.new ..) pl pu q3
 show wpAny (model X.prog X.w) X.A (subscriptTail e (.Slice lo hi none p2) v (.ref s3.heap.objs.size)) (EP X ae σ Q) X.xe { s3 with heap:=s3.heap.push { cls := .type "slice",data := .fields #[vl,vu,.none] } }
 exact tail_any (ops := [.ref s3.heap.objs.size,v]) ht hT hg (by with_unfolding_all rfl)
def wj (xs:List V) (lo hi:Option Int):List V:=(xs.drop (HT.ip xs.length 0 lo)).take (HT.ip xs.length xs.length hi - HT.ip xs.length 0 lo)
theorem uk (xs:List V) (lo hi:Option Int):(wj xs lo hi).length<=xs.length:=by
 unfold wj
 rw[bA,eP]
 omega
end
def Bh (n:Nat) (i:Int):Option Nat:=if 0<=i then (if i < n then some i.toNat else none) else if -(n:Int)<=i then some (i+n).toNat else none
def ou {α : Type} (xs:List α) (i:Int):Option α := (Bh xs.length i).bind fun j=>xs[j]?
theorem ID {n:Nat}{i:Int}{j:Nat} (h:Bh n i=some j):seqIndex? i n=some j∧j < n ∧ -(n:Int)<=i∧i < n:=by
 unfold Bh at h
 by_cases h0:0<=i
 ·rw[if_pos h0]at h
  by_cases h1:i < n
  ·rw[if_pos h1]at h
   have e:i.toNat=j:=aB h
   exact⟨by rw[seqIndex_of h0 h1,e],by omega,by omega,h1⟩
  ·rw[if_neg h1]at h;cases h
 ·rw[if_neg h0]at h
  by_cases h1 : -(n:Int)<=i
  ·rw[if_pos h1]at h
   have e:(i+n).toNat=j:=aB h
   exact⟨by rw[seqIndex_neg (by omega) h1,e],by omega,h1,by omega⟩
  ·rw[if_neg h1]at h;cases h
theorem C9 {α : Type}{xs:List α}{i:Int}{v : α} (h:ou xs i=some v):∃ j,seqIndex? i xs.length=some j∧xs[j]? = some v∧j < xs.length ∧ -(xs.length:Int)<=i∧i < xs.length:=by
 unfold ou at h
 cases e:Bh xs.length i with
 | none=>rw[e]at h;cases h
 | some j =>
  rw[e]at h
  obtain⟨h1,h2,h3,h4⟩:=ID e
  exact⟨j,h1,h,h2,h3,h4⟩
theorem a7 {α : Type}{xs:List α}{j:Nat}{v : α} (h:xs[j]? = some v):ou xs (j:Int)=some v:=by
 have hj:j < xs.length:=(ah.mp h).1
 have e:Bh xs.length (j:Int)=some j:=by
  unfold Bh
  rw[if_pos (by omega),if_pos (by omega)];simp
 unfold ou;rw[e];exact h
def JO (b:Expr):Prop := ∀ o i,subscripted b false o i=operate [o,i] (getItem o i)
def Ou (X:Cx) (r:R2):Prop :=
 ∀ (value slice:Expr) (ae:List (Addr × Obj)) (s:Shared) (σ : St) (H:Hp) (x y:V) (v u:Value) (Q:VK),Inv X ae σ H s->RelV x v->RelV y u->r x y H Q ->
  subscripted slice false v u=operate [v,u] (getItem v u)->wpAny (model X.prog X.w) X.A (subscriptTail value slice v u) (EP X ae σ Q) X.xe s
def RX (X:Cx) (id:String) (r:V->List V->Hp->VK->Prop):Prop :=
 ∀ (ae:List (Addr × Obj)) (s:Shared) (σ : St) (H:Hp) (x:V) (xs:List V) (v:Value) (us:List Value) (Q:VK),Inv X ae σ H s->RelV x v->Vals xs us->r x xs H Q ->
  wpAny (model X.prog X.w) X.A (call (.builtin id) (v :: us)) (EP X ae σ Q) X.xe s
section
variable {X:Cx}{a b:Expr}{ta tb:TE}{pos:Pos}
theorem Xw {r:R2} (hr:Ou X r) (ha:PE X a ta) (hb:PE X b tb) (hs:JO b):PE X (.Subscript a b pos) (pE r ta tb):=by
 intro ae s σ H Q I h
 exact Subscript_ (WS ha hb I h fun v u s2 x y H2 I2 rx ry q=>hr a b ae s2 σ H2 x y v u Q I2 rx ry q (hs _ _))
inductive W7 (K:ak) (x y:V) (H:Hp) (Q:VK):Prop
 | mk (p:Addr) (xs:List V) (i:Int) (v:V) (hx:x = .ref p) (hy:y = .int i) (hS:bo K H p xs) (he:ou xs i=some v) (q:Q v H):W7 K x y H Q
def xE (K:ak):R2:=fun x y H Q=>W7 K x y H Q
inductive W6 (K:ak) (x y:V) (H:Hp) (Q:VK):Prop
 | mk (p:Addr) (xs:List V) (i:Int) (v:V) (hx:x = .ref p) (hy:y = .int i) (hS:bY K H p xs) (he:ou xs i=some v) (q:Q v H):W6 K x y H Q
def OV (K:ak):R2:=fun x y H Q=>W6 K x y H Q
inductive Ol (x:V) (y:V) (H:Hp) (Q:VK):Prop
 | mk:∀ z i c,(x = .str z)->(y = .int i)->(z.length<=sizeLine)->(ou z.cps.toList i=some c)->(Q (.str ⟨#[c]⟩) H)->Ol x y H Q
def aaB:R2:=fun x y H Q=>Ol x y H Q
theorem b9:Ou X (xE X.K):=by
 intro value slice ae s σ H x y v u Q I rx ry h hs
 obtain⟨p,xs,i,z,rfl,rfl,hq,he,q⟩:=h
 cases rx
 obtain⟨t,rfl⟩:=ry
 obtain⟨its,r,pl,hz⟩:=I.list hq
 obtain⟨j,h1,h2,h3,h4,h5⟩:=C9 he
 obtain⟨w,ew,mY⟩:=r.get h2
 have hl:=r.length
 have hn:=uL
 have fin:EP X ae σ Q w s:=⟨z,H,I,mY,q⟩
 by_cases h0:0<=i
 ·have hj:i.toNat=j:=by
   rw[seqIndex_of h0 h5]at h1
   exact aB h1
  exact item_listR pl.isList h0 (by omega) (by rw[hj];simpa using ew) fin hs
 ·have hj:(i+(its.toArray.size:Int)).toNat=j:=by
   rw[seqIndex_neg (by omega) h4]at h1
   rw[aR, <- hl]
   exact aB h1
  exact subscriptTail_builtinR (x:=w) pl.isList.typeIs slot_list_getitem.lookup
   (wpAny_getItem_list_neg (Q:=fun r s'=>r=w∧EP X ae σ Q r s') pl.isList (by omega) (by rw[aR] <;> omega) (by omega) (by rw[hj];simpa using ew) ⟨rfl,fin⟩) hs
theorem cL:Ou X (OV X.K):=by
 intro value slice ae s σ H x y v u Q I rx ry h hs
 obtain⟨p,xs,i,z,rfl,rfl,hq,he,q⟩:=h
 cases rx
 obtain⟨t,rfl⟩:=ry
 obtain⟨its,r,pl,hz⟩:=I.tuple hq
 obtain⟨j,h1,h2,h3,h4,h5⟩:=C9 he
 obtain⟨w,ew,mY⟩:=r.get h2
 have hl:=r.length
 have hn:=uL
 have fin:EP X ae σ Q w s:=⟨z,H,I,mY,q⟩
 exact subscriptTail_builtinR (x:=w) pl.typeIs slot_tuple_getitem.lookup
  (getItem_tuple (j:=j) (Q:=fun r s'=>r=w∧EP X ae σ Q r s') pl (by omega) (by omega) (by rw[aR, <- hl];exact h1) (by simpa using ew) ⟨rfl,fin⟩) hs
theorem uO:Ou X aaB:=by
 intro value slice ae s σ H x y v u Q I rx ry h hs
 obtain⟨z,i,c,rfl,rfl,hz,he,q⟩:=h
 obtain⟨t,rfl⟩:=rx
 obtain⟨t',rfl⟩:=ry
 obtain⟨j,h1,h2,h3,h4,h5⟩:=C9 he
 have hl:z.cps.toList.length=z.length:=by simp[wq]
 rw[hl]at h1 h4 h5
 have hn:=uL
 exact tail_any (typeIs_str s z t) slot_str_getitem.lookup (getItem_str (c:=c) (by
  have e1:decide (i < -(2 ^ 63:Int))=false:=decide_eq_false (by omega)
  have e2:decide (i ≥ 2 ^ 63)=false:=decide_eq_false (by omega)
  rw[e1,e2,Bool.or_false]) (by rw[h1];simpa using h2) ⟨.str ⟨#[c]⟩,H,I.tok _,⟨_,rfl⟩,q⟩) hs
theorem KJ (its:List Value) (n j:Nat) (u:Value):iN (·.setIfInBounds j u) { cls := .type "list",data := .seq its.toArray n }={ cls := .type "list",data := .seq (its.set j u).toArray n }:=by
 simp[iN]
theorem Inv.lst {ae:List (Addr × Obj)}{σ : St}{H:Hp}{s:Shared}{p:Addr}{xs:List V} (I:Inv X ae σ H s) (h:H p=some (.lst xs)) :
  ∃ (its:List Value) (n:Nat),Vals xs its∧s.heap.get? p=some { cls := .type "list",data := .seq its.toArray n }∧xs.length<=sizeLine:=by
 obtain⟨z,its,n,r,e⟩:=I.bw p _ h
 exact⟨its,n,r,e,z⟩
theorem Inv.UA {ae:List (Addr × Obj)}{σ : St}{H:Hp}{s:Shared}{p:Addr}{xs ys:List V} {its its':List Value} {n n':Nat}{f:Obj->Obj} (I:Inv X ae σ H s) (h:H p=some (.lst xs))
  (ho:s.heap.get? p=some { cls := .type "list",data := .seq its.toArray n }) (hf:f { cls := .type "list",data := .seq its.toArray n }={ cls := .type "list",data := .seq its'.toArray n' }) (r:Vals ys its') (hz:ys.length<=sizeLine) (t:Nat) :
  Inv X ae σ (aG H p (.lst ys)) { s with heap:=s.heap.update p f,toks:=t }:=by
 have e:(s.heap.update p f).get? p=some { cls := .type "list",data := .seq its'.toArray n' }:=by
  rw[iX f ho (by rw[hf] <;> rfl),hf]
 refine I.write (x:=p) (e:=p) (by rw[h];trivial) (.inl rfl) (fun b u hb q=>(e6 _ _ (dh hb)).trans q) ⟨_,e⟩ ?_
 exact⟨hz,its',n',r,e⟩
inductive JU (o:V) (i:V) (v:V) (H:Hp) (Q:Hp->Prop):Prop
 | mk:∀ p xs k j,(o = .ref p)->(i = .int k)->(H p=some (.lst xs))->(Bh xs.length k=some j)->(Q (aG H p (.lst (xs.set j v))))->JU o i v H Q
def Xs:V->V->V->Hp->(Hp->Prop)->Prop:=fun o i v H Q=>JU o i v H Q
theorem E5:W9 X Xs:=by
 intro ae s σ H o i v ov iv u Q I ro ri rv h
 obtain⟨p,xs,k,j,rfl,rfl,hp,hj,q⟩:=h
 cases ro
 obtain⟨t,rfl⟩:=ri
 obtain⟨its,n,r,ho,hz⟩:=I.lst hp
 obtain⟨h1,h2,h3,h4⟩:=ID hj
 have hl:=r.length
 have hn:=uL
 have I':Inv X ae σ (aG H p (.lst (xs.set j v))) { s with heap:=s.heap.update p (iN (·.setIfInBounds j u)) } :=
  I.UA hp ho (KJ its n j u) (r.set rv j) (by rw[List.length_set];exact hz) s.toks
 by_cases h0:0<=k
 ·have hk:k.toNat=j:=by
   rw[seqIndex_of h0 h4]at h1
   exact aB h1
  exact PySem.W.ki_setAt ho h0 (by omega) (by rw[aR, <- hl];exact h4) (by rw[hk];exact⟨_,I',q⟩)
 ·have hk:(k+(its.toArray.size:Int)).toNat=j:=by
   rw[seqIndex_neg (by omega) h3]at h1
   rw[aR, <- hl]
   exact aB h1
  exact PySem.W.ki_setBack ho (by omega) (by rw[aR, <- hl];exact h3) (by omega) (by rw[hk];exact⟨_,I',q⟩)
theorem xq (lo hi:Option Int) (n:Nat):(sliceBounds lo hi none n).1=((HT.ip n 0 lo:Nat):Int)∧(sliceBounds lo hi none n).2.1=((HT.ip n n hi:Nat):Int)∧(sliceBounds lo hi none n).2.2=1:=by
 refine⟨?_,?_,rfl⟩
 ·cases lo with
  | none=>simp[sliceBounds,HT.ip]
  | some i =>
   simp only[sliceBounds,HT.ip,AE,show (1:Int) > 0 by decide,if_true]
   by_cases h:i < 0
   ·simp only[h,if_true] <;> omega
   ·simp only[h,if_false] <;> omega
 ·cases hi with
  | none=>simp[sliceBounds,HT.ip]
  | some i =>
   simp only[sliceBounds,HT.ip,AE,show (1:Int) > 0 by decide,if_true]
   by_cases h:i < 0
   ·simp only[h,if_true] <;> omega
   ·simp only[h,if_false] <;> omega
theorem Ei (its:List Value) (lo hi:Option Int):slicePick its.toArray lo hi none=((its.drop (HT.ip its.length 0 lo)).take (HT.ip its.length its.length hi - HT.ip its.length 0 lo)).toArray:=by
 obtain⟨h1,h2,h3⟩:=xq lo hi its.toArray.size
 unfold slicePick
 rw[h1,h2,h3]
 simp only[sliceRange_one,pick_run,aR] <;> rfl
inductive Oh (K:ak) (x:V) (lo:Option Int) (hi:Option Int) (H:Hp) (Q:VK):Prop
 | mk:∀ a xs,(x = .ref a)->(bo K H a xs)->(∀ p,H p=none->Q (.ref p) (aG H p (.lst (wj xs lo hi))))->Oh K x lo hi H Q
def aay (K:ak):V->Option Int->Option Int->Hp->VK->Prop:=fun x lo hi H Q=>Oh K x lo hi H Q
theorem Ic:W3 X (aay X.K):=by
 intro ae s σ H x v vl vu lo hi sl Q I rx hs pl pu h
 obtain⟨a,xs,rfl,hx,q⟩:=h
 cases rx
 obtain⟨its,r,ht,hz⟩:=I.list hx
 have dI:=r.length
 refine⟨"list",_,slot_list_getitem.lookup,ht.isList.typeIs,?_⟩
 refine wpAny_getItem_list_slice ht.isList hs pl pu .none (by simp) ?_ (by rw[aR] <;> omega)
 rw[Ei, <- dI]
 refine⟨.ref s.heap.objs.size,_,I.laid (t':=s.toks) (o := .lst (wj xs lo hi)) (fun b ob q=>aA _ q) (ao _) ?_,rfl,q _ (I.bw.fresh (ao _))⟩
 exact⟨aF (uk xs lo hi) hz,_,0,(r.drop (HT.ip xs.length 0 lo)).take (HT.ip xs.length xs.length hi - HT.ip xs.length 0 lo),bh _ rfl⟩
inductive RY (K:ak) (xs:List V) (H:Hp) (Q:VK):Prop
 | mk:∀ p ys,(xs = [.ref p])->(bo K H p ys∨bY K H p ys)->(Q (.int ys.length) H)->RY K xs H Q
theorem b7:k9 X (.builtin "len") (fun xs H Q=>RY X.K xs H Q):=by
 intro ae s σ H xs us Q I r h
 obtain⟨p,ys,rfl,hq,q⟩:=h
 obtain⟨u,rfl,rx⟩:=vals1 r
 cases rx
 have hn:=uL
 rcases hq with hq | hq
 ·obtain⟨its,r',pl,hz⟩:=I.list hq
  have dI:=r'.length
  exact Calls.call_len_list pl.isList (by simp only[aR] <;> omega) ⟨.int ys.length,H,I.tok _,⟨s.toks+1,by rw[aR,dI]⟩,q⟩
 ·obtain⟨its,r',pl,hz⟩:=I.tuple hq
  have dI:=r'.length
  exact len_tuple pl (by simp only[aR] <;> omega) ⟨.int ys.length,H,I.tok _,⟨s.toks+1,by rw[aR,dI]⟩,q⟩
inductive vp (xs:List V) (H:Hp) (Q:VK):Prop
 | mk:∀ z,(xs = [.str z])->(z.length<=sizeLine)->(Q (.int z.length) H)->vp xs H Q
theorem sG:k9 X (.builtin "len") (fun xs H Q=>vp xs H Q):=by
 intro ae s σ H xs us Q I r h
 obtain⟨z,rfl,hz,q⟩:=h
 obtain⟨u,rfl,t,rfl⟩:=vals1 r
 have hn:=uL
 exact len_str (by omega) ⟨.int z.length,H,I.tok _,⟨_,rfl⟩,q⟩
inductive vo (kK:ak) (xs:List V) (H:Hp) (Q:VK):Prop
 | mk:∀ p ys,(xs = [.ref p])->((bo kK H p ys∨bY kK H p ys))->(∀ l,H l=none->Q (.ref l) (aG H l (.lst ys)))->vo kK xs H Q
theorem oX:k9 X (.type "list") (fun xs H Q=>vo X.K xs H Q):=by
 intro ae s σ H xs us Q I r h
 obtain⟨p,ys,rfl,hq,q⟩:=h
 obtain⟨u,rfl,rx⟩:=vals1 r
 cases rx
 have fin:∀ (its:List Value),Vals ys its->ys.length<=sizeLine->∀ (h':Heap) (c':Nat),(∀ b o',s.heap.get? b=some o'->h'.get? b=some o') ->
   h'.get? s.heap.objs.size=some { cls := .type "list",dict:=none,data := .seq its.toArray c',slots := #[] }->EP X ae σ Q (.ref s.heap.objs.size) { s with heap:=h' }:=fun its r' hz h' c' kp e =>
  ⟨.ref s.heap.objs.size,_,I.laid (t':=s.toks) kp (ao _) (show cR X.prog X.w _ h' _ (.lst ys) from ⟨hz,its,c',r',e⟩),rfl,q _ (I.bw.fresh (ao _))⟩
 rcases hq with hq | hq
 ·obtain⟨its,r',pl,hz⟩:=I.list hq
  have dI:=r'.length
  obtain⟨o,ho,hc,n,hd⟩:=pl.isList
  exact call_list_seq p (.inl rfl) ho hc hd (fun h' c' kp e=>fin its r' hz h' c' kp e) (by simp only[aR] <;> omega)
 ·obtain⟨its,r',pl,hz⟩:=I.tuple hq
  have dI:=r'.length
  obtain⟨o,ho,hc,n,hd⟩:=pl
  exact call_list_seq p (.inr rfl) ho hc hd (fun h' c' kp e=>fin its r' hz h' c' kp e) (by simp only[aR] <;> omega)
inductive tX (kK:ak) (xs:List V) (H:Hp) (Q:VK):Prop
 | mk:∀ p ys,(xs = [.ref p])->(((bo kK H p ys∧∀ l,H l=none->Q (.ref l) (aG H l (.tup ys)))∨(bY kK H p ys∧Q (.ref p) H)))->tX kK xs H Q
theorem lA:k9 X (.type "tuple") (fun xs H Q=>tX X.K xs H Q):=by
 intro ae s σ H xs us Q I r h
 obtain⟨p,ys,rfl,h⟩:=h
 obtain⟨u,rfl,rx⟩:=vals1 r
 cases rx
 rcases h with⟨hq,q⟩ | ⟨hq,q⟩
 ·obtain⟨its,r',pl,hz⟩:=I.list hq
  have dI:=r'.length
  refine call_tuple_list pl.isList (fun h' kp => ?_) (by simp only[aR] <;> omega)
  have I1:Inv X ae σ H { s with heap:=h' }:=I.kept (t':=s.toks) kp
  have I2:Inv X ae σ (aG H h'.objs.size (.tup ys)) { s with heap:=h'.push { cls := .type "tuple",data := .seq its.toArray } } :=
   I1.laid (t':=s.toks) (fun b o e=>aA _ e) (ao _) (show cR X.prog X.w _ _ _ (.tup ys) from ⟨hz,its,r',vq.new _ _⟩)
  exact⟨.ref h'.objs.size,_,I2,rfl,q _ (I1.bw.fresh (ao _))⟩
 ·obtain⟨its,r',pl,hz⟩:=I.tuple hq
  exact call_tuple_same pl ⟨.ref p,H,I,rfl,q⟩
def Tz (K:ak) (T:String) (x:V) (H:Hp):Prop:=match x with
 | .str _=>T = "str"
 | .int _=>T = "int"
 | .ref p=>(T = "list" ∧ ∃ xs,bo K H p xs)∨(T = "tuple" ∧ ((∃ o,K.lookup p=some o∧o.cls = .type "tuple" ∧ o.dict=none)∨∃ xs,H p=some (.tup xs))) ∨
   (T = "dict" ∧ ((∃ kvs,H p=some (.dK kvs))∨∃ kvs,H p=some (.dT kvs)))∨(T = "set" ∧ ∃ S n,H p=some (.set S n))
 | _=>False
theorem LK {ae:List (Addr × Obj)}{σ : St}{H:Hp}{s:Shared}{T:String}{x:V}{v:Value} (I:Inv X ae σ H s) (r:RelV x v) (ty:Tz X.K T x H) :
  s.TypeIs v T∧∀ a,v = .ref a->∃ ob,s.heap.get? a=some ob∧ob.dict=none:=by
 cases x with
 | str z =>
  obtain⟨t,rfl⟩:=r
  cases (show T = "str" from ty)
  exact⟨typeIs_str s z t,fun _ e=>nomatch e⟩
 | int i =>
  obtain⟨t,rfl⟩:=r
  cases (show T = "int" from ty)
  exact⟨typeIs_int s i t,fun _ e=>nomatch e⟩
 | ref p =>
  cases r
  rcases ty with⟨rfl,xs,hq⟩ | ⟨rfl,⟨o,hk,hc,hd⟩ | ⟨xs,hk⟩⟩ | ⟨rfl,hk⟩ | ⟨rfl,S,n,hk⟩
  ·obtain⟨its,_,pl,_⟩:=I.list hq
   refine⟨pl.isList.typeIs,fun a e => ?_⟩
   cases e
   obtain⟨o,n,e,c,hd,_⟩:=pl
   exact⟨o,e,hd⟩
  ·refine⟨⟨o,I.lW p o hk,hc⟩,fun a e => ?_⟩
   cases e
   exact⟨o,I.lW _ o hk,hd⟩
  ·obtain⟨_,_,_,o,e,c,n,d,hd⟩:=I.bw p _ hk
   refine⟨⟨o,e,c⟩,fun a e2 => ?_⟩
   cases e2
   exact⟨o,e,hd⟩
  ·have z:∃ o,s.heap.get? p=some o∧o.ExactDict:=by
    rcases hk with⟨kvs,hk⟩ | ⟨kvs,hk⟩
    ·obtain⟨_,_,_,_,o,_,_,e,ex,_⟩:=I.bw p _ hk
     exact⟨o,e,ex⟩
    ·obtain⟨_,_,_,_,o,_,_,e,ex,_⟩:=I.bw p _ hk
     exact⟨o,e,ex⟩
   obtain⟨o,e,ex⟩:=z
   refine⟨⟨o,e,ex.1⟩,fun a e2 => ?_⟩
   cases e2
   exact⟨o,e,ex.2.1⟩
  ·obtain⟨o,_,_,_,e,ex,_⟩:=I.bw p _ hk
   refine⟨⟨o,e,ex.1⟩,fun a e2 => ?_⟩
   cases e2
   exact⟨o,e,ex.2.1⟩
 | _=>exact fO ty
def aaq (K:ak) (T:String) (r:V->List V->Hp->VK->Prop) (to:TE):TE:=fun σ H Q=>to σ H fun x H1=>Tz K T x H1∧r x [] H1 Q
def tBM (K:ak) (T:String) (r:V->List V->Hp->VK->Prop) (to:TE) (t:TA):TE:=fun σ H Q=>to σ H fun x H1=>Tz K T x H1∧t σ H1 fun xs H2=>r x xs H2 Q
variable {o e:Expr}{es:List Expr}{to:TE}{t:TA}{name:Str}{fI eT:Pos}{T id:String}{r:V->List V->Hp->VK->Prop}
theorem Mj (pa:PlainAttrs T) (slot:Slot T name id) (U3:typeOf (.builtin id)=pure (.type "method_descriptor")) (hm:RX X id r) (ho:PE X o to)
  (Bz:attributeBase o name X.env (eval o X.env)=eval o X.env:=by rfl) (Bu:(fI.endLine == eT.line)=true:=by rfl):PE X (.Call (.Attribute o name fI) [] [] eT) (aaq X.K T r to):=by
 intro ae s σ H Q I h
 refine wpAny_Call_method0_late Bz Bu (bW (ho ae s σ H _ I h) fun v s1 ⟨x,H1,I1,r1,ty,q1⟩ => ?_)
 obtain⟨h1,h2⟩:=LK I1 r1 ty
 exact⟨T,id,pa,slot,U3,h1,h2,gC rfl (w4 (hm ae s1 σ H1 x [] v [] Q I1 r1 .nil q1))⟩
theorem j1 (pa:PlainAttrs T) (slot:Slot T name id) (U3:typeOf (.builtin id)=pure (.type "method_descriptor")) (hm:RX X id r) (ho:PE X o to) (ha:PA X (e :: es) t)
  (Bz:attributeBase o name X.env (eval o X.env)=eval o X.env:=by rfl)
  (aa5:((backTo eT (starEach (e :: es) X.env)).all (fun x => !x.1) && (backToKw eT (keywordEach [] X.env)).all (fun x=>x.1.isSome)
   && decide ((e :: es).length+([]:List Keyword).length+(if ([]:List Keyword).isEmpty then 0 else 1) < 30))=true:=by rfl)
  (Bu:(fI.endLine == eT.line)=true:=by rfl) (hs:starEach (e :: es) X.env=(false,eval e X.env) :: starEach es X.env:=by rfl) (Vb:(backTo eT (starEach es X.env)).any (·.1)=false:=by rfl) :
  PE X (.Call (.Attribute o name fI) (e :: es) [] eT) (tBM X.K T r to t):=by
 intro ae s σ H Q I h
 refine wpAny_Call_method_late Bz aa5 Bu rfl (bW (ho ae s σ H _ I h) fun v s1 ⟨x,H1,I1,r1,ty,q1⟩ => ?_)
 obtain⟨h1,h2⟩:=LK I1 r1 ty
 refine⟨T,id,pa,slot,U3,h1,h2,?_⟩
 have hA:=ha eT ae s1 σ H1 _ I1 q1
 rw[hs]at hA ⊢
 refine gC (by show (false || (backTo eT (starEach es X.env)).any (·.1))=false;rw[Vb] <;> rfl) (k7 ?_)
 exact bW hA fun us s2 ⟨vs,H2,I2,r2,q2⟩=>hm ae s2 σ H2 x vs v us Q I2 r1 r2 q2
/- xs.append(e),list.index on a aaM tuple .. are RX aeH of 06m -/
end
def Xb (X:Cx) (id:String) (r:V->List V->Hp->VK->Prop):Prop :=
 ∀ (ae:List (Addr × Obj)) (s:Shared) (σ : St) (H:Hp) (x:V) (xs:List V) (v:Value) (us:List Value) (Q:VK),Inv X ae σ H s->RelV x v->Vals xs us->r x xs H Q ->
  wpAny (model X.prog X.w) X.A (call (.builtin id) (v :: us)) (EP X ae σ Q) X.xe s
theorem Vals.one:∀ {x:V}{us:List Value},Vals [x] us->∃ u,us = [u]∧RelV x u
 | _,_,.cons r .nil=>⟨_,rfl,r⟩
theorem Vals.zero:∀ {us:List Value},Vals [] us->us = []
 | _,.nil=>rfl
theorem Vals.dropLast {xs:List V}{us:List Value} (h:Vals xs us):Vals xs.dropLast us.dropLast:=by
 induction h with
 | nil=>exact .nil
 | cons r t ih =>
  cases t with
  | nil=>exact .nil
  | cons q t'=>exact .cons r ih
theorem Vals.rep {xs:List V}{us:List Value} (h:Vals xs us):∀ k:Nat,Vals (aX k xs).flatten (aX k us).flatten
 | 0 => .nil
 | k+1=>by
  rw[gp,gp,ik,ik]
  exact Vals.append h (Vals.rep h k)
theorem Li {α : Type} (l:List α):l.eraseIdx (l.length - 1)=l.dropLast:=by
 induction l with
 | nil=>rfl
 | cons a r ih =>
  cases r with
  | nil=>rfl
  | cons b r =>
   have e:(a :: b :: r).length - 1=((b :: r).length - 1)+1:=by
    have h1:(a :: b :: r).length=r.length+2:=rfl
    have h2:(b :: r).length=r.length+1:=rfl
    omega
   rw[e,jH,ih]
   all_goals rfl
theorem foldl_rep (its:List Value):∀ (k:Nat) (acc:List Value),
  Cb (fun x1 x2=>x1 ++ x2) acc.toArray (aX k its.toArray)=(acc ++ (aX k its).flatten).toArray
 | 0,acc=>by simp
 | k+1,acc=>by
  have e:acc.toArray ++ its.toArray=(acc ++ its).toArray:=by simp
  have e2:(acc ++ its) ++ (aX k its).flatten=acc ++ (aX (k+1) its).flatten:=by
   rw[gp,ik,aV]
  rw[<- e2, <- foldl_rep its k (acc ++ its), <- e,gp,tW]
section
variable {X:Cx}{ae:List (Addr × Obj)}{σ : St}{H:Hp}{s:Shared}{l b:Addr}{xs ys zs:List V}
theorem Inv.Pm {its its':List Value}{n:Nat}{f:Array Value->Array Value} {t':Nat} (I:Inv X ae σ H s) (hH:H l=some (.lst xs))
  (e:s.heap.get? l=some { cls := .type "list",data := .seq its.toArray n }) (hf:f its.toArray=its'.toArray) (hv:Vals ys its') (hz:ys.length<=sizeLine) :
  Inv X ae σ (aG H l (.lst ys)) { s with heap:=s.heap.update l (iN f),toks:=t' }:=by
 have q:=PySem.IsL.update e f
 rw[hf]at q
 refine I.write (x:=l) (e:=l) (by rw[hH];exact trivial) (.inl rfl) (fun b' u hb hu=>(e6 s.heap (iN f) (dh hb)).trans hu) ⟨_,q⟩ ?_
 exact⟨hz,its',_,hv,q⟩
theorem Inv.Pn {its:List Value} {t':Nat} (I:Inv X ae σ H s) (hv:Vals ys its) (hz:ys.length<=sizeLine) :
  Inv X ae σ (aG H s.heap.objs.size (.lst ys)) { s with heap:=s.heap.push { cls := .type "list",data := .seq its.toArray },toks:=t' } :=
 I.laid (fun _ _ q=>aA _ q) (ao _) ⟨hz,its,0,hv,bh _ rfl⟩
theorem Inv.fresh (I:Inv X ae σ H s):H s.heap.objs.size=none:=I.bw.fresh (ao _)
theorem Inv.FF (I:Inv X ae σ H s) (hH:H l=some (.lst xs)):xs.length<=sizeLine∧∃ (its:List Value) (n:Nat),Vals xs its∧xs.length=its.length∧s.heap.get? l=some { cls := .type "list",data := .seq its.toArray n }:=by
 obtain⟨z,its,n,r,e⟩:=I.bw l _ hH
 exact⟨z,its,n,r,r.length,e⟩
theorem Fx {n:Nat} (h:n<=sizeLine):jD n=false:=by
 unfold jD
 exact decide_eq_false (by omega)
end
section
variable {X:Cx}
inductive Ef (x:V) (vs:List V) (H:Hp) (Q:VK):Prop
 | mk:∀ l xs y,(x = .ref l)->(vs = [y])->(H l=some (.lst xs))->(xs.length < sizeLine)->(Q .df (aG H l (.lst (xs ++ [y]))))->Ef x vs H Q
def So:V->List V->Hp->VK->Prop:=fun x vs H Q=>Ef x vs H Q
theorem f9:Xb X "list.append" So:=by
 intro ae s σ H x vs v us Q I rx rv h
 obtain⟨l,xs,y,rfl,rfl,hH,hz,q⟩:=h
 cases rx
 obtain⟨u,rfl,ru⟩:=rv.one
 obtain⟨z,its,n,r,hl,e⟩:=I.FF hH
 refine call_meets F.slot_list_append ⟨_,e,rfl⟩ F.entry_list_append (F.args_list_append_2 _ _) (PySem.list_append l its.toArray n u (by rw[aR];omega)) ⟨e,?_⟩
 refine⟨.df,_,I.Pm (its':=its ++ [u]) hH e (by simp) (r.append (.cons ru .nil)) ?_,rfl,q⟩
 rw[au,cP]
 omega
inductive Ee (x:V) (vs:List V) (H:Hp) (Q:VK):Prop
 | mk:∀ l b xs zs,(x = .ref l)->(vs = [.ref b])->(H l=some (.lst xs))->(H b=some (.lst zs))->(xs.length+zs.length<=sizeLine)->(Q .df (aG H l (.lst (xs ++ zs))))->Ee x vs H Q
def Sn:V->List V->Hp->VK->Prop:=fun x vs H Q=>Ee x vs H Q
theorem xM:Xb X "list.extend" Sn:=by
 intro ae s σ H x vs v us Q I rx rv h
 obtain⟨l,b,xs,zs,rfl,rfl,hH,hB,hz,q⟩:=h
 cases rx
 obtain⟨u,rfl,ru⟩:=rv.one
 cases ru
 obtain⟨z,its,n,r,hl,e⟩:=I.FF hH
 obtain⟨z2,KS,n2,r2,YW,e2⟩:=I.FF hB
 have hsz:its.toArray.size+KS.toArray.size<=sizeLine:=by rw[aR,aR];omega
 have K2:¬ (!its.toArray.isEmpty && jD (its.toArray.size+KS.toArray.size))=true:=by
  rw[Fx hsz,Bool.and_false]
  exact bx
 refine call_meets F.slot_list_extend ⟨_,e,rfl⟩ F.entry_list_extend (F.args_list_extend_2 _ _)
  (AutoSeq1.list_extend_list_list_0 l its.toArray n b KS.toArray n2 K2 (by rw[aR];omega) (by omega)) ⟨e,e2,?_⟩
 refine⟨.df,_,I.Pm (its':=its ++ KS) hH e (by simp) (r.append r2) ?_,rfl,q⟩
 rw[au]
 omega
inductive Oj (x:V) (vs:List V) (H:Hp) (Q:VK):Prop
 | mk:∀ l xs y,(x = .ref l)->(vs = [])->(H l=some (.lst xs))->(xs[xs.length - 1]? = some y)->(Q y (aG H l (.lst xs.dropLast)))->Oj x vs H Q
def aaA:V->List V->Hp->VK->Prop:=fun x vs H Q=>Oj x vs H Q
theorem Mx:Xb X "list.pop" aaA:=by
 intro ae s σ H x vs v us Q I rx rv h
 obtain⟨l,xs,y,rfl,rfl,hH,hy,q⟩:=h
 cases rx
 have II:=rv.zero
 subst II
 obtain⟨z,its,n,r,hl,e⟩:=I.FF hH
 obtain⟨u,hu,ru⟩:=r.get hy
 have uQ:its.toArray[its.toArray.size - 1]? = some u:=by
  show its.toArray[its.length - 1]? = some u
  rw[<- kG, <- hl]
  exact hu
 refine call_meets F.slot_list_pop ⟨_,e,rfl⟩ F.entry_list_pop (F.args_list_pop_1 _) (MeetsSeq.list_pop_last l its.toArray n u uQ (by rw[aR];omega)) ⟨e,?_⟩
 refine⟨y,_,I.Pm (its':=its.dropLast) hH e ?_ r.dropLast ?_,ru,q⟩
 ·show its.toArray.eraseIdxIfInBounds (its.toArray.size - 1)=its.dropLast.toArray
  rw[aR,List.eraseIdxIfInBounds_toArray,Li]
 ·rw[List.length_dropLast]
  omega
inductive Oi (x:V) (y:V) (H:Hp) (Q:VK):Prop
 | mk:∀ l k xs,(x = .ref l)->(y = .int k)->(H l=some (.lst xs))->(-(2 ^ 63)<=k)->(k < 2 ^ 63)->(xs.length * k.toNat<=sizeLine)->(∀ p,H p=none->Q (.ref p) (aG H p (.lst (aX k.toNat xs).flatten)))->Oi x y H Q
def aaz:R2:=fun x y H Q=>Oi x y H Q
theorem S0 {α : Type} (xs:List α) (k:Nat):(aX k xs).flatten.length=k * xs.length:=by
 induction k with
 | zero=>simp
 | succ k ih=>rw[gp,ik,au,ih,Nat.succ_mul,Nat.add_comm]
theorem Up:kC X (binaryOp .Mult) aaz:=by
 intro ae s σ H x y v u Q I rx ry h
 obtain⟨l,k,xs,rfl,rfl,hH,h1,h2,hz,q⟩:=h
 cases rx
 obtain⟨t,rfl⟩:=ry
 obtain⟨z,its,n,r,hl,e⟩:=I.FF hH
 have dI:its.toArray.size * k.toNat<=sizeLine:=by rw[aR, <- hl];exact hz
 have abd:¬ its.toArray.size * k.toNat > (2 ^ 63 - 1) / 8:=by
  have:(sizeLine:Nat)<=(2 ^ 63 - 1) / 8:=by decide
  omega
 have aa4:¬ (!Builtin.List.listFitsIndex k)=true:=by
  rw[fitsIndex_both h1 h2]
  exact bx
 have K2:¬ jD (its.toArray.size * k.toNat)=true:=by
  rw[Fx dI]
  exact bx
 have Aq:Cb (fun x1 x2=>x1 ++ x2) #[] (aX (if its.toArray.isEmpty=true then 0 else k.toNat) its.toArray)=(aX k.toNat its).flatten.toArray:=by
  have f0:∀ m:Nat,Cb (fun x1 x2=>x1 ++ x2) #[] (aX m its.toArray)=(aX m its).flatten.toArray:=fun m=>by
   have:=foldl_rep its m []
   rw[dB]at this
   exact this
  rw[f0]
  cases its with
  | nil=>simp
  | cons a r'=>rw[if_neg (by simp)]
 refine wpAny_binaryOp_repeat_ref (T := "list") (U := "int") (by decide) ⟨_,e,rfl⟩ (fun s'=>typeIs_int s' k t) noFill_list_mul F.fills_int_mul F.slot_int_rmul repeat_list F.slot_int_index.lookup
  (call_meets F.slot_int_rmul (typeIs_int s k t) F.entry_int_rmul (F.args_int_rmul_2 _ _) (int___rmul___int_list k t l its.toArray n)
   ⟨e,rfl,⟨_,e,rfl⟩,call_meets F.slot_list_mul ⟨_,e,rfl⟩ F.entry_list_mul (F.args_list_mul_2 _ _) (AutoListH.list___mul___list_int_3 l its.toArray n k t aa4 abd K2) ⟨e,?_⟩⟩)
 rw[Aq]
 exact⟨.ref _,_,I.Pn (t':=s.toks) (r.rep k.toNat) (by rw[S0,Nat.mul_comm];exact hz),rfl,q _ I.fresh⟩
end
section
variable {prog:Program}{w:World}{A:Around}{E:Value->Shared->Prop}{s:Shared}
end
section
variable {X:Cx}
end
end L2
namespace Xi
open PySem PySem.W PySem.Calls PyProof.Rows
theorem Bi {P:Params}{h:Heap}:∀ (ns:List Int) (vs:List Value),WellAll P h vs (ns.map tR)->IntsAre vs ns:=by
 intro ns
 induction ns with
 | nil =>
  intro vs w
  rw[du]at w
  cases w
  exact .nil
 | cons n ns ih =>
  intro vs w
  rw[aJ]at w
  cases w with
  | cons a b =>
   cases a
   exact .cons _ _ (ih _ b)
theorem L4 {l:OpenLaw}{n:Nat} (hn:l.most=some n) {P:Params}{h:Heap}{args:List WData}{OC:List Value}
  (K0:l.row.toRowW.claim.pre args=true) (M4:WellAll P h OC args) :
  ∃ a vs ns,OC = [bf a]∧args = [BX (ns.map tR)]∧h.get? a=some { cls := .type "list",data := .seq vs.toArray }∧IntsAre vs ns∧ns.length<=n:=by
 have hsh:WShape.hasAll [] args [.list .int]=true:=(pre_splitW K0).1
 have hc:l.pre.holds [] { args:=args }=true:=(pre_splitW K0).2
 obtain⟨d,r,rfl,h1,h2⟩:=hasAllW_cons hsh
 obtain rfl:=hasAllW_nil h2
 obtain⟨xs,rfl,h3⟩:=hasW_list h1
 obtain⟨ns,rfl⟩:=items_int h3
 have dI:ns.length<=n:=by
  unfold OpenLaw.pre at hc
  have h4:(WTm.not (.lt (.lit (.int (n:Int))) (.len (.arg 0)))).holds [] { args := [.list (ns.map .int)] }=true:=by
   have h4:=(holds_andW hc).1
   rw[hn]at h4
   exact h4
  have h5:=condW_of h4 (w_not (w_lt w_lit (w_len_list (w_arg rfl))))
  rw[aj]at h5
  refine Nat.le_of_not_lt fun q => ?_
  have q':(n:Int) < ((ns.length:Nat):Int):=by omega
  first
   | (rw[decide_eq_true q']at h5;exact absurd h5 (by decide))
   | (simp at h5;omega)
 cases M4 with
 | cons w1 w2 =>
  cases w2
  cases w1 with
  | list ho lN=>exact⟨_,_,ns,rfl,rfl,ho,Bi ns _ lN,dI⟩
theorem Mg (l:OpenLaw) (args:List WData):l.row.toRowW.claim.post args (.bool true) args=true :=
 postW_of (r:=l.row.toRowW) (X:=(true == true))
  (show WShape.has [] (.bool true) .bool=true by first | rfl | decide | simp[WShape.has,WShape.arms,WShape.armsAll])
  (show (WTm.eq .res (.lit (.bool true))).value [] { args:=args,res:=some (.bool true),after:=args }=some (.bool (true == true)) from w_eq_bool (w_res rfl) w_lit) rfl
section
variable {prog:Program}{w:World}{A:Around}{E:Value->Shared->Prop}{s:Shared}{K:Frag}
end
end Xi
namespace L2
open PySem PySem.Spec PyProof.Rows
theorem xg:∀ {vs:List Value}{ns:List Int},IntsAre vs ns->Vals (ns.map V.int) vs
 | _,_,.nil => .nil
 | _,_,.cons n t h => .cons ⟨t,rfl⟩ (xg h)
def CP (s:Stmt) (j:Nat):Stmt:=match s with
 | .ClassDef _ _ _ body _ _ _ _ _ _ _=>body.getD j (.Pass ⟨0,0,0,0⟩)
 | _ => .Pass ⟨0,0,0,0⟩
def iG (s:Stmt):Arguments:=match s with
 | .FunctionDef _ a _ _ _ _ _ _ _ _=>a
 | _=>{ posonlyargs := [],args := [],vararg:=none,kwonlyargs := [],kw_defaults := [],kwarg:=none,defaults := [] }
def eY (s:Stmt):List Stmt:=match s with
 | .FunctionDef _ _ b _ _ _ _ _ _ _=>b
 | _ => []
def a6 (s:Stmt):Scope:=match s with
 | .FunctionDef _ _ _ _ _ _ sc _ _ _=>sc
 | _=>{ kind := .function,names := [],isGenerator:=false,isCoroutine:=false }
abbrev yU:vt:=fun _ _ _ _ _ _=>False
abbrev E0:XK:=fun _ _ _=>False
theorem Xx {X:Cx}:Passes yU X E0:=fun _ _ _ _ _ _ _ h=>h.elim
structure zW (K:ak) (x qual:Str) (st:Stmt) (f:Addr) (fd:FuncData):Prop where
 ex:∃ (oc:Value) (od:Option Addr) (kV doc pm:Value) (an:Option Addr) (da ct:Value) (uI:Array (Option Value)),
  fd=dr x qual (iG st) (eY st) (a6 st) .none kV doc pm an da ct∧K.lookup f=some ⟨oc,od,.func fd,uI⟩∧gP K da qual=true
 kp:eZ K (.ref f)=true
section
variable {P:Program}{w:World}{K:ak}{mg:Str->Option Value}{base:Heap}{CB CF CH CS CN CE CM tB:Addr}
theorem zW.ok {x qual:Str}{st:Stmt}{f:Addr}{fd:FuncData}{N ps:List Str}{k:Nat}{sp:Sp} (F:zW K x qual st f fd) (S:cG N ps (a6 st)) (len:∀ vs H Q E,sp vs H Q E->vs.length=ps.length)
  (mW:∀ (da:Value) (A:Around) (outer:List Env) (s:Shared) (H:Hp) (vs:List V) (Q:VK) (E:XK),fK k (A.deeper (envOfC qual (a6 st) s.heap.objs.size f da))->sp vs H Q E ->
   ∃ t,pH (eD yU P w K mg base N qual (a6 st) f da A outer s H E).Fw (eY st) t∧t { nx:=fun _ H'=>Q .df H',rt:=Q } (start N vs) H):mS P w K mg base yU (k+1) f fd ps sp:=by
 obtain⟨oc,od,kV,doc,pm,an,da,ct,uI,rfl,lk,ly⟩:=F.ex
 refine Lf lk ly S len fun A outer s H vs Q E hr wN => ?_
 obtain⟨t,h,q⟩:=mW da A outer s H vs Q E hr wN
 exact⟨t,h.Fw,q⟩
theorem zW.binds {x qual:Str}{st:Stmt}{f:Addr}{fd:FuncData}{ps:List Str} (F:zW K x qual st f fd)
  (h:∀ (kV doc pm:Value) (an:Option Addr) (da ct:Value) (us:List Value),us.length=ps.length->bindArgs (dr x qual (iG st) (eY st) (a6 st) .none kV doc pm an da ct) ⟨us, []⟩=pure (ps.zip us)):Binds K fd ps []:=by
 obtain⟨oc,od,kV,doc,pm,an,da,ct,uI,rfl,lk,ly⟩:=F.ex
 exact .all (h kV doc pm an da ct)
theorem yd {x qual:Str}{st:Stmt}{f:Addr}{oc:Value}{od an:Option Addr}{uI:Array (Option Value)}{kV doc pm da ct:Value} (l:K.lookup f=some ⟨oc,od,.func (dr x qual (iG st) (eY st) (a6 st) .none kV doc pm an da ct),uI⟩)
  (c:gP K da qual=true) (k:eZ K (.ref f)=true):zW K x qual st f (dr x qual (iG st) (eY st) (a6 st) .none kV doc pm an da ct):=⟨⟨oc,od,kV,doc,pm,an,da,ct,uI,rfl,l,c⟩,k⟩
end
theorem rC {A:Around}{k:Nat} (hr:fK k A):A.units+1 < cLine:=qQ (Nat.add_le_add_left (by decide:1<=64) _) hr.units
theorem cY {n:Nat} (h:n<=1000):n < sizeLine:=qQ h (by decide)
section
variable {X:Cx}
theorem pv (i:Nat) {x:Str}{pos:Pos} (hN:X.N[i]? = some x:=by rfl) (hv:WW X.env.scope x:=by first | exact aP rfl | exact Or.inr (aP rfl) | exact Or.inr (Or.inr rfl)) (hd:(x == ("__debug__" : Str))=false:=by decide)
  (ly:(x == ("__classdict__" : Str))=false:=by decide):PE X (.Name x pos) (TK i):=Uk hN hv hd ly
end
theorem iZ {A B:Prop} (h:B):if false=true then A else B:=by
 rw[if_neg bx]
 exact h
theorem my {A B:Prop} (h:A):if true=true then A else B:=by
 rw[if_pos rfl]
 exact h
def bz (H H':Hp):Prop := ∀ b o,H b=some o->H' b=some o
theorem bz.refl (H:Hp):bz H H:=fun _ _ h=>h
theorem bz.trans {H H1 H2:Hp} (a:bz H H1) (b:bz H1 H2):bz H H2:=fun c o h=>b c o (a c o h)
theorem bz.free {H H':Hp} (e:bz H H') {l:Addr} (h:H' l=Option.none):H l=Option.none:=by
 cases q:H l with
 | none=>rfl
 | some o =>
  rw[e l o q]at h
  cases h
theorem bz.seq {K:ak} {H H':Hp}{a:Addr}{xs:List V} (e:bz H H') (h:bo K H a xs):bo K H' a xs:=by
 rcases h with(h | ⟨o,h⟩) | h
 ·exact .inl (.inl (e _ _ h))
 ·exact .inl (.inr ⟨o,e _ _ h⟩)
 ·exact .inr h
section
variable {X:Cx}{ae:List (Addr × Obj)}{σ : St}{H:Hp}{s:Shared} {h':Heap}
theorem Inv.AU {ch:List Addr}{a:Addr}{o:HO} {t':Nat} (I:Inv X ae σ H s) (k:∀ b u,b ∉ ch->s.heap.get? b=some u->h'.get? b=some u)
  (tK:∀ b∈ch,nh X ae H b) (hp:s.heap.objs.size<=a) (new:cR X.prog X.w (aG H a o) h' a o):Inv X ae σ (aG H a o) { s with heap:=h',toks:=t' }:=by
 have IY:H a=none:=I.bw.fresh hp
 have oh:∀ b ob,s.heap.get? b=some ob->b≠a:=fun b ob e z=>by subst z;exact absurd (bK (aW e) hp) (eU _)
 have tr:∀ b u,H b=some u->b≠a:=fun b u e z=>by rw[z,IY]at e;cases e
 have Ye:∀ b u,H b=some u->b ∉ ch:=fun b u e z=>by rw[(tK b z).1]at e;cases e
 refine I.step (g':=s.gens) (d':=s.drawn) (ch:=ch) (fun b hb => ?_) (fun b ob _ _ hc e _=>k b ob hc e) (fun b ob _ _ hc e _=>⟨ob.slots,k b ob hc e⟩) (fun b ob _ e n => ?_)
  (fun b ob hc e=>⟨ob,k b ob hc e⟩) (fun b xs e => ?_) (fun b ob u e => ?_) (fun b ps e=>⟨#[],?_⟩) (fun m hm => ?_) (fun b u e => ?_) I.bare
 ·obtain⟨_,f1,_,f3,f4,f5⟩:=tK b hb
  exact⟨f3,f1,f4,f5⟩
 ·rw[aD (oh b ob e)];exact n
 ·rw[aD (tr b _ e)];exact e
 ·rw[aD (tr b _ e)];exact e
 ·rw[aD (tr b _ e),e];simp
 ·obtain⟨ob,es,ep,ho,r⟩:=hm
  exact⟨ob,es,ep,k _ ob (fun z=>(tK _ z).2.1 rfl) ho,r⟩
 ·by_cases hb:b=a
  ·subst hb
   rw[ay]at e;cases e
   exact new
  ·rw[aD hb]at e
   refine(I.bw b u e).vD (fun c v hc q=>k c v ?_ q) (fun c q=>by rw[aD (tr c _ q)];exact q) fun c xs q=>by rw[aD (tr c _ q)];exact q
   rcases hc with z | z
   ·rw[z];exact Ye b u e
   ·exact Ye c _ z
end
def Ow (K:ak) (a:Addr):It :=
 ⟨fun i H=>∃ xs x,bo K H a xs∧xs[i]? = some x,
  fun i H x H'=>∃ p v,H p=none∧x = .ref p∧(∀ xs,bo K H a xs->xs[i]? = some v)∧H'=aG H p (.tup [.int (i:Int),v]),
  fun i H=>∃ xs,bo K H a xs∧xs.length=i⟩
theorem LO {P:Program}{w:World}{K:ak}{Aw:List Expr}{k:Nat}{tp:Pos} (a e it:Addr) (nz:e≠it) :
  Turn P w K (.Tuple Aw k tp) (Ow K a) [e,it] e (fun i h=>(∃ oh,IsEnum h e it (i:Int) oh)∧h.IsListIter it a i) where
 mem:=by simp
 obj:=fun i h st b hb=>by
  obtain⟨⟨oh,he⟩,hit⟩:=st
  rcases aN.mp hb with rfl | hb
  ·exact⟨_,he,fun v z=>by
    have z':zY _=tZ v:=z
    cases z'⟩
  ·have e:b=it:=by simpa using hb
   subst e
   obtain⟨o,e,c,d⟩:=hit
   exact⟨o,e,fun v z=>by rw[d]at z;cases z⟩
 keep:=fun i h h' st k=>by
  obtain⟨⟨oh,he⟩,hit⟩:=st
  exact⟨⟨oh,k e (by simp) _ he⟩,hit.at fun o q=>k it (by simp) o q⟩
 item:=by
  intro X hP hw hK hc i ae s σ H E I hf st hg
  subst hP hw hK
  obtain⟨⟨oh,he⟩,hit⟩:=st
  obtain⟨xs,x,hq,hx⟩:=hg
  obtain⟨its,rv,p,hz⟩:=I.list hq
  obtain⟨u,hu,ru⟩:=rv.get hx
  have VE:a≠it:=fun z=>by
   obtain⟨o,n,e1,c1,_⟩:=p
   obtain⟨o',e2,c2,_⟩:=hit
   rw[z,e2]at e1;cases e1
   rw[c1]at c2
   exact absurd (js c2) (by decide)
  have hae:a≠e:=fun z=>by
   obtain⟨o,n,e1,c1,_⟩:=p
   rw[z,he]at e1;cases e1
   exact absurd (js c1) (by decide)
  have cS:i < its.toArray.size:=by
   rw[aR]
   exact(ah.mp hu).1
  have wQ:e < s.heap.objs.size:=aW he
  have DK:it < s.heap.objs.size:=by obtain⟨o,q,_⟩:=hit;exact aW q
  refine wpAny_pyNext_enum_itemD (Draws.list (A:=X.A.in1) (I.ok.hd hc) it a VE its.toArray) he ⟨hit,p.isList⟩ cS nz (by
   intro z
   rcases aN.mp z with z | z
   ·exact nz z
   ·exact hae (av.mp z).symm) fun y h1 tk hy ho F1 hT hsz hk => ?_
  have hyu:y=u:=by
   have e1:its[i]? = some y:=by simpa using hy
   rw[hu]at e1
   exact(aB e1).symm
  subst hyu
  refine⟨_,rfl,wpAny_letOwnedTupleGo_enum ho fun h2 he2 cq => ?_⟩
  have kk:∀ b o,b ∉ [e,it]->s.heap.get? b=some o->h2.get? b=some o:=fun b o hb q=>by
   have b1:b≠e:=fun z=>hb (by simp[z])
   have b2:b≠it:=fun z=>hb (by simp[z])
   exact(cq.2 b b1).trans (hk b o b1 b2 q)
  have hTe:s.heap.objs.size≠e:=jA wQ
  refine⟨.ref s.heap.objs.size,aG H s.heap.objs.size (.tup [.int (i:Int),x]),?_,rfl,⟨_,x,I.bw.fresh (ao _),rfl,fun ys hy=>by rw[I.FI hy hq];exact hx,rfl⟩,
   ⟨⟨_,by simpa using he2⟩,F1.1.at fun o q=>(cq.2 it (dh nz)).trans q⟩,fun b hb => ?_⟩
  ·refine I.AU (ch := [e,it]) (t':=tk+1) kk hf (ao _) ⟨by show 2<=sizeLine;decide, [.int (i:Int) tk,y],.cons ⟨_,rfl⟩ (.cons ru .nil),?_⟩
   exact⟨_,(cq.2 _ hTe).trans hT,rfl,_,rfl,rfl⟩
  ·have m6:=hf b hb
   have:b≠s.heap.objs.size:=by
    rcases aN.mp hb with rfl | hb
    ·exact bP wQ
    ·rw[av.mp hb];exact bP DK
   rw[aD this]
   exact m6.1
 done:=by
   intro X hP hw hK hc i ae s σ H E I hf st hg
   subst hP hw hK
   obtain⟨⟨oh,he⟩,hit⟩:=st
   obtain⟨xs,hq,hx⟩:=hg
   obtain⟨its,rv,p,hz⟩:=I.list hq
   have VE:a≠it:=fun z=>by
    obtain⟨o,n,e1,c1,_⟩:=p
    obtain⟨o',e2,c2,_⟩:=hit
    rw[z,e2]at e1;cases e1
    rw[c1]at c2
    exact absurd (js c2) (by decide)
   have hl:=rv.length
   have hi:i=its.toArray.size:=by rw[aR];omega
   subst hi
   obtain⟨f0,f1,f2,f3,f4,f5⟩:=hf it (by simp)
   exact wpAny_pyNext_enum_endD (Draws.list (A:=X.A.in1) (I.ok.hd hc) it a VE its.toArray) he ⟨hit,p.isList⟩ fun h1 eb=>⟨rfl,I.turned (t':=s.toks) (fun b o hb q=>eb b o hb q) f0 f1 f3 f4 f5⟩
 self:=fun _ _ _ _ _ st h=>by
  obtain⟨⟨oh,he⟩,_⟩:=st
  exact wpAny_pyIter_enum he h
inductive J0 (K:ak) (R:It->Hp->Prop) (vs:List V) (H1:Hp):Prop
 | mk:∀ a,(vs = [.ref a])->((∃ xs,bo K H1 a xs))->(R (Ow K a) H1)->J0 K R vs H1
def XN (K:ak) (ta:TA):TI:=fun σ H R=>ta σ H fun vs H1=>J0 K R vs H1
theorem NX:bootBuiltins "enumerate" = some (.type "enumerate"):=by decide +kernel
section
variable {X:Cx}
theorem y4 {l:Expr}{ta:TA}{Aw:List Expr}{k:Nat}{tp p pos:Pos} (hg:Gl X "enumerate") (hm:X.mg "enumerate" = none) (ha:PA X [l] ta) (hs:starEach [l] X.env = [(false,eval l X.env)]:=by rfl) :
  PI X (.Tuple Aw k tp) (.Call (.Name "enumerate" p) [l] [] pos) (XN X.K ta):=by
 intro ae s σ H R I h
 refine Call_ (qG I hg hm NX (gk (bW (ha pos ae s σ H _ I h) fun us s1 ⟨vs,H1,I1,r1,q1⟩ => ?_) hs rfl))
 obtain⟨a,e,⟨xs,hq⟩,q⟩:=q1
 subst e
 obtain⟨u,rfl,ru⟩:=vals1 r1
 cases ru
 obtain⟨its,rv,pl,hz⟩:=I1.list hq
 refine call_enumerate_list pl.isList fun h1 he hit hsz hk => ?_
 have I2:Inv X ae σ H1 { s1 with heap:=h1 }:=I1.kept (t':=s1.toks) hk
 have nz:s1.heap.objs.size+1≠s1.heap.objs.size:=Nat.succ_ne_self _
 refine wpAny_pyIter_enum (s := { s1 with heap:=h1 }) he ⟨_, [s1.heap.objs.size+1,s1.heap.objs.size],_,_,H1,rfl,I2,LO a _ _ nz,⟨⟨_,he⟩,hit⟩,fun b hb => ?_,q⟩
 rcases aN.mp hb with rfl | hb
 ·exact I1.Av (lL _) (I1.bw.fresh (lL _))
 ·rw[av.mp hb]
  exact I1.Av (ao _) (I1.bw.fresh (ao _))
end
theorem vZ {K:ak}{a:Addr}{xs:List V}{g:TG}{tb:TS}{D:Ends}{σ : St}{H:Hp} (Pv:Nat->St->Hp->Prop) (h0:Pv 0 σ H) (hl:∀ i σ H,i<=xs.length->Pv i σ H->bo K H a xs)
  (hs:∀ i x p σ H,xs[i]? = some x->Pv i σ H->H p=none->g (.ref p) σ (aG H p (.tup [.int (i:Int),x])) fun ll H2=>tb { D with nx:=Pv (i+1),ct:=Pv (i+1),bk:=D.nx } ll H2) (hd:∀ σ H,Pv xs.length σ H->D.nx σ H) :
  ∃ W:Nat->Nat->St->Hp->Prop,(∃ m,W 0 m σ H)∧∀ i m σ H,W i m σ H ->
   ((Ow K a).stop i H∧D.nx σ H)∨((Ow K a).go i H∧∃ N:St->Hp->Prop,(∀ cc H',N cc H'->∃ m',m' < m∧W (i+1) m' cc H')∧∀ x H',(Ow K a).zv i H x H'->g x σ H' fun ll H2=>tb { D with nx:=N,ct:=N,bk:=D.nx } ll H2):=by
 refine⟨fun i m σ H=>m=xs.length - i∧i<=xs.length∧Pv i σ H,⟨xs.length,by simp,aS _,h0⟩,?_⟩
 rintro i m σ H ⟨rfl,hi,p⟩
 have q:=hl i σ H hi p
 by_cases cS:i < xs.length
 ·refine .inr ⟨⟨xs,xs[i],q,by simp[cS]⟩,Pv (i+1),fun cc H' p'=>⟨xs.length - (i+1),by omega,rfl,cS,p'⟩,fun x H' y => ?_⟩
  obtain⟨pa,v,M8,rfl,hv,rfl⟩:=y
  exact hs i v pa σ H (hv xs q) p M8
 ·have e:i=xs.length:=by omega
  subst e
  exact .inl ⟨⟨xs,q,rfl⟩,hd σ H p⟩
section
variable {X:Cx}
theorem DR (a:Array Nat):∀ (k:Nat) (acc:Array Nat),((aX k a).foldl (· ++ ·) acc).toList=acc.toList ++ (aX k a.toList).flatten
 | 0,acc=>by simp
 | k+1,acc=>by
  rw[gp,tW,DR a k,gp,ik,cF,aV]
def lp (z:Str) (n:Nat):Str:=⟨(aX n z.cps.toList).flatten.toArray⟩
theorem vA (z:Str) (n:Nat):(lp z n).length=n * z.length:=by
 unfold lp wq
 simp[List.length_flatten]
inductive yB (x:V) (y:V) (H:Hp) (Q:VK):Prop
 | mk:∀ z n,(x = .str z)->(y = .int n)->(1<=n)->(n<=1000)->(z.length<=1000)->(Q (.str (lp z n.toNat)) H)->yB x y H Q
theorem Kz:kC X (binaryOp .Mult) (fun x y H Q=>yB x y H Q):=by
 intro ae s σ H x y v u Q I rx ry h
 obtain⟨z,n,rfl,rfl,h1,h2,h3,q⟩:=h
 obtain⟨t,rfl⟩:=rx
 obtain⟨t',rfl⟩:=ry
 have e0:(⟨(aX n.toNat z.cps).foldl (· ++ ·) #[]⟩:Str)=lp z n.toNat:=by
  unfold lp
  congr 1
  apply sW.mp
  rw[DR]
  simp
 have dI:(lp z n.toNat).length<=sizeLine:=by
  rw[vA]
  have:n.toNat<=1000:=by omega
  have:=Nat.mul_le_mul this h3
  exact aF this (by decide)
 have e1:(n == 1 || z.length == 0)=true->lp z n.toNat=z:=fun hc=>by
  unfold lp
  rcases Bool.or_eq_true_iff.mp hc with hc | hc
  ·have:n=1:=by simpa using hc
   subst this
   simp
  ·have hz:z.length=0:=by simpa using hc
   have YL:z.cps = #[]:=jS hz
   cases z with
   | mk c =>
    simp only at YL
    subst YL
    simp
 refine PySem.P.mul_str (by
   have GB:¬ n < -(2 ^ 63:Int):=by omega
   have GA:¬ n ≥ 2 ^ 63:=by omega
   rw[decide_eq_false GB,decide_eq_false GA];rfl) (fun _ _ => ?_) (fun _ _ => ?_) ?_
 ·have e:((2:Int) ^ 63 - 1)=9223372036854775807:=by decide
  rw[e]
  have h4:(1000:Int)<=(9223372036854775807:Int) / n:=by
   refine(Int.le_ediv_iff_mul_le (by omega)).mpr ?_
   omega
  omega
 ·unfold Builtin.Str.tooLong
  rw[vA]at dI
  exact decide_eq_false (by rw[Nat.mul_comm];omega)
 ·rw[if_neg (by omega)]
  by_cases hc:(n == 1 || z.length == 0)=true
  ·rw[if_pos hc]
   exact⟨.str z,H,I,⟨_,rfl⟩,by rw[e1 hc]at q;exact q⟩
  ·rw[if_neg hc]
   exact⟨by rw[e0];exact dI,⟨.str _,H,I.tok _,⟨_,rfl⟩,by rw[e0];exact q⟩⟩
inductive Og (x:V) (lo:Option Int) (hi:Option Int) (H:Hp) (Q:VK):Prop
 | mk:∀ z,(x = .str z)->(z.length<=sizeLine)->(Q (.str (cN z lo hi)) H)->Og x lo hi H Q
def aax:V->Option Int->Option Int->Hp->VK->Prop:=fun x lo hi H Q=>Og x lo hi H Q
theorem qB:W3 X aax:=by
 intro ae s σ H x v vl vu lo hi sl Q I rx hs pl pu h
 obtain⟨z,rfl,hz,q⟩:=h
 obtain⟨t,rfl⟩:=rx
 refine⟨"str",_,F.slot_str_getitem.lookup,typeIs_str _ _ _,?_⟩
 obtain⟨o,ho,hc,hd⟩:=hs
 have fin:∀ t' k,EP X ae σ Q (.str (cN z lo hi) t') { s with toks:=k }:=fun t' k=>⟨.str _,H,I.tok _,⟨_,rfl⟩,q⟩
 cases pl with
 | none =>
  cases pu with
  | none=>exact wpAny_getItem_str_slice (l:=none) (u:=none) (st:=none) ⟨o,ho,hc,hd⟩ rfl (post_val_or_str ⟨aF (hV z _ _) hz,fin⟩)
  | int j uj=>exact wpAny_getItem_str_slice (l:=none) (u:=some (j,uj)) (st:=none) ⟨o,ho,hc,hd⟩ rfl (post_val_or_str ⟨aF (hV z _ _) hz,fin⟩)
 | int i ui =>
  cases pu with
  | none=>exact wpAny_getItem_str_slice (l:=some (i,ui)) (u:=none) (st:=none) ⟨o,ho,hc,hd⟩ rfl (post_val_or_str ⟨aF (hV z _ _) hz,fin⟩)
  | int j uj=>exact wpAny_getItem_str_slice (l:=some (i,ui)) (u:=some (j,uj)) (st:=none) ⟨o,ho,hc,hd⟩ rfl (post_val_or_str ⟨aF (hV z _ _) hz,fin⟩)
inductive Ce (kK:ak) (xs:List V) (H:Hp) (Q:VK):Prop
 | mk:∀ x T t b,(xs = [x,.ty T])->(p6 kK H x t)->(jt kK t (.type T)=some b)->(Q (.bl b) H)->Ce kK xs H Q
theorem nQ:k9 X (.builtin "isinstance") (fun xs H Q=>Ce X.K xs H Q):=by
 intro ae s σ H xs us Q I r h
 obtain⟨x,T,t,b,rfl,ty,e,q⟩:=h
 obtain⟨u,w',rfl,rx,ry⟩:=vals2 r
 cases ry
 exact MW I rx ty e fun tk=>⟨.bl b,H,I.tok _,rfl,q⟩
end
def iQ (cells:List (Str × Addr)):List (Str × NameKind)->List (Str × Addr)->List (Str × Addr)
 | [],acc=>acc
 | (n,k) :: r,acc=>if k == .free then (match cells.lookup n with | some c=>iQ cells r ((n,c) :: acc) | none=>iQ cells r acc) else iQ cells r acc
theorem oW {cells:List (Str × Addr)}:∀ {names:List (Str × NameKind)}{acc:List (Str × Addr)}{x:Str}{c:Addr},(∀ x c,acc.lookup x=some c->cells.lookup x=some c)->(iQ cells names acc).lookup x=some c->cells.lookup x=some c
 | [],_,x,c,ha,h=>ha x c h
 | (n,k) :: r,acc,x,c,ha,h=>by
  unfold iQ at h
  by_cases hk:(k == eV)=true
  ·rw[if_pos hk]at h
   cases e:cells.lookup n with
   | none =>
    rw[e]at h
    exact oW ha h
   | some d =>
    rw[e]at h
    refine oW (fun y z hy => ?_) h
    rw[gJ]at hy
    cases q:y == n with
    | true =>
     rw[q]at hy
     have:y=n:=by simpa using q
     rw[this,e];exact hy
    | false =>
     rw[q]at hy
     exact ha y z hy
  ·rw[if_neg hk]at h
   exact oW ha h
theorem rF {cells:List (Str × Addr)}:∀ {names:List (Str × NameKind)}{acc:List (Str × Addr)}{x:Str},(acc.lookup x).isSome=true->((iQ cells names acc).lookup x).isSome=true
 | [],_,_,h=>h
 | (n,k) :: r,acc,x,h=>by
  unfold iQ
  by_cases hk:(k == eV)=true
  ·rw[if_pos hk]
   cases e:cells.lookup n with
   | none=>exact rF h
   | some d =>
    refine rF ?_
    rw[gJ]
    cases q:x == n with
    | true=>rfl
    | false=>exact h
  ·rw[if_neg hk];exact rF h
theorem oV {cells:List (Str × Addr)}:∀ {names:List (Str × NameKind)}{acc:List (Str × Addr)}{x:Str},(x,eV)∈names->(cells.lookup x).isSome=true->((iQ cells names acc).lookup x).isSome=true
 | [],_,_,h,_=>nomatch h
 | (n,k) :: r,acc,x,h,hc=>by
  unfold iQ
  rcases aN.mp h with e | h
  ·cases e
   rw[if_pos (show (eV == eV)=true from rfl)]
   cases e:cells.lookup n with
   | none=>rw[e]at hc;cases hc
   | some d =>
    refine rF ?_
    rw[gJ]
    simp
  ·by_cases hk:(k == eV)=true
   ·rw[if_pos hk]
    cases e:cells.lookup n with
    | none=>exact oV h hc
    | some d=>exact oV h hc
   ·rw[if_neg hk];exact oV h hc
theorem jL {cells:List (Str × Addr)}{names:List (Str × NameKind)}{x:Str}{c:Addr} (h:(iQ cells names []).lookup x=some c):cells.lookup x=some c :=
 oW (fun _ _ z=>by simp at z) h
theorem v8 {env:Env}:∀ (names:List (Str × NameKind)) (acc:List (Str × Addr)),(∀ y∈names,y.2 = .free->∃ c,env.cells.lookup y.1=some c) ->
  (forIn names acc fun x r=>match x with
   | (name,kind)=>if (kind == eV)=true then (do let c <- cellOf env name;pure (mh ((name,c) :: r))) else pure (mh r):Sem (List (Str × Addr)))=pure (iQ env.cells names acc)
 | [],acc,_=>rfl
 | (n,k) :: r,acc,h=>by
  have hr:∀ y∈r,y.2 = .free->∃ c,env.cells.lookup y.1=some c:=fun y hy=>h y (aI _ hy)
  rw[tV]
  by_cases hk:(k == eV)=true
  ·have ek:k = .free:=by simpa using hk
   obtain⟨c,hc⟩:=h (n,k) aU ek
   have e1:cellOf env n=pure c:=by
    have gN:env.cells.lookup n=some c:=hc
    unfold cellOf
    rw[gN]
   unfold iQ
   rw[if_pos hk]
   have gN:env.cells.lookup n=some c:=hc
   rw[gN]
   simp only[hk,if_true,e1]
   exact v8 r ((n,c) :: acc) hr
  ·unfold iQ
   rw[if_neg hk]
   simp only[hk]
   exact v8 r acc hr
theorem yk {scope:Scope}{env:Env} (h:∀ y∈scope.names,y.2 = .free->∃ c,env.cells.lookup y.1=some c):closureFor scope env=pure (iQ env.cells scope.names []):=by
 have e:=v8 scope.names [] h
 unfold closureFor
 show (Bind.bind (forIn scope.names [] fun x r=>match x with
   | (name,kind)=>if (kind == eV)=true then (do let c <- cellOf env name;pure (mh ((name,c) :: r))) else pure (mh r):Sem (List (Str × Addr))) fun r=>pure r)=_
 rw[e]
 rfl
theorem xC {scope:Scope}{env:Env}{x:Str} (hc:∀ y∈scope.names,y.2 ≠ .cell) (h:(relabel scope env).names.lookup x=some .cell∨(relabel scope env).names.lookup x=some .free):(x,eV)∈scope.names:=by
 unfold relabel at h
 simp only at h
 generalize scope.names=names at h hc
 induction names with
 | nil=>rcases h with h | h <;> cases h
 | cons y r ih =>
  obtain⟨n,k⟩:=y
  have hr:∀ y∈r,y.2≠NameKind.cell:=fun y hy=>hc y (aI _ hy)
  rw[aJ]at h
  by_cases hk:(k == eV && env.scope.kind == .function && env.kindOf n == some .cell)=true
  ·simp only[hk,if_true,gJ]at h
   cases q:x == n with
   | true =>
    have e:x=n:=by simpa using q
    have ek:k = .free:=by
     have:=(fQ.mp (fQ.mp hk).1).1
     simpa using this
    rw[e,ek];exact aU
   | false =>
    rw[q]at h
    exact aI _ (ih h hr)
  ·simp only[hk,eG,if_false,gJ]at h
   cases q:x == n with
   | true =>
    rw[q]at h
    have e:x=n:=by simpa using q
    have uU:k ≠ .cell:=hc (n,k) aU
    rcases h with h | h
    ·exact absurd (aB h) uU
    ·rw[e,aB h];exact aU
   | false =>
    rw[q]at h
    exact aI _ (ih h hr)
theorem tE {scope:Scope}{env:Env}{x:Str} (h:scope.names.lookup x=some .free):(relabel scope env).names.lookup x=some .cell∨(relabel scope env).names.lookup x=some .free:=by
 unfold relabel
 simp only
 generalize scope.names=names at h
 induction names with
 | nil=>cases h
 | cons y r ih =>
  obtain⟨n,k⟩:=y
  rw[aJ]
  rw[gJ]at h
  by_cases hk:(k == eV && env.scope.kind == .function && env.kindOf n == some .cell)=true
  ·simp only[hk,if_true,gJ]
   cases q:x == n with
   | true=>exact .inl rfl
   | false=>rw[q]at h;exact ih h
  ·simp only[hk,eG,if_false,gJ]
   cases q:x == n with
   | true=>rw[q]at h;exact .inr h
   | false=>rw[q]at h;exact ih h
def dE (X:Cx) (scope:Scope) (N:List Str) (fp:List Addr) (s:Shared) (H:Hp):Cx :=
 { X with N:=N,kd := s,yH := H,env:=compEnvC scope (iQ X.env.cells scope.names []) s.heap.objs.size X.env,outer:=X.stack,ex:=fp,fn:=fun _=>false,pn := [],xe:=fun _ _=>False }
structure jR (X:Cx) (scope:Scope) (own:List Str) (caps:List (Str × Nat)):Prop where
 kind:scope.kind = .function
 Bc:∀ y∈scope.names,y.2 ≠ .cell
 locs:∀ y∈scope.names,y.2 = .local->scope.names.lookup y.1=some .local
 frees:∀ y∈scope.names,y.2 = .free->X.env.kindOf y.1=some .cell
 own:∀ x∈own,scope.names.lookup x=some .local
 caps:∀ p∈caps,X.N[p.2]? = some p.1∧X.env.kindOf p.1=some .cell∧scope.names.lookup p.1=some .free
def jy (σ : St) (caps:List (Str × Nat)):St:=caps.map fun p=>(σ[p.2]?).join
section
variable {X:Cx}{scope:Scope}{own:List Str}{caps:List (Str × Nat)}{ae:List (Addr × Obj)}{σ : St}{H:Hp}{s:Shared}{fp:List Addr}
theorem Tg (S:jR X scope own caps) (I:Inv X ae σ H s) (hf:∀ b∈fp,nh X ae H b) (hl:∀ b∈fp,b < s.heap.objs.size):(dE X scope (own ++ caps.map (·.1)) fp s H).Ok where
 mod:=I.ok.mod
 kind:=S.kind
 glob:=I.ok.glob
 blt:=I.ok.blt
 above:=ao _
 inj:=fun x y c h1 h2=>I.ok.inj x y c (jL h1) (jL h2)
 has:=fun x h=>by
  have hm:=xC S.Bc h
  obtain⟨c,hc⟩:=I.ok.has x (.inl (S.frees _ hm rfl))
  exact d6.mp (oV hm (by rw[hc];rfl))
 JB:=fun x c h _=>nomatch h
 hd:=I.ok.hd
 frames:=I.ok.frames
 LQ := .inl rfl
 Wy:=fun b hb=>⟨bP (hl b hb),fun x c h=>(hf b hb).2.2.2.2.1 x c (jL h)⟩
 bs:=I.bs
 zL:=aF I.ok.zL I.sz
 CI:=fun b o e hb=>by
  rcases(hf b hb).2.2.2.1 with z | z
  ·exact I.ok.CI b o e z
  ·exact absurd (bK (bK (aW e) I.ok.zL) z) (eU _)
 GJ:=fun b hb z=>by
  rcases aN.mp (I.xo b z) with e | e
  ·exact(hf b hb).2.1 e
  ·exact(hf b hb).2.2.1 e
 pY:=I.stack
 DQ:=I.HU
theorem BM (S:jR X scope own caps) (I:Inv X ae σ H s) (hf:∀ b∈fp,nh X ae H b) (hl:∀ b∈fp,b < s.heap.objs.size) {h1:Heap}{m:Str->Option Value}{t:Nat} (hn:h1.Ns s.heap.objs.size m)
  (hk:∀ b o,s.heap.get? b=some o->h1.get? b=some o):Inv (dE X scope (own ++ caps.map (·.1)) fp s H) [] (aX own.length none ++ jy σ caps) H { s with heap:=h1,toks:=t }:=by
 refine⟨Tg S I hf hl,rfl,I.bare,Un.kept hk,⟨m,hn,fun i y v e1 e2 e3 => ?_⟩,fun x c e => ?_,I.bw.fresh (ao _),fun x c e=>I.qq x c (jL e),(fun p hp=>by cases hp),I.bw.kept hk,?_⟩
 ·have hi:own.length<=i:=by
   by_cases hi:i < own.length
   ·rw[gR (by simpa using hi),sY,if_pos hi]at e2
    cases e2
   ·omega
  rw[dk (by simpa using hi),fk]at e2
  unfold jy at e2
  rw[aH]at e2
  have Jr:(own ++ caps.map (·.1))[i]? = some y:=e1
  rw[dk hi,aH]at Jr
  cases q:caps[i - own.length]? with
  | none=>rw[q]at e2;cases e2
  | some p =>
   rw[q]at Jr e2
   have ey:p.1=y:=aB Jr
   have ev:(σ[p.2]?).join=some v:=aB e2
   have Ww : σ[p.2]? = some (some v):=by
    cases z : σ[p.2]? with
    | none=>rw[z]at ev;cases ev
    | some w'=>rw[z]at ev;rw[show w'=some v from ev]
   obtain⟨hN,Bv,zd⟩:=S.caps p (aK q)
   rw[ey]at hN Bv zd
   obtain⟨mX,hnX,hlX⟩:=I.loc
   obtain⟨u,ru,lk⟩:=hlX p.2 y v hN Ww (.inr (.inl Bv))
   refine⟨u,ru,?_⟩
   rcases lk with⟨k1,_⟩ | ⟨_,c,hc,iT⟩
   ·rw[Bv]at k1;cases k1
   ·have hm:=xC S.Bc (tE (env:=X.env) zd)
    obtain⟨c',gN⟩:=d6.mp (oV (acc := []) hm (by rw[hc];rfl))
    have:=jL gN
    rw[hc]at this;cases this
    obtain⟨o,ho,hd⟩:=iT
    exact .inr ⟨tE (env:=X.env) zd,c,gN,⟨o,hk _ _ ho,hd⟩⟩
 ·obtain⟨v,o,ho,hd⟩:=I.cell x c (jL e)
  exact⟨v,o,hk _ _ ho,hd⟩
 ·show _=(own ++ caps.map (·.1)).length
  simp[jy]
theorem D0 {N:List Str}{τ : St} {H':Hp} {s':Shared} (I:Inv X ae σ H s) (J:Inv (dE X scope N fp s H) [] τ H' s') (hf:∀ b∈fp,nh X ae H b):Inv X ae σ H' s' :=
 I.X2 (ch:=fp) J.os J.base J.bw J.bare fun b hb=>by
  obtain⟨_,f1,_,f3,f4,f5⟩:=hf b hb
  exact⟨f3,f1,f4,f5⟩
theorem Th {prog:Program}{w:World}{A:Around}{R:Result->Shared->Prop}{jx ml dD:Expr}{pos:Pos}{it acc:Value}{env:Env} (Iv:Nat->Shared->Prop)
  (turn:∀ n s,Iv n s->wpAny (model prog w) A (pyNext it) (fun r dQ => match r with
   | none=>R (.ok .next) dQ
   | some v=>wpAny (model prog w) A (letOwnedTupleGo ml it v) (fun _ nO => wpAny (model prog w) A (assign ml env v) (fun _ m9 => wpAny (model prog w) A (eval jx env) (fun x ES =>
       wpAny (model prog w) A (call (.builtin "list.append") [acc,x]) (fun _ ER => ∃ m,m < n∧Iv m ER) (fun _ _=>False) ES) (fun _ _=>False) m9) (fun _ _=>False) nO) (fun _ _=>False) dQ) (fun _ _=>False) s)
  (n:Nat) (h:Iv n s):codeAny (model prog w) A (.compLoop (.ListComp jx [⟨ml,dD, [],0⟩] scope pos) 0 it acc env) R s:=by
 refine codeAny_loop rfl Iv (fun n s hI => ?_) n h
 show wpAny _ A ((compTurn (.ListComp jx [⟨ml,dD, [],0⟩] scope pos) 0 it acc env).onRaise (fun x=>do noteFrame x env;theTreesLotGoes x)) _ _ s
 refine wpAny_noted ?_
 rw[compTurn_list]
 refine wpAny_bind (wpAny_standAt (wpAny_bind (wpAny_mono (turn n s hI) (fun r dQ jh => ?_) fun _ _ z=>z.elim)))
 cases r with
 | none=>exact wpAny_pure jh
 | some v =>
  refine wpAny_bind (wpAny_mono jh (fun _ nO Am => wpAny_bind (wpAny_mono Am (fun _ m9 FU => wpAny_bind (wpAny_tests_nil ?_)) fun _ _ z=>z.elim)) fun _ _ z=>z.elim)
  exact wpAny_bind (wpAny_bind (wpAny_mono FU (fun x ES PF => wpAny_bind (wpAny_mono PF (fun _ ER PD => wpAny_pure (wpAny_pure ⟨rfl,PD⟩)) fun _ _ z=>z.elim)) fun _ _ z=>z.elim))
def AO (J:It) (g:TG) (te:TE) (Ts:St) (H1:Hp) (Q:VK):Prop := ∀ D,H1 D=none->∃ W:Nat->Nat->St->List V->Hp->Prop,
 (∃ m,W 0 m Ts [] (aG H1 D (.lst []))) ∧
 ∀ i m τ ys H,W i m τ ys H->H D=some (.lst ys)∧((J.stop i H∧Q (.ref D) H)∨(J.go i H∧ys.length < sizeLine∧∀ x H',J.zv i H x H'->g x τ H' fun ED H2=>te ED H2 fun y H3 =>
  H3 D=some (.lst ys)∧∃ m',m' < m∧W (i+1) m' ED (ys ++ [y]) (aG H3 D (.lst (ys ++ [y])))))
def Kk (wi:TI) (g:TG) (te:TE) (k:Nat) (caps:List (Str × Nat)):TE:=fun σ H Q=>wi σ H fun J H1=>AO J g te (aX k none ++ jy σ caps) H1 Q
theorem DZ {tg jx dD:Expr}{wi:TI}{g:TG}{te:TE}{pos p2:Pos}{use:Option (Value->Sem Unit)}{Q:VK} {Q':Value->Shared->Prop} (S:jR X scope own caps) (hi:PI X tg dD wi) (hc:X.calm=true)
  (hg:∀ fp s H,PG (dE X scope (own ++ caps.map (·.1)) fp s H) tg g) (he:∀ fp s H,PE (dE X scope (own ++ caps.map (·.1)) fp s H) jx te)
  (I:Inv X ae σ H s) (h:Kk wi g te own.length caps σ H Q)
  (fin:∀ D C H5 s5,Inv X ae σ H5 s5->Q (.ref D) H5->(∃ m,s5.heap.Ns C m)->H5 C=none->C≠X.env.locals->X.kd.heap.objs.size<=C->(∀ x c,X.env.cells.lookup x=some c->c≠C)->(∀ p∈X.pn ++ ae,p.1≠C) ->
   compPost (model X.prog X.w) X.A X.xe use Q' (.ref D) C (.ok .next) s5)
  (hs:∀ x,foldedSetIterable dD X.env x=pure x:=by intro _;rfl) :
  wpAny (model X.prog X.w) X.A (comprehension (.ListComp jx [⟨tg,dD, [],0⟩] scope pos) scope X.env p2 (newList []) false (eval dD X.env) use) Q' X.xe s:=by
 have K4:closureFor scope X.env=pure (iQ X.env.cells scope.names []):=yk fun y hy hk=>I.ok.has y.1 (.inl (S.frees y hy hk))
 refine wpAny_comprehension_free (g:=⟨tg,dD, [],0⟩) (gs := []) rfl hs K4 S.kind S.locs (bW (hi ae s σ H _ I h) fun v s1 h1=>bW h1 fun FQ s2 h2 => ?_)
 obtain⟨it,fp,tn,J,H2,e,I2,T,c9,f2,R⟩:=h2
 subst e
 refine wpAny_newObj_type (wpAny_newFunctionEnv S.Bc (by intro y hy;simp at hy) (fun jh F5 F0 => ?_) S.kind)
 have Wt:H2 s2.heap.objs.size=none:=I2.bw.fresh (ao _)
 obtain⟨W,⟨m0,w0⟩,turn⟩:=R s2.heap.objs.size Wt
 have I3:Inv X ae σ (aG H2 s2.heap.objs.size (.lst [])) { s2 with heap:=s2.heap.push { cls := .type "list",dict:=none,data := .seq ([]:List Value).toArray } }:=I2.Pn (its := []) (t':=s2.toks) .nil (aS _)
 have MG:∀ b∈fp,b < s2.heap.objs.size:=fun b hb=>by
  obtain⟨o,ho,_⟩:=T.obj _ _ c9 b hb
  exact aW ho
 have f3:∀ b∈fp,nh X ae (aG H2 s2.heap.objs.size (.lst [])) b:=fun b hb=>⟨by rw[aD (bP (MG b hb))];exact(f2 b hb).1,(f2 b hb).2⟩
 generalize uT:({ s2 with heap:=s2.heap.push { cls := .type "list",dict:=none,data := .seq ([]:List Value).toArray } }:Shared)=s3 at I3
 have UX:s3.heap.objs.size=s2.heap.objs.size+1:=by rw[<- uT];exact iK _ _
 have Pw:∀ b o,s2.heap.get? b=some o->s3.heap.get? b=some o:=fun b o e=>by rw[<- uT];exact aA _ e
 have MF:∀ b∈fp,b < s3.heap.objs.size:=fun b hb=>by rw[UX];exact j5 (MG b hb)
 have CQ:jh.Ns s3.heap.objs.size (fun x=>([]:List (Str × Value)).reverse.lookup x):=by rw[<- uT];exact F5
 have FL:∀ b o,s3.heap.get? b=some o->jh.get? b=some o:=fun b o e=>by
  have hb:b≠s3.heap.objs.size:=bP (aW e)
  rw[<- uT]at e hb
  exact F0.extBut b o hb (aA _ e)
 have J1:=BM S I3 f3 MF (t:=s2.toks+([]:List (Str × Value)).length) CQ FL
 have n6:tn 0 jh := T.keep _ _ _ c9 fun b hb o e=>FL b o (Pw b o e)
 -- EL loop
 have loop:∀ m9 : Shared,m9 = { s3 with heap:=jh,toks:=s2.toks+([]:List (Str × Value)).length } ->
   codeAny (model X.prog X.w) X.A (.compLoop (.ListComp jx [⟨tg,dD, [],0⟩] scope pos) 0 (.ref it) (.ref s2.heap.objs.size) (dE X scope (own ++ caps.map (·.1)) fp s3 (aG H2 s2.heap.objs.size (.lst []))).env)
    (compPost (model X.prog X.w) X.A X.xe use Q' (.ref s2.heap.objs.size) s3.heap.objs.size) m9 := by
  rintro m9 rfl
  refine Th (fun n s'=>∃ i τ ys H',Inv (dE X scope (own ++ caps.map (·.1)) fp s3 (aG H2 s2.heap.objs.size (.lst []))) [] τ H' s'∧tn i s'.heap∧(∀ b∈fp,H' b=none)∧W i n τ ys H') ?_ m0
   ⟨0,_, [],_,J1,n6,fun b hb=>(f3 b hb).1,w0⟩
  rintro n s' ⟨i, τ,ys,H',J',aE,NA,w'⟩
  have fY:∀ {pJ:Hp},(∀ b∈fp,pJ b=none)->∀ b∈fp,nh (dE X scope (own ++ caps.map (·.1)) fp s3 (aG H2 s2.heap.objs.size (.lst []))) [] pJ b:=fun hn b hb =>
   ⟨hn b hb,bP (MF b hb),fun z=>by
     rcases aN.mp (I3.xo b z) with e | e
     ·exact(f3 b hb).2.1 e
     ·exact(f3 b hb).2.2.1 e,.inl hb,fun x c e=>(f3 b hb).2.2.2.2.1 x c (jL e),(fun p hp=>by cases hp)⟩
  obtain⟨hD,tt⟩:=turn i n τ ys H' w'
  rcases tt with⟨stop,qn⟩ | ⟨go,dI,step⟩
  ·refine bW (T.done (dE X scope (own ++ caps.map (·.1)) fp s3 (aG H2 s2.heap.objs.size (.lst []))) rfl rfl rfl hc i [] s' τ H' (fun _ _=>False) J' (fY NA) aE stop) fun r s4 ⟨hr,J4⟩ => ?_
   subst hr
   obtain⟨m4,Vh,_⟩:=J4.loc
   have I5:=D0 I3 J4 f3
   refine fin _ _ _ s4 I5 qn ⟨m4,Vh⟩ J4.free ?_ ?_ (fun x c e z => ?_) fun p hp z => ?_
   ·exact jA I3.lt
   ·exact I3.sz
   ·obtain⟨v,q⟩:=I3.cell x c e
    rw[z]at q
    exact absurd q.lt (eU _)
   ·have q:=(I3.pin p hp).1
    rw[z]at q
    exact absurd (aW q) (eU _)
  ·refine bW (T.item (dE X scope (own ++ caps.map (·.1)) fp s3 (aG H2 s2.heap.objs.size (.lst []))) rfl rfl rfl hc i [] s' τ H' (fun _ _=>False) J' (fY NA) aE go) fun r s4 ⟨u,hr,h4⟩ => ?_
   subst hr
   refine bW h4 fun _ s5 ⟨x,H5,J5,r5,y5,gv,Nz⟩ => ?_
   have Xe:=J5.pinned (fY Nz) (T.obj _ _ gv)
   refine bW (hg fp s3 _ _ s5 τ H5 x u _ Xe r5 (step x H5 y5)) fun _ s6 ⟨uB,H6,J6,q6⟩ => ?_
   refine bW (he fp s3 _ _ s6 uB H6 _ J6 q6) fun yv s7 ⟨y,H7,J7,r7,Wc,m',Bs,w7⟩ => ?_
   refine bW (f9 (X:=dE X scope (own ++ caps.map (·.1)) fp s3 (aG H2 s2.heap.objs.size (.lst []))) _ s7 uB H7 (.ref s2.heap.objs.size) [y] _ [yv] (fun _ H8=>H8=aG H7 s2.heap.objs.size (.lst (ys ++ [y]))) J7 rfl (.cons r7 .nil) ⟨_,ys,y,rfl,rfl,Wc,dI,rfl⟩) fun _ s8 ⟨_,H8,J8,_,e8⟩ => ?_
   subst e8
   refine⟨m',Bs,i+1, uB,ys ++ [y],_,J8.pL,T.keep _ _ _ gv fun b hb o e=>(J8.pin (b,o) (bE _ (bE _ (mV hb e)))).1,fun b hb => ?_,w7⟩
   obtain⟨o,e,d⟩:=T.obj _ _ gv b hb
   exact(J8.pin (b,o) (bE _ (bE _ (mV hb e)))).2.1
 have Bt:=loop _ rfl
 subst uT
 exact codeAny_compStart_list Bt (T.self _ 0 _ _ _ n6 Bt)
theorem Im {tg jx dD:Expr}{wi:TI}{g:TG}{te:TE}{pos:Pos} (S:jR X scope own caps) (hi:PI X tg dD wi) (hc:X.calm=true)
  (hg:∀ fp s H,PG (dE X scope (own ++ caps.map (·.1)) fp s H) tg g) (he:∀ fp s H,PE (dE X scope (own ++ caps.map (·.1)) fp s H) jx te)
  (hs:∀ x,foldedSetIterable dD X.env x=pure x:=by intro _;rfl):PE X (.ListComp jx [⟨tg,dD, [],0⟩] scope pos) (Kk wi g te own.length caps):=by
 intro ae s σ H Q I h
 rw[eval_ListComp]
 refine DZ (use:=none) (Q:=Q) S hi hc hg he I h (fun D C H5 s5 I5 q ⟨m,hn⟩ hC hL hz iT Ao => ?_) hs
 refine⟨m,hn,fun h' kH => ?_⟩
 exact⟨.ref D,H5,I5.turned (t':=s5.toks) (fun b o hb e=>(kH.2 b hb).trans e) hC hL (.inr hz) iT Ao,rfl,q⟩
theorem Kx {i:Nat}{y:Str}{tg jx dD:Expr}{wi:TI}{g:TG}{te:TE}{pos EU py:Pos} (hN:X.N.Nodup) (Vq:X.N[i]? = some y) (hy:X.env.scope.names.lookup y=some .local) (S:jR X scope own caps) (hi:PI X tg dD wi) (hc:X.calm=true)
  (hg:∀ fp s H,PG (dE X scope (own ++ caps.map (·.1)) fp s H) tg g) (he:∀ fp s H,PE (dE X scope (own ++ caps.map (·.1)) fp s H) jx te)
  (U7:swapsWith (.ListComp jx [⟨tg,dD, [],0⟩] scope pos) (some (.Name y py)) EU.line X.env=pure true)
  (hs:∀ x,foldedSetIterable dD X.env x=pure x:=by intro _;rfl):PS X (.Assign [.Name y py] (.ListComp jx [⟨tg,dD, [],0⟩] scope pos) EU) (Kl (Kk wi g te own.length caps) (bH i)):=by
 intro ae s σ H D I h
 rw[exec_Assign_Name_used _ _ _ _ U7]
 refine wpAny_bind (wpAny_standAt (wpAny_bind ?_))
 show wpAny _ X.A (do let _ <- comprehension (.ListComp jx [⟨tg,dD, [],0⟩] scope pos) scope X.env _ (newList []) false (eval dD X.env) (some (assign (.Name y py) X.env))) _ _ s
 refine wpAny_bind (wpAny_mono (DZ (use:=some (assign (.Name y py) X.env)) (Q:=fun x H1=>D.nx (σ.set i (some x)) H1) (Q':=fun _ s'=>SP X ae D .next s') S hi hc hg he I h (fun A C H5 s5 I5 q ⟨m,hn⟩ hC hL hz iT Ao => ?_) hs)
  (fun _ s' hq=>wpAny_pure (wpAny_pure hq)) fun _ _ e=>e)
 show wpAny _ X.A (assign (.Name y py) X.env (.ref A)) _ _ _
 refine wpAny_assign_Name (xn I5 hN Vq (.inl hy) (v := .ref A) rfl (fun s6 I6 ⟨a,IK,ha⟩ => ?_) (.inr hy))
 have VF:C≠a:=by
  rcases ha with ha | ha
  ·rw[ha];exact hL
  ·exact fun z=>iT y a ha z.symm
 refine⟨m,hn.sameBut IK VF,fun h' kH => ?_⟩
 exact⟨_,H5,I6.turned (t':=s6.toks) (fun b o hb e=>(kH.2 b hb).trans e) hC hL (.inr hz) iT Ao,q⟩
end
structure dP (P:Program) (w:World) (K:ak) (mg:Str->Option Value) (base:Heap) (k:Nat) (x:Str) (ps:List Str) (sp:Sp):Prop where
 ex:∃ f fd,mS P w K mg base yU k f fd ps sp∧mg x=some (.ref f)∧eZ K (.ref f)=true∧Binds K fd ps []
section
variable {X:Cx} {k k':Nat}{x:Str}{ps:List Str}{sp:Sp}{p pos:Pos}{e:Expr}{es:List Expr}{t:TA}
theorem cj (h:dP X.prog X.w X.K X.mg X.base k x ps sp) (hr:fK k' X.A) (hk:k<=k') (hg:Gl X x) (ha:PA X (e :: es) t) (xV:(x == ("__debug__" : Str))=false:=by decide)
  (he:starEach (e :: es) X.env=(false,eval e X.env) :: starEach es X.env:=by rfl) (lu:(backTo pos (starEach es X.env)).any (·.1)=false:=by rfl) :
  PE X (.Call (.Name x p) (e :: es) [] pos) (Er sp [] E0 t):=by
 obtain⟨f,fd,F,hm,hkp,hb⟩:=h.ex
 exact SA F (hr.mono hk) hg hm hkp hb .nil Xx ha xV he lu
end
structure Def (K:ak) (mg:Str->Option Value) (x:Str) (st:Stmt) (ps:List Str):Prop where
 ex:∃ f fd,zW K x x st f fd∧mg x=some (.ref f)∧Binds K fd ps []
theorem Def.has {P:Program}{w:World}{K:ak}{mg:Str->Option Value}{base:Heap}{x:Str}{st:Stmt}{N ps:List Str}{k:Nat}{sp:Sp} (D:Def K mg x st ps) (S:cG N ps (a6 st)) (len:∀ vs H Q E,sp vs H Q E->vs.length=ps.length)
  (mW:∀ (f:Addr) (da:Value) (A:Around) (outer:List Env) (s:Shared) (H:Hp) (vs:List V) (Q:VK) (E:XK),fK k (A.deeper (envOfC x (a6 st) s.heap.objs.size f da))->sp vs H Q E ->
   ∃ t,pH (eD yU P w K mg base N x (a6 st) f da A outer s H E).Fw (eY st) t∧t { nx:=fun _ H'=>Q .df H',rt:=Q } (start N vs) H):dP P w K mg base (k+1) x ps sp:=by
 obtain⟨f,fd,F,hm,hb⟩:=D.ex
 exact⟨f,fd,F.ok S len (mW f),hm,F.kp,hb⟩
theorem aM {H:Hp}{p:Addr} (h:H p=none) (o:HO):bz H (aG H p o):=fun b u q=>by rw[aD (bM q h)];exact q
theorem bz.tup {K:ak} {H H':Hp}{a:Addr}{xs:List V} (e:bz H H') (h:bY K H a xs):bY K H' a xs:=by
 rcases h with(h | ⟨o,h⟩) | h
 ·exact .inl (.inl (e _ _ h))
 ·exact .inl (.inr ⟨o,e _ _ h⟩)
 ·exact .inr h
theorem bz.put {H0 H:Hp}{p:Addr}{o:HO} (e:bz H0 H) (h:H0 p=none):bz H0 (aG H p o):=fun b u q=>by rw[aD (bM q h)];exact e b u q
def D2 (LB:Scope) (xN:List Str) (scope:Scope) (own:List Str) (caps:List (Str × Nat)):Bool :=
 scope.names.all (fun y=>y.2 != .cell) && scope.names.all (fun y=>y.2 != .local || scope.names.lookup y.1 == some .local) && scope.names.all (fun y=>y.2 != .free || LB.names.lookup y.1 == some .cell)
  && own.all (fun x=>scope.names.lookup x == some .local) && caps.all (fun p=>xN[p.2]? == some p.1 && LB.names.lookup p.1 == some .cell && scope.names.lookup p.1 == some .free)
theorem kR {X:Cx}{scope:Scope}{own:List Str}{caps:List (Str × Nat)} (LB:Scope) (xN:List Str) (hx:X.env.scope=LB) (hN:X.N=xN) (hk:scope.kind = .function) (c:D2 LB xN scope own caps=true):jR X scope own caps:=by
 unfold D2 at c
 simp only[lg,nY,Co,bne_iff_ne,beq_iff_eq,ne_eq]at c
 obtain⟨⟨⟨⟨c1,c2⟩,c3⟩,c4⟩,c5⟩:=c
 refine⟨hk,c1,fun y hy e => ?_,fun y hy e => ?_,c4,fun p hp => ?_⟩
 ·rcases c2 y hy with z | z
  ·exact absurd e z
  ·exact z
 ·rcases c3 y hy with z | z
  ·exact absurd e z
  ·show X.env.scope.names.lookup y.1=_
   rw[hx];exact z
 ·obtain⟨⟨z1,z2⟩,z3⟩:=c5 p hp
  refine⟨by rw[hN];exact z1,?_,z3⟩
  show X.env.scope.names.lookup p.1=_
  rw[hx];exact z2
structure nG (mg:Str->Option Value):Prop where
 gU:mg "len" = none
 aaN:mg "min" = none
 aaO:mg "max" = none
 aeJ:mg "sum" = none
 qC:mg "range" = none
 rE:mg "enumerate" = none
 jW:mg "isinstance" = none
 uE:mg "tuple" = none
 UR:mg "int" = none
 RO:mg "bool" = none
 aeK:mg "str" = none
 tH:mg "list" = none
theorem NV:bootBuiltins "min" = some (.builtin "min"):=by decide +kernel
theorem NW:bootBuiltins "max" = some (.builtin "max"):=by decide +kernel
theorem gI:bootBuiltins "isinstance" = some (.builtin "isinstance"):=by decide +kernel
theorem lJ:bootBuiltins "tuple" = some (.type "tuple"):=by decide +kernel
theorem D4:bootBuiltins "int" = some (.type "int"):=by decide +kernel
theorem BQ:bootBuiltins "bool" = some (.type "bool"):=by decide +kernel
theorem jM:bootBuiltins "list" = some (.type "list"):=by decide +kernel
theorem Paired.at {α β : Type}{F : α -> β -> Prop}:∀ {FE : List α}{FD : List β}{i:Nat}{a : α},Paired F FE FD -> FE[i]? = some a->∃ b,FD[i]? = some b∧F a b
 | _,_,_,_,.nil,e=>by simp at e
 | _,_,0,_,.cons h _,e=>by simp at e;subst e;exact⟨_,rfl,h⟩
 | _,_,i+1,a,.cons _ t,e=>by
  obtain⟨b,h1,h2⟩:=Paired.at (i:=i) (a:=a) t (by simpa using e)
  exact⟨b,by simpa using h1,h2⟩
theorem eI {j:Int} (h:decide (0 < j)=true:=by decide):0 < j:=of_decide_eq_true h
theorem ji {i j:Int} (h:(decide (0 < j) && decide (j < 1073741824))=true:=by decide):Xh i j :=
 ⟨of_decide_eq_true (fQ.mp h).1,of_decide_eq_true (fQ.mp h).2⟩
theorem gy {c A B:Prop} [Decidable c] (h1:c->A) (h2:¬ c->B):if decide c=true then A else B:=by
 by_cases h:c
 ·rw[decide_eq_true h];exact my (h1 h)
 ·rw[decide_eq_false h];exact iZ (h2 h)
theorem iy {c A B:Prop} [Decidable c] (h1:¬ c->A) (h2:c->B):if (!decide c)=true then A else B:=by
 by_cases h:c
 ·rw[decide_eq_true h];exact iZ (h2 h)
 ·rw[decide_eq_false h];exact my (h1 h)
def F2 (h:Heap) (e:Addr) (x:Value):Prop := ∃ o vs,h.get? e=some o∧o.data = .fields vs∧vs[2]? = some x
def abA:Option Addr->Value
 | none => .none
 | some a => .ref a
theorem F2.other {h:Heap}{e b:Addr}{x:Value}{f:Obj->Obj} (c:F2 h e x) (n:b≠e):F2 (h.update b f) e x:=by
 obtain⟨o,vs,a,d,i⟩:=c
 exact⟨o,vs,(e6 _ _ n).trans a,d,i⟩
section
variable {M:Model}{A:Around}{E:Value->Shared->Prop}{s:Shared}
inductive rO (l:List Env) (e:Addr) (oe:Obj) (L:Addr) (h h':Heap):Prop
 | mk (T:Addr) (oT:Obj) (ts:Array Value) (oh:∀ b o,b≠e->b ∉ l.filterMap (·.frame)->h.get? b=some o->h'.get? b=some o) (slots:∀ b o,b≠e->h.get? b=some o->∃ sl,h'.get? b=some { o with slots:=sl })
  (own:h'.get? e=some (oe.mapFields (·.setIfInBounds 1 (.ref T)))) (new:h.get? T=none) (ne:T≠e) (size:h.objs.size<=T) (there:h'.get? T=some oT) (data:oT.data = .fields ts) (fl:ts[3]? = some (rawInt L)):rO l e oe L h h'
theorem P8 {base:Heap}{env:Env}{outer:List Env}{L e:Addr}{oe:Obj}{vs:Array Value}{hd:Value}{nx:Bool}{Q:Unit->Shared->Prop}
  (af:A.frames=some (env :: outer)) (ff:s.heap.FunFrames base (env :: outer)) (fL:env.frame=some L) (ge:s.heap.get? e=some oe) (gd:oe.data = .fields vs) (gz:1 < vs.size)
  (k:∀ h',rO (env :: outer) e oe L s.heap h'->Q () { s with heap:=h' }) :
  wpAny M A (do let a <- frameOf env;let pl <- entryPlaceOf L nx;let b <- w6 hd a .none (rawInt L) .none pl;setField (.ref e) 1 b) Q E s:=by
 have nz:e ∉ (env :: outer).filterMap (·.frame):=fun m=>by
  obtain⟨_,o,q,nf⟩:=ff.mem m
  rw[ge]at q
  cases q
  exact nf vs gd
 refine wpAny_bind (wpAny_frameOf_fun af ff fL fun h1 sl => ?_)
 refine wpAny_bind (wpAny_entryPlaceOf fun pl hp => ?_)
 unfold w6 newFields
 refine wpAny_bind (wpAny_newObj_type ?_ (hp.sizeOk5 _ _ _ _ _))
 have g1:h1.get? e=some oe:=(sl.2.1 e nz).trans ge
 generalize hO:({ cls := .type "traceback",dict:=none,data := .fields ([hd,.ref L,.none,rawInt L,.none] ++ (if pl.isEmpty then aX 6 fJ else pl)).toArray }:Obj)=oT
 have g2:=aA (h:=h1) oT g1
 refine wpAny_setField g2 gd gz (k _ ?_)
 have nT:h1.objs.size≠e:=jA (aW g1)
 have dd:=gQ gd (·.setIfInBounds 1 (bf h1.objs.size))
 have up:∀ b o,b≠e->h1.get? b=some o->((h1.push oT).update e (nM (·.setIfInBounds 1 (bf h1.objs.size)))).get? b=some o:=fun b o n q=>by
  rw[e6 _ _ (dh n)]
  exact aA _ q
 refine⟨h1.objs.size,oT,_,fun b o n m q=>up b o n ((sl.2.1 b m).trans q),fun b o n q => ?_,iX _ g2 (ox dd),k6 (dt sl.1.symm),nT,dt sl.1.symm,?_,(by rw[<- hO]),?_⟩
 ·obtain⟨x,q'⟩:=sl.2.2 b o q
  exact⟨x,up b _ n q'⟩
 ·rw[e6 _ _ (dh nT)]
  exact bh h1 (by rw[<- hO];rfl)
 ·first
   | (simp;done)
   | (rcases hp with rfl | ⟨_,_,_,_,_,_,_,rfl⟩ <;> simp)
theorem rO.XB {base:Heap}{l:List Env}{e L:Addr}{oe:Obj}{vs:Array Value}{a0:Value} {h h':Heap} (x:rO l e oe L h h') (kb:base.StaysIn h) (be:base.get? e=none) (ff:h.FunFrames base l) (gd:oe.data = .fields vs) (gz:1 < vs.size) (g0:vs[0]? = some a0) (ge:h.get? e=some oe) :
  Heap.NotedW base l e oe.cls a0 (rawInt L) h h':=by
 obtain⟨T,oT,ts,oh,slots,own,new,ne,size,there,data,fl⟩:=x
 have nr:∀ b o,h.get? b=some o->(∀ ws,o.data ≠ .fields ws)->b≠e:=fun b o q nf z=>by
  rw[z,ge]at q
  cases q
  exact nf vs gd
 refine⟨fun b o q=>oh b o (fun z=>by rw[z,be]at q;cases q) (fun m=>by rw[(ff.mem m).1]at q;cases q) (kb b o q),ff.of_keeps fun b o q nf => ?_,?_,fun b o q nf=>slots b o (nr b o q nf) q⟩
 ·obtain⟨sl,q'⟩:=slots b o (nr b o q nf) q
  exact⟨_,q',rfl⟩
 ·refine⟨_,_,T,oT,ts,own,⟨zo _ _,?_⟩,gQ gd _,by simp[gz],?_,ne,there,data,fl⟩
  ·rw[oC (by decide)];exact g0
  ·cases q:base.get? T with
   | none=>rfl
   | some o=>have:=kb _ _ q;rw[new]at this;cases this
theorem rO.ctx {l:List Env}{e L:Addr}{oe:Obj}{vs:Array Value} {h h':Heap}{y:Value} (x:rO l e oe L h h') (gd:oe.data = .fields vs) (ge:h.get? e=some oe) (c:F2 h e y):F2 h' e y:=by
 obtain⟨T,oT,ts,oh,slots,own,new,ne,size,there,data,fl⟩:=x
 obtain⟨o,ws,q1,q2,q3⟩:=c
 rw[ge]at q1
 cases q1
 rw[gd]at q2
 cases q2
 exact⟨_,_,own,gQ gd _,by rw[oC (by decide)];exact q3⟩
theorem SO {base:Heap}{env:Env}{outer:List Env}{L e:Addr}{cls a0:Value}{Q:Unit->Shared->Prop} (af:A.frames=some (env :: outer)) (fL:env.frame=some L) (fl:pA base (env :: outer) e cls a0 s.heap)
  (k:∀ h',Heap.HeldW base (env :: outer) e cls a0 L h'->s.heap.UpToSlots h'->(∀ y,F2 s.heap e y->F2 h' e y)->Q () { s with heap:=h' }):wpAny M A (noteFrame (.ref e) env) Q E s:=by
 obtain⟨kb,be,ff,oe,vs,Tr,oT,ts,ge,⟨gc,g0⟩,gd,g1,bT,Ir,gT,dT,g3⟩:=fl
 subst gc
 have gz:=(ja.mp g1).1
 unfold noteFrame
 simp only[fL]
 refine wpAny_bind (wpAny_field ge gd g1 ?_)
 rw[if_pos (show (bf Tr != fJ)=true by simp)]
 refine wpAny_bind (wpAny_field gT dT g3 ?_)
 rw[if_neg (show ¬ ((fJ == rawInt L)=true) by simp[rawInt])]
 refine wpAny_bind (wpAny_setField gT dT (ja.mp g3).1 ?_)
 have ot:∀ b,b≠Tr->(s.heap.update Tr (nM (·.setIfInBounds 3 fJ))).get? b=s.heap.get? b:=fun b n=>e6 _ _ (dh n)
 have nr:∀ b o,s.heap.get? b=some o->(∀ ws,o.data ≠ .fields ws)->b≠Tr:=fun b o q nf z=>by
  rw[z,gT]at q
  cases q
  exact nf ts dT
 have Zw:=ff.of_keeps (h':=s.heap.update Tr (nM (·.setIfInBounds 3 fJ))) fun b o q nf=>⟨o,(ot b (nr b o q nf)).trans q,rfl⟩
 have kb1:base.StaysIn (s.heap.update Tr (nM (·.setIfInBounds 3 fJ))):=fun b o q=>(ot b fun z=>by rw[z,bT]at q;cases q).trans (kb b o q)
 have Wo:=(ot e (dh Ir)).trans ge
 refine P8 (s := { s with heap:=_ }) af Zw fL Wo gd gz fun h' x => ?_
 obtain⟨n1,n2,n3,n4⟩:=x.XB kb1 be Zw gd gz g0 Wo
 exact k h' ⟨n1,be,n2,n3⟩ (fun b o q nf=>n4 b o ((ot b (nr b o q nf)).trans q) nf) fun y c=>x.ctx gd Wo (c.other Ir)
theorem Lh {base:Heap}{l:List Env}{e:Addr}{cls a0 m:Value}{Q:Unit->Shared->Prop} (kb:base.StaysIn s.heap) (be:base.get? e=none) (ff:s.heap.FunFrames base l) (tr:s.heap.TracedAtW base e cls a0 m)
  (k:∀ h',pA base l e cls a0 h'->s.heap.UpToSlots h'->(∀ y,F2 s.heap e y->F2 h' e y)->Q () { s with heap:=h' }):wpAny M A (setFlight (.ref e) none) Q E s:=by
 obtain⟨oe,vs,Tr,oT,ts,ge,gc,gd,g1,bT,Ir,gT,dT,g3⟩:=tr
 have z3:=(ja.mp g3).1
 have ot:∀ b,b≠Tr->(s.heap.update Tr (nM (·.setIfInBounds 3 ((none:Option Addr).elim fJ fun f=>rawInt f)))).get? b=s.heap.get? b:=fun b n=>e6 _ _ (dh n)
 have nr:∀ b o,s.heap.get? b=some o->(∀ ws,o.data ≠ .fields ws)->b≠Tr:=fun b o q nf z=>by
  rw[z,gT]at q
  cases q
  exact nf ts dT
 unfold setFlight
 refine wpAny_bind (wpAny_field ge gd g1 ?_)
 rw[if_pos (show (bf Tr != fJ)=true by simp)]
 refine wpAny_setField gT dT z3 (k _ ⟨fun b o q=>(ot b fun z=>by rw[z,bT]at q;cases q).trans (kb b o q),be,ff.of_keeps fun b o q nf=>⟨o,(ot b (nr b o q nf)).trans q,rfl⟩,?_⟩ (fun b o q nf=>⟨o.slots,(ot b (nr b o q nf)).trans q⟩) fun y c=>c.other Ir)
 exact⟨oe,vs,Tr,_,_,(ot e (dh Ir)).trans ge,gc,gd,g1,bT,Ir,iX _ gT (ox (gQ dT _)),gQ dT _,by simp[z3]⟩
theorem Pp {base:Heap}{env:Env}{outer:List Env}{L e:Addr}{cls a0:Value}{Q:Unit->Shared->Prop} (af:A.frames=some (env :: outer)) (fL:env.frame=some L) (fl:pA base (env :: outer) e cls a0 s.heap)
  (k:∀ h',pA base outer e cls a0 h'->s.heap.UpToSlots h'->(∀ y,F2 s.heap e y->F2 h' e y)->Q () { s with heap:=h' }):wpAny M A (leaving env (.ref e)) Q E s:=by
 unfold leaving
 refine wpAny_bind (SO af fL fl fun h1 hh sl c1 => ?_)
 obtain⟨n1,n2,n3,n4⟩:=hh
 refine Lh (s := { s with heap:=h1 }) n1 n2 n3 n4 fun h2 f2 wJ c2 => ?_
 obtain⟨m1,m2,⟨_,_,m3⟩,m4⟩:=f2
 exact k h2 ⟨m1,m2,m3,m4⟩ (sl.trans wJ) fun y c=>c2 y (c1 y c)
end
section
variable {P:Program}{w:World} {H H':Hp} {h h':Heap}{a:Addr}{o:HO}
theorem cR.there (x:cR P w H h a o):∃ ob,h.get? a=some ob:=by
 cases o with
 | lst xs=>obtain⟨_,_,_,_,e⟩:=x;exact⟨_,e⟩
 | tup xs=>obtain⟨_,_,_,_,e,_⟩:=x;exact⟨_,e⟩
 | dK kvs=>obtain⟨_,_,_,_,o,_,_,e,_⟩:=x;exact⟨_,e⟩
 | dT kvs=>obtain⟨_,_,_,_,o,_,_,e,_⟩:=x;exact⟨_,e⟩
 | set S n=>obtain⟨o,_,_,_,e,_⟩:=x;exact⟨_,e⟩
 | ins C dx fs=>obtain⟨_,_,_,e,_⟩:=x;exact⟨_,e⟩
 | own y=>exact x
 | xd fs=>obtain⟨_,⟨_,_,_,e,_⟩,_⟩:=x;exact⟨_,e⟩
 | xB lo hi=>obtain⟨_,_,_,e⟩:=x;exact⟨_,e⟩
 | sr ob u=>obtain⟨e,_⟩:=x;exact⟨_,e⟩
 | nu ps=>exact⟨_,(show h.get? a=some _ from x)⟩
 | met f y=>exact⟨_,(show h.get? a=some _ from x)⟩
 | ext φ => obtain⟨_,e,_⟩:=x;exact e
end
theorem Un.fly {fs:List Addr}{L:Addr} {yH H H':Hp}{h0 h h1 h2 B:Heap} (U1:Un fs [] yH H h0 h) (U2:Un (L :: fs) [] H H' h h1) (hL:h0.get? L=none)
  (RK:∀ b o,h.get? b=some o->b ∉ L :: fs->∃ o',B.get? b=some o') (k1:∀ b o,B.get? b=some o->h1.get? b=some o) (k2:∀ b o,B.get? b=some o->h2.get? b=some o)
  (sl:h1.UpToSlots h2) (nf:∀ b∈fs,∃ o,h1.get? b=some o∧∀ vs,o.data ≠ .fields vs):Un fs [] yH H' h0 h2:=by
 have nL:∀ b o,h0.get? b=some o->b ∉ fs->b ∉ L :: fs:=fun b o q hb z=>by
  rcases aN.mp z with z | z
  ·rw[z,hL]at q;cases q
  ·exact hb z
 refine⟨fun b o q n hb hx => ?_,fun b o q n hb hx => ?_,fun b o q n hx => ?_,fun b o q hx => ?_,fun b xs q=>U2.qX _ _ (U1.qX _ _ q),fun b o u q=>U2.sq _ _ _ (U1.sq _ _ _ q),fun b ps q => ?_⟩
 ·have q1:=U1.keep b o q n hb hx
  have q2:=U2.keep b o q1 (U1.free b o q n hx) (nL b o q hb) hx
  obtain⟨o',e⟩:=RK b o q1 (nL b o q hb)
  have e1:=k1 _ _ e
  rw[q2]at e1
  cases e1
  exact k2 _ _ e
 ·obtain⟨s1,q1⟩:=U1.slot b o q n hb hx
  obtain⟨s2,q2⟩:=U2.slot b _ q1 (U1.free b o q n hx) (aI _ hb) hx
  obtain⟨ob,q3,d⟩:=nf b hb
  rw[q2]at q3
  cases q3
  obtain⟨s4,q4⟩:=sl b _ q2 d
  exact⟨s4,q4⟩
 ·obtain⟨o1,q1⟩:=U1.there b o q hx
  exact U2.free b o1 q1 (U1.free b o q n hx) hx
 ·by_cases hb:b∈fs
  ·obtain⟨ob,q3,d⟩:=nf b hb
   obtain⟨s4,q4⟩:=sl b _ q3 d
   exact⟨_,q4⟩
  ·obtain⟨o1,q1⟩:=U1.there b o q hx
   obtain⟨o',e⟩:=RK b o1 q1 (nL b o q hb)
   exact⟨_,k2 _ _ e⟩
 ·obtain⟨m1,e1⟩:=U1.rS b ps q
  obtain⟨m2,e2⟩:=U2.rS b _ e1
  exact⟨m1 ++ m2,by rw[e2,yW]⟩
def yT (P:Program) (w:World):vt:=fun outer H s E e s'=>∃ (ea C:Addr) (a0:Value) (B:Heap) (H':Hp),e = .ref ea∧pA B outer ea (.ref C) a0 s'.heap∧s'.os=s.os∧AllBare s'.gens ∧
 ir P w H' B∧Un (mC outer) [] H H' s.heap s'.heap∧(∀ b o,s.heap.get? b=some o->b ∉ mC outer->∃ o',B.get? b=some o')∧∃ m:Option Addr,F2 s'.heap ea (abA m)∧E (.ref C) m H'
section
variable {P:Program}{w:World}{K:ak}{mg:Str->Option Value}{base:Heap}{N:List Str}{qual:Str}{scope:Scope}{f:Addr}{da:Value}{A:Around}{outer:List Env}{s0 s:Shared}{H0 H:Hp} {E E':XK}
 {ae:List (Addr × Obj)}{σ : St}{CX:vt}
theorem LR {e:Env}{L:Addr}{l:List Env} (h:e.frame=some L):mC (e :: l)=L :: mC l:=by
 unfold mC
 rw[gu,h]
theorem QU (hE:∀ c m H',E' c m H'->E c m H'):Passes (yT P w) (eD (yT P w) P w K mg base N qual scope f da A outer s0 H0 E) E':=by
 intro ae σ H s e s' I h
 obtain⟨ea,C,a0,B,H',rfl,fl,os,bare,bw,un,RK,m,hm,q⟩:=h
 have es:mC (envOfC qual scope s0.heap.objs.size f da :: outer)=s0.heap.objs.size :: mC outer:=LR rfl
 have Ib:Un (mC outer) [] H0 H s0.heap s.heap:=I.base
 have un':Un (s0.heap.objs.size :: mC outer) [] H H' s.heap s'.heap:=by rw[<- es];exact un
 have WL:∀ b o,s.heap.get? b=some o->b ∉ s0.heap.objs.size :: mC outer->∃ o',B.get? b=some o':=fun b o z hb=>RK b o z (by show b ∉ mC (envOfC qual scope s0.heap.objs.size f da :: outer);rw[es];exact hb)
 show wpAny _ _ (leaving _ _) _ _ _
 refine Pp I.ok.frames rfl fl fun h'' x1 x2 x3 => ?_
 refine⟨ea,C,a0,B,H',rfl,x1,os.trans I.os,bare,bw,?_,?_,m,x3 _ hm,hE _ _ _ q⟩
 ·refine Un.fly Ib un' (k6 (ao _)) WL fl.1 x1.1 x2 fun b hb => ?_
  obtain⟨_,o,z,d⟩:=fl.2.2.1.mem (b:=b) (by show b∈mC (envOfC qual scope s0.heap.objs.size f da :: outer);rw[es];exact aI _ hb)
  exact⟨o,z,d⟩
 ·intro b o z hb
  obtain⟨o1,z1⟩:=Ib.there b o z (by simp)
  refine WL b o1 z1 fun hm => ?_
  rcases aN.mp hm with y | y
  ·rw[y,k6 (ao _)]at z;cases z
  ·exact hb y
end
end L2
namespace L2
open PySem PySem.Spec PyProof.Rows PySem.W
section
variable {prog:Program}{w:World}{A:Around}{E:Value->Shared->Prop}{h:Heap}{g:Array GenState}{d:Drawn}{t:Nat}{os:OsState}{a:Addr}{o:Obj}
 {nm q:Str}{C N:Addr}{bs bm:List Value}{PX:Bool}{sn:List Str}{sub:List Value}{ab:Bool}{col:Option Bool}{dd:Option Addr}{k0 k1 k2 k3 k5:Option Value}{KH:String}
end
end L2
namespace L2
open PySem PySem.Spec PyProof.Rows
section
variable {X:Cx}{ae:List (Addr × Obj)}{σ : St}{H:Hp}{s:Shared}{xe:Value->Shared->Prop}{A:Around}
end
section
variable {X:Cx}{ae:List (Addr × Obj)}{σ : St} {H0 H':Hp} {s0 s':Shared}{ea C:Addr}{a0:Value}{B h5:Heap}{env:Env}{outer:List Env}
end
section
variable {X:Cx}{k:Nat}{f:Addr}{fd:FuncData}{ps:List Str}{sp:Sp}{lY:List V}{ds:List Value}{x:Str}{p pos:Pos}{e:Expr}{es:List Expr}{t:TA}
end
section
variable {X:Cx}
end
theorem zW.Yw {P:Program}{w:World}{K:ak}{mg:Str->Option Value}{base:Heap}{x qual:Str}{st:Stmt}{f:Addr}{fd:FuncData}{N ps:List Str}{k:Nat}{sp:Sp} (F:zW K x qual st f fd) (S:cG N ps (a6 st)) (len:∀ vs H Q E,sp vs H Q E->vs.length=ps.length)
  (mW:∀ (da:Value) (A:Around) (outer:List Env) (s:Shared) (H:Hp) (vs:List V) (Q:VK) (E:XK),fK k (A.deeper (envOfC qual (a6 st) s.heap.objs.size f da))->sp vs H Q E ->
   ∃ t,pH (eD (yT P w) P w K mg base N qual (a6 st) f da A outer s H E) (eY st) t∧t { nx:=fun _ H'=>Q .df H',rt:=Q } (start N vs) H):mS P w K mg base (yT P w) (k+1) f fd ps sp:=by
 obtain⟨oc,od,kV,doc,pm,an,da,ct,uI,rfl,lk,ly⟩:=F.ex
 exact Lf lk ly S len fun A outer s H vs Q E hr wN=>mW da A outer s H vs Q E hr wN
structure yI (P:Program) (w:World) (K:ak) (mg:Str->Option Value) (base:Heap) (k:Nat) (C:Addr) (m:Str) (ps:List Str) (sp:Sp):Prop where
 ex:∃ f fd,mS P w K mg base (yT P w) k f fd ps sp∧Meth K C m f∧Binds K fd ps []
structure Ls (P:Program) (w:World) (K:ak) (mg:Str->Option Value) (base:Heap) (k:Nat) (x:Str) (C:Addr) (ps:List Str) (sp:Sp):Prop where
 ex:∃ f fd,mS P w K mg base (yT P w) k f fd ps sp∧mg x=some (.ref C)∧Mk K C f∧Binds K fd ps []
structure wC (K:ak) (C:Addr) (m qual:Str) (st:Stmt) (ps:List Str):Prop where
 ex:∃ f fd,zW K m qual st f fd∧Meth K C m f∧Binds K fd ps []
structure Lu (K:ak) (mg:Str->Option Value) (x:Str) (C:Addr) (qual:Str) (st:Stmt) (ps:List Str):Prop where
 ex:∃ f fd,zW K "__init__" qual st f fd∧mg x=some (.ref C)∧Mk K C f∧Binds K fd ps []
section
variable {P:Program}{w:World}{K:ak}{mg:Str->Option Value}{base:Heap}{x m qual:Str}{C:Addr}{st:Stmt}{N ps:List Str}{k:Nat}{sp:Sp}
theorem wC.has (D:wC K C m qual st ps) (S:cG N ps (a6 st)) (len:∀ vs H Q E,sp vs H Q E->vs.length=ps.length)
  (mW:∀ (f:Addr) (da:Value) (A:Around) (outer:List Env) (s:Shared) (H:Hp) (vs:List V) (Q:VK) (E:XK),fK k (A.deeper (envOfC qual (a6 st) s.heap.objs.size f da))->sp vs H Q E ->
   ∃ t,pH (eD (yT P w) P w K mg base N qual (a6 st) f da A outer s H E) (eY st) t∧t { nx:=fun _ H'=>Q .df H',rt:=Q } (start N vs) H):yI P w K mg base (k+1) C m ps sp:=by
 obtain⟨f,fd,F,hm,hb⟩:=D.ex
 exact⟨f,fd,F.Yw S len (mW f),hm,hb⟩
theorem Lu.has (D:Lu K mg x C qual st ps) (S:cG N ps (a6 st)) (len:∀ vs H Q E,sp vs H Q E->vs.length=ps.length)
  (mW:∀ (f:Addr) (da:Value) (A:Around) (outer:List Env) (s:Shared) (H:Hp) (vs:List V) (Q:VK) (E:XK),fK k (A.deeper (envOfC qual (a6 st) s.heap.objs.size f da))->sp vs H Q E ->
   ∃ t,pH (eD (yT P w) P w K mg base N qual (a6 st) f da A outer s H E) (eY st) t∧t { nx:=fun _ H'=>Q .df H',rt:=Q } (start N vs) H):Ls P w K mg base (k+1) x C ps sp:=by
 obtain⟨f,fd,F,hm,hb⟩:=D.ex
 exact⟨f,fd,F.Yw S len (mW f),hm,hb⟩
end
section
variable {X:Cx} {k k':Nat}{x m:Str}{C:Addr}{ps:List Str}{sp:Sp}{p pos fI:Pos}{e o:Expr}{es:List Expr}{ta:TE}{t:TA}{E:XK}
theorem Ky {pl:Sem Bool} (h:yI X.prog X.w X.K X.mg X.base k C m ps sp) (c:yS X.K C) (hr:fK k' X.A) (hk:k<=k') (hx:Passes (yT X.prog X.w) X E) (he:PE X o ta) (ha:PA X (e :: es) t)
  (FZ:starEach (e :: es) X.env=(false,eval e X.env) :: starEach es X.env:=by rfl) (lu:(backTo pos (starEach es X.env)).any (·.1)=false:=by rfl)
  (ht:eval (.Call (.Attribute o m fI) (e :: es) [] pos) X.env=(do
   let ov <- eval o X.env
   standAt fI.atName
   let (f,first) <- holding [ov] (getMethod ov m pl)
   callWith pos f first (backTo pos (starEach (e :: es) X.env)) (backToKw pos (keywordEach [] X.env))):=by rfl) :
  PE X (.Call (.Attribute o m fI) (e :: es) [] pos) (Qw C m sp [] E ta t):=by
 obtain⟨f,fd,F,hm,hb⟩:=h.ex
 exact Sy he c hm F (hr.mono hk) hb .nil hx ha FZ lu ht
theorem O2 (h:Ls X.prog X.w X.K X.mg X.base k x C ps sp) (hr:fK k' X.A) (hk:k+1<=k') (hx:Passes (yT X.prog X.w) X E) (hg:Gl X x) (ha:PA X (e :: es) t) (xV:(x == ("__debug__" : Str))=false:=by decide)
  (he:starEach (e :: es) X.env=(false,eval e X.env) :: starEach es X.env:=by rfl) (lu:(backTo pos (starEach es X.env)).any (·.1)=false:=by rfl) :
  PE X (.Call (.Name x p) (e :: es) [] pos) (Qx C sp [] E t):=by
 obtain⟨f,fd,F,hm,M,hb⟩:=h.ex
 exact Sz M F (hr.mono hk) hg hm hb .nil hx ha xV he lu
end
section
variable {X:Cx}
end
theorem DY {K:ak}{a:Addr}{xs ys:List V}{te:TE}{σ : St}{caps:List (Str × Nat)}{H:Hp}{Q:VK} (hS:bY K H a xs) (hz:xs.length<=1000) (hy:ys.length=xs.length)
  (wQ:∀ (i:Nat) (x y:V),xs[i]? = some x->ys[i]? = some y->∀ H',bz H H'->∀ Q':VK,(∀ pJ,bz H' pJ->Q' y pJ)->te (some x :: jy σ caps) H' Q') (hq:∀ D H',H D=none->bz H H'->H' D=some (.lst ys)->Q (.ref D) H') :
  AO (Kc K a) (bH 0) te (aX 1 none ++ jy σ caps) H Q:=by
 intro D hD
 refine⟨fun i m τ zs H'=>m=xs.length - i∧i<=xs.length∧(∃ o, τ = o :: jy σ caps)∧zs=ys.take i∧bz H H'∧H' D=some (.lst zs),⟨xs.length,by simp,aS _,⟨none,rfl⟩,by simp,aM hD _,ay⟩,?_⟩
 rintro i m τ zs H' ⟨rfl,hi,⟨o,rfl⟩,rfl,sm,zI⟩
 refine⟨zI,?_⟩
 by_cases cS:i < xs.length
 ·refine .inr ⟨⟨xs,xs[i],sm.tup hS,by simp[cS]⟩,?_,fun x pJ y => ?_⟩
  ·rw[bA]
   exact cY (by omega)
  obtain⟨e,y⟩:=y
  subst e
  have hx:=y xs (sm.tup hS)
  have YN:ys[i]? = some ys[i]:=ai (by omega)
  show te (some x :: jy σ caps) _ _
  refine wQ i x ys[i] hx YN _ sm _ (fun H2 s2 => ?_)
  refine⟨s2 _ _ zI,xs.length - (i+1),by omega,rfl,cS,⟨_,rfl⟩,?_,(sm.trans s2).put hD,?_⟩
  ·rw[bQ,YN];rfl
  ·rw[ay]
 ·have e:i=xs.length:=by omega
  subst e
  refine .inl ⟨⟨xs,sm.tup hS,ao _⟩,?_⟩
  rw[<- hy,bG]at zI
  exact hq D H' hD sm zI
inductive D where
 | df | int (i:Int) | str (x:Str) | tup (ds:List D) | lst (ds:List D)
instance:DecidableEq D:=fun _ _=>jI _
mutual
def D.deep:D->Nat
 | .tup ds=>D.eJ ds+1
 | .lst ds=>D.eJ ds+1
 | .df=>0
 | .int _=>0
 | .str _=>0
def D.eJ:List D->Nat
 | []=>0
 | d :: ds=>max d.deep (D.eJ ds)
end
theorem we:∀ {ds:List D}{d:D},d∈ds->d.deep<=D.eJ ds
 | e :: ds,d,h=>by
  rw[D.eJ]
  rcases aN.mp h with rfl | h
  ·omega
  ·have:=we h;omega
mutual
def bU (h:Heap):D->Value->Prop
 | .df,u=>u=fJ
 | .int i,u=>(∃ t,u=ow i t)∨∃ b,u=jN b∧i=(if b then 1 else 0)
 | .str x,u=>∃ t,u=qN x t
 | .tup ds,u=>∃ a us,u=bf a∧h.IsTuple a us.toArray∧dY h ds us
 | .lst ds,u=>∃ a us,u=bf a∧h.IsList a us.toArray∧dY h ds us
def dY (h:Heap):List D->List Value->Prop
 | [],us=>us = []
 | d :: ds,us=>∃ u cE,us=u :: cE∧bU h d u∧dY h ds cE
end
mutual
def Den (H:Hp):D->V->Prop
 | .df,v=>v = .df
 | .int i,v=>v = .int i∨∃ b,v = .bl b∧i=(if b then 1 else 0)
 | .str x,v=>v = .str x
 | .tup ds,v=>∃ a vs,v = .ref a∧H a=some (.tup vs)∧qf H ds vs
 | .lst ds,v=>∃ a vs,v = .ref a∧H a=some (.lst vs)∧qf H ds vs
def qf (H:Hp):List D->List V->Prop
 | [],vs=>vs = []
 | d :: ds,vs=>∃ v nt,vs=v :: nt∧Den H d v∧qf H ds nt
end
theorem mE {h:Heap}:∀ {ds:List D}{us:List Value},dY h ds us->us.length=ds.length
 | [],us,r=>by rw[dY]at r;subst r;rfl
 | d :: ds,us,r=>by
  rw[dY]at r
  obtain⟨u,cE,rfl,_,r⟩:=r
  rw[bB,bB,mE r]
theorem sD {h:Heap}:∀ {ds:List D}{us:List Value}{j:Nat}{d:D},dY h ds us->ds[j]? = some d->∃ u,us[j]? = some u∧bU h d u
 | [],us,j,d,r,e=>by simp at e
 | c :: ds,us,0,d,r,e=>by
  rw[dY]at r
  obtain⟨u,cE,rfl,r1,_⟩:=r
  simp at e;subst e
  exact⟨u,rfl,r1⟩
 | c :: ds,us,j+1,d,r,e=>by
  rw[dY]at r
  obtain⟨u,cE,rfl,_,r⟩:=r
  obtain⟨u',e',r'⟩:=sD (j:=j) (d:=d) r (by simpa using e)
  exact⟨u',by simpa using e',r'⟩
theorem jK {H:Hp}{d:D}{v:V}{ds:List D}{vs:List V} (r:Den H d v) (q:qf H ds vs):qf H (d :: ds) (v :: vs):=by
 rw[qf];exact⟨v,vs,rfl,r,q⟩
theorem sC {H:Hp}:qf H [] []:=by rw[qf]
mutual
theorem zh {P:Program}{w:World}{H:Hp}{h:Heap} (ok:ir P w H h):∀ {d:D}{v:V}{u:Value},Den H d v->RelV v u->bU h d u
 | .df,v,u,r,q=>by rw[Den]at r;subst r;rw[bU];exact q
 | .int i,v,u,r,q=>by
  rw[Den]at r
  rw[bU]
  rcases r with rfl | ⟨b,rfl,e⟩
  ·exact .inl q
  ·exact .inr ⟨b,q,e⟩
 | .str x,v,u,r,q=>by rw[Den]at r;subst r;rw[bU];exact q
 | .tup ds,v,u,r,q=>by
  rw[Den]at r
  obtain⟨a,vs,rfl,e,r⟩:=r
  rw[bU]
  obtain⟨_,its,rv,p⟩:=(show cR P w H h a (.tup vs) from ok a _ e)
  exact⟨a,its,q,p.tup,Ax ok r rv⟩
 | .lst ds,v,u,r,q=>by
  rw[Den]at r
  obtain⟨a,vs,rfl,e,r⟩:=r
  rw[bU]
  obtain⟨_,its,n,rv,p⟩:=(show cR P w H h a (.lst vs) from ok a _ e)
  exact⟨a,its,q,⟨_,p,rfl,n,rfl⟩,Ax ok r rv⟩
theorem Ax {P:Program}{w:World}{H:Hp}{h:Heap} (ok:ir P w H h):∀ {ds:List D}{vs:List V}{us:List Value},qf H ds vs->Vals vs us->dY h ds us
 | [],vs,us,r,q=>by rw[qf]at r;subst r;cases q;rw[dY]
 | d :: ds,vs,us,r,q=>by
  rw[qf]at r
  obtain⟨v,nt,rfl,r1,r⟩:=r
  cases q with
  | cons q1 q2 =>
   rw[dY]
   exact⟨_,_,rfl,zh ok r1 q1,Ax ok r q2⟩
end
theorem HL {h:Heap}{a:Addr}{x y:Array Value} (p:h.IsTuple a x) (q:h.IsTuple a y):x=y:=by
 obtain⟨o,e,_,n,d⟩:=p
 obtain⟨o',e',_,n',d'⟩:=q
 rw[e]at e';cases e'
 rw[d]at d'
 injection d'
theorem SX {h:Heap}{a:Addr}{x y:Array Value} (p:h.IsList a x) (q:h.IsList a y):x=y:=by
 obtain⟨o,e,_,n,d⟩:=p
 obtain⟨o',e',_,n',d'⟩:=q
 rw[e]at e';cases e'
 rw[d]at d'
 injection d'
theorem Iw {h:Heap}{a:Addr}{x y:Array Value} (p:h.IsList a x) (q:h.IsTuple a y):False:=by
 obtain⟨o,e,c,n,d⟩:=p
 obtain⟨o',e',c',n',d'⟩:=q
 rw[e]at e';cases e'
 rw[c]at c'
 exact absurd (js c') (by decide)
mutual
theorem wb {h:Heap}:∀ {d e:D}{u:Value},bU h d u->bU h e u->d=e
 | .df,e,u,r,q=>by
  rw[bU]at r;subst r
  cases e with
  | df=>rfl
  | int i=>rw[bU]at q;rcases q with⟨t,z⟩ | ⟨b,z,_⟩ <;> cases z
  | str x=>rw[bU]at q;obtain⟨t,z⟩:=q;cases z
  | tup es=>rw[bU]at q;obtain⟨a,us,z,_⟩:=q;cases z
  | lst es=>rw[bU]at q;obtain⟨a,us,z,_⟩:=q;cases z
 | .int i,e,u,r,q=>by
  rw[bU]at r
  cases e with
  | df=>rw[bU]at q;subst q;rcases r with⟨t,z⟩ | ⟨b,z,_⟩ <;> cases z
  | int j =>
   rw[bU]at q
   rcases r with⟨t,rfl⟩ | ⟨b,rfl,hb⟩ <;> rcases q with⟨t',z⟩ | ⟨b',z,m6⟩ <;> cases z
   ·rfl
   ·rw[hb,m6]
  | str x=>rw[bU]at q;obtain⟨t,rfl⟩:=q;rcases r with⟨t,z⟩ | ⟨b,z,_⟩ <;> cases z
  | tup es=>rw[bU]at q;obtain⟨a,us,rfl,_⟩:=q;rcases r with⟨t,z⟩ | ⟨b,z,_⟩ <;> cases z
  | lst es=>rw[bU]at q;obtain⟨a,us,rfl,_⟩:=q;rcases r with⟨t,z⟩ | ⟨b,z,_⟩ <;> cases z
 | .str x,e,u,r,q=>by
  rw[bU]at r
  obtain⟨t,rfl⟩:=r
  cases e with
  | df=>rw[bU]at q;cases q
  | int i=>rw[bU]at q;rcases q with⟨t,z⟩ | ⟨b,z,_⟩ <;> cases z
  | str x=>rw[bU]at q;obtain⟨t,z⟩:=q;cases z;rfl
  | tup es=>rw[bU]at q;obtain⟨a,us,z,_⟩:=q;cases z
  | lst es=>rw[bU]at q;obtain⟨a,us,z,_⟩:=q;cases z
 | .tup ds,e,u,r,q=>by
  rw[bU]at r
  obtain⟨a,us,rfl,p,r⟩:=r
  cases e with
  | df=>rw[bU]at q;cases q
  | int i=>rw[bU]at q;rcases q with⟨t,z⟩ | ⟨b,z,_⟩ <;> cases z
  | str x=>rw[bU]at q;obtain⟨t,z⟩:=q;cases z
  | tup es =>
   rw[bU]at q;obtain⟨a',cE,z,p',q⟩:=q;cases z
   have e:us=cE:=by have:=HL p p';simpa using this
   subst e
   rw[yj r q]
  | lst es=>rw[bU]at q;obtain⟨a',cE,z,p',_⟩:=q;cases z;exact absurd p (fun p=>Iw p' p)
 | .lst ds,e,u,r,q=>by
  rw[bU]at r
  obtain⟨a,us,rfl,p,r⟩:=r
  cases e with
  | df=>rw[bU]at q;cases q
  | int i=>rw[bU]at q;rcases q with⟨t,z⟩ | ⟨b,z,_⟩ <;> cases z
  | str x=>rw[bU]at q;obtain⟨t,z⟩:=q;cases z
  | tup es=>rw[bU]at q;obtain⟨a',cE,z,p',_⟩:=q;cases z;exact absurd p (fun p=>Iw p p')
  | lst es =>
   rw[bU]at q;obtain⟨a',cE,z,p',q⟩:=q;cases z
   have e:us=cE:=by have:=SX p p';simpa using this
   subst e
   rw[yj r q]
theorem yj {h:Heap}:∀ {ds es:List D}{us:List Value},dY h ds us->dY h es us->ds=es
 | [],es,us,r,q=>by
  rw[dY]at r;subst r
  cases es with
  | nil=>rfl
  | cons e es=>rw[dY]at q;obtain⟨u,cE,z,_⟩:=q;cases z
 | d :: ds,es,us,r,q=>by
  rw[dY]at r
  obtain⟨u,cE,rfl,r1,r⟩:=r
  cases es with
  | nil=>rw[dY]at q;cases q
  | cons e es =>
   rw[dY]at q;obtain⟨u',Kg,z,q1,q⟩:=q
   cases z
   rw[wb r1 q1,yj r q]
end
theorem wg {p:Prop} [Decidable p] {b:Bool} (h:p↔b=true):b=decide p:=by
 cases b with
 | true=>exact(decide_eq_true (h.mpr rfl)).symm
 | false=>exact(decide_eq_false fun z=>bx (h.mp z)).symm
theorem N3 (ds es:List D):((cu (min ds.length es.length)).all (fun j=>decide (ds[j]? = es[j]?)) && ds.length == es.length)=decide (ds=es):=by
 refine wg ⟨fun h=>by subst h;simp,fun h => ?_⟩
 rw[lg,nY]at h
 have hl:ds.length=es.length:=eq_of_beq h.2
 refine il fun j => ?_
 by_cases hj:j < ds.length
 ·exact of_decide_eq_true (h.1 j (iJ.mpr (by omega)))
 ·rw[d7 (by omega),d7 (by omega)]
theorem To (ds es:List D) (hl:ds.length=es.length):(cu ds.length).all (fun j=>decide (ds[j]? = es[j]?))=decide (ds=es):=by
 have:=N3 ds es
 rw[<- hl,Nat.min_self]at this
 simpa using this
section
open SeqAt
variable {A:Around}{s:Shared}
theorem bO {u v:Value}{b c:Bool} (h:EqAt A s u v b) (e:b=c):EqAt A s u v c:=e ▸ h
theorem NG:∀ (n:Nat) {d e:D}{A:Around}{u v:Value},d.deep<=n->bU s.heap d u->bU s.heap e v->A.units+n < cLine->EqAt A s u v (decide (d=e)):=by
 intro n
 induction n with
 | zero => ?_
 | succ n ih => ?_
 all_goals intro d e A u v hn r q hu
 all_goals have ny:A.units < cLine:=by omega
 all_goals cases d with
  | df =>
   rw[bU]at r;subst r
   cases e with
   | df=>rw[bU]at q;subst q;exact bO (yK _) (decide_eq_true rfl).symm
   | int j =>
    rw[bU]at q
    rcases q with⟨t,rfl⟩ | ⟨b,rfl,_⟩
    ·exact bO (EqAt.none_int j t) (decide_eq_false (fun z=>nomatch z)).symm
    ·exact bO (EqAt.none_bool b) (decide_eq_false (fun z=>nomatch z)).symm
   | str y=>rw[bU]at q;obtain⟨t,rfl⟩:=q;exact bO (EqAt.none_str y t) (decide_eq_false (fun z=>nomatch z)).symm
   | tup es=>rw[bU]at q;obtain⟨a,us,rfl,p,_⟩:=q;exact bO (EqAt.none_tuple p ny) (decide_eq_false (fun z=>nomatch z)).symm
   | lst es=>rw[bU]at q;obtain⟨a,us,rfl,p,_⟩:=q;exact bO (EqAt.none_list p ny) (decide_eq_false (fun z=>nomatch z)).symm
  | int i =>
   rw[bU]at r
   cases e with
   | df =>
    rw[bU]at q;subst q
    rcases r with⟨t,rfl⟩ | ⟨b,rfl,_⟩
    ·exact bO (EqAt.int_none i t) (decide_eq_false (fun z=>nomatch z)).symm
    ·exact bO (EqAt.bool_none b) (decide_eq_false (fun z=>nomatch z)).symm
   | int j =>
    rw[bU]at q
    have key:∀ x y:Int,(x == y)=decide (D.int x=D.int y):=fun x y=>wg ⟨fun z=>by cases z;simp,fun z=>by rw[eq_of_beq z]⟩
    rcases r with⟨t,rfl⟩ | ⟨b,rfl,hb⟩ <;> rcases q with⟨t',rfl⟩ | ⟨b',rfl,m6⟩
    ·exact bO (EqAt.int_int i t j t') (key i j)
    ·rw[m6];exact bO (EqAt.int_bool i t b') (key _ _)
    ·rw[hb];exact bO (EqAt.bool_int b j t') (key _ _)
    ·rw[hb,m6];exact bO (EqAt.bool_bool b b') (by rw[<- key];cases b <;> cases b' <;> rfl)
   | str y =>
    rw[bU]at q;obtain⟨t,rfl⟩:=q
    rcases r with⟨t',rfl⟩ | ⟨b,rfl,_⟩
    ·exact bO (EqAt.int_str i t' y t) (decide_eq_false (fun z=>nomatch z)).symm
    ·exact bO (EqAt.bool_str b y t) (decide_eq_false (fun z=>nomatch z)).symm
   | tup es =>
    rw[bU]at q;obtain⟨a,us,rfl,p,_⟩:=q
    rcases r with⟨t',rfl⟩ | ⟨b,rfl,_⟩
    ·exact bO (EqAt.int_tuple i t' p ny) (decide_eq_false (fun z=>nomatch z)).symm
    ·exact bO (EqAt.bool_tuple b p ny) (decide_eq_false (fun z=>nomatch z)).symm
   | lst es =>
    rw[bU]at q;obtain⟨a,us,rfl,p,_⟩:=q
    rcases r with⟨t',rfl⟩ | ⟨b,rfl,_⟩
    ·exact bO (EqAt.int_list i t' p ny) (decide_eq_false (fun z=>nomatch z)).symm
    ·exact bO (EqAt.bool_list b p ny) (decide_eq_false (fun z=>nomatch z)).symm
  | str x =>
   rw[bU]at r;obtain⟨t',rfl⟩:=r
   cases e with
   | df=>rw[bU]at q;subst q;exact bO (EqAt.str_none x t') (decide_eq_false (fun z=>nomatch z)).symm
   | int j =>
    rw[bU]at q
    rcases q with⟨t,rfl⟩ | ⟨b,rfl,_⟩
    ·exact bO (EqAt.str_int x t' j t) (decide_eq_false (fun z=>nomatch z)).symm
    ·exact bO (EqAt.str_bool x t' b) (decide_eq_false (fun z=>nomatch z)).symm
   | str y =>
    rw[bU]at q;obtain⟨t,rfl⟩:=q
    exact bO (EqAt.str_str x t' y t) (wg ⟨fun z=>by cases z;simp,fun z=>by rw[eq_of_beq z]⟩)
   | tup es=>rw[bU]at q;obtain⟨a,us,rfl,p,_⟩:=q;exact bO (EqAt.str_tuple x t' p ny) (decide_eq_false (fun z=>nomatch z)).symm
   | lst es=>rw[bU]at q;obtain⟨a,us,rfl,p,_⟩:=q;exact bO (EqAt.str_list x t' p ny) (decide_eq_false (fun z=>nomatch z)).symm
  | tup ds => ?_
  | lst ds => ?_
 ·rw[D.deep]at hn;omega
 ·rw[D.deep]at hn;omega
 ·rw[D.deep]at hn
  have r0:=r
  rw[bU]at r
  obtain⟨a,us,rfl,p,r⟩:=r
  cases e with
  | df=>rw[bU]at q;subst q;exact bO (EqAt.tuple_none p ny) (decide_eq_false (fun z=>nomatch z)).symm
  | int j =>
   rw[bU]at q
   rcases q with⟨t,rfl⟩ | ⟨b,rfl,_⟩
   ·exact bO (EqAt.tuple_int j t p ny) (decide_eq_false (fun z=>nomatch z)).symm
   ·exact bO (EqAt.tuple_bool b p ny) (decide_eq_false (fun z=>nomatch z)).symm
  | str y=>rw[bU]at q;obtain⟨t,rfl⟩:=q;exact bO (EqAt.tuple_str y t p ny) (decide_eq_false (fun z=>nomatch z)).symm
  | tup es =>
   have q0:=q
   rw[bU]at q
   obtain⟨b,cE,rfl,p',q⟩:=q
   by_cases tL:a=b
   ·subst tL
    rw[wb r0 q0]
    exact bO (yK _) (decide_eq_true rfl).symm
   ·refine bO (yL tL (RcAt.tuples (e:=fun j=>decide (ds[j]? = es[j]?)) p p' ny fun j h1 h2 => ?_)) ?_
    ·have l1:=mE r
     have l2:=mE q
     have GB:j < us.length:=by simpa using h1
     have GA:j < cE.length:=by simpa using h2
     have e1:=ai (l:=ds) (i:=j) (by omega)
     have e2:=ai (l:=es) (i:=j) (by omega)
     obtain⟨u,f1,g1⟩:=sD r e1
     obtain⟨v,f2,g2⟩:=sD q e2
     have z1:us.toArray[j]=u:=by rw[ai GB]at f1;simpa using f1
     have z2:cE.toArray[j]=v:=by rw[ai GA]at f2;simpa using f2
     rw[z1,z2]
     have:=ih (d:=ds[j]) (e:=es[j]) (A:=A.in1) (by have:=we (k4 (l:=ds) (n:=j) (by omega));omega) g1 g2 (by show A.units+1+n < cLine;omega)
     refine bO this ?_
     rw[e1,e2]
     exact decide_eq_decide.mpr ⟨fun z=>by rw[z],fun z=>aB z⟩
    ·have:=N3 ds es
     simp only[aR,mE r,mE q]
     rw[this]
     exact decide_eq_decide.mpr ⟨fun z=>by rw[z],fun z=>by injection z⟩
  | lst es=>rw[bU]at q;obtain⟨b,cE,rfl,p',_⟩:=q;exact bO (EqAt.tuple_list p p' ny) (decide_eq_false (fun z=>nomatch z)).symm
 ·rw[D.deep]at hn
  have r0:=r
  rw[bU]at r
  obtain⟨a,us,rfl,p,r⟩:=r
  cases e with
  | df=>rw[bU]at q;subst q;exact bO (EqAt.list_none p ny) (decide_eq_false (fun z=>nomatch z)).symm
  | int j =>
   rw[bU]at q
   rcases q with⟨t,rfl⟩ | ⟨b,rfl,_⟩
   ·exact bO (EqAt.list_int j t p ny) (decide_eq_false (fun z=>nomatch z)).symm
   ·exact bO (EqAt.list_bool b p ny) (decide_eq_false (fun z=>nomatch z)).symm
  | str y=>rw[bU]at q;obtain⟨t,rfl⟩:=q;exact bO (EqAt.list_str y t p ny) (decide_eq_false (fun z=>nomatch z)).symm
  | tup es=>rw[bU]at q;obtain⟨b,cE,rfl,p',_⟩:=q;exact bO (EqAt.list_tuple p p' ny) (decide_eq_false (fun z=>nomatch z)).symm
  | lst es =>
   have q0:=q
   rw[bU]at q
   obtain⟨b,cE,rfl,p',q⟩:=q
   have l1:=mE r
   have l2:=mE q
   by_cases tL:a=b
   ·subst tL
    rw[wb r0 q0]
    exact bO (yK _) (decide_eq_true rfl).symm
   by_cases hl:ds.length=es.length
   ·refine bO (yL tL (RcAt.lists (e:=fun j=>decide (ds[j]? = es[j]?)) p p' (by simp only[aR];omega) ny fun j h1 h2 => ?_)) ?_
    ·have GB:j < us.length:=by simpa using h1
     have GA:j < cE.length:=by simpa using h2
     have e1:=ai (l:=ds) (i:=j) (by omega)
     have e2:=ai (l:=es) (i:=j) (by omega)
     obtain⟨u,f1,g1⟩:=sD r e1
     obtain⟨v,f2,g2⟩:=sD q e2
     have z1:us.toArray[j]=u:=by rw[ai GB]at f1;simpa using f1
     have z2:cE.toArray[j]=v:=by rw[ai GA]at f2;simpa using f2
     rw[z1,z2]
     have:=ih (d:=ds[j]) (e:=es[j]) (A:=A.in1) (by have:=we (k4 (l:=ds) (n:=j) (by omega));omega) g1 g2 (by show A.units+1+n < cLine;omega)
     refine bO this ?_
     rw[e1,e2]
     exact decide_eq_decide.mpr ⟨fun z=>by rw[z],fun z=>aB z⟩
    ·have:=To ds es hl
     simp only[aR,l1]
     rw[this]
     exact decide_eq_decide.mpr ⟨fun z=>by rw[z],fun z=>by injection z⟩
   ·refine bO (yL tL (RcAt.lists_lengths p p' (by simp only[aR];simp;omega) ny)) ?_
    exact(decide_eq_false (fun z=>hl (by injection z with z;rw[z]))).symm
end
section
variable {X:Cx}
inductive Om (neg:Bool) (x:V) (y:V) (H:Hp) (Q:VK):Prop
 | mk:∀ d ds,(Den H d x)->((Den H (.lst ds) y∨Den H (.tup ds) y))->(D.eJ ds<=150)->(Q (.bl (if neg then !decide (d∈ds) else decide (d∈ds))) H)->Om neg x y H Q
def aaC (neg:Bool):R2:=fun x y H Q=>Om neg x y H Q
def Jp (h:Heap) (d:D) (y:Value):Bool := @decide (bU h d y) (jI _)
theorem NF {h:Heap}{d e:D}{y:Value} (r:bU h e y):Jp h d y=decide (e=d):=by
 unfold Jp
 by_cases z:e=d
 ·subst z;rw[decide_eq_true rfl];exact @decide_eq_true _ (jI _) r
 ·rw[decide_eq_false z];exact @decide_eq_false _ (jI _) fun q=>z (wb r q)
theorem DV {h:Heap}:∀ {ds:List D}{us:List Value}{u:Value},dY h ds us->u∈us->∃ d∈ds,bU h d u
 | [],us,u,r,m=>by rw[dY]at r;subst r;cases m
 | d :: ds,us,u,r,m=>by
  rw[dY]at r
  obtain⟨v,cE,rfl,r1,r⟩:=r
  rcases aN.mp m with rfl | m
  ·exact⟨d,aU,r1⟩
  ·obtain⟨e,he,q⟩:=DV r m
   exact⟨e,aI _ he,q⟩
theorem De {h:Heap}{d:D}:∀ {ds:List D}{us:List Value},dY h ds us->us.any (Jp h d)=decide (d∈ds)
 | [],us,r=>by rw[dY]at r;subst r;simp
 | e :: ds,us,r=>by
  rw[dY]at r
  obtain⟨v,cE,rfl,r1,r⟩:=r
  rw[i6,De r,NF r1]
  refine wg ⟨fun z => ?_,fun z => ?_⟩
  ·rcases aN.mp z with rfl | z
   ·simp
   ·rw[decide_eq_true z];simp
  ·rw[Co]at z
   rcases z with z | z
   ·rw[of_decide_eq_true z];exact aU
   ·exact aI _ (of_decide_eq_true z)
theorem Mn (hu:X.A.units+151 < cLine):kC X (compareOp .NotIn) (aaC true):=by
 intro ae s σ H x y v u Q I rx ry h
 obtain⟨d,ds,h1,h2,hd,q⟩:=h
 have g1:=zh I.bw h1 rx
 have el:∀ us:List Value,dY s.heap ds us->∀ y,y∈us.toArray->oZ X.A.in1 s y v (Jp s.heap d y):=fun us r y hy=>by
  obtain⟨e,he,r1⟩:=DV r (by simpa using hy)
  refine bO (NG 150 (by have:=we he;omega) r1 g1 (by show X.A.units+1+150 < cLine;omega)) (NF r1).symm
 rcases h2 with h2 | h2
 ·have g2:=zh I.bw h2 ry
  rw[bU]at g2
  obtain⟨b,cE,rfl,p',r'⟩:=g2
  refine SeqAt.notIn_listAt (Jp s.heap d) p' (el cE r') ⟨.bl (!decide (d∈ds)),H,I,?_,q⟩
  rw[<- De r']
  show jN _=jN _
  rw[AJ]
 ·have g2:=zh I.bw h2 ry
  rw[bU]at g2
  obtain⟨b,cE,rfl,p',r'⟩:=g2
  refine SeqAt.notIn_tupleAt (Jp s.heap d) p' (el cE r') ⟨.bl (!decide (d∈ds)),H,I,?_,q⟩
  rw[<- De r']
  show jN _=jN _
  rw[AJ]
end
section
variable {κ : Type} [DecidableEq κ]
def cA (kvs:List (κ × V)) (k : κ):Option V:=(kvs.find? fun kv=>decide (kv.1=k)).map (·.2)
def fw (kvs:List (κ × V)) (k : κ) (v:V):List (κ × V) :=
 if (kvs.any fun kv=>decide (kv.1=k))=true then kvs.map (fun kv=>if kv.1=k then (kv.1,v) else kv) else kvs ++ [(k,v)]
theorem vz {k : κ}:cA ([]:List (κ × V)) k=none:=rfl
theorem fq {p : κ × V}{r:List (κ × V)}{k : κ} (e:p.1=k):cA (p :: r) k=some p.2:=by simp[cA,eC,e]
theorem ft {p : κ × V}{r:List (κ × V)}{k : κ} (e:¬ p.1=k):cA (p :: r) k=cA r k:=by simp[cA,eC,e]
theorem jT (k : κ):∀ kvs:List (κ × V),(kvs.any fun kv=>decide (kv.1=k))=(cA kvs k).isSome
 | []=>rfl
 | p :: r=>by
  rw[i6]
  by_cases e:p.1=k
  ·simp only[fq e,decide_eq_true e,Bool.true_or,Option.isSome_some]
  ·rw[ft e,decide_eq_false e,Bool.false_or];exact jT k r
theorem EG (k j : κ) (y:V):∀ kvs:List (κ × V),cA (kvs.map fun kv=>if kv.1=k then (kv.1,y) else kv) j=(cA kvs j).map fun x=>if j=k then y else x
 | []=>rfl
 | p :: r=>by
  have ih:=EG k j y r
  rw[aJ]
  by_cases h:p.1=k
  ·rw[if_pos h]
   by_cases e:p.1=j
   ·rw[fq (p:=(p.1,y)) e,fq e,l7,if_pos (e.symm.trans h)]
   ·rw[ft (p:=(p.1,y)) e,ft e,ih]
  ·rw[if_neg h]
   by_cases e:p.1=j
   ·rw[fq (p:=p) e,fq e,l7,if_neg (fun z=>h (e.trans z))]
   ·rw[ft (p:=p) e,ft e,ih]
theorem tq (k j : κ) (y:V):∀ kvs:List (κ × V),cA kvs k=none->cA (kvs ++ [(k,y)]) j=if j=k then some y else cA kvs j
 | [],_=>by
  by_cases e:k=j
  ·rw[if_pos e.symm];exact fq (p:=(k,y)) e
  ·rw[if_neg (fun z=>e z.symm)];exact ft (p:=(k,y)) e
 | p :: r,hn=>by
  rw[cU]
  have hk:¬ p.1=k:=fun z=>by rw[fq z]at hn;cases hn
  rw[ft hk]at hn
  have ih:=tq k j y r hn
  by_cases e:p.1=j
  ·rw[fq e,fq e,if_neg (fun z=>hk (e.trans z))]
  ·rw[ft e,ft e,ih]
theorem rP (kvs:List (κ × V)) (k j : κ) (y:V):cA (fw kvs k y) j=if j=k then some y else cA kvs j:=by
 unfold fw
 by_cases a:(kvs.any fun kv=>decide (kv.1=k))=true
 ·rw[if_pos a,EG]
  rw[jT]at a
  by_cases e:j=k
  ·obtain⟨x,hx⟩:=d6.mp a
   rw[if_pos e,e,hx,l7,if_pos rfl]
  ·rw[if_neg e]
   cases cA kvs j with
   | none=>rfl
   | some x=>rw[l7,if_neg e]
 ·rw[if_neg a]
  refine tq k j y kvs ?_
  rw[jT]at a
  cases q:cA kvs k with
  | none=>rfl
  | some x=>rw[q]at a;exact(a rfl).elim
theorem qm (kvs:List (κ × V)) (k : κ) (v:V):(fw kvs k v).length<=kvs.length+1:=by
 unfold fw
 split
 ·rw[aj];omega
 ·rw[au,bB,jP];omega
theorem vJ {kvs:List (κ × V)}{k : κ} (v:V) (h:cA kvs k=none):fw kvs k v=kvs ++ [(k,v)]:=by
 unfold fw
 rw[jT,h]
 exact if_neg (by decide)
theorem kU.mz {o:Option V}{u:Option Value} (r:kU o u):o.isSome=u.isSome:=by
 cases o with
 | none=>cases u with
  | none=>rfl
  | some _=>exact(show False from r).elim
 | some _=>cases u with
  | none=>exact(show False from r).elim
  | some _=>rfl
theorem kU.getD {o:Option V}{u:Option Value}{d:V} {d':Value} (r:kU o u) (rd:RelV d d'):RelV (o.getD d) (u.getD d'):=by
 cases o with
 | none=>cases u with
  | none=>exact rd
  | some _=>exact(show False from r).elim
 | some _=>cases u with
  | none=>exact(show False from r).elim
  | some _=>exact r
theorem KV.val {kvs:List (κ × V)}{vs:List (κ × Value)} (r:KV kvs vs) (k : κ):kU (cA kvs k) (valueAt vs k):=by
 unfold KV at r
 induction r with
 | nil=>exact fg
 | @cons p q ps qs h t ih =>
  obtain⟨h1,h2⟩:=h
  by_cases e:p.1=k
  ·have e':q.1=k:=h1.symm.trans e
   have b:valueAt (q :: qs) k=some q.2:=by simp[valueAt,eC,e']
   rw[fq e,b];exact h2
  ·have e':¬ q.1=k:=fun z=>e (h1.trans z)
   have b:valueAt (q :: qs) k=valueAt qs k:=by simp[valueAt,eC,e']
   rw[ft e,b];exact ih
theorem KV.any {kvs:List (κ × V)}{vs:List (κ × Value)} (r:KV kvs vs) (k : κ):(kvs.any fun kv=>decide (kv.1=k))=vs.any fun kv=>decide (kv.1=k):=by
 unfold KV at r
 induction r with
 | nil=>rfl
 | cons h t ih=>rw[i6,i6,ih,h.1]
theorem KV.Fh {kvs:List (κ × V)}{vs:List (κ × Value)} (r:KV kvs vs) (k : κ) {y:V}{u:Value} (ry:RelV y u) :
  KV (kvs.map fun kv=>if kv.1=k then (kv.1,y) else kv) (vs.map fun kv=>if kv.1=k then (kv.1,u) else kv):=by
 unfold KV at r ⊢
 induction r with
 | nil=>exact .nil
 | @cons p q ps qs h t ih =>
  rw[aJ,aJ]
  refine .cons ?_ ih
  obtain⟨h1,h2⟩:=h
  by_cases e:p.1=k
  ·rw[if_pos e,if_pos (h1.symm.trans e)];exact⟨h1,ry⟩
  ·rw[if_neg e,if_neg (fun z=>e (h1.trans z))];exact⟨h1,h2⟩
theorem KV.put {kvs:List (κ × V)}{vs:List (κ × Value)} (r:KV kvs vs) (k : κ) {y:V}{u:Value} (ry:RelV y u):KV (fw kvs k y) (stored vs k u):=by
 unfold fw stored
 rw[r.any k]
 by_cases e:(vs.any fun kv=>decide (kv.1=k))=true
 ·rw[if_pos e,if_pos e];exact r.Fh k ry
 ·rw[if_neg e,if_neg e];exact lK r ⟨rfl,ry⟩
theorem KV.keys {kvs:List (κ × V)}{vs:List (κ × Value)} (r:KV kvs vs):kvs.map (·.1)=vs.map (·.1):=by
 unfold KV at r
 induction r with
 | nil=>rfl
 | cons h t ih=>rw[aJ,aJ,ih,h.1]
theorem KV.length {kvs:List (κ × V)}{vs:List (κ × Value)} (r:KV kvs vs):kvs.length=vs.length:=bJ r
end
theorem vS {P:Program}{w:World}{k:Key}{u:Value} (r:RelV (kV k) u):(dg P w).is k u=true:=by
 cases k with
 | inl i=>obtain⟨t,e⟩:=(show ∃ t,u=ow i t from r);subst e;exact Hy P w i t
 | inr x=>obtain⟨t,e⟩:=(show ∃ t,u=qN x t from r);subst e;exact Hx P w x t
theorem DH {P:Program}{w:World}:∀ {ks:List Key}{us:List Value},Vals (ks.map kV) us->ItemsAre (dg P w) ks us
 | [],_,r=>by rw[du]at r;cases r;exact .nil
 | k :: ks,_,r=>by
  rw[aJ]at r
  cases r with
  | cons h t=>exact .cons (vS h) (DH t)
abbrev KT (H:Hp):List (List Key × V)->List (List Key × Addr × Value)->Prop:=Paired fun p q=>p.1=q.1∧H q.2.1=some (.tup (p.1.map kV))∧RelV p.2 q.2.2
theorem KT.val {H:Hp}{kvs:List (List Key × V)}{xs:List (List Key × Addr × Value)} (r:KT H kvs xs) (k:List Key):kU (cA kvs k) ((atKey xs k).map (·.2)):=by
 induction r with
 | nil=>exact fg
 | @cons p q ps qs h t ih =>
  obtain⟨h1,_,h2⟩:=h
  by_cases e:p.1=k
  ·have e':q.1=k:=h1.symm.trans e
   have b:atKey (q :: qs) k=some q.2:=by simp[atKey,eC,e']
   rw[fq e,b];exact h2
  ·have e':¬ q.1=k:=fun z=>e (h1.trans z)
   have b:atKey (q :: qs) k=atKey qs k:=by simp[atKey,eC,e']
   rw[ft e,b];exact ih
theorem KT.Fh {H:Hp}{kvs:List (List Key × V)}{xs:List (List Key × Addr × Value)} (r:KT H kvs xs) (k:List Key) {y:V}{u:Value} (ry:RelV y u) :
  KT H (kvs.map fun kv=>if kv.1=k then (kv.1,y) else kv) (xs.map (putAt k u)):=by
 induction r with
 | nil=>exact .nil
 | @cons p q ps qs h t ih =>
  rw[aJ,aJ]
  refine .cons ?_ ih
  obtain⟨h1,h2,h3⟩:=h
  unfold putAt
  by_cases e:p.1=k
  ·rw[if_pos e,if_pos (h1.symm.trans e)];exact⟨h1,h2,ry⟩
  ·rw[if_neg e,if_neg (fun z=>e (h1.trans z))];exact⟨h1,h2,h3⟩
theorem KT.put {H:Hp}{kvs:List (List Key × V)}{xs:List (List Key × Addr × Value)} (r:KT H kvs xs) (k:List Key) {b:Addr}{y:V}{u:Value} (hb:H b=some (.tup (k.map kV))) (ry:RelV y u) :
  KT H (fw kvs k y) (storedH xs k b u):=by
 have e:(kvs.any fun kv=>decide (kv.1=k))=(atKey xs k).isSome:=by
  rw[jT,(r.val k).mz,j4]
 unfold fw storedH
 rw[e]
 by_cases q:(atKey xs k).isSome=true
 ·rw[if_pos q,if_pos q];exact r.Fh k ry
 ·rw[if_neg q,if_neg q];exact lK r ⟨rfl,hb,ry⟩
theorem KT.keeps {H H':Hp}{kvs:List (List Key × V)}{xs:List (List Key × Addr × Value)} (r:KT H kvs xs) (ht:∀ b ys,H b=some (.tup ys)->H' b=some (.tup ys)):KT H' kvs xs :=
 Paired.ug r fun _ _ z=>⟨z.1,ht _ _ z.2.1,z.2.2⟩
section
variable {P:Program}{w:World}{H:Hp}{h:Heap}{a:Addr}
theorem QN {u:HO} (ok:ir P w H h) (e:Rd H a u):cR P w H h a u:=e.ok ok
theorem tO {kvs:List (Key × V)} (ok:ir P w H h) (e:Rd H a (.dK kvs)):kvs.length<=sizeLine∧(a == sysModules)=false∧∃ vs,KV kvs vs∧h.DictOf (dg P w) a vs :=
 show cR P w H h a (.dK kvs) from QN ok e
theorem Ll {kvs:List (Key × V)} (ok:ir P w H h) (e:H a=some (.dK kvs)):kvs.length<=sizeLine∧(a == sysModules)=false∧∃ vs,KV kvs vs∧h.DictOf (dg P w) a vs:=tO ok (.inl e)
theorem uN {ks:List Key} (ok:ir P w H h) (e:H a=some (.tup (ks.map kV))):(tupleKind (dg P w)).is h ks a:=by
 obtain⟨_,its,r,o,h1,h2,n,h3,_⟩:=(show cR P w H h a (.tup (ks.map kV)) from ok a _ e)
 exact⟨o,its.toArray,n,h1,h2,h3,by simpa using DH r⟩
theorem zg {kvs:List (List Key × V)} (ok:ir P w H h) (e:Rd H a (.dT kvs)):kvs.length<=sizeLine∧(a == sysModules)=false ∧
  ∃ xs,KT H kvs xs∧h.DictOfH (tupleKind (dg P w)) a xs:=by
 obtain⟨z,y,xs,r,o,es,ep,h1,h2,h3,h4,h5⟩:=(show cR P w H h a (.dT kvs) from QN ok e)
 refine⟨z,y,xs,r,o,es,ep,h1,h2,h3,h4,fun x hx => ?_,h5⟩
 have all:∀ {l:List (List Key × V)}{m:List (List Key × Addr × Value)},KT H l m->∀ x∈m,(tupleKind (dg P w)).is h x.1 x.2.1:=by
  intro l m q
  induction q with
  | nil=>intro x hx;exact nomatch hx
  | @cons p q ps qs hq t ih =>
   intro x hx
   rcases aN.mp hx with e | hx
   ·subst e
    exact uN ok (by rw[<- hq.1];exact hq.2.1)
   ·exact ih x hx
 exact all r x hx
theorem XY {kvs:List (List Key × V)} (ok:ir P w H h) (e:H a=some (.dT kvs)):kvs.length<=sizeLine∧(a == sysModules)=false ∧
  ∃ xs,KT H kvs xs∧h.DictOfH (tupleKind (dg P w)) a xs:=zg ok (.inl e)
end
def nZ (H:Hp) (a:Addr) (y:V) (r:Option V):Prop :=
 (∃ kvs k,Rd H a (.dK kvs)∧y=kV k∧r=cA kvs k)∨∃ kvs k b,Rd H a (.dT kvs)∧y = .ref b∧H b=some (.tup (k.map kV))∧r=cA kvs k
def AN (H:Hp) (a:Addr) (y v:V) (H':Hp):Prop :=
 (∃ kvs k,H a=some (.dK kvs)∧y=kV k∧kvs.length < sizeLine∧H'=aG H a (.dK (fw kvs k v))) ∨
 ∃ kvs k b,H a=some (.dT kvs)∧y = .ref b∧H b=some (.tup (k.map kV))∧kvs.length < sizeLine∧H'=aG H a (.dT (fw kvs k v))
theorem nZ.k {H:Hp}{a:Addr}{kvs:List (Key × V)}{k:Key} (e:H a=some (.dK kvs)):nZ H a (kV k) (cA kvs k) := .inl ⟨kvs,k,.inl e,rfl,rfl⟩
theorem AN.k {H:Hp}{a:Addr}{kvs:List (Key × V)}{k:Key}{v:V} (e:H a=some (.dK kvs)) (hl:kvs.length < sizeLine):AN H a (kV k) v (aG H a (.dK (fw kvs k v))) := .inl ⟨kvs,k,e,rfl,hl,rfl⟩
section
variable {X:Cx}{ae:List (Addr × Obj)}{σ : St}{H:Hp}{s:Shared}{a:Addr}{y v:V}{u r:Value}{o:Option V}{A:Around}{E:Value->Shared->Prop}
theorem Inv.big (I:Inv X ae σ H s):sysModules < s.heap.objs.size:=by
 have h:mainGlobals < s.heap.objs.size:=(I.mod.glob.keeps I.bk).lt
 exact Nat.lt_trans (by decide) h
theorem NM {Q:Value->Shared->Prop} (hu:A.units+1 < cLine) (I:Inv X ae σ H s) (g:nZ H a y (some v)) (ry:RelV y u) (h:∀ w' s',Inv X ae σ H s'->RelV v w'->Q w' s') :
  wpAny (model X.prog X.w) A (getItem (.ref a) u) Q E s:=by
 rcases g with⟨kvs,k,e,ey,l⟩ | ⟨kvs,k,b,e,ey,eb,l⟩
 ·subst ey
  obtain⟨z,hd,vs,dM,dd⟩:=tO I.bw e
  obtain⟨w',hw,mY⟩:=kU.some_of (v:=v) (o:=valueAt vs k) (by rw[l];exact dM.val k)
  exact wpAny_getItem_of (vS ry) dd.mapOf hw (h w' _ (I.tok _) mY)
 ·subst ey
  cases (show u=bf b from ry)
  obtain⟨z,hd,xs,dM,dd⟩:=zg I.bw e
  obtain⟨w',hw,mY⟩:=kU.some_of (v:=v) (o:=(atKey xs k).map (·.2)) (by rw[l];exact dM.val k)
  obtain⟨p,hp,Bn⟩:=bS.mp hw
  refine wpAny_getItem_heap (tupleKind_room_in1 hu) (uN I.bw eb) dd hp ?_
  rw[Bn]
  exact h w' _ (I.tok _) mY
theorem abz {Q:Value->Shared->Prop} (hu:A.units+1 < cLine) (I:Inv X ae σ H s) (g:nZ H a y o) (ry:RelV y u) (h:∀ s',Inv X ae σ H s'->Q (.bool o.isSome) s') :
  wpAny (model X.prog X.w) A (compareOp .In u (.ref a)) Q E s:=by
 rcases g with⟨kvs,k,e,ey,l⟩ | ⟨kvs,k,b,e,ey,eb,l⟩
 ·subst ey
  obtain⟨z,hd,vs,dM,dd⟩:=tO I.bw e
  refine wpAny_in_of (vS ry) hd dd.mapOf ?_
  rw[<- (dM.val k).mz, <- l]
  exact h _ (I.tok _)
 ·subst ey
  cases (show u=bf b from ry)
  obtain⟨z,hd,xs,dM,dd⟩:=zg I.bw e
  refine wpAny_in_heap (tupleKind_room_in1 hu) (uN I.bw eb) hd dd ?_
  have q:=(dM.val k).mz
  rw[j4]at q
  rw[<- q, <- l]
  exact h _ (I.tok _)
theorem Tf {Q:Value->Shared->Prop} (hu:A.units+1 < cLine) (I:Inv X ae σ H s) (g:nZ H a y o) (ry:RelV y u) (h:∀ s',Inv X ae σ H s'->Q (.bool (!o.isSome)) s') :
  wpAny (model X.prog X.w) A (compareOp .NotIn u (.ref a)) Q E s:=by
 rcases g with⟨kvs,k,e,ey,l⟩ | ⟨kvs,k,b,e,ey,eb,l⟩
 ·subst ey
  obtain⟨z,hd,vs,dM,dd⟩:=tO I.bw e
  refine wpAny_notIn_of (vS ry) hd dd.mapOf ?_
  rw[<- (dM.val k).mz, <- l]
  exact h _ (I.tok _)
 ·subst ey
  cases (show u=bf b from ry)
  obtain⟨z,hd,xs,dM,dd⟩:=zg I.bw e
  refine wpAny_notIn_heap (tupleKind_room_in1 hu) (uN I.bw eb) hd dd ?_
  have q:=(dM.val k).mz
  rw[j4]at q
  rw[<- q, <- l]
  exact h _ (I.tok _)
theorem u6 {h':Heap} {t':Nat}{ob:HO} (I:Inv X ae σ H s) (mu:Od (H a)) (hs:cQ a s.heap h') (he:∃ q,h'.get? a=some q) (new:cR X.prog X.w (aG H a ob) h' a ob) :
  Inv X ae σ (aG H a ob) { s with heap:=h',toks:=t' } :=
 I.write (x:=a) (e:=a) mu (.inl rfl) (fun b q hb z=>(hs.2 b hb).trans z) he new
theorem NI {P:Program}{w:World} {H':Hp} {h':Heap}{kvs:List (Key × V)}{vs:List (Key × Value)} (z:kvs.length<=sizeLine) (hd:(a == sysModules)=false) (dM:KV kvs vs) (dd:h'.DictOf (dg P w) a vs) :
  cR P w H' h' a (.dK kvs):=⟨z,hd,vs,dM,dd⟩
theorem NL {H':Hp}{Q:Unit->Shared->Prop} (hu:A.units+1 < cLine) (I:Inv X ae σ H s) (g:AN H a y v H') (ry:RelV y u) (rv:RelV v r) (h:∀ s',Inv X ae σ H' s'->Q () s') :
  wpAny (model X.prog X.w) A (setItem (.ref a) u r) Q E s:=by
 rcases g with⟨kvs,k,e,ey,l,eH⟩ | ⟨kvs,k,b,e,ey,eb,l,eH⟩
 ·subst ey eH
  obtain⟨z,hd,vs,dM,dd⟩:=Ll I.bw e
  have hz:vs.length<=sizeLine:=by rw[<- dM.length];exact z
  have hl:(fw kvs k v).length<=sizeLine:=by have:=qm kvs k v;omega
  refine wpAny_setItem_pairs (hsz:=hz) (vS ry) dd fun h' u5 hs=>h _ ?_
  have he:∃ q,h'.get? a=some q:=let ⟨q,_,_,hq,_⟩:=u5; ⟨q,hq⟩
  exact u6 I (by rw[e];exact fg) hs he (NI hl hd (dM.put k rv) u5)
 ·subst ey eH
  cases (show u=bf b from ry)
  obtain⟨z,hd,xs,dM,dd⟩:=XY I.bw e
  have hz:xs.length<=sizeLine:=by rw[<- bJ dM];exact z
  have hl:(fw kvs k v).length<=sizeLine:=by have:=qm kvs k v;omega
  refine wpAny_setItem_heap (hsz:=hz) (tupleKind_room_in1 hu) (uN I.bw eb) dd fun h' u5 hs=>h _ ?_
  obtain⟨q,es,ep,hq,h2,h3,h4,_,h5⟩:=u5
  refine u6 I (by rw[e];exact fg) hs ⟨q,hq⟩ ⟨hl,hd,_,(dM.put k eb rv).keeps fun c ys ec => ?_,q,es,ep,hq,h2,h3,h4,h5⟩
  rw[aD (cX ec e (fun z=>nomatch z))]
  exact ec
end
section
variable {X:Cx}{ae:List (Addr × Obj)}{σ : St}{H:Hp}{s:Shared}{a:Addr}{kvs:List (Key × V)}{k:Key}{u:Value}{A:Around}{E:Value->Shared->Prop}
theorem XZ {Q:Value->Shared->Prop} (I:Inv X ae σ H s) (e:Rd H a (.dK kvs)) (h:∀ t s',Inv X ae σ H s'->Q (.int kvs.length t) s'):wpAny (model X.prog X.w) A (call (.builtin "len") [.ref a]) Q E s:=by
 obtain⟨z,hd,vs,dM,dd⟩:=tO I.bw e
 refine call_len_dict hd dd (by rw[<- dM.length];rw[sizeLine_eq]at z;omega) ?_
 rw[<- dM.length]
 exact h _ _ (I.tok _)
end
def Xa (i:Expr):Prop := ∀ ov iv,subscripted i false ov iv=operate [ov,iv] (getItem ov iv)
theorem HS {prog:Program}{w:World}{A:Around}{E:Value->Shared->Prop}{s:Shared}{env:Env}{value slice:Expr}{pos:Pos}{T id:String}{Q:Value->Shared->Prop}
  (hl:typeLookup (.type T) "__getitem__" = pure (some (.builtin id))) (hs:Xa slice)
  (h:wpAny (model prog w) A (eval value env) (fun o dQ => wpAny (model prog w) A (eval slice env) (fun i nO => nO.TypeIs o T∧wpAny (model prog w) A (getItem o i) Q E nO) E dQ) E s) :
  wpAny (model prog w) A (eval (.Subscript value slice pos) env) Q E s:=by
 refine Subscript_ (wpAny_mono h (fun o dQ jh => wpAny_mono jh (fun i nO Am => ?_) fun _ _ x=>x) fun _ _ x=>x)
 obtain⟨hT,Am⟩:=Am
 unfold subscriptTail
 refine wpAny_bind ?_
 rw[getitemInPython_of_ne hT.not_modules]
 refine wpAny_bind (wpAny_specialOf hT hl ?_)
 have fin:wpAny (model prog w) A (subscripted slice false o i) (fun r m9 => wpAny (model prog w) A (letTemporaryGo value o r >>= fun _=>pure r) Q E m9) E nO := by
  rw[hs o i]
  exact wpAny_operating (wpAny_mono Am (fun r m9 FU => wpAny_bind (wpAny_letTemporaryGo (wpAny_pure FU))) fun _ _ x=>x)
 first
  | exact wpAny_pure (wpAny_bind fin)
  | exact wpAny_bind (wpAny_pure (wpAny_bind fin))
  | exact wpAny_bind fin
theorem Hz {X:Cx}{ae:List (Addr × Obj)}{σ : St}{H:Hp}{s:Shared}{a:Addr}{y:V}{o:Option V} (I:Inv X ae σ H s) (g:nZ H a y o):s.TypeIs (.ref a) "dict" := by
 rcases g with⟨kvs,k,e,_,_⟩ | ⟨kvs,k,b,e,_,_,_⟩
 ·obtain⟨_,_,vs,_,dd⟩:=tO I.bw e
  exact dd.typeIs
 ·obtain⟨_,_,xs,_,dd⟩:=zg I.bw e
  exact dd.typeIs
inductive JR (Q:VK) (x:V) (y:V) (H2:Hp):Prop
 | mk:∀ a v,(x = .ref a)->(nZ H2 a y (some v))->(Q v H2)->JR Q x y H2
def Xo (td ty:TE):TE:=fun σ H Q=>td σ H fun x H1=>ty σ H1 fun y H2=>JR Q x y H2
inductive Oe (Q:VK) (y:V) (x:V) (H2:Hp):Prop
 | mk:∀ a o,(x = .ref a)->(nZ H2 a y o)->(Q (.bl o.isSome) H2)->Oe Q y x H2
def aap (ty td:TE):TE:=fun σ H Q=>ty σ H fun y H1=>td σ H1 fun x H2=>Oe Q y x H2
inductive Ed (Q:VK) (y:V) (x:V) (H2:Hp):Prop
 | mk:∀ a o,(x = .ref a)->(nZ H2 a y o)->(Q (.bl (!o.isSome)) H2)->Ed Q y x H2
def Sg (ty td:TE):TE:=fun σ H Q=>ty σ H fun y H1=>td σ H1 fun x H2=>Ed Q y x H2
inductive JT (D:Ends) (σ : St) (v:V) (x:V) (y:V) (H3:Hp):Prop
 | mk:∀ a H4,(x = .ref a)->(AN H3 a y v H4)->(D.nx σ H4)->JT D σ v x y H3
def Xr (td ty tv:TE):TS:=fun D σ H=>tv σ H fun v H1=>td σ H1 fun x H2=>ty σ H2 fun y H3=>JT D σ v x y H3
section
variable {X:Cx}{o i e value:Expr}{pos eI aah:Pos}{td ty tv:TE}
theorem y6 (hu:X.A.units+1 < cLine) (ho:PE X o td) (hi:PE X i ty) (hs:Xa i):PE X (.Subscript o i pos) (Xo td ty):=by
 intro ae s σ H Q I h
 refine HS PySem.F.slot_dict_getitem.lookup hs (bW (ho ae s σ H _ I h) fun u s1 ⟨x,H1,I1,rx,q1⟩=>bW (hi ae s1 σ H1 _ I1 q1) fun iv s2 ⟨y,H2,I2,ry,a,v,ex,g,q2⟩ => ?_)
 subst ex
 obtain rfl:u=bf a:=rx
 exact⟨Hz I2 g,NM hu I2 g ry fun w' s3 I3 mY=>⟨v,H2,I3,mY,q2⟩⟩
theorem Uo (hu:X.A.units+1 < cLine) (hi:PE X i ty) (ho:PE X o td):PC X .In i o (aap ty td):=by
 intro ae s σ H Q I h
 refine bW (hi ae s σ H _ I h) fun iv s1 ⟨y,H1,I1,ry,q1⟩=>bW (ho ae s1 σ H1 _ I1 q1) fun u s2 ⟨x,H2,I2,rx,a,ov,ex,g,q2⟩ => ?_
 subst ex
 obtain rfl:u=bf a:=rx
 exact abz hu I2 g ry fun s3 I3=>⟨.bl ov.isSome,H2,I3,rfl,q2⟩
theorem Ml (hu:X.A.units+1 < cLine) (hi:PE X i ty) (ho:PE X o td):PC X .NotIn i o (Sg ty td):=by
 intro ae s σ H Q I h
 refine bW (hi ae s σ H _ I h) fun iv s1 ⟨y,H1,I1,ry,q1⟩=>bW (ho ae s1 σ H1 _ I1 q1) fun u s2 ⟨x,H2,I2,rx,a,ov,ex,g,q2⟩ => ?_
 subst ex
 obtain rfl:u=bf a:=rx
 exact Tf hu I2 g ry fun s3 I3=>⟨.bl (!ov.isSome),H2,I3,rfl,q2⟩
theorem CC (hu:X.A.units+1 < cLine) (ho:PE X o td) (hi:PE X i ty) (hv:PE X value tv) (hs:swapsWith value (some (.Subscript o i eI)) pos.line X.env=pure false) :
  PS X (.Assign [.Subscript o i eI] value pos) (Xr td ty tv):=by
 intro ae s σ H D I h
 refine wpAny_Assign_Subscript (bW (hv ae s σ H _ I h) fun r s1 ⟨v,H1,I1,rv,q1⟩=>bW (ho ae s1 σ H1 _ I1 q1) fun u s2 ⟨x,H2,I2,rx,q2⟩=>bW (hi ae s2 σ H2 _ I2 q2) fun iv s3 ⟨y,H3,I3,ry,a,H4,ex,g,q3⟩ => ?_) hs
 subst ex
 obtain rfl:u=bf a:=rx
 exact NL hu I3 g ry rv fun s4 I4=>⟨σ,H4,I4,q3⟩
end
theorem Qa {P:Program}{w:World}{H:Hp} (h:Heap) (hb:sysModules < h.objs.size):cR P w H (h.push { cls := .type "dict",data := .dict #[] }) h.objs.size (.dK []) :=
 ⟨aS _,beq_eq_false_iff_ne.mpr (dh (bP hb)), [],.nil,Heap.DictOf.new h⟩
def TU:TE:=fun _ H Q=>∀ p,H p=none->Q (.ref p) (aG H p (.dK []))
section
variable {X:Cx}{pos:Pos}
theorem vM:PE X (.Dict [] [] pos) TU:=fun ae s σ H Q I h =>
 wpAny_Dict_empty ⟨.ref s.heap.objs.size,_,I.laid (a:=s.heap.objs.size) (o := .dK []) (t':=s.toks) (fun _ _ q=>aA _ q) (ao _) (Qa s.heap I.big),rfl,h _ (I.bw.fresh (ao _))⟩
end
structure M1 (X:Cx) (o:Expr) (m:Str) (fI:Pos) (e:Expr) (eT:Pos):Prop where
 base:attributeBase o m X.env (eval o X.env)=eval o X.env
 jZ:((backTo eT (starEach [e] X.env)).all (fun x => !x.1) && (backToKw eT (keywordEach [] X.env)).all (fun x=>x.1.isSome)
  && decide (([e]:List Expr).length+([]:List Keyword).length+(if ([]:List Keyword).isEmpty then 0 else 1) < 30))=true
 line:(fI.endLine == eT.line)=true
 trees:backTo eT (starEach [e] X.env) = [(false,eval e X.env)]
structure M2 (X:Cx) (o:Expr) (m:Str) (fI:Pos) (e f:Expr) (eT:Pos):Prop where
 base:attributeBase o m X.env (eval o X.env)=eval o X.env
 jZ:((backTo eT (starEach [e,f] X.env)).all (fun x => !x.1) && (backToKw eT (keywordEach [] X.env)).all (fun x=>x.1.isSome)
  && decide (([e,f]:List Expr).length+([]:List Keyword).length+(if ([]:List Keyword).isEmpty then 0 else 1) < 30))=true
 line:(fI.endLine == eT.line)=true
 trees:backTo eT (starEach [e,f] X.env) = [(false,eval e X.env),(false,eval f X.env)]
def Z0 (H:Hp) (a:Addr):Prop:=(∃ kvs,Rd H a (.dK kvs))∨∃ kvs,Rd H a (.dT kvs)
theorem UQ {X:Cx}{ae:List (Addr × Obj)}{σ : St}{H:Hp}{s:Shared}{a:Addr} (I:Inv X ae σ H s) (d:Z0 H a) :
  s.TypeIs (.ref a) "dict" ∧ (∀ b,bf a = .ref b->∃ ob,s.heap.get? b=some ob∧ob.dict=none)∧(a == sysModules)=false:=by
 rcases d with⟨kvs,e⟩ | ⟨kvs,e⟩
 ·obtain⟨_,hd,vs,_,dd⟩:=tO I.bw e
  refine⟨dd.typeIs,fun b q => ?_,hd⟩
  cases q
  obtain⟨ob,_,_,h1,h2,_⟩:=dd
  exact⟨ob,h1,h2.2.1⟩
 ·obtain⟨_,hd,xs,_,dd⟩:=zg I.bw e
  refine⟨dd.typeIs,fun b q => ?_,hd⟩
  cases q
  obtain⟨ob,_,_,h1,h2,_⟩:=dd
  exact⟨ob,h1,h2.2.1⟩
section
variable {X:Cx}{ae:List (Addr × Obj)}{σ : St}{H:Hp}{s:Shared}{a:Addr}{y d:V}{u r:Value}{o:Option V}{A:Around}{E:Value->Shared->Prop}
end
section
variable {X:Cx}{o e f:Expr}{fI eT:Pos}{td ty tx:TE}
end
section
variable {X:Cx}{ae:List (Addr × Obj)}{σ : St}{H:Hp}{s:Shared}{a:Addr}{kvs:List (Key × V)}{A:Around}{E:Value->Shared->Prop}
end
section
variable {X:Cx}{ae:List (Addr × Obj)}{σ : St}{H:Hp}{s:Shared}{a:Addr}{y:V}{u:Value}{A:Around}{E:Value->Shared->Prop}
end
abbrev NK:=List (Sum Key (List Key))
def kD:Key->D
 | .inl i => .int i
 | .inr x => .str x
def iD:Sum Key (List Key)->D
 | .inl k=>kD k
 | .inr l => .tup (l.map kD)
def DC (k:NK):D := .tup (k.map iD)
theorem MU {a b:Key} (e:kD a=kD b):a=b:=by
 cases a with
 | inl i=>cases b with
  | inl j=>have e':D.int i=D.int j:=e;injection e' with e';rw[e']
  | inr y=>exact nomatch (show D.int i=D.str y from e)
 | inr x=>cases b with
  | inl j=>exact nomatch (show D.str x=D.int j from e)
  | inr y=>have e':D.str x=D.str y:=e;injection e' with e';rw[e']
theorem oN {α β : Type}{f : α -> β} (hf:∀ a b,f a=f b->a=b):∀ {x y:List α},x.map f=y.map f->x=y
 | [], [],_=>rfl
 | [],_ :: _,e=>by simp at e
 | _ :: _, [],e=>by simp at e
 | a :: xs,b :: ys,e=>by
  rw[aJ,aJ]at e
  injection e with e1 e2
  rw[hf _ _ e1,oN hf e2]
theorem UT {a b:Sum Key (List Key)} (e:iD a=iD b):a=b:=by
 cases a with
 | inl i=>cases b with
  | inl j=>rw[MU e]
  | inr y=>cases i <;> exact nomatch e
 | inr x=>cases b with
  | inl j=>cases j <;> exact nomatch e
  | inr y =>
   have e':D.tup (x.map kD)=D.tup (y.map kD):=e
   injection e' with e'
   rw[oN (fun _ _=>MU) e']
theorem SR {a b:NK} (e:DC a=DC b):a=b:=by
 have e':D.tup (a.map iD)=D.tup (b.map iD):=e
 injection e' with e'
 exact oN (fun _ _=>UT) e'
section
variable (P:Program) (w:World)
def eR (h:Heap):NK->List Value->Prop
 | [],us=>us = []
 | .inl k :: ks,us=>∃ u cE,us=u :: cE∧(dg P w).is k u=true∧eR h ks cE
 | .inr l :: ks,us=>∃ b cE,us=bf b :: cE∧IsTupleKey (dg P w) h l b∧eR h ks cE
def pj (h:Heap) (k:NK) (a:Addr):Prop := ∃ us:List Value,IsTup h a us.toArray∧eR P w h k us
def qo:Sum Key (List Key)->Int
 | .inl k=>(dg P w).hash k
 | .inr l=>tupleKeyHash (dg P w) l
def uP:Sum Key (List Key)->Nat
 | .inl _=>1
 | .inr l=>l.length+1
def FA (k:NK):Int:=reduceHash (fj (k.map (qo P w)))
def CJ (k:NK):Nat:=(k.map uP).sum+1
end
section
variable {P:Program}{w:World} {h h':Heap}
theorem eR.inj:∀ {x y:NK}{us:List Value},eR P w h x us->eR P w h y us->x=y
 | [], [],us,_,_=>rfl
 | [],.inl k :: ks,us,r,q=>by rw[eR]at r;rw[eR]at q;subst r;obtain⟨_,_,z,_⟩:=q;cases z
 | [],.inr k :: ks,us,r,q=>by rw[eR]at r;rw[eR]at q;subst r;obtain⟨_,_,z,_⟩:=q;cases z
 | .inl k :: ks, [],us,r,q=>by rw[eR]at r;rw[eR]at q;subst q;obtain⟨_,_,z,_⟩:=r;cases z
 | .inr k :: ks, [],us,r,q=>by rw[eR]at r;rw[eR]at q;subst q;obtain⟨_,_,z,_⟩:=r;cases z
 | .inl k :: ks,.inl l :: ls,us,r,q=>by
  rw[eR]at r;rw[eR]at q
  obtain⟨u,cE,rfl,r1,r⟩:=r
  obtain⟨u',Kg,z,q1,q⟩:=q
  cases z
  rw[(dg P w).inj _ _ _ r1 q1,eR.inj r q]
 | .inr k :: ks,.inr l :: ls,us,r,q=>by
  rw[eR]at r;rw[eR]at q
  obtain⟨u,cE,rfl,r1,r⟩:=r
  obtain⟨u',Kg,z,q1,q⟩:=q
  cases z
  rw[r1.inj q1,eR.inj r q]
 | .inl k :: ks,.inr l :: ls,us,r,q=>by
  rw[eR]at r;rw[eR]at q
  obtain⟨u,cE,rfl,r1,r⟩:=r
  obtain⟨u',Kg,z,q1,q⟩:=q
  cases z
  rcases eW r1 with⟨i,t,_,e⟩ | ⟨x,t,_,e⟩ <;> cases e
 | .inr k :: ks,.inl l :: ls,us,r,q=>by
  rw[eR]at r;rw[eR]at q
  obtain⟨u,cE,rfl,r1,r⟩:=r
  obtain⟨u',Kg,z,q1,q⟩:=q
  cases z
  rcases eW q1 with⟨i,t,_,e⟩ | ⟨x,t,_,e⟩ <;> cases e
theorem eR.keeps {d:Addr}{o:Obj} {es ep} (ho:h.get? d=some o) (hd:o.data = .dict es ep) (hs:cQ d h h'):∀ {k:NK}{us:List Value},eR P w h k us->eR P w h' k us
 | [],us,r=>by rw[eR]at r ⊢;exact r
 | .inl k :: ks,us,r=>by
  rw[eR]at r ⊢
  obtain⟨u,cE,e,r1,r⟩:=r
  exact⟨u,cE,e,r1,eR.keeps ho hd hs r⟩
 | .inr k :: ks,us,r=>by
  rw[eR]at r ⊢
  obtain⟨u,cE,e,r1,r⟩:=r
  exact⟨u,cE,e,r1.keeps ho hd hs,eR.keeps ho hd hs r⟩
theorem pj.inj {x y:NK}{a:Addr} (r:pj P w h x a) (q:pj P w h y a):x=y:=by
 obtain⟨us,p,r⟩:=r
 obtain⟨cE,p',q⟩:=q
 have e:us=cE:=by have:=HL p p';simpa using this
 subst e
 exact r.inj q
theorem pj.keeps {k:NK}{a d:Addr}{o:Obj} {es ep} (r:pj P w h k a) (ho:h.get? d=some o) (hd:o.data = .dict es ep) (hs:cQ d h h'):pj P w h' k a:=by
 obtain⟨us,⟨o',e',c',n',d'⟩,r⟩:=r
 have nz:a≠d:=by
  rintro rfl
  rw[ho]at e';cases e'
  rw[hd]at d';cases d'
 exact⟨us,⟨o',(hs.2 a nz).trans e',c',n',d'⟩,r.keeps ho hd hs⟩
theorem FP {k:Key}{u:Value} (r:(dg P w).is k u=true):bU h (kD k) u:=by
 rcases eW r with⟨i,t,rfl,rfl⟩ | ⟨x,t,rfl,rfl⟩
 ·show bU h (.int i) _
  rw[bU];exact .inl ⟨t,rfl⟩
 ·show bU h (.str x) _
  rw[bU];exact⟨t,rfl⟩
theorem KU {ks:List Key}{us:List Value} (r:ItemsAre (dg P w) ks us):dY h (ks.map kD) us:=by
 induction r with
 | nil=>rw[du,dY]
 | cons r1 _ ih=>rw[aJ,dY];exact⟨_,_,rfl,FP r1,ih⟩
theorem eR.C4:∀ {k:NK}{us:List Value},eR P w h k us->dY h (k.map iD) us
 | [],us,r=>by rw[eR]at r;rw[du,dY];exact r
 | .inl k :: ks,us,r=>by
  rw[eR]at r
  obtain⟨u,cE,e,r1,r⟩:=r
  rw[aJ,dY]
  exact⟨u,cE,e,FP r1,eR.C4 r⟩
 | .inr k :: ks,us,r=>by
  rw[eR]at r
  obtain⟨b,cE,e,⟨o,its,n,g,c,d,i⟩,r⟩:=r
  rw[aJ,dY]
  refine⟨_,cE,e,?_,eR.C4 r⟩
  show bU h (.tup (k.map kD)) _
  rw[bU]
  exact⟨b,its.toList,rfl,⟨o,g,c,n,by simpa using d⟩,KU i⟩
theorem pj.C4 {k:NK}{a:Addr} (r:pj P w h k a):bU h (DC k) (.ref a):=by
 obtain⟨us,p,r⟩:=r
 rw[DC,bU]
 exact⟨a,us,rfl,p,r.C4⟩
theorem Ak:∀ l:List Key,D.eJ (l.map kD)=0
 | []=>by rw[du,D.eJ]
 | .inl k :: ks=>by rw[aJ,D.eJ,Ak ks];show max (D.deep (.int k)) 0=0;rw[D.deep];rfl
 | .inr k :: ks=>by rw[aJ,D.eJ,Ak ks];show max (D.deep (.str k)) 0=0;rw[D.deep];rfl
theorem vQ:∀ l:NK,D.eJ (l.map iD)<=1
 | []=>by rw[du,D.eJ];omega
 | .inl (.inl k) :: ks=>by rw[aJ,D.eJ];have:=vQ ks;show max (D.deep (.int k)) _<=1;rw[D.deep];omega
 | .inl (.inr k) :: ks=>by rw[aJ,D.eJ];have:=vQ ks;show max (D.deep (.str k)) _<=1;rw[D.deep];omega
 | .inr l :: ks=>by rw[aJ,D.eJ];have:=vQ ks;show max (D.deep (.tup (l.map kD))) _<=1;rw[D.deep,Ak];omega
theorem SQ (k:NK):(DC k).deep<=2:=by rw[DC,D.deep];have:=vQ k;omega
end
section
variable {P:Program}{w:World}{A:Around}{E:Value->Shared->Prop}{s:Shared}
theorem AS {x y:NK}{a b:Addr}{Q:Bool->Shared->Prop} (hu:A.units+5 < cLine) (hx:pj P w s.heap x a) (hy:pj P w s.heap y b) (h:Q (decide (x=y)) s) :
  wpAny (model P w) A (eqBool (.ref a) (.ref b)) Q E s:=by
 refine NG 2 (SQ x) hx.C4 hy.C4 (by omega) P w E Q ?_
 have e:decide (DC x=DC y)=decide (x=y):=decide_eq_decide.mpr ⟨SR,fun z=>by rw[z]⟩
 rw[e];exact h
theorem Kv {K:Type} [DecidableEq K] {knd:KeyKind P w K} (n:Nat) {ks:List K}{a:Addr}{Q:Bool->Shared->Prop} (hk:IsTupleKey knd s.heap ks a) (h:Q true s):wpAny (model P w) A (eqIsQuiet (n+1) (.ref a)) Q E s:=by
 have hT:=hk.typeIs
 obtain⟨o,dA,m,ho,_,hd,hi⟩:=hk
 unfold eqIsQuiet
 refine wpAny_bind (wpAny_specialOf hT F.slot_tuple_eq.lookup ?_)
 show wpAny _ _ (isInstance (.ref a) (.type "tuple") >>= _) _ _ s
 refine wpAny_bind (wpAny_isInstance hT isSubtype_tuple_tuple ?_)
 simp only[lB,eG,if_false]
 refine wpAny_bind (wpAny_seqItems ho hd ?_)
 refine wpAny_bind ?_
 show wpAny _ _ (forIn dA _ _) _ _ s
 rw[<- qW]
 refine wpAny_forIn_list _ (fun rest r s'=>r.1=none∧s'=s∧∀ v∈rest,carriedByValue v=true) _ ?_ ?_ _ _ ⟨rfl,rfl,hi.byValue⟩
 ·rintro v rest r s' ⟨hr,rfl,lN⟩
  rw[eqIsQuiet_byValue _ (lN v aU)]
  refine wpAny_bind (wpAny_pure ?_)
  simp only[lB,eG,if_false]
  exact wpAny_pure ⟨rfl,rfl,fun u wM=>lN u (aI _ wM)⟩
 ·rintro⟨r1,r2⟩ s' ⟨hr,rfl,_⟩
  simp only at hr
  subst hr
  exact wpAny_pure h
theorem OW {k:NK}{a:Addr}{Q:Bool->Shared->Prop} (hk:pj P w s.heap k a) (h:Q true s):wpAny (model P w) A (eqIsQuiet 8 (.ref a)) Q E s:=by
 obtain⟨us,p,hi⟩:=hk
 have hT:s.TypeIs (.ref a) "tuple" := p.typeIs
 obtain⟨o,ho,_,m,hd⟩:=p
 unfold eqIsQuiet
 refine wpAny_bind (wpAny_specialOf hT F.slot_tuple_eq.lookup ?_)
 show wpAny _ _ (isInstance (.ref a) (.type "tuple") >>= _) _ _ s
 refine wpAny_bind (wpAny_isInstance hT isSubtype_tuple_tuple ?_)
 simp only[lB,eG,if_false]
 refine wpAny_bind (wpAny_seqItems ho hd ?_)
 refine wpAny_bind ?_
 show wpAny _ _ (forIn us.toArray _ _) _ _ s
 rw[<- qW]
 refine wpAny_forIn_list _ (fun rest r s'=>r.1=none∧s'=s∧∃ left,eR P w s.heap left rest) _ ?_ ?_ _ _ ⟨rfl,rfl,k,by simpa using hi⟩
 ·rintro v rest r s' ⟨hr,rfl,left,hl⟩
  cases left with
  | nil=>rw[eR]at hl;cases hl
  | cons i left =>
   cases i with
   | inl k =>
    rw[eR]at hl
    obtain⟨u,cE,e,r1,hl⟩:=hl
    cases e
    rw[eqIsQuiet_byValue _ ((dg P w).byValue _ _ r1)]
    refine wpAny_bind (wpAny_pure ?_)
    simp only[lB,eG,if_false]
    exact wpAny_pure ⟨rfl,rfl,left,hl⟩
   | inr l =>
    rw[eR]at hl
    obtain⟨b,cE,e,r1,hl⟩:=hl
    cases e
    refine wpAny_bind (Kv 6 r1 ?_)
    simp only[lB,eG,if_false]
    exact wpAny_pure ⟨rfl,rfl,left,hl⟩
 ·rintro⟨r1,r2⟩ s' ⟨hr,rfl,_⟩
  simp only at hr
  subst hr
  exact wpAny_pure h
theorem AR {k:NK}{a:Addr}{Q:Int->Shared->Prop} (hu:A.units+5 < cLine) (hk:pj P w s.heap k a) (h:Q (FA P w k) { s with toks:=s.toks+CJ k }) :
  wpAny (model P w) A (pyHash (.ref a)) Q E s:=by
 obtain⟨us,p,hi⟩:=hk
 have hT:s.TypeIs (.ref a) "tuple" := p.typeIs
 obtain⟨o,ho,_,n,hd⟩:=p
 unfold pyHash
 first | unfold pyHashByItsType | skip
 first | refine wpAny_bind (wpAny_cRoomFor_or (.inr (by omega)) ?_) | skip
 refine wpAny_bind (wpAny_specialOf hT nj.lookup ?_)
 show wpAny _ _ (if (some (Value.builtin "tuple.__hash__") == some fJ)=true then _ else _) Q E s
 rw[if_neg (by rw[beq_builtin_none];exact bx)]
 refine wpAny_bind (wpAny_specialOf hT nj.lookup ?_)
 show wpAny _ _ (callSpecialIfBoundUnlessNone? (.ref a) "__hash__" _ >>= _) Q E s
 refine wpAny_bind (wpAny_callSpecialIfBoundUnlessNone?_slot hT nj (wpAny_call_entry nj hT F.entry_tuple_hash ?_ (F.args_tuple_hash_1 _)))
 show wpAny _ _ (Builtin.Tuple.tupleItemsOf (.ref a) >>= _) _ _ s
 refine wpAny_bind (wpAny_tupleItemsOf ho hd ?_)
 refine wpAny_bind ?_
 rw[<- qW]
 refine wpAny_forIn_list _
  (fun rest (b:Array Int) s'=>∃ done left:NK,k=done ++ left∧eR P w s.heap left rest∧b.toList=done.map (qo P w)∧s'={ s with toks:=s.toks+(done.map uP).sum })
  _ ?_ ?_ _ _ ⟨[],k,rfl,by simpa using hi,rfl,rfl⟩
 ·rintro x rest b s' ⟨done,left,rfl,hl,hb,rfl⟩
  cases left with
  | nil=>rw[eR]at hl;cases hl
  | cons i left =>
   cases i with
   | inl k =>
    rw[eR]at hl
    obtain⟨u,cE,e,r1,hl⟩:=hl
    cases e
    refine wpAny_bind ((dg P w).pyHash r1 ?_)
    first
     | exact wpAny_pure ⟨done ++ [.inl k],left,by simp,hl,by simp[hb,qo],by simp[gE,uP]⟩
     | exact wpAny_bind (wpAny_pure (wpAny_pure ⟨done ++ [.inl k],left,by simp,hl,by simp[hb,qo],by simp[gE,uP]⟩))
   | inr l =>
    rw[eR]at hl
    obtain⟨c,cE,e,r1,hl⟩:=hl
    cases e
    refine wpAny_bind (wpAny_pyHash_tuple (by show A.units+1 < cLine;omega) r1 ?_)
    first
     | exact wpAny_pure ⟨done ++ [.inr l],left,by simp,hl,by simp[hb,qo],by simp[gE,uP]⟩
     | exact wpAny_bind (wpAny_pure (wpAny_pure ⟨done ++ [.inr l],left,by simp,hl,by simp[hb,qo],by simp[gE,uP]⟩))
 ·rintro b s' ⟨done,left,rfl,hl,hb,rfl⟩
  have e:left = []:=by
   cases left with
   | nil=>rfl
   | cons i left=>cases i <;> rw[eR]at hl <;> obtain⟨_,_,z,_⟩:=hl <;> cases z
  subst e
  rw[cg]at h
  show wpAny _ _ (retInt (fj b.toList)) _ _ _
  rw[hb]
  refine wpAny_ret_mkInt ?_
  show wpAny _ _ (if (decide (-(2:Int) ^ 63<=fj (done.map (qo P w))) && decide (fj (done.map (qo P w)) < 2 ^ 63))=true then _ else _) Q E _
  unfold FA reduceHash CJ at h
  by_cases hr:(decide (-(2:Int) ^ 63<=fj (done.map (qo P w))) && decide (fj (done.map (qo P w)) < 2 ^ 63))=true
  ·rw[if_pos hr]
   rw[if_pos hr]at h
   exact wpAny_pure (by simpa [gE] using h)
  ·rw[if_neg hr]
   rw[if_neg hr]at h
   exact wpAny_bind (wpAny_rule (wpAny_pure (by simpa [gE] using h)))
end
def qD (P:Program) (w:World):HeapKind P w NK where
 is:=pj P w
 hash:=FA P w
 draws:=CJ
 room:=fun A=>A.units+5 < cLine
 inj:=fun hx hy=>hx.inj hy
 keeps:=fun x ho hd hs=>x.keeps ho hd hs
 pyHash:=fun hu hk h=>AR hu hk h
 eqBool:=fun hu hx hy h=>AS hu hx hy h
 quiet:=fun hk h=>OW hk h
section
variable {prog:Program}{w:World}{K:Type} [DecidableEq K] {knd:HeapKind prog w K}{A:Around}{E:Value->Shared->Prop}{s:Shared}{d a:Addr}{k:K}{xs:List (K × Addr × Value)}
theorem rB {dflt:Value}{Q:Value->Shared->Prop} (hu:knd.room A) (vU:knd.is s.heap k a) (hm:s.heap.DictOfH knd d xs)
  (U5:∀ p,atKey xs k=some p->Q p.2 { s with toks:=s.toks+knd.draws k })
  (Aq:atKey xs k=none->∀ h',h'.DictOfH knd d (xs ++ [(k,a,dflt)])->cQ d s.heap h'->Q dflt { s with heap:=h',toks:=s.toks+knd.draws k })
  (hsz:xs.length<=sizeLine):wpAny (model prog w) A (dictSetDefault d (.ref a) dflt) Q E s:=by
 obtain⟨o,es,ep,ho,hc,hd,he,Rk,hn⟩:=hm
 unfold dictSetDefault
 try with_reducible refine wpAny_holding ?_
 refine wpAny_bind (knd.pyHash hu vU ?_)
 refine wpAny_bind (wpAny_dictFind_heap (s := { s with toks:=s.toks+knd.draws k }) hu vU ho hd he Rk hn ?_ ?_)
 ·intro zG
  have PN:k ∉ xs.map (·.1):=not_mem_keys_of_get zG
  refine wpAny_bind (wpAny_rule (wpAny_bind (wpAny_updateDictKeys (hz:=by have e:=size_of_entries he;omega) (s := { s with toks:=s.toks+knd.draws k }) ho hd (wpAny_pure (Aq (atKey_none_of_get zG) _ ⟨_,_,ep+1,iX _ ho (Obj.isFreed_of_dict (wx hd _)),
   hc.mapDictKeys _,wx hd _,?_,?_,?_⟩ (dG ..))))))
  ·simp[he,entryOfKey]
  ·intro x hx
   rcases bg.mp hx with hx | hx
   ·exact knd.keeps (Rk x hx) ho hd (dG ..)
   ·simp only[av]at hx
    subst hx
    exact knd.keeps vU ho hd (dG ..)
  ·rw[cf,fZ]
   refine⟨hn,by simp,?_⟩
   intro x hx y hy
   simp only[aJ,du,av]at hy
   subst hy
   exact fun e=>PN (e ▸ hx)
 ·intro j p hj
  refine wpAny_bind (wpAny_dictEntries (s := { s with toks:=s.toks+knd.draws k }) ho hd ?_)
  rw[entry_at he j,hj]
  exact wpAny_bind (wpAny_rule (wpAny_pure (U5 p (atKey_of_get hn hj))))
end
section
variable {prog:Program}{w:World}{K:Type} [DecidableEq K] (knd:HeapKind prog w K) (d a:Addr)
theorem uf (hd:(d == sysModules)=false) (dflt:Value) :
  MeetsIn prog w (Builtin.«dict.setdefault» ⟨[.ref d,.ref a,dflt], []⟩) (fun A R s=>knd.room A.in1∧∃ k xs,knd.is s.heap k a∧s.heap.DictOfH knd d xs∧xs.length<=sizeLine ∧
   (∀ p,atKey xs k=some p->R (.ok (.ret p.2)) { s with toks:=s.toks+knd.draws k }) ∧
   (atKey xs k=none->∀ h',h'.DictOfH knd d (xs ++ [(k,a,dflt)])->cQ d s.heap h'->R (.ok (.ret dflt)) { s with heap:=h',toks:=s.toks+knd.draws k })) :=
 .of_wp fun A R s ⟨hu,k,xs,vU,hm,hz,h1,h2⟩=>by
  unfold Builtin.«dict.setdefault»
  refine wpAny_bind ?_
  unfold Builtin.Dict.keyAndDefault
  refine wpAny_bind (wpAny_notOrdered_dict hm.typeIs ?_)
  show wpAny _ _ (pure (d,bf a,some dflt)) _ _ s
  refine wpAny_pure ?_
  show wpAny _ _ (if (d == sysModules)=true then _ else (dictSetDefault d (.ref a) dflt >>= _)) _ _ s
  rw[if_neg (by rw[hd];exact bx)]
  exact wpAny_bind (rB hu vU hm (fun p hp=>wpAny_pure ⟨p.2,rfl,h1 p hp⟩) (fun hn h' Bs kH=>wpAny_pure ⟨dflt,rfl,h2 hn h' Bs kH⟩) hz)
end
section
variable {X:Cx}{scope:Scope}{own:List Str}{caps:List (Str × Nat)}{ae:List (Addr × Obj)}{σ : St}{H:Hp}{s:Shared}{fp:List Addr}
theorem Qe {prog:Program}{w:World}{A:Around}{R:Result->Shared->Prop}{jx ml dD qx:Expr}{pos:Pos}{it acc:Value}{env:Env} (Iv:Nat->Shared->Prop)
  (turn:∀ n s,Iv n s->wpAny (model prog w) A (pyNext it) (fun r dQ => match r with
   | none=>R (.ok .next) dQ
   | some v=>wpAny (model prog w) A (letOwnedTupleGo ml it v) (fun _ nO => wpAny (model prog w) A (assign ml env v) (fun _ m9 => wpAny (model prog w) A (isTrue qx env (eval qx env)) (fun ok Km => if ok=true then wpAny (model prog w) A (eval jx env) (fun x ES =>
       wpAny (model prog w) A (call (.builtin "list.append") [acc,x]) (fun _ ER => ∃ m,m < n∧Iv m ER) (fun _ _=>False) ES) (fun _ _=>False) Km else ∃ m,m < n∧Iv m Km) (fun _ _=>False) m9) (fun _ _=>False) nO) (fun _ _=>False) dQ) (fun _ _=>False) s)
  (n:Nat) (h:Iv n s):codeAny (model prog w) A (.compLoop (.ListComp jx [⟨ml,dD, [qx],0⟩] scope pos) 0 it acc env) R s:=by
 refine codeAny_loop rfl Iv (fun n s hI => ?_) n h
 show wpAny _ A ((compTurn (.ListComp jx [⟨ml,dD, [qx],0⟩] scope pos) 0 it acc env).onRaise (fun x=>do noteFrame x env;theTreesLotGoes x)) _ _ s
 refine wpAny_noted ?_
 rw[compTurn_list]
 refine wpAny_bind (wpAny_standAt (wpAny_bind (wpAny_mono (turn n s hI) (fun r dQ jh => ?_) fun _ _ z=>z.elim)))
 cases r with
 | none=>exact wpAny_pure jh
 | some v =>
  refine wpAny_bind (wpAny_mono jh (fun _ nO Am => wpAny_bind (wpAny_mono Am (fun _ m9 FU => wpAny_bind (wpAny_tests_one (wpAny_mono FU (fun ok Km UU => ?_) fun _ _ z=>z.elim))) fun _ _ z=>z.elim)) fun _ _ z=>z.elim)
  cases ok with
  | true =>
   have KW:=(if_pos rfl:(if true=true then _ else _)=_) ▸ UU
   exact wpAny_bind (wpAny_bind (wpAny_mono KW (fun x ES PF => wpAny_bind (wpAny_mono PF (fun _ ER PD => wpAny_pure (wpAny_pure ⟨rfl,PD⟩)) fun _ _ z=>z.elim)) fun _ _ z=>z.elim))
  | false =>
   have KW:∃ m,m < n∧Iv m Km := UU
   exact wpAny_bind (wpAny_pure (wpAny_pure ⟨rfl,KW⟩))
def yQ (J:It) (g:TG) (ct:TT) (te:TE) (Ts:St) (H1:Hp) (Q:VK):Prop := ∀ D,H1 D=none->∃ W:Nat->Nat->St->List V->Hp->Prop,
 (∃ m,W 0 m Ts [] (aG H1 D (.lst []))) ∧
 ∀ i m τ ys H,W i m τ ys H->H D=some (.lst ys)∧((J.stop i H∧Q (.ref D) H)∨(J.go i H∧ys.length < sizeLine∧∀ x H',J.zv i H x H'->g x τ H' fun ED H2=>ct ED H2 fun b H4=>if b=true then te ED H4 fun y H3 =>
  H3 D=some (.lst ys)∧∃ m',m' < m∧W (i+1) m' ED (ys ++ [y]) (aG H3 D (.lst (ys ++ [y]))) else ∃ m',m' < m∧W (i+1) m' ED ys H4))
def EO (wi:TI) (g:TG) (ct:TT) (te:TE) (k:Nat) (caps:List (Str × Nat)):TE:=fun σ H Q=>wi σ H fun J H1=>yQ J g ct te (aX k none ++ jy σ caps) H1 Q
theorem BN {tg jx dD qx:Expr}{wi:TI}{g:TG}{ct:TT}{te:TE}{pos p2:Pos}{use:Option (Value->Sem Unit)}{Q:VK} {Q':Value->Shared->Prop} (S:jR X scope own caps) (hi:PI X tg dD wi) (hc:X.calm=true)
  (hg:∀ fp s H,PG (dE X scope (own ++ caps.map (·.1)) fp s H) tg g) (Ng:∀ fp s H,PT (dE X scope (own ++ caps.map (·.1)) fp s H) qx ct) (he:∀ fp s H,PE (dE X scope (own ++ caps.map (·.1)) fp s H) jx te)
  (I:Inv X ae σ H s) (h:EO wi g ct te own.length caps σ H Q)
  (fin:∀ D C H5 s5,Inv X ae σ H5 s5->Q (.ref D) H5->(∃ m,s5.heap.Ns C m)->H5 C=none->C≠X.env.locals->X.kd.heap.objs.size<=C->(∀ x c,X.env.cells.lookup x=some c->c≠C)->(∀ p∈X.pn ++ ae,p.1≠C) ->
   compPost (model X.prog X.w) X.A X.xe use Q' (.ref D) C (.ok .next) s5)
  (hs:∀ x,foldedSetIterable dD X.env x=pure x:=by intro _;rfl) :
  wpAny (model X.prog X.w) X.A (comprehension (.ListComp jx [⟨tg,dD, [qx],0⟩] scope pos) scope X.env p2 (newList []) false (eval dD X.env) use) Q' X.xe s:=by
 have K4:closureFor scope X.env=pure (iQ X.env.cells scope.names []):=yk fun y hy hk=>I.ok.has y.1 (.inl (S.frees y hy hk))
 refine wpAny_comprehension_free (g:=⟨tg,dD, [qx],0⟩) (gs := []) rfl hs K4 S.kind S.locs (bW (hi ae s σ H _ I h) fun v s1 h1=>bW h1 fun FQ s2 h2 => ?_)
 obtain⟨it,fp,tn,J,H2,e,I2,T,c9,f2,R⟩:=h2
 subst e
 refine wpAny_newObj_type (wpAny_newFunctionEnv S.Bc (by intro y hy;simp at hy) (fun jh F5 F0 => ?_) S.kind)
 have Wt:H2 s2.heap.objs.size=none:=I2.bw.fresh (ao _)
 obtain⟨W,⟨m0,w0⟩,turn⟩:=R s2.heap.objs.size Wt
 have I3:Inv X ae σ (aG H2 s2.heap.objs.size (.lst [])) { s2 with heap:=s2.heap.push { cls := .type "list",dict:=none,data := .seq ([]:List Value).toArray } }:=I2.Pn (its := []) (t':=s2.toks) .nil (aS _)
 have MG:∀ b∈fp,b < s2.heap.objs.size:=fun b hb=>by
  obtain⟨o,ho,_⟩:=T.obj _ _ c9 b hb
  exact aW ho
 have f3:∀ b∈fp,nh X ae (aG H2 s2.heap.objs.size (.lst [])) b:=fun b hb=>⟨by rw[aD (bP (MG b hb))];exact(f2 b hb).1,(f2 b hb).2⟩
 generalize uT:({ s2 with heap:=s2.heap.push { cls := .type "list",dict:=none,data := .seq ([]:List Value).toArray } }:Shared)=s3 at I3
 have UX:s3.heap.objs.size=s2.heap.objs.size+1:=by rw[<- uT];exact iK _ _
 have Pw:∀ b o,s2.heap.get? b=some o->s3.heap.get? b=some o:=fun b o e=>by rw[<- uT];exact aA _ e
 have MF:∀ b∈fp,b < s3.heap.objs.size:=fun b hb=>by rw[UX];exact j5 (MG b hb)
 have CQ:jh.Ns s3.heap.objs.size (fun x=>([]:List (Str × Value)).reverse.lookup x):=by rw[<- uT];exact F5
 have FL:∀ b o,s3.heap.get? b=some o->jh.get? b=some o:=fun b o e=>by
  have hb:b≠s3.heap.objs.size:=bP (aW e)
  rw[<- uT]at e hb
  exact F0.extBut b o hb (aA _ e)
 have J1:=BM S I3 f3 MF (t:=s2.toks+([]:List (Str × Value)).length) CQ FL
 have n6:tn 0 jh := T.keep _ _ _ c9 fun b hb o e=>FL b o (Pw b o e)
 -- EL loop
 have loop:∀ m9 : Shared,m9 = { s3 with heap:=jh,toks:=s2.toks+([]:List (Str × Value)).length } ->
   codeAny (model X.prog X.w) X.A (.compLoop (.ListComp jx [⟨tg,dD, [qx],0⟩] scope pos) 0 (.ref it) (.ref s2.heap.objs.size) (dE X scope (own ++ caps.map (·.1)) fp s3 (aG H2 s2.heap.objs.size (.lst []))).env)
    (compPost (model X.prog X.w) X.A X.xe use Q' (.ref s2.heap.objs.size) s3.heap.objs.size) m9 := by
  rintro m9 rfl
  refine Qe (fun n s'=>∃ i τ ys H',Inv (dE X scope (own ++ caps.map (·.1)) fp s3 (aG H2 s2.heap.objs.size (.lst []))) [] τ H' s'∧tn i s'.heap∧(∀ b∈fp,H' b=none)∧W i n τ ys H') ?_ m0
   ⟨0,_, [],_,J1,n6,fun b hb=>(f3 b hb).1,w0⟩
  rintro n s' ⟨i, τ,ys,H',J',aE,NA,w'⟩
  have fY:∀ {pJ:Hp},(∀ b∈fp,pJ b=none)->∀ b∈fp,nh (dE X scope (own ++ caps.map (·.1)) fp s3 (aG H2 s2.heap.objs.size (.lst []))) [] pJ b:=fun hn b hb =>
   ⟨hn b hb,bP (MF b hb),fun z=>by
     rcases aN.mp (I3.xo b z) with e | e
     ·exact(f3 b hb).2.1 e
     ·exact(f3 b hb).2.2.1 e,.inl hb,fun x c e=>(f3 b hb).2.2.2.2.1 x c (jL e),(fun p hp=>by cases hp)⟩
  obtain⟨hD,tt⟩:=turn i n τ ys H' w'
  rcases tt with⟨stop,qn⟩ | ⟨go,dI,step⟩
  ·refine bW (T.done (dE X scope (own ++ caps.map (·.1)) fp s3 (aG H2 s2.heap.objs.size (.lst []))) rfl rfl rfl hc i [] s' τ H' (fun _ _=>False) J' (fY NA) aE stop) fun r s4 ⟨hr,J4⟩ => ?_
   subst hr
   obtain⟨m4,Vh,_⟩:=J4.loc
   have I5:=D0 I3 J4 f3
   refine fin _ _ _ s4 I5 qn ⟨m4,Vh⟩ J4.free ?_ ?_ (fun x c e z => ?_) fun p hp z => ?_
   ·exact jA I3.lt
   ·exact I3.sz
   ·obtain⟨v,q⟩:=I3.cell x c e
    rw[z]at q
    exact absurd q.lt (eU _)
   ·have q:=(I3.pin p hp).1
    rw[z]at q
    exact absurd (aW q) (eU _)
  ·refine bW (T.item (dE X scope (own ++ caps.map (·.1)) fp s3 (aG H2 s2.heap.objs.size (.lst []))) rfl rfl rfl hc i [] s' τ H' (fun _ _=>False) J' (fY NA) aE go) fun r s4 ⟨u,hr,h4⟩ => ?_
   subst hr
   refine bW h4 fun _ s5 ⟨x,H5,J5,r5,y5,gv,Nz⟩ => ?_
   have Xe:=J5.pinned (fY Nz) (T.obj _ _ gv)
   have Bg:∀ {uB:St}{H8:Hp}{s8:Shared},Inv (dE X scope (own ++ caps.map (·.1)) fp s3 (aG H2 s2.heap.objs.size (.lst []))) ([] ++ xG fp s5.heap) uB H8 s8->tn (i+1) s8.heap∧∀ b∈fp,H8 b=none:=fun {uB H8 s8} J8=>by
    refine⟨T.keep _ _ _ gv fun b hb o e=>(J8.pin (b,o) (bE _ (bE _ (mV hb e)))).1,fun b hb => ?_⟩
    obtain⟨o,e,d⟩:=T.obj _ _ gv b hb
    exact(J8.pin (b,o) (bE _ (bE _ (mV hb e)))).2.1
   refine bW (hg fp s3 _ _ s5 τ H5 x u _ Xe r5 (step x H5 y5)) fun _ s6 ⟨uB,H6,J6,q6⟩ => ?_
   refine bW (Ng fp s3 _ _ s6 uB H6 _ J6 q6) fun ok s9 ⟨H9,J9,q9⟩ => ?_
   cases ok with
   | false =>
    obtain⟨m',Bs,w9⟩:=(show ∃ m',m' < n∧W (i+1) m' uB ys H9 from q9)
    exact⟨m',Bs,i+1, uB,ys,_,J9.pL,(Bg J9).1,(Bg J9).2,w9⟩
   | true =>
    refine bW (he fp s3 _ _ s9 uB H9 _ J9 q9) fun yv s7 ⟨y,H7,J7,r7,Wc,m',Bs,w7⟩ => ?_
    refine bW (f9 (X:=dE X scope (own ++ caps.map (·.1)) fp s3 (aG H2 s2.heap.objs.size (.lst []))) _ s7 uB H7 (.ref s2.heap.objs.size) [y] _ [yv] (fun _ H8=>H8=aG H7 s2.heap.objs.size (.lst (ys ++ [y]))) J7 rfl (.cons r7 .nil) ⟨_,ys,y,rfl,rfl,Wc,dI,rfl⟩) fun _ s8 ⟨_,H8,J8,_,e8⟩ => ?_
    subst e8
    exact⟨m',Bs,i+1, uB,ys ++ [y],_,J8.pL,(Bg J8).1,(Bg J8).2,w7⟩
 have Bt:=loop _ rfl
 subst uT
 exact codeAny_compStart_list Bt (T.self _ 0 _ _ _ n6 Bt)
theorem Fo {tg jx dD qx:Expr}{wi:TI}{g:TG}{ct:TT}{te:TE}{pos:Pos} (S:jR X scope own caps) (hi:PI X tg dD wi) (hc:X.calm=true)
  (hg:∀ fp s H,PG (dE X scope (own ++ caps.map (·.1)) fp s H) tg g) (Ng:∀ fp s H,PT (dE X scope (own ++ caps.map (·.1)) fp s H) qx ct) (he:∀ fp s H,PE (dE X scope (own ++ caps.map (·.1)) fp s H) jx te)
  (hs:∀ x,foldedSetIterable dD X.env x=pure x:=by intro _;rfl):PE X (.ListComp jx [⟨tg,dD, [qx],0⟩] scope pos) (EO wi g ct te own.length caps):=by
 intro ae s σ H Q I h
 rw[eval_ListComp]
 refine BN (use:=none) (Q:=Q) S hi hc hg Ng he I h (fun D C H5 s5 I5 q ⟨m,hn⟩ hC hL hz iT Ao => ?_) hs
 refine⟨m,hn,fun h' kH => ?_⟩
 exact⟨.ref D,H5,I5.turned (t':=s5.toks) (fun b o hb e=>(kH.2 b hb).trans e) hC hL (.inr hz) iT Ao,rfl,q⟩
theorem zz {i:Nat}{y:Str}{tg jx dD qx:Expr}{wi:TI}{g:TG}{ct:TT}{te:TE}{pos EU py:Pos} (hN:X.N.Nodup) (Vq:X.N[i]? = some y) (hy:X.env.scope.names.lookup y=some .local) (S:jR X scope own caps) (hi:PI X tg dD wi) (hc:X.calm=true)
  (hg:∀ fp s H,PG (dE X scope (own ++ caps.map (·.1)) fp s H) tg g) (Ng:∀ fp s H,PT (dE X scope (own ++ caps.map (·.1)) fp s H) qx ct) (he:∀ fp s H,PE (dE X scope (own ++ caps.map (·.1)) fp s H) jx te)
  (U7:swapsWith (.ListComp jx [⟨tg,dD, [qx],0⟩] scope pos) (some (.Name y py)) EU.line X.env=pure true)
  (hs:∀ x,foldedSetIterable dD X.env x=pure x:=by intro _;rfl):PS X (.Assign [.Name y py] (.ListComp jx [⟨tg,dD, [qx],0⟩] scope pos) EU) (Kl (EO wi g ct te own.length caps) (bH i)):=by
 intro ae s σ H D I h
 rw[exec_Assign_Name_used _ _ _ _ U7]
 refine wpAny_bind (wpAny_standAt (wpAny_bind ?_))
 show wpAny _ X.A (do let _ <- comprehension (.ListComp jx [⟨tg,dD, [qx],0⟩] scope pos) scope X.env _ (newList []) false (eval dD X.env) (some (assign (.Name y py) X.env))) _ _ s
 refine wpAny_bind (wpAny_mono (BN (use:=some (assign (.Name y py) X.env)) (Q:=fun x H1=>D.nx (σ.set i (some x)) H1) (Q':=fun _ s'=>SP X ae D .next s') S hi hc hg Ng he I h (fun A C H5 s5 I5 q ⟨m,hn⟩ hC hL hz iT Ao => ?_) hs)
  (fun _ s' hq=>wpAny_pure (wpAny_pure hq)) fun _ _ e=>e)
 show wpAny _ X.A (assign (.Name y py) X.env (.ref A)) _ _ _
 refine wpAny_assign_Name (xn I5 hN Vq (.inl hy) (v := .ref A) rfl (fun s6 I6 ⟨a,IK,ha⟩ => ?_) (.inr hy))
 have VF:C≠a:=by
  rcases ha with ha | ha
  ·rw[ha];exact hL
  ·exact fun z=>iT y a ha z.symm
 refine⟨m,hn.sameBut IK VF,fun h' kH => ?_⟩
 exact⟨_,H5,I6.turned (t':=s6.toks) (fun b o hb e=>(kH.2 b hb).trans e) hC hL (.inr hz) iT Ao,q⟩
end
def sP (H:Hp):NK->List V->Prop
 | [],vs=>vs = []
 | .inl k :: ks,vs=>∃ nt,vs=kV k :: nt∧sP H ks nt
 | .inr l :: ks,vs=>∃ b nt,vs=V.ref b :: nt∧H b=some (.tup (l.map kV))∧sP H ks nt
def mO (H:Hp) (k:NK) (a:Addr):Prop := ∃ vs,H a=some (.tup vs)∧sP H k vs
theorem sP.keep {H H':Hp} (ht:∀ b ys,H b=some (.tup ys)->H' b=some (.tup ys)):∀ {k:NK}{vs:List V},sP H k vs->sP H' k vs
 | [],vs,r=>by rw[sP]at r ⊢;exact r
 | .inl k :: ks,vs,r=>by
  rw[sP]at r ⊢
  obtain⟨nt,e,r⟩:=r
  exact⟨nt,e,sP.keep ht r⟩
 | .inr l :: ks,vs,r=>by
  rw[sP]at r ⊢
  obtain⟨b,nt,e,q,r⟩:=r
  exact⟨b,nt,e,ht _ _ q,sP.keep ht r⟩
theorem mO.keep {H H':Hp}{k:NK}{a:Addr} (ht:∀ b ys,H b=some (.tup ys)->H' b=some (.tup ys)) (r:mO H k a):mO H' k a:=by
 obtain⟨vs,e,r⟩:=r
 exact⟨vs,ht _ _ e,r.keep ht⟩
section
variable {P:Program}{w:World}{H:Hp}{h:Heap}
theorem Fz (ok:ir P w H h):∀ {k:NK}{vs:List V}{us:List Value},sP H k vs->Vals vs us->eR P w h k us
 | [],vs,us,r,q=>by rw[sP]at r;subst r;cases q;rw[eR]
 | .inl k :: ks,vs,us,r,q=>by
  rw[sP]at r
  obtain⟨nt,rfl,r⟩:=r
  cases q with
  | cons q1 q2=>rw[eR];exact⟨_,_,rfl,vS q1,Fz ok r q2⟩
 | .inr l :: ks,vs,us,r,q=>by
  rw[sP]at r
  obtain⟨b,nt,rfl,e,r⟩:=r
  cases q with
  | cons q1 q2 =>
   rw[eR]
   cases (show _=bf b from q1)
   exact⟨b,_,rfl,uN ok e,Fz ok r q2⟩
theorem uK {k:NK}{a:Addr} (ok:ir P w H h) (r:mO H k a):pj P w h k a:=by
 obtain⟨vs,e,r⟩:=r
 obtain⟨_,its,rv,p⟩:=(show cR P w H h a (.tup vs) from ok a _ e)
 exact⟨its,p.tup,Fz ok r rv⟩
end
abbrev KN (H:Hp):List (NK × V)->List (NK × Addr × Value)->Prop:=Paired fun p q=>p.1=q.1∧mO H p.1 q.2.1∧RelV p.2 q.2.2
theorem KN.val {H:Hp}{kvs:List (NK × V)}{xs:List (NK × Addr × Value)} (r:KN H kvs xs) (k:NK):kU (cA kvs k) ((atKey xs k).map (·.2)):=by
 induction r with
 | nil=>exact fg
 | @cons p q ps qs h t ih =>
  obtain⟨h1,_,h2⟩:=h
  by_cases e:p.1=k
  ·have e':q.1=k:=h1.symm.trans e
   have b:atKey (q :: qs) k=some q.2:=by simp[atKey,eC,e']
   rw[fq e,b];exact h2
  ·have e':¬ q.1=k:=fun z=>e (h1.trans z)
   have b:atKey (q :: qs) k=atKey qs k:=by simp[atKey,eC,e']
   rw[ft e,b];exact ih
theorem KN.keeps {H H':Hp}{kvs:List (NK × V)}{xs:List (NK × Addr × Value)} (r:KN H kvs xs) (ht:∀ b ys,H b=some (.tup ys)->H' b=some (.tup ys)):KN H' kvs xs :=
 Paired.ug r fun _ _ z=>⟨z.1,z.2.1.keep ht,z.2.2⟩
def DN (P:Program) (w:World) (H:Hp) (a:Addr) (kvs:List (NK × V)):Prop:=kvs.length<=sizeLine∧(a == sysModules)=false∧∃ (xs:List (NK × Addr × Value)) (o:Obj) (es:Array DictEntry) (ep:Nat),
 H a=some (.ext fun h=>h.get? a=some o)∧KN H kvs xs∧o.ExactDict∧o.data = .dict es ep∧es.toList=xs.map (entryOfKey (qD P w))∧(xs.map (·.1)).Nodup
theorem DN.keep {P:Program}{w:World} {H H':Hp}{a:Addr}{kvs:List (NK × V)} (d:DN P w H a kvs) (ha:∀ φ,H a=some (.ext φ)->H' a=some (.ext φ)) (ht:∀ b ys,H b=some (.tup ys)->H' b=some (.tup ys)):DN P w H' a kvs:=by
 obtain⟨z,hd,xs,o,es,ep,e,r,q⟩:=d
 exact⟨z,hd,xs,o,es,ep,ha _ e,r.keeps ht,q⟩
theorem DN.same {P:Program}{w:World} {H H':Hp}{a:Addr}{kvs:List (NK × V)} (d:DN P w H a kvs) (sm:bz H H'):DN P w H' a kvs:=d.keep (fun φ => sm _ _) (fun b ys=>sm _ _)
theorem DN.ext {P:Program}{w:World}{H:Hp}{a:Addr}{kvs:List (NK × V)} (d:DN P w H a kvs):∃ φ,H a=some (.ext φ):=by
 obtain⟨_,_,xs,o,es,ep,e,_⟩:=d
 exact⟨_,e⟩
theorem BJ {P:Program}{w:World}{H:Hp}{h:Heap}{a:Addr}{kvs:List (NK × V)} (ok:ir P w H h) (d:DN P w H a kvs):kvs.length<=sizeLine∧(a == sysModules)=false ∧
  ∃ xs,KN H kvs xs∧h.DictOfH (qD P w) a xs:=by
 obtain⟨z,hd,xs,o,es,ep,e,r,h2,h3,h4,h5⟩:=d
 obtain⟨h1,_⟩:=(show cR P w H h a (.ext fun h=>h.get? a=some o) from ok a _ e)
 refine⟨z,hd,xs,r,o,es,ep,h1,h2,h3,h4,fun x hx => ?_,h5⟩
 have all:∀ {l:List (NK × V)}{m:List (NK × Addr × Value)},KN H l m->∀ x∈m,(qD P w).is h x.1 x.2.1:=by
  intro l m q
  induction q with
  | nil=>intro x hx;exact nomatch hx
  | @cons p q ps qs hq t ih =>
   intro x hx
   rcases aN.mp hx with e | hx
   ·subst e
    exact uK ok (by rw[<- hq.1];exact hq.2.1)
   ·exact ih x hx
 exact all r x hx
theorem GH {P:Program}{w:World}{H:Hp}{h:Heap}{a:Addr}{o:Obj} (e:h.get? a=some o):cR P w H h a (.ext fun h=>h.get? a=some o):=⟨e,⟨o,e⟩,fun h1 h2 e1 k=>k o e1⟩
section
variable {X:Cx}{ae:List (Addr × Obj)}{σ : St}{H:Hp}{s:Shared}{a b:Addr}{kvs mx:List (NK × V)}{k:NK}{y v:V}{u r:Value}{A:Around}{E:Value->Shared->Prop}
theorem GP {h':Heap} {t':Nat}{HI:List (NK × Addr × Value)} (I:Inv X ae σ H s) (d:DN X.prog X.w H a kvs) (hs:cQ a s.heap h') (dd:h'.DictOfH (qD X.prog X.w) a HI) (dM:KN H mx HI) (hl:mx.length<=sizeLine) :
  ∃ φ,Inv X ae σ (aG H a (.ext φ)) { s with heap:=h',toks:=t' }∧DN X.prog X.w (aG H a (.ext φ)) a mx:=by
 obtain⟨φ0,e0⟩:=d.ext
 have hd:=d.2.1
 obtain⟨q,es,ep,hq,h2,h3,h4,_,h5⟩:=dd
 have ht:∀ c ys,H c=some (.tup ys)->(aG H a (.ext fun h=>h.get? a=some q)) c=some (.tup ys):=fun c ys ec=>by
  rw[aD (cX ec e0 (fun z=>nomatch z))]
  exact ec
 exact⟨_,u6 I (by rw[e0];exact fg) hs ⟨q,hq⟩ (GH hq),hl,hd,HI,q,es,ep,ay,dM.keeps ht,h2,h3,h4,h5⟩
theorem KN.snoc {xs:List (NK × Addr × Value)} (dM:KN H kvs xs) (nk:mO H k b) (rv:RelV v r):KN H (kvs ++ [(k,v)]) (xs ++ [(k,b,r)]):=lK dM ⟨rfl,nk,rv⟩
theorem Ek {Q:Value->Shared->Prop} (hu:A.units+10 < cLine) (I:Inv X ae σ H s) (d:DN X.prog X.w H a kvs) (nk:mO H k b) (rv:RelV v r) (hl:kvs.length < sizeLine)
  (h1:∀ v' w' s',cA kvs k=some v'->RelV v' w'->Inv X ae σ H s'->Q w' s') (h2:cA kvs k=none->∀ φ s',Inv X ae σ (aG H a (.ext φ)) s'->DN X.prog X.w (aG H a (.ext φ)) a (kvs ++ [(k,v)])->Q r s') :
  wpAny (model X.prog X.w) A (call (.builtin "dict.setdefault") [.ref a,.ref b,r]) Q E s:=by
 obtain⟨z,hd,xs,dM,dd⟩:=BJ I.bw d
 have hz:xs.length<=sizeLine:=by rw[<- bJ dM];exact z
 have ro:=dM.val k
 refine call_meetsIn iH dd.typeIs pD (o8 _ _ _) (uf (qD X.prog X.w) a b hd r)
  ⟨(show A.units+1+5 < cLine by omega),k,xs,uK I.bw nk,dd,hz,fun p hp => ?_,fun hn h' u5 hs => ?_⟩
 ·rw[hp]at ro
  cases e:cA kvs k with
  | none=>rw[e]at ro;exact ro.elim
  | some v'=>rw[e]at ro;exact h1 v' _ _ e ro (I.tok _)
 ·rw[hn]at ro
  cases e:cA kvs k with
  | some v'=>rw[e]at ro;exact ro.elim
  | none =>
   obtain⟨φ,I',d'⟩:=GP (t':=s.toks+(qD X.prog X.w).draws k) I d hs u5 (dM.snoc nk rv) (by rw[au];exact hl)
   exact h2 e φ _ I' d'
end
def Xl (P:Program) (w:World) (td ty tx:TE):TE:=fun σ H Q=>td σ H fun x H1=>∃ a,x = .ref a∧(∃ kvs,DN P w H1 a kvs)∧ty σ H1 fun y H2=>tx σ H2 fun z H3=>∃ kvs k b,DN P w H3 a kvs∧y = .ref b∧mO H3 k b∧kvs.length < sizeLine ∧
 (∀ v,cA kvs k=some v->Q v H3)∧(cA kvs k=none->∀ φ,DN P w (aG H3 a (.ext φ)) a (kvs ++ [(k,z)])->Q z (aG H3 a (.ext φ)))
theorem MX {X:Cx}{ae:List (Addr × Obj)}{σ : St}{H:Hp}{s:Shared}{a:Addr} (I:Inv X ae σ H s) (d:∃ kvs,DN X.prog X.w H a kvs) :
  s.TypeIs (.ref a) "dict" ∧ (∀ b,bf a = .ref b->∃ ob,s.heap.get? b=some ob∧ob.dict=none)∧(a == sysModules)=false:=by
 obtain⟨kvs,e⟩:=d
 obtain⟨_,hd,xs,_,dd⟩:=BJ I.bw e
 refine⟨dd.typeIs,fun b q => ?_,hd⟩
 cases q
 obtain⟨ob,_,_,h1,h2,_⟩:=dd
 exact⟨ob,h1,h2.2.1⟩
section
variable {X:Cx}{o e f:Expr}{fI eT:Pos}{td ty tx:TE}
theorem Sx (hu:X.A.units+10 < cLine) (ho:PE X o td) (he:PE X e ty) (hf:PE X f tx) (m:M2 X o "setdefault" fI e f eT):PE X (.Call (.Attribute o "setdefault" fI) [e,f] [] eT) (Xl X.prog X.w td ty tx):=by
 intro ae s σ H Q I h
 refine wpAny_Call_method m.base m.jZ m.line jF iH p9 (bW (ho ae s σ H _ I h) fun u s1 ⟨x,H1,I1,rx,a,ex,d,q1⟩ => ?_)
 subst ex
 obtain rfl:u=bf a:=rx
 obtain⟨t1,t2,_⟩:=MX I1 d
 refine⟨t1,t2,?_⟩
 rw[m.trees]
 refine gC rfl (k7 (iS (bW (he ae s1 σ H1 _ I1 q1) fun iv s2 ⟨y,H2,I2,ry,q2⟩ =>
  iS (bW (hf ae s2 σ H2 _ I2 q2) fun fv s3 ⟨z,H3,I3,rz,kvs,k,b,d3,ey,nk,hl,q3,q4⟩=>nq ?_))))
 subst ey
 obtain rfl:iv=bf b:=ry
 exact Ek hu I3 d3 nk rz hl (fun v' w' s4 e4 r4 I4=>⟨v',H3,I4,r4,q3 v' e4⟩) fun hn φ s4 I4 d4=>⟨z,_,I4,rz,q4 hn φ d4⟩
def TR (P:Program) (w:World):TE:=fun _ H Q=>∀ p φ,H p=none->DN P w (aG H p (.ext φ)) p []->Q (.ref p) (aG H p (.ext φ))
theorem vL {pos:Pos}:PE X (.Dict [] [] pos) (TR X.prog X.w):=by
 intro ae s σ H Q I h
 have hd:(s.heap.objs.size == sysModules)=false:=beq_eq_false_iff_ne.mpr (dh (bP I.big))
 refine wpAny_Dict_empty ⟨.ref s.heap.objs.size,_,I.laid (a:=s.heap.objs.size) (o := .ext fun h=>h.get? s.heap.objs.size=some { cls := .type "dict",data := .dict #[] }) (t':=s.toks) (fun _ _ q=>aA _ q) (ao _) (GH (bh _ rfl)),rfl,h _ _ (I.bw.fresh (ao _)) ?_⟩
 exact⟨aS _,hd, [],_, #[],0,ay,.nil,⟨rfl,rfl,rfl⟩,rfl,rfl,iI⟩
end
end L2
namespace Sw
inductive TM (S:Type) where
 | num (n:Int) | name (x:S) | of (x:S) (as:List Nat)
section
variable {S:Type}
inductive Eqv (ts:List (TM S)) (es:List (Nat × Nat)):Nat->Nat->Prop where
 | refl (i:Nat):Eqv ts es i i
 | symm {i j:Nat}:Eqv ts es i j->Eqv ts es j i
 | trans {i j k:Nat}:Eqv ts es i j->Eqv ts es j k->Eqv ts es i k
 | WD {i j:Nat}:(i,j)∈es->Eqv ts es i j
 | same {i j:Nat}{t:TM S}:ts[i]? = some t->ts[j]? = some t->Eqv ts es i j
 | WM {i j:Nat}{x:S}{as bs:List Nat}:ts[i]? = some (.of x as)->ts[j]? = some (.of x bs)->as.length=bs.length->(∀ (k a b:Nat),as[k]? = some a->bs[k]? = some b->Eqv ts es a b)->Eqv ts es i j
def j7 (ls:List Nat):Prop := ∀ k v:Nat,ls[k]? = some v->v<=k∧ls[v]? = some v
def lr (hi lo v:Nat):Nat:=if v=hi then lo else v
def jn (ls:List Nat) (hi lo:Nat):List Nat:=ls.map (lr hi lo)
theorem oP {ls:List Nat}{hi lo k:Nat}:(jn ls hi lo)[k]? = (ls[k]?).map (lr hi lo):=by unfold jn;rw[aH]
theorem MV {ls:List Nat}{hi lo:Nat}:(jn ls hi lo).length=ls.length:=by unfold jn;rw[aj]
theorem Ji {ls:List Nat}{hi lo:Nat} (g:j7 ls) (IS:ls[lo]? = some lo) (hl:lo < hi):j7 (jn ls hi lo):=by
 intro k v h
 rw[oP]at h
 cases e:ls[k]? with
 | none=>rw[e]at h;cases h
 | some u =>
  rw[e]at h
  have h':lr hi lo u=v:=aB h
  obtain⟨g1,g2⟩:=g k u e
  unfold lr at h'
  by_cases hu:u=hi
  ·rw[if_pos hu]at h'
   subst h'
   refine⟨by omega,?_⟩
   rw[oP,IS]
   show some (lr hi lo lo)=some lo
   unfold lr
   rw[if_neg (by omega)]
  ·rw[if_neg hu]at h'
   subst h'
   refine⟨g1,?_⟩
   rw[oP,g2]
   show some (lr hi lo u)=some u
   unfold lr
   rw[if_neg hu]
def Sound (ts:List (TM S)) (es:List (Nat × Nat)) (ls:List Nat):Prop := ∀ k v:Nat,ls[k]? = some v->Eqv ts es k v
theorem E3 {ts:List (TM S)}{es:List (Nat × Nat)}{ls:List Nat}{hi lo:Nat} (h:Sound ts es ls) (e:Eqv ts es hi lo):Sound ts es (jn ls hi lo):=by
 intro k v q
 rw[oP]at q
 cases z:ls[k]? with
 | none=>rw[z]at q;cases q
 | some u =>
  rw[z]at q
  have h':lr hi lo u=v:=aB q
  have:=h k u z
  unfold lr at h'
  by_cases hu:u=hi
  ·rw[if_pos hu]at h'
   subst h' hu
   exact .trans this e
  ·rw[if_neg hu]at h'
   subst h'
   exact this
def Keeps (ls fU:List Nat):Prop := ∀ i j v:Nat,ls[i]? = some v->ls[j]? = some v->∃ u,fU[i]? = some u∧fU[j]? = some u
theorem KR (ls:List Nat):Keeps ls ls:=fun i j v h1 h2=>⟨v,h1,h2⟩
theorem Keeps.trans {a b c:List Nat} (h:Keeps a b) (h':Keeps b c):Keeps a c:=fun i j v h1 h2=>by
 obtain⟨u,e1,e2⟩:=h i j v h1 h2
 exact h' i j u e1 e2
theorem Py (ls:List Nat) (hi lo:Nat):Keeps ls (jn ls hi lo):=fun i j v h1 h2=>⟨lr hi lo v,by rw[oP,h1];rfl,by rw[oP,h2];rfl⟩
theorem HR {hi lo:Nat} (hl:lo<=hi):∀ ls:List Nat,(ls.map (lr hi lo)).sum<=ls.sum
 | []=>ao _
 | v :: ls=>by
  have:=HR hl ls
  rw[aJ,qZ,qZ]
  have h1:lr hi lo v<=v:=by unfold lr;split <;> omega
  omega
theorem LP {hi lo:Nat} (hl:lo < hi):∀ {ls:List Nat},hi∈ls->(jn ls hi lo).sum < ls.sum
 | v :: ls,h=>by
  unfold jn
  rw[aJ,qZ,qZ]
  have h1:lr hi lo v<=v:=by unfold lr;split <;> omega
  have h2:=HR (hi:=hi) (lo:=lo) (by omega) ls
  rcases aN.mp h with e | e
  ·have:lr hi lo v < v:=by unfold lr;rw[if_pos e.symm];omega
   omega
  ·have:=LP hl e
   unfold jn at this
   omega
def wL (ls:List Nat) (hi lo m:Nat):List Nat:=ls.mapIdx fun k v=>if k < m then lr hi lo v else v
theorem se {ls:List Nat}{hi lo m k:Nat}:(wL ls hi lo m)[k]? = (ls[k]?).map fun v=>if k < m then lr hi lo v else v:=by unfold wL;rw[List.getElem?_mapIdx]
theorem Iu {ls:List Nat}{hi lo m:Nat}:(wL ls hi lo m).length=ls.length:=by unfold wL;rw[List.length_mapIdx]
theorem Mz {ls:List Nat}{hi lo:Nat} (g:j7 ls):wL ls hi lo hi=ls:=by
 refine il fun k => ?_
 rw[se]
 cases e:ls[k]? with
 | none=>rfl
 | some v =>
  have:=(g k v e).1
  show some _=some _
  dsimp only
  by_cases hk:k < hi
  ·rw[if_pos hk];unfold lr;rw[if_neg (by omega)]
  ·rw[if_neg hk]
theorem SU {ls:List Nat}{hi lo m v:Nat} (h:ls[m]? = some v):(wL ls hi lo m).set m (lr hi lo v)=wL ls hi lo (m+1):=by
 have hm:=(ah.mp h).1
 refine il fun k => ?_
 rw[List.getElem?_set,se,se,Iu]
 by_cases hk:m=k
 ·subst hk
  rw[if_pos rfl,if_pos hm,h]
  show some _=some _
  dsimp only
  rw[if_pos (by omega)]
 ·rw[if_neg hk]
  cases e:ls[k]? with
  | none=>rfl
  | some u =>
   show some _=some _
   dsimp only
   by_cases h1:k < m
   ·rw[if_pos h1,if_pos (by omega)]
   ·rw[if_neg h1,if_neg (by omega)]
theorem Pg {ls:List Nat}{hi lo m v:Nat} (h:ls[m]? = some v) (hv:v≠hi):wL ls hi lo (m+1)=wL ls hi lo m:=by
 refine il fun k => ?_
 rw[se,se]
 by_cases hk:k=m
 ·subst hk
  rw[h]
  show some _=some _
  dsimp only
  rw[if_pos (by omega),if_neg (by omega)]
  unfold lr
  rw[if_neg hv]
 ·cases e:ls[k]? with
  | none=>rfl
  | some u =>
   show some _=some _
   dsimp only
   by_cases h1:k < m
   ·rw[if_pos h1,if_pos (by omega)]
   ·rw[if_neg h1,if_neg (by omega)]
theorem SV {ls:List Nat}{hi lo m:Nat} (h:ls.length<=m):wL ls hi lo m=jn ls hi lo:=by
 refine il fun k => ?_
 rw[se,oP]
 cases e:ls[k]? with
 | none=>rfl
 | some u =>
  have:=(ah.mp e).1
  show some _=some _
  dsimp only
  rw[if_pos (by omega)]
def mk (ls:List Nat):TM S->TM S
 | .num n => .num n
 | .name x => .name x
 | .of x as => .of x (as.map fun a=>ls.getD a 0)
def BZ (ts:List (TM S)) (es:List (Nat × Nat)):TM S->TM S->Prop
 | .of x as,.of y vs=>x=y∧as.length=vs.length∧∀ k a v:Nat,as[k]? = some a->vs[k]? = some v->Eqv ts es a v
 | t,m=>t=m
theorem tu {ts:List (TM S)}{es:List (Nat × Nat)}{ls:List Nat} (h:Sound ts es ls):∀ {t:TM S},(∀ x as,t = .of x as->∀ a∈as,a < ls.length)->BZ ts es t (mk ls t)
 | .num n,_=>rfl
 | .name x,_=>rfl
 | .of x as,hb=>by
  refine⟨rfl,by rw[aj],fun k a v h1 h2 => ?_⟩
  rw[aH,h1]at h2
  have e:ls.getD a 0=v:=aB h2
  have ha:=hb x as rfl a (aK h1)
  rw[br,ai ha]at e
  refine h a v ?_
  rw[ai ha, <- e]
  rfl
theorem AV {ts:List (TM S)}{es:List (Nat × Nat)}{i j:Nat}{t u m:TM S} (hi:ts[i]? = some t) (hj:ts[j]? = some u) (h1:BZ ts es t m) (h2:BZ ts es u m):Eqv ts es i j:=by
 cases t with
 | num n =>
  have e:TM.num n=m:=h1
  subst e
  cases u with
  | num k=>cases (show TM.num k=TM.num n from h2);exact .same hi hj
  | name y=>cases (show TM.name y=TM.num n from h2)
  | of y bs=>cases (show TM.of y bs=TM.num n from h2)
 | name x =>
  have e:TM.name x=m:=h1
  subst e
  cases u with
  | num k=>cases (show TM.num k=TM.name x from h2)
  | name y=>cases (show TM.name y=TM.name x from h2);exact .same hi hj
  | of y bs=>cases (show TM.of y bs=TM.name x from h2)
 | of x as =>
  cases m with
  | num k=>cases (show TM.of x as=TM.num k from h1)
  | name y=>cases (show TM.of x as=TM.name y from h1)
  | of y vs =>
   obtain⟨rfl,l1,q1⟩:=h1
   cases u with
   | num k=>cases (show TM.num k=TM.of x vs from h2)
   | name z=>cases (show TM.name z=TM.of x vs from h2)
   | of z bs =>
    obtain⟨rfl,l2,q2⟩:=h2
    refine .WM hi hj (by omega) fun k a b ha hb => ?_
    have hk:k < vs.length:=by have:=(ah.mp ha).1;omega
    exact .trans (q1 k a _ ha (ai hk)) (.symm (q2 k b _ hb (ai hk)))
def Ox (ts:List (TM S)) (es:List (Nat × Nat)) (ls:List Nat):Prop :=
 ls.length=ts.length∧j7 ls∧Sound ts es ls∧∀ i j:Nat,i < ts.length->j < ts.length->Eqv ts es i j->ls[i]? = ls[j]?
def Dn (ts:List (TM S)):Prop := ∀ (i:Nat) (x:S) (as:List Nat),ts[i]? = some (.of x as)->∀ a∈as,a < i
theorem Qd {ts:List (TM S)}{es:List (Nat × Nat)}{ls:List Nat} (ha:Dn ts) (he:∀ a b:Nat,(a,b)∈es->a < ts.length∧b < ts.length) (hl:ls.length=ts.length)
  (h1:∀ a b:Nat,(a,b)∈es->ls[a]? = ls[b]?) (h2:∀ (i j:Nat) (t u:TM S),ts[i]? = some t->ts[j]? = some u->mk ls t=mk ls u->ls[i]? = ls[j]?) {i j:Nat} (h:Eqv ts es i j):ls[i]? = ls[j]? := by
 induction h with
 | refl i=>rfl
 | symm _ ih=>exact ih.symm
 | trans _ _ US MZ=>exact US.trans MZ
 | WD h=>exact h1 _ _ h
 | same q1 q2=>exact h2 _ _ _ _ q1 q2 rfl
 | @WM i j x as bs q1 q2 DJ _ ih =>
  refine h2 _ _ _ _ q1 q2 ?_
  have e:as.map (fun a=>ls.getD a 0)=bs.map (fun a=>ls.getD a 0):=by
   refine il fun k => ?_
   rw[aH,aH]
   by_cases hk:k < as.length
   ·have e1:=ai (l:=as) hk
    have e2:=ai (l:=bs) (show k < bs.length by omega)
    have:=ih k _ _ e1 e2
    rw[e1,e2]
    show some (ls.getD _ 0)=some (ls.getD _ 0)
    rw[br,br,this]
   ·rw[d7 (by omega),d7 (by omega)]
  show TM.of x _=TM.of x _
  rw[e]
theorem S4 (n:Nat):j7 (cu n):=fun k v h=>by
 have hk:k < (cu n).length:=(ah.mp h).1
 rw[fb]at hk
 rw[lP hk]at h
 cases h
 exact⟨ao _,lP hk⟩
theorem OK (ts:List (TM S)) (es:List (Nat × Nat)) (n:Nat):Sound ts es (cu n):=fun k v h=>by
 have hk:k < (cu n).length:=(ah.mp h).1
 rw[fb]at hk
 rw[lP hk]at h
 cases h
 exact .refl _
end
end Sw
namespace L2
open PySem PySem.Spec PyProof.Rows
section
variable {X:Cx}
inductive vn (xs:List V) (H:Hp) (Q:VK):Prop
 | mk:∀ (j:Int),(xs = [.int j])->(∀ p,H p=none->Q (.ref p) (aG H p (.xB 0 j)))->vn xs H Q
theorem GZ:k9 X (.type "range") (fun xs H Q=>vn xs H Q):=by
 intro ae s σ H xs us Q I r h
 obtain⟨j,rfl,q⟩:=h
 obtain⟨u,rfl,ru⟩:=vals1 r
 obtain⟨t,rfl⟩:=ru
 exact call_range_1 ⟨.ref s.heap.objs.size,_,I.laid (a:=s.heap.objs.size) (o := .xB 0 j) (fun _ _ q=>aA _ q) (ao _) ⟨_,_,_,bh _ rfl⟩,rfl,q _ (I.bw.fresh (ao _))⟩
inductive tY (xs:List V) (H:Hp) (Q:VK):Prop
 | mk:∀ (p:Addr) (n:Nat),(xs = [.ref p])->(H p=some (.xB 0 (n:Int)))->(n<=1000000)->(∀ l,H l=none->Q (.ref l) (aG H l (.lst ((cu n).map fun i:Nat=>V.int (i:Int)))))->tY xs H Q
theorem Em (hc:X.calm=true):k9 X (.type "list") (fun xs H Q=>tY xs H Q):=by
 intro ae s σ H xs us Q I r h
 obtain⟨p,n,rfl,hp,hn,q⟩:=h
 obtain⟨u,rfl,ru⟩:=vals1 r
 cases (show u=bf p from ru)
 obtain⟨t,t',t'',e⟩:=(show cR X.prog X.w H s.heap p (.xB 0 (n:Int)) from I.bw p _ hp)
 have hz:sZ 0 (n:Int) 1=n:=by rw[rangeSize_one];split <;> omega
 refine call_list_range (I.ok.hd hc) e (small_one (by omega) (by omega) (by omega) (by omega)) hz (by omega) fun h' tk Qn c' kp hS CT => ?_
 refine⟨.ref s.heap.objs.size,_,I.laid kp (ao _) (show cR X.prog X.w _ h' _ (.lst ((cu n).map fun i:Nat=>V.int (i:Int))) from ⟨?_,Qn.toList,c',?_,by simpa using hS⟩),rfl,q _ (I.bw.fresh (ao _))⟩
 ·rw[aj,fb]
  exact aF hn (by decide)
 ·refine LI (by rw[aj,fb,bq];exact CT.1.symm) fun j x v hx hv => ?_
  obtain⟨t2,ht2⟩:=CT.2 j v (by rw[<- kG];exact hv)
  rw[aH]at hx
  have hj:j < n:=by
   have:=(ah.mp hv).1
   rw[bq,CT.1]at this
   exact this
  rw[lP hj]at hx
  have ex:V.int ((j:Nat):Int)=x:=aB hx
  rw[<- ex,ht2]
  exact⟨t2,by congr 1;omega⟩
where
 LI:∀ {xs:List V}{us:List Value},xs.length=us.length->(∀ (j:Nat) x u,xs[j]? = some x->us[j]? = some u->RelV x u)->Vals xs us
 | [], [],_,_ => .nil
 | [],_ :: _,h,_=>by cases h
 | _ :: _, [],h,_=>by cases h
 | x :: xs,u :: us,h,f => .cons (f 0 x u rfl rfl) (LI (by simpa using h) fun j a b ha hb=>f (j+1) a b (by simpa using ha) (by simpa using hb))
end
theorem t9 {k:Nat}{A:Around} (hr:fK k A):A.units+10 < cLine:=by have:=hr.un;omega
theorem Qu {k:Nat}{A:Around} (hr:fK k A):A.units+151 < cLine:=by have:=hr.un;omega
inductive wY (x:V) (y:V) (H:Hp) (Q:VK):Prop
 | mk:∀ z n,(x = .str z)->(y = .int n)->(0<=n)->(n<=1000)->(z.length<=1000)->(Q (.str (lp z n.toNat)) H)->wY x y H Q
theorem Hu {X:Cx}:kC X (binaryOp .Mult) (fun x y H Q=>wY x y H Q):=by
 intro ae s σ H x y v u Q I rx ry h
 obtain⟨z,n,rfl,rfl,h1,h2,h3,q⟩:=h
 by_cases h0:n=0
 ·subst h0
  obtain⟨t,rfl⟩:=rx
  obtain⟨t',rfl⟩:=ry
  exact PySem.P.mul_str_none (by omega) (by omega) ⟨.str (lp z 0),H,I.tok _,⟨_,rfl⟩,q⟩
 ·exact Kz ae s σ H _ _ v u Q I rx ry ⟨z,n,rfl,rfl,by omega,h2,h3,q⟩
theorem um {lo:Int}{n:Nat}{ct:TT}{te:TE}{σ : St}{caps:List (Str × Nat)}{H:Hp}{Q:VK} (f:Int->Option V) (hn:n<=1000)
  (wQ:∀ (i:Nat),i < n->∀ H',bz H H'->∀ (R:Bool->Hp->Prop),(R (f (lo+i)).isSome H')->ct (some (.int (lo+i)) :: jy σ caps) H' R)
  (IZ:∀ (i:Nat) v,i < n->f (lo+i)=some v->∀ H',bz H H'->∀ Q':VK,Q' v H'->te (some (.int (lo+i)) :: jy σ caps) H' Q')
  (hq:∀ D,H D=none->Q (.ref D) (aG H D (.lst ((cu n).filterMap fun i:Nat=>f (lo+i))))) :
  yQ (Cj lo n) (bH 0) ct te (aX 1 none ++ jy σ caps) H Q:=by
 intro D hD
 refine⟨fun i m τ zs H'=>m=n - i∧i<=n∧(∃ o, τ = o :: jy σ caps)∧zs=(cu i).filterMap (fun i:Nat=>f (lo+i))∧H'=aG H D (.lst zs),⟨n,by simp,aS _,⟨none,rfl⟩,by simp,rfl⟩,?_⟩
 rintro i m τ zs H' ⟨rfl,hi,⟨o,rfl⟩,rfl,rfl⟩
 refine⟨ay,?_⟩
 have sm:∀ zs,bz H (aG H D (.lst zs)):=fun zs=>aM hD _
 by_cases cS:i < n
 ·refine .inr ⟨cS,?_,fun x pJ y => ?_⟩
  ·refine cY (aF (sR _ _) ?_)
   rw[fb];omega
  obtain⟨e,e2⟩:=y
  subst e e2
  show ct (some (.int (lo+(i:Int))) :: jy σ caps) _ _
  refine wQ i cS _ (sm _) _ ?_
  have step:(cu (i+1)).filterMap (fun i:Nat=>f (lo+i))=(cu i).filterMap (fun i:Nat=>f (lo+i)) ++ (match f (lo+i) with | some v => [v] | none => []):=by
   rw[Ca,oA]
   congr 1
   rw[gu,List.filterMap_nil]
   cases f (lo+(i:Int)) <;> rfl
  cases e:f (lo+(i:Int)) with
  | none =>
   rw[e]at step
   refine⟨n - (i+1),by omega,rfl,cS,⟨_,rfl⟩,?_,rfl⟩
   rw[step,cg]
  | some v =>
   rw[e]at step
   refine IZ i v cS e _ (sm _) _ ?_
   refine⟨ay,n - (i+1),by omega,rfl,cS,⟨_,rfl⟩,step.symm,?_⟩
   rw[Cr]
 ·have e:i=n:=by omega
  subst e
  exact .inl ⟨ao _,hq D hD⟩
end L2
namespace Sw
open PySem L2
abbrev Tm:=TM Str
abbrev nV (n:Nat):V:=V.int (n:Int)
def i7 (H:Hp):Tm->V->Prop
 | .num n,v=>∃ a,v = .ref a∧H a=some (.tup [.str "num",.int n])
 | .name x,v=>∃ a,v = .ref a∧H a=some (.tup [.str "name",.str x])
 | .of x as,v=>∃ a b,v = .ref a∧H a=some (.tup [.str "of",.str x,.ref b])∧H b=some (.tup (as.map nV))
theorem i7.keep {H H':Hp} (ht:∀ b ys,H b=some (.tup ys)->H' b=some (.tup ys)):∀ {t:Tm}{v:V},i7 H t v->i7 H' t v
 | .num n,v,h=>by obtain⟨a,e,h⟩:=h;exact⟨a,e,ht _ _ h⟩
 | .name x,v,h=>by obtain⟨a,e,h⟩:=h;exact⟨a,e,ht _ _ h⟩
 | .of x as,v,h=>by obtain⟨a,b,e,h,h2⟩:=h;exact⟨a,b,e,ht _ _ h,ht _ _ h2⟩
theorem i7.same {H H':Hp}{t:Tm}{v:V} (sm:bz H H') (h:i7 H t v):i7 H' t v:=h.keep fun b ys=>sm _ _
abbrev mG (H:Hp):List V->List Tm->Prop:=Paired fun v t=>i7 H t v
theorem jU {H H':Hp}{us:List V}{ts:List Tm} (ht:∀ b ys,H b=some (.tup ys)->H' b=some (.tup ys)) (h:mG H us ts):mG H' us ts:=Paired.ug h fun _ _ z=>z.keep ht
theorem fu {H H':Hp}{us:List V}{ts:List Tm} (sm:bz H H') (h:mG H us ts):mG H' us ts:=jU (fun b ys=>sm _ _) h
theorem j8 {H:Hp}:∀ {us:List V}{ts:List Tm}{i:Nat}{v:V},mG H us ts->us[i]? = some v->∃ t,ts[i]? = some t∧i7 H t v
 | _,_,_,_,.nil,e=>by simp at e
 | _,_,0,_,.cons h _,e=>by simp at e;subst e;exact⟨_,rfl,h⟩
 | _,_,i+1,v,.cons _ r,e=>by
  obtain⟨t,e',h⟩:=j8 (i:=i) (v:=v) r (by simpa using e)
  exact⟨t,by simpa using e',h⟩
theorem EJ {H:Hp}{us:List V}{ts:List Tm}{v:V}{t:Tm} (h:mG H us ts) (q:i7 H t v):mG H (us ++ [v]) (ts ++ [t]):=lK h q
def dv:Tm->NK
 | .num n => [.inl (.inr "num"),.inl (.inl n)]
 | .name x => [.inl (.inr "name"),.inl (.inr x)]
 | .of x as => [.inl (.inr "of"),.inl (.inr x),.inr (as.map fun n:Nat=>(.inl (n:Int):Key))]
theorem pM:∀ {t u:Tm},dv t=dv u->t=u
 | .num n,.num m,e=>by unfold dv at e;simp at e;rw[e]
 | .name x,.name y,e=>by unfold dv at e;simp at e;rw[e]
 | .of x as,.of y bs,e=>by
  unfold dv at e
  simp only[jQ,wW,wV,and_true,true_and]at e
  rw[e.1]
  have:=oN (f:=fun n:Nat=>(.inl (n:Int):Key)) (fun a b h=>by have h:=zP h;omega) e.2
  rw[this]
 | .num n,.name y,e=>by
  unfold dv at e
  simp only[jQ,wW,wV]at e
  exact absurd e.1 (by decide)
 | .name n,.num y,e=>by
  unfold dv at e
  simp only[jQ,wW,wV]at e
  exact absurd e.1 (by decide)
 | .num n,.of y bs,e=>by unfold dv at e;simp at e
 | .name n,.of y bs,e=>by unfold dv at e;simp at e
 | .of y bs,.num n,e=>by unfold dv at e;simp at e
 | .of y bs,.name n,e=>by unfold dv at e;simp at e
theorem XC (as:List Nat):as.map nV=(as.map fun n:Nat=>(.inl (n:Int):Key)).map kV:=by
 rw[dF];rfl
theorem i7.key {H:Hp}:∀ {t:Tm}{v:V},i7 H t v->∃ b,v = .ref b∧mO H (dv t) b
 | .num n,v,h=>by
  obtain⟨a,e,h⟩:=h
  refine⟨a,e,_,h,?_⟩
  exact⟨_,rfl,_,rfl,rfl⟩
 | .name x,v,h=>by
  obtain⟨a,e,h⟩:=h
  refine⟨a,e,_,h,?_⟩
  exact⟨_,rfl,_,rfl,rfl⟩
 | .of x as,v,h=>by
  obtain⟨a,b,e,h,h2⟩:=h
  refine⟨a,e,_,h,?_⟩
  rw[XC]at h2
  exact⟨_,rfl,_,rfl,b,_,rfl,h2,rfl⟩
def fT:Tm->D
 | .num n => .tup [.str "num",.int n]
 | .name x => .tup [.str "name",.str x]
 | .of x as => .tup [.str "of",.str x,.tup (as.map fun n:Nat => .int (n:Int))]
theorem DU {H:Hp}:∀ as:List Nat,qf H (as.map fun n:Nat=>D.int (n:Int)) (as.map nV)
 | []=>by rw[du,du];exact sC
 | a :: as=>by rw[aJ,aJ];exact jK (by rw[Den];exact .inl rfl) (DU as)
theorem i7.den {H:Hp}:∀ {t:Tm}{v:V},i7 H t v->Den H (fT t) v
 | .num n,v,h=>by
  obtain⟨a,e,h⟩:=h
  rw[fT,Den]
  exact⟨a,_,e,h,jK (by rw[Den]) (jK (by rw[Den];exact .inl rfl) sC)⟩
 | .name x,v,h=>by
  obtain⟨a,e,h⟩:=h
  rw[fT,Den]
  exact⟨a,_,e,h,jK (by rw[Den]) (jK (by rw[Den]) sC)⟩
 | .of x as,v,h=>by
  obtain⟨a,b,e,h,h2⟩:=h
  rw[fT,Den]
  exact⟨a,_,e,h,jK (by rw[Den]) (jK (by rw[Den]) (jK (by rw[Den];exact⟨b,_,rfl,h2,DU as⟩) sC))⟩
theorem Sb {H:Hp}{us:List V}{ts:List Tm} (h:mG H us ts):qf H (ts.map fT) us:=by
 induction h with
 | nil=>exact sC
 | cons h _ ih=>rw[aJ];exact jK h.den ih
theorem DI:∀ as:List Nat,D.eJ (as.map fun n:Nat=>D.int (n:Int))=0
 | []=>by rw[du,D.eJ]
 | a :: as=>by rw[aJ,D.eJ,DI as,D.deep];rfl
theorem Sd:∀ t:Tm,(fT t).deep<=2
 | .num n=>by rw[fT,D.deep,D.eJ,D.eJ,D.eJ,D.deep,D.deep];decide
 | .name n=>by rw[fT,D.deep,D.eJ,D.eJ,D.eJ,D.deep,D.deep];decide
 | .of x as=>by rw[fT,D.deep,D.eJ,D.eJ,D.eJ,D.eJ,D.deep,D.deep,D.deep,DI];decide
theorem EK:∀ ts:List Tm,D.eJ (ts.map fT)<=2
 | []=>by rw[du,D.eJ];omega
 | t :: ts=>by rw[aJ,D.eJ];have:=EK ts;have:=Sd t;omega
theorem rH:∀ {t u:Tm},fT t=fT u->t=u
 | .num n,.num m,e=>by unfold fT at e;simp at e;rw[e]
 | .name x,.name y,e=>by unfold fT at e;simp at e;rw[e]
 | .of x as,.of y bs,e=>by
  unfold fT at e
  simp only[D.tup.injEq,jQ,D.str.injEq,and_true,true_and]at e
  rw[e.1]
  have:=oN (f:=fun n:Nat=>D.int (n:Int)) (fun a b h=>by have h:=D.int.inj h;omega) e.2
  rw[this]
 | .num n,.name y,e=>by
  unfold fT at e
  simp only[D.tup.injEq,jQ,D.str.injEq]at e
  exact absurd e.1 (by decide)
 | .name n,.num y,e=>by
  unfold fT at e
  simp only[D.tup.injEq,jQ,D.str.injEq]at e
  exact absurd e.1 (by decide)
 | .num n,.of y bs,e=>by unfold fT at e;simp at e
 | .name n,.of y bs,e=>by unfold fT at e;simp at e
 | .of y bs,.num n,e=>by unfold fT at e;simp at e
 | .of y bs,.name n,e=>by unfold fT at e;simp at e
def gm (L:Addr) (H H':Hp):Prop := ∀ c o,c≠L->H c=some o->H' c=some o
theorem gm.refl (L:Addr) (H:Hp):gm L H H:=fun _ _ _ h=>h
theorem gm.trans {L:Addr}{H H1 H2:Hp} (a:gm L H H1) (b:gm L H1 H2):gm L H H2:=fun c o n h=>b c o n (a c o n h)
theorem gm.same {L:Addr}{H H1 H2:Hp} (a:gm L H H1) (b:bz H1 H2):gm L H H2:=fun c o n h=>b c o (a c o n h)
theorem gm.put {L:Addr}{H H1:Hp}{o:HO} (a:gm L H H1):gm L H (aG H1 L o):=fun c u n h=>by rw[aD n];exact a c u n h
theorem gm.new {L p:Addr}{H H1:Hp}{o:HO} (a:gm L H H1) (hp:H p=none):gm L H (aG H1 p o):=fun c u n h=>by rw[aD (bM h hp)];exact a c u n h
theorem gm.tup {L:Addr}{H H1:Hp}{ls:List V} (a:gm L H H1) (hL:H L=some (.lst ls)):∀ b ys,H b=some (.tup ys)->H1 b=some (.tup ys):=fun b ys h=>a b _ (cX h hL (fun z=>nomatch z)) h
def yM (H:Hp) (v:V) (e:Nat × Nat):Prop := ∃ a rest,v = .ref a∧H a=some (.tup (nV e.1 :: nV e.2 :: rest))
theorem yM.keep {H H':Hp}{v:V}{e:Nat × Nat} (ht:∀ b ys,H b=some (.tup ys)->H' b=some (.tup ys)) (h:yM H v e):yM H' v e:=by
 obtain⟨a,r,z,h⟩:=h
 exact⟨a,r,z,ht _ _ h⟩
abbrev Cn (H:Hp):List V->List (Nat × Nat)->Prop:=Paired (yM H)
theorem hJ {H H':Hp}{us:List V}{es:List (Nat × Nat)} (ht:∀ b ys,H b=some (.tup ys)->H' b=some (.tup ys)) (h:Cn H us es):Cn H' us es:=Paired.ug h fun _ _ z=>z.keep ht
theorem GL {H:Hp}:∀ {us:List V}{ts:List (Nat × Nat)}{i:Nat}{v:V},Cn H us ts->us[i]? = some v->∃ t,ts[i]? = some t∧yM H v t
 | _,_,_,_,.nil,e=>by simp at e
 | _,_,0,_,.cons h _,e=>by simp at e;subst e;exact⟨_,rfl,h⟩
 | _,_,i+1,v,.cons _ r,e=>by
  obtain⟨t,e',h⟩:=GL (i:=i) (v:=v) r (by simpa using e)
  exact⟨t,by simpa using e',h⟩
theorem xD {t rest:TS}{D:Ends}{σ : St}{H:Hp} (R:St->Hp->Prop) (key:∀ cc H',R cc H'->rest D cc H') (h:∀ {N:St->Hp->Prop},(∀ cc H',R cc H'->N cc H')->t { D with nx:=N } σ H):OH t rest D σ H:=h key
theorem jf {ls:List Nat}{k v:Nat} (h:ls[k]? = some v):ou (ls.map nV) (k:Int)=some (nV v):=a7 (by rw[aH,h];rfl)
theorem Uy {ls:List Nat}{k v:Nat}:(ls.map nV).set k (nV v)=(ls.set k v).map nV:=by rw[List.map_set]
def G8 (ts:List Tm):Prop:=Dn ts∧(∀ (i:Nat) x as,ts[i]? = some (.of x as)->as.length<=4∧1<=as.length)∧ts.Nodup
theorem OF:G8 []:=⟨fun i x as h=>by simp at h,fun i x as h=>by simp at h,iI⟩
theorem GR {xs:List V}{lo hi:Option Int}{x:V} (h:x∈wj xs lo hi):x∈xs:=ie (fN h)
theorem oM {α β : Type}{R : α -> β -> Prop}:∀ {xs HI:List α}{ys X7:List β},Paired R xs ys->Paired R HI X7->Paired R (xs ++ HI) (ys ++ X7)
 | _,_,_,_,.nil,h=>h
 | _,_,_,_,.cons h r,q => .cons h (oM r q)
theorem getD_at {ls:List Nat}{k:Nat} (h:k < ls.length):ls[k]? = some (ls.getD k 0):=by rw[br,ai h];rfl
end Sw
namespace L2
open PySem PySem.Spec PyProof.Rows
section
variable {prog:Program}{w:World}{K:Type} [DecidableEq K] {knd:HeapKind prog w K}{A:Around}{E:Value->Shared->Prop}{s:Shared}{d:Addr}{xs:List (K × Addr × Value)}
end
section
variable {X:Cx}{ae:List (Addr × Obj)}{σ : St}{H:Hp}{s:Shared}{a b:Addr}{kvs mx:List (NK × V)}{k:NK}{y v:V}{u r:Value}{A:Around}{E:Value->Shared->Prop}
theorem KN.Fh {xs:List (NK × Addr × Value)} (r:KN H kvs xs) (k:NK) {y:V}{u:Value} (ry:RelV y u) :
  KN H (kvs.map fun kv=>if kv.1=k then (kv.1,y) else kv) (xs.map (putAt k u)):=by
 induction r with
 | nil=>exact .nil
 | @cons p q ps qs h t ih =>
  rw[aJ,aJ]
  refine .cons ?_ ih
  obtain⟨h1,h2,h3⟩:=h
  unfold putAt
  by_cases e:p.1=k
  ·rw[if_pos e,if_pos (h1.symm.trans e)];exact⟨h1,h2,ry⟩
  ·rw[if_neg e,if_neg (fun z=>e (h1.trans z))];exact⟨h1,h2,h3⟩
theorem KN.put {xs:List (NK × Addr × Value)} (r:KN H kvs xs) (k:NK) {b:Addr}{y:V}{u:Value} (hb:mO H k b) (ry:RelV y u) :
  KN H (fw kvs k y) (storedH xs k b u):=by
 have e:(kvs.any fun kv=>decide (kv.1=k))=(atKey xs k).isSome:=by
  rw[jT,(r.val k).mz,j4]
 unfold fw storedH
 rw[e]
 by_cases q:(atKey xs k).isSome=true
 ·rw[if_pos q,if_pos q];exact r.Fh k ry
 ·rw[if_neg q,if_neg q];exact lK r ⟨rfl,hb,ry⟩
theorem P9 {Q:Value->Shared->Prop} (hu:A.units+10 < cLine) (I:Inv X ae σ H s) (d:DN X.prog X.w H a kvs) (nk:mO H k b) (h:∀ s',Inv X ae σ H s'->Q (.bool (!(cA kvs k).isSome)) s') :
  wpAny (model X.prog X.w) A (compareOp .NotIn (.ref b) (.ref a)) Q E s:=by
 obtain⟨z,hd,xs,dM,dd⟩:=BJ I.bw d
 refine wpAny_notIn_heap (show A.units+1+5 < cLine by omega) (uK I.bw nk) hd dd ?_
 have q:=(dM.val k).mz
 rw[j4]at q
 rw[<- q]
 exact h _ (I.tok _)
theorem Lk {Q:Unit->Shared->Prop} (hu:A.units+10 < cLine) (I:Inv X ae σ H s) (d:DN X.prog X.w H a kvs) (nk:mO H k b) (rv:RelV v r) (hl:kvs.length < sizeLine)
  (h:∀ φ s',Inv X ae σ (aG H a (.ext φ)) s'->DN X.prog X.w (aG H a (.ext φ)) a (fw kvs k v)->Q () s') :
  wpAny (model X.prog X.w) A (setItem (.ref a) (.ref b) r) Q E s:=by
 obtain⟨z,hd,xs,dM,dd⟩:=BJ I.bw d
 have hz:xs.length<=sizeLine:=by rw[<- bJ dM];exact z
 have DJ:(fw kvs k v).length<=sizeLine:=by have:=qm kvs k v;omega
 refine wpAny_setItem_heap (hsz:=hz) (show A.units+1+5 < cLine by omega) (uK I.bw nk) dd fun h' u5 hs => ?_
 obtain⟨φ,I',d'⟩:=GP (t':=s.toks+(qD X.prog X.w).draws k) I d hs u5 (dM.put k nk rv) DJ
 exact h φ _ I' d'
theorem Te {Q:Value->Shared->Prop} (hu:A.units+10 < cLine) (I:Inv X ae σ H s) (d:DN X.prog X.w H a kvs) (nk:mO H k b) (h:∀ w' s',Inv X ae σ H s'->RelV ((cA kvs k).getD .df) w'->Q w' s') :
  wpAny (model X.prog X.w) A (call (.builtin "dict.get") [.ref a,.ref b]) Q E s:=by
 obtain⟨z,hd,xs,dM,dd⟩:=BJ I.bw d
 exact call_meetsIn vi dd.typeIs PySem.F.entry_dict_get (PySem.F.args_dict_get_2 _ _) (meetsH_dict_get (qD X.prog X.w) a b hd) ⟨(show A.units+1+5 < cLine by omega),k,xs,uK I.bw nk,dd,h _ _ (I.tok _) ((dM.val k).getD rfl)⟩
end
inductive Ec (P:Program) (w:World) (Q:VK) (y:V) (x:V) (H2:Hp):Prop
 | mk:∀ a b kvs k,(x = .ref a)->(y = .ref b)->(DN P w H2 a kvs)->(mO H2 k b)->(Q (.bl (!(cA kvs k).isSome)) H2)->Ec P w Q y x H2
def Sf (P:Program) (w:World) (ty td:TE):TE:=fun σ H Q=>ty σ H fun y H1=>td σ H1 fun x H2=>Ec P w Q y x H2
inductive JS (P:Program) (w:World) (D:Ends) (σ : St) (v:V) (x:V) (y:V) (H3:Hp):Prop
 | mk:∀ a b kvs k,(x = .ref a)->(y = .ref b)->(DN P w H3 a kvs)->(mO H3 k b)->(kvs.length < sizeLine)->(∀ φ,DN P w (aG H3 a (.ext φ)) a (fw kvs k v)->D.nx σ (aG H3 a (.ext φ)))->JS P w D σ v x y H3
def Xq (P:Program) (w:World) (td ty tv:TE):TS:=fun D σ H=>tv σ H fun v H1=>td σ H1 fun x H2=>ty σ H2 fun y H3=>JS P w D σ v x y H3
inductive Hf (P:Program) (w:World) (ty:TE) (σ : St) (Q:VK) (x:V) (H1:Hp):Prop
 | mk:∀ a,(x = .ref a)->((∃ kvs,DN P w H1 a kvs))->(ty σ H1 fun y H2=>∃ b kvs k,y = .ref b∧DN P w H2 a kvs∧mO H2 k b∧Q ((cA kvs k).getD .df) H2)->Hf P w ty σ Q x H1
def TN (P:Program) (w:World) (td ty:TE):TE:=fun σ H Q=>td σ H fun x H1=>Hf P w ty σ Q x H1
section
variable {X:Cx}{o i e f value:Expr}{pos eI fI eT:Pos}{td ty tv:TE}
theorem DB (hu:X.A.units+10 < cLine) (hi:PE X i ty) (ho:PE X o td):PC X .NotIn i o (Sf X.prog X.w ty td):=by
 intro ae s σ H Q I h
 refine bW (hi ae s σ H _ I h) fun iv s1 ⟨y,H1,I1,ry,q1⟩=>bW (ho ae s1 σ H1 _ I1 q1) fun u s2 ⟨x,H2,I2,rx,a,b,kvs,k,ex,ey,d,nk,q2⟩ => ?_
 subst ex ey
 obtain rfl:u=bf a:=rx
 obtain rfl:iv=bf b:=ry
 exact P9 hu I2 d nk fun s3 I3=>⟨.bl (!(cA kvs k).isSome),H2,I3,rfl,q2⟩
theorem CA (hu:X.A.units+10 < cLine) (ho:PE X o td) (hi:PE X i ty) (hv:PE X value tv) (hs:swapsWith value (some (.Subscript o i eI)) pos.line X.env=pure false) :
  PS X (.Assign [.Subscript o i eI] value pos) (Xq X.prog X.w td ty tv):=by
 intro ae s σ H D I h
 refine wpAny_Assign_Subscript (bW (hv ae s σ H _ I h) fun r s1 ⟨v,H1,I1,rv,q1⟩=>bW (ho ae s1 σ H1 _ I1 q1) fun u s2 ⟨x,H2,I2,rx,q2⟩=>bW (hi ae s2 σ H2 _ I2 q2) fun iv s3 ⟨y,H3,I3,ry,a,b,kvs,k,ex,ey,d,nk,hl,q3⟩ => ?_) hs
 subst ex ey
 obtain rfl:u=bf a:=rx
 obtain rfl:iv=bf b:=ry
 exact Lk hu I3 d nk rv hl fun φ s4 I4 d4=>⟨σ,_,I4,q3 φ d4⟩
theorem Aj (hu:X.A.units+10 < cLine) (ho:PE X o td) (he:PE X e ty) (m:M1 X o "get" fI e eT):PE X (.Call (.Attribute o "get" fI) [e] [] eT) (TN X.prog X.w td ty):=by
 intro ae s σ H Q I h
 refine wpAny_Call_method m.base m.jZ m.line jF vi PySem.F.type_dict_get (bW (ho ae s σ H _ I h) fun u s1 ⟨x,H1,I1,rx,a,ex,d,q1⟩ => ?_)
 subst ex
 obtain rfl:u=bf a:=rx
 obtain⟨t1,t2,_⟩:=MX I1 d
 refine⟨t1,t2,?_⟩
 rw[m.trees]
 refine gC rfl (k7 (iS (bW (he ae s1 σ H1 _ I1 q1) fun iv s2 ⟨y,H2,I2,ry,b,kvs,k,ey,d2,nk,q2⟩=>nq ?_)))
 subst ey
 obtain rfl:iv=bf b:=ry
 exact Te hu I2 d2 nk fun w' s3 I3 mY=>⟨_,H2,I3,mY,q2⟩
inductive zU (xs:List V) (H:Hp) (Q:VK):Prop
 | mk:∀ p kvs,(xs = [.ref p])->(H p=some (.dK kvs))->(Q (.int kvs.length) H)->zU xs H Q
theorem NU:k9 X (.builtin "len") (fun xs H Q=>zU xs H Q):=by
 intro ae s σ H xs us Q I r h
 obtain⟨p,kvs,rfl,d,q⟩:=h
 obtain⟨u,rfl,ru⟩:=vals1 r
 cases ru
 exact XZ I (.inl d) fun t s' I'=>⟨.int kvs.length,H,I',⟨t,rfl⟩,q⟩
end
section
variable {X:Cx}
variable {o:Expr}{fI eT:Pos}{td:TE}
end
def DXo (P:Program) (w:World) (a:Addr) (o:Obj) (kvs:List (Key × V)):Prop:=kvs.length<=sizeLine∧(a == sysModules)=false∧∃ (vs:List (Key × Value)) (ep:Nat),KV kvs vs∧∀ h:Heap,h.get? a=some o->h.DictAt (dg P w) a vs ep
def Ext (a:Addr) (o:Obj):HO := .ext fun h=>h.get? a=some o
theorem Inv.freeze {X:Cx}{ae:List (Addr × Obj)}{σ : St}{H:Hp}{s:Shared}{a:Addr}{kvs:List (Key × V)} (I:Inv X ae σ H s) (e:H a=some (.dK kvs)):∃ o,DXo X.prog X.w a o kvs∧Inv X ae σ (aG H a (Ext a o)) s:=by
 obtain⟨z,hd,vs,dM,dd⟩:=Ll I.bw e
 obtain⟨o,es,ep,ho,r⟩:=dd
 refine⟨o,⟨z,hd,vs,ep,dM,fun h hh=>⟨o,es,hh,r⟩⟩,?_⟩
 exact u6 (h':=s.heap) (t':=s.toks) I (by rw[e];exact fg) (cQ.refl _ _) ⟨o,ho⟩ (GH ho)
theorem ze {P:Program}{w:World}{H:Hp}{h:Heap}{a:Addr}{o:Obj} (ok:ir P w H h) (e:H a=some (Ext a o)):h.get? a=some o:=(show cR P w H h a (.ext fun h=>h.get? a=some o) from ok a _ e).1
section
variable {X:Cx}{tg l:Expr}{tl:TE}
end
section
variable {X:Cx}{ae:List (Addr × Obj)}{σ : St}{H:Hp}{s:Shared}{a:Addr}{kvs:List (Key × V)}{k:Key}{v:V}{u r:Value}{A:Around}{E:Value->Shared->Prop}
theorem El {Q:Value->Shared->Prop} (I:Inv X ae σ H s) (e:H a=some (.dK kvs)) (ry:RelV (kV k) u) (rv:RelV v r) (hl:kvs.length < sizeLine)
  (h1:∀ v' w' s',cA kvs k=some v'->RelV v' w'->Inv X ae σ H s'->Q w' s') (h2:cA kvs k=none->∀ s',Inv X ae σ (aG H a (.dK (kvs ++ [(k,v)]))) s'->Q r s') :
  wpAny (model X.prog X.w) A (call (.builtin "dict.setdefault") [.ref a,u,r]) Q E s:=by
 obtain⟨z,hd,vs,dM,dd⟩:=Ll I.bw e
 have hz:vs.length<=sizeLine:=by rw[<- dM.length];exact z
 have ro:=dM.val k
 refine call_meetsIn iH dd.typeIs pD (o8 _ _ _) (kt_meets_setdefault (dg X.prog X.w) a (vS ry) hd r) ?_
 refine⟨vs,dd,hz,fun w' hw => ?_,fun hn h' u5 hs => ?_⟩
 ·rw[hw]at ro
  cases e:cA kvs k with
  | none=>rw[e]at ro;exact ro.elim
  | some v'=>rw[e]at ro;exact h1 v' _ _ e ro (I.tok _)
 ·rw[hn]at ro
  cases e':cA kvs k with
  | some v'=>rw[e']at ro;exact ro.elim
  | none =>
   refine h2 e' _ ?_
   have he:∃ q,h'.get? a=some q:=let ⟨q,_,_,hq,_⟩:=u5; ⟨q,hq⟩
   have hp:=dM.put k rv
   rw[vJ v e']at hp
   exact u6 I (by rw[e];exact fg) hs he (NI (by rw[au];exact hl) hd hp u5)
end
def Xk (td ty tx:TE):TE:=fun σ H Q=>td σ H fun x H1=>∃ a,x = .ref a∧Z0 H1 a∧ty σ H1 fun y H2=>tx σ H2 fun z H3=>∃ kvs k,H3 a=some (.dK kvs)∧y=kV k∧kvs.length < sizeLine ∧
 (∀ v,cA kvs k=some v->Q v H3)∧(cA kvs k=none->Q z (aG H3 a (.dK (kvs ++ [(k,z)]))))
section
variable {X:Cx}{o e f:Expr}{fI eT:Pos}{td ty tx:TE}
theorem Sv (ho:PE X o td) (he:PE X e ty) (hf:PE X f tx) (m:M2 X o "setdefault" fI e f eT):PE X (.Call (.Attribute o "setdefault" fI) [e,f] [] eT) (Xk td ty tx):=by
 intro ae s σ H Q I h
 refine wpAny_Call_method m.base m.jZ m.line jF iH p9 (bW (ho ae s σ H _ I h) fun u s1 ⟨x,H1,I1,rx,a,ex,d,q1⟩ => ?_)
 subst ex
 obtain rfl:u=bf a:=rx
 obtain⟨t1,t2,_⟩:=UQ I1 d
 refine⟨t1,t2,?_⟩
 rw[m.trees]
 refine gC rfl (k7 (iS (bW (he ae s1 σ H1 _ I1 q1) fun iv s2 ⟨y,H2,I2,ry,q2⟩ =>
  iS (bW (hf ae s2 σ H2 _ I2 q2) fun fv s3 ⟨z,H3,I3,rz,kvs,k,d3,ey,hl,q3,q4⟩=>nq ?_))))
 subst ey
 exact El I3 d3 ry rz hl (fun v' w' s4 e4 r4 I4=>⟨v',H3,I4,r4,q3 v' e4⟩) fun hn s4 I4=>⟨z,_,I4,rz,q4 hn⟩
end
theorem wk:bootBuiltins "dict" = some (.type "dict"):=by decide +kernel
end L2
namespace Sw
open PySem L2
def kP (ms:List Tm) (k:Nat):Bool:=match ms[k]? with | some m => !decide (fT m∈(ms.take k).map fT) | none=>false
def cV (ms:List Tm) (n:Nat):List Nat:=(cu n).filter (kP ms)
theorem nD (ms:List Tm) (n:Nat):cV ms (n+1)=cV ms n ++ (if kP ms n then [n] else []):=by
 unfold cV
 rw[Ca,mQ]
 congr 1
 cases h:kP ms n <;> simp[h]
theorem oR (ms:List Tm) (n:Nat):(cV ms n).length<=n:=by
 have:=iW (kP ms) (cu n)
 rwa [fb]at this
theorem NB {ms:List Tm}{n k:Nat} (h:k∈cV ms n):k < n:=iJ.mp (eg.mp h).1
theorem oi {ms:List Tm}{n:Nat}{m:Tm} (h:ms[n]? = some m):kP ms n=false↔∃ i,i < n∧ms[i]? = some m:=by
 unfold kP
 rw[h]
 show (!decide (fT m∈(ms.take n).map fT))=false↔_
 rw[Bool.not_eq_false',decide_eq_true_iff]
 constructor
 ·intro z
  obtain⟨m',Bs,e⟩:=bu.mp z
  have e:=rH e
  subst e
  obtain⟨i,hi⟩:=oz.mp Bs
  rw[yA]at hi
  split at hi
  ·exact⟨i,by assumption,hi⟩
  ·cases hi
 ·rintro⟨i,hi,e⟩
  refine bu.mpr ⟨m,oz.mpr ⟨i,?_⟩,rfl⟩
  rw[yA,if_pos hi];exact e
abbrev Row:=Nat × List Nat
def jg (ps:List Row) (l:Nat):Option (List Nat):=(ps.find? fun p=>decide (p.1=l)).map (·.2)
def oJ (ps:List Row) (l:Nat) (zs:List Nat):List Row:=if (ps.any fun p=>decide (p.1=l))=true then ps.map (fun p=>if p.1=l then (p.1,zs) else p) else ps ++ [(l,zs)]
def nS (ps:List Row) (l k:Nat):List Row:=oJ ps l ((jg ps l).getD [] ++ [k])
def jc (ls fs:List Nat):List Row:=fs.foldl (fun ps k=>nS ps (ls.getD k 0) k) []
theorem xx (ls fs:List Nat) (k:Nat):jc ls (fs ++ [k])=nS (jc ls fs) (ls.getD k 0) k:=by unfold jc;rw[zt];rfl
theorem Me (ps:List Row) (l:Nat) (zs:List Nat) (h:(ps.map (·.1)).Nodup):((oJ ps l zs).map (·.1)).Nodup:=by
 unfold oJ
 split
 ·have e:(ps.map (fun p=>if p.1=l then (p.1,zs) else p)).map (·.1)=ps.map (·.1):=by
   rw[dF]
   refine dW fun p _ => ?_
   show (if p.1=l then (p.1,zs) else p).1=p.1
   split <;> rfl
  rw[e];exact h
 ·rename_i q
  rw[cf,fZ]
  refine⟨h,by simp,?_⟩
  intro a ha b hb e
  simp only[aJ,du,av]at hb
  obtain⟨p,hp,rfl⟩:=bu.mp ha
  exact q (List.any_eq_true.mpr ⟨p,hp,decide_eq_true (e.trans hb)⟩)
theorem xA (ls:List Nat):∀ fs:List Nat,((jc ls fs).map (·.1)).Nodup:=by
 have key:∀ (fs:List Nat) (ps:List Row),(ps.map (·.1)).Nodup->((fs.foldl (fun ps k=>nS ps (ls.getD k 0) k) ps).map (·.1)).Nodup:=by
  intro fs
  induction fs with
  | nil=>intro ps h;exact h
  | cons k fs ih=>intro ps h;exact ih _ (Me _ _ _ h)
 exact fun fs=>key fs [] iI
theorem OX (ps:List Row) (l:Nat) (zs:List Nat):(oJ ps l zs).length<=ps.length+1:=by
 unfold oJ
 split
 ·rw[aj];omega
 ·rw[au];exact ao _
theorem OS (ls:List Nat):∀ fs:List Nat,(jc ls fs).length<=fs.length:=by
 have key:∀ (fs:List Nat) (ps:List Row),(fs.foldl (fun ps k=>nS ps (ls.getD k 0) k) ps).length<=ps.length+fs.length:=by
  intro fs
  induction fs with
  | nil=>intro ps;exact ao _
  | cons k fs ih =>
   intro ps
   have h1:=ih (nS ps (ls.getD k 0) k)
   have h2:(nS ps (ls.getD k 0) k).length<=ps.length+1:=OX _ _ _
   rw[bB]
   exact aF h1 (by omega)
 intro fs
 have:=key fs []
 rwa [jP,cO]at this
theorem Kw {ps:List Row}{l:Nat}{zs:List Nat}{n:Nat} (h:∀ p∈ps,p.2.length<=n) (hz:zs.length<=n):∀ p∈oJ ps l zs,p.2.length<=n:=by
 intro p hp
 unfold oJ at hp
 split at hp
 ·obtain⟨q,hq,rfl⟩:=bu.mp hp
  split
  ·exact hz
  ·exact h q hq
 ·rcases bg.mp hp with hp | hp
  ·exact h p hp
  ·rw[av.mp hp];exact hz
theorem DF {ps:List Row}{l:Nat}{zs:List Nat} (h:jg ps l=some zs):(l,zs)∈ps:=by
 unfold jg at h
 obtain⟨p,hp,rfl⟩:=bS.mp h
 have e0:(fun p:Row=>decide (p.1=l)) p=true:=List.find?_some (p:=fun p:Row=>decide (p.1=l)) hp
 have e:=of_decide_eq_true e0
 have:=me hp
 rw[<- e];exact this
theorem Lq {ps:List Row}{l k n:Nat} (h:∀ p∈ps,p.2.length<=n):∀ p∈nS ps l k,p.2.length<=n+1:=by
 refine Kw (fun p hp=>zq (h p hp)) ?_
 rw[au]
 cases e:jg ps l with
 | none=>show 0+1<=n+1;omega
 | some zs=>have:=h _ (DF e);show zs.length+1<=n+1;exact Nat.succ_le_succ this
theorem Ku (ls:List Nat):∀ fs:List Nat,∀ p∈jc ls fs,p.2.length<=fs.length:=by
 have key:∀ (fs:List Nat) (ps:List Row) (n:Nat),(∀ p∈ps,p.2.length<=n)->∀ p∈fs.foldl (fun ps k=>nS ps (ls.getD k 0) k) ps,p.2.length<=n+fs.length:=by
  intro fs
  induction fs with
  | nil=>intro ps n h;exact h
  | cons k fs ih =>
   intro ps n h p hp
   have:=ih (nS ps (ls.getD k 0) k) (n+1) (Lq h) p hp
   rw[bB];omega
 intro fs p hp
 have:=key fs [] 0 (fun p hp=>by cases hp) p hp
 omega
def X3 (H:Hp) (kv:Key × V) (p:Row):Prop:=kv.1 = .inl ((p.1:Nat):Int)∧∃ l,kv.2 = .ref l∧H l=some (.lst (p.2.map nV))
abbrev j0 (H:Hp):List (Key × V)->List Row->Prop:=Paired (X3 H)
theorem FO {a b:Nat}:(iV ((a:Nat):Int):Key)=iV ((b:Nat):Int)↔a=b:=by
 constructor
 ·intro h;have:=zP h;omega
 ·intro h;rw[h]
theorem j0.look {H:Hp}{kvs:List (Key × V)}{ps:List Row} (r:j0 H kvs ps) (l:Nat):(cA kvs (.inl (l:Int))=none∧jg ps l=none)∨∃ a zs,cA kvs (.inl (l:Int))=some (.ref a)∧jg ps l=some zs∧H a=some (.lst (zs.map nV)):=by
 induction r with
 | nil=>exact .inl ⟨rfl,rfl⟩
 | @cons kv p kvs ps h t ih =>
  obtain⟨h1,a,h2,h3⟩:=h
  by_cases e:p.1=l
  ·refine .inr ⟨a,p.2,?_,?_,h3⟩
   ·rw[fq (by rw[h1,e]),h2]
   ·unfold jg;rw[eC,decide_eq_true e];rfl
  ·have n1:¬ kv.1 = .inl (l:Int):=fun z=>e (FO.mp (h1.symm.trans z))
   have n2:jg (p :: ps) l=jg ps l:=by unfold jg;rw[eC,decide_eq_false e]
   rw[ft n1,n2]
   exact ih
theorem j0.any {H:Hp}{kvs:List (Key × V)}{ps:List Row} (r:j0 H kvs ps) (l:Nat):(kvs.any fun kv=>decide (kv.1 = .inl (l:Int)))=ps.any fun p=>decide (p.1=l):=by
 induction r with
 | nil=>rfl
 | @cons kv p kvs ps h t ih =>
  rw[i6,i6,ih]
  congr 1
  rw[h.1]
  exact decide_eq_decide.mpr FO
theorem j0.keep {H H':Hp}{kvs:List (Key × V)}{ps:List Row} (r:j0 H kvs ps) (h:∀ l xs,(∃ kv∈kvs,kv.2 = .ref l)->H l=some (.lst xs)->H' l=some (.lst xs)):j0 H' kvs ps:=by
 induction r with
 | nil=>exact .nil
 | @cons kv p kvs ps q t ih =>
  refine .cons ?_ (ih fun l xs ⟨kv,hm,e⟩=>h l xs ⟨kv,aI _ hm,e⟩)
  obtain⟨q1,a,q2,q3⟩:=q
  exact⟨q1,a,q2,h a _ ⟨kv,aU,q2⟩ q3⟩
theorem j0.same {H H':Hp}{kvs:List (Key × V)}{ps:List Row} (r:j0 H kvs ps) (sm:bz H H'):j0 H' kvs ps:=r.keep fun l xs _ e=>sm _ _ e
theorem j0.grow {H:Hp}{kvs:List (Key × V)}{ps:List Row}{l a:Nat}{zs:List Nat} (r:j0 H kvs ps) (nd:(kvs.map (·.2)).Nodup) (nk:(ps.map (·.1)).Nodup) (hv:cA kvs (.inl (l:Int))=some (.ref a)) :
  j0 (aG H a (.lst (zs.map nV))) kvs (oJ ps l zs):=by
 have K6:(ps.any fun p=>decide (p.1=l))=true:=by rw[<- r.any l,jT,hv];rfl
 unfold oJ
 rw[if_pos K6]
 clear K6
 induction r with
 | nil=>exact .nil
 | @cons kv p kvs ps h t ih =>
  rw[aJ]at nd nk
  rw[dO]at nd nk
  rw[aJ]
  by_cases e:p.1=l
  ·have ek:kv.1 = .inl (l:Int):=by rw[h.1,e]
   rw[fq ek]at hv
   have e2:kv.2 = .ref a:=aB hv
   rw[if_pos e]
   refine .cons ⟨h.1,a,e2,ay⟩ ?_
   have em:ps.map (fun p=>if p.1=l then (p.1,zs) else p)=ps:=by
    rw[show ps=ps.map id from (qr ps).symm,dF]
    refine dW fun q hq => ?_
    show (if q.1=l then (q.1,zs) else q)=q
    rw[if_neg (fun z=>nk.1 (bu.mpr ⟨q,hq,by rw[z,e]⟩))]
   rw[em]
   refine j0.keep t fun b xs ⟨uM,hm,e3⟩ eb => ?_
   rw[aD (fun z=>nd.1 (bu.mpr ⟨uM,hm,by rw[e3,z,e2]⟩))]
   exact eb
  ·have ek:¬ kv.1 = .inl (l:Int):=fun z=>e (FO.mp (h.1.symm.trans z))
   rw[ft ek]at hv
   rw[if_neg e]
   refine .cons ?_ (ih nd.2 nk.2 hv)
   obtain⟨h1,b,h2,h3⟩:=h
   refine⟨h1,b,h2,?_⟩
   have hm:(.ref a:V)∈kvs.map (·.2):=by
    obtain⟨uM,hf,e4⟩:=bS.mp hv
    exact bu.mpr ⟨uM,me hf,e4⟩
   rw[aD (fun z=>nd.1 (by rw[h2,z];exact hm))]
   exact h3
def Cd (ts:List Tm) (ls:List Nat):Prop := ∀ (i j:Nat) (t u:Tm),ts[i]? = some t->ts[j]? = some u->mk ls t=mk ls u->ls[i]? = ls[j]?
theorem SY {ts:List Tm}{es:List (Nat × Nat)}{ls:List Nat} (ha:Dn ts) (h:Ox ts es ls):Cd ts ls:=fun i j t u hi hj e=>by
 obtain⟨c1,c2,c3,c4⟩:=h
 have li:=(ah.mp hi).1
 have lj:=(ah.mp hj).1
 have b1:∀ x as,t = .of x as->∀ a∈as,a < ls.length:=fun x as q a hm=>by subst q;have:=ha i x as hi a hm;omega
 have b2:∀ x as,u = .of x as->∀ a∈as,a < ls.length:=fun x as q a hm=>by subst q;have:=ha j x as hj a hm;omega
 refine c4 i j (by omega) (by omega) (AV hi hj (tu c3 b1) ?_)
 rw[e];exact tu c3 b2
theorem y7 {ts:List Tm}{ls:List Nat}{i:Nat}{t:Tm} (h:ts[i]? = some t):(ts.map (mk ls))[i]? = some (mk ls t):=by rw[aH,h];rfl
def nJ (ts:List Tm) (ls:List Nat) (n:Nat) (kvs:List (NK × V)):Prop :=
 (∀ (i:Nat) t,i < n->ts[i]? = some t->cA kvs (dv (mk ls t))=some (nV (ls.getD i 0)))∧(∀ k v,cA kvs k=some v->∃ i t,i < n∧ts[i]? = some t∧k=dv (mk ls t))∧kvs.length=(cV (ts.map (mk ls)) n).length
theorem OY {κ : Type} [DecidableEq κ] {kvs:List (κ × V)}{k : κ}{v:V} (y:V) (h:cA kvs k=some v):(fw kvs k y).length=kvs.length:=by
 unfold fw
 rw[jT,h]
 show (if true=true then _ else _:List _).length=_
 rw[if_pos rfl,aj]
theorem OG {ts:List Tm}{ls:List Nat}{n:Nat}{kvs:List (NK × V)}{t:Tm} (mw:Cd ts ls) (hl:ls.length=ts.length) (h:nJ ts ls n kvs) (ht:ts[n]? = some t):nJ ts ls (n+1) (fw kvs (dv (mk ls t)) (nV (ls.getD n 0))):=by
 obtain⟨h1,h2,h3⟩:=h
 have hn:=(ah.mp ht).1
 refine⟨fun i u hi hu => ?_,fun k v hv => ?_,?_⟩
 ·rw[rP]
  by_cases e:dv (mk ls u)=dv (mk ls t)
  ·rw[if_pos e]
   have e2:=mw i n u t hu ht (pM e)
   rw[br,br,e2]
  ·rw[if_neg e]
   refine h1 i u ?_ hu
   rcases mL.mp hi with q | q
   ·exact q
   ·subst q;rw[ht]at hu;cases hu;exact absurd rfl e
 ·rw[rP]at hv
  by_cases e:k=dv (mk ls t)
  ·exact⟨n,t,nU n,ht,e⟩
  ·rw[if_neg e]at hv
   obtain⟨i,u,hi,hu,ek⟩:=h2 k v hv
   exact⟨i,u,j5 hi,hu,ek⟩
 ·rw[nD,au]
  cases hv:cA kvs (dv (mk ls t)) with
  | some v =>
   obtain⟨i,u,hi,hu,ek⟩:=h2 _ _ hv
   have hf:kP (ts.map (mk ls)) n=false:=(oi (y7 ht)).mpr ⟨i,hi,by rw[y7 hu,pM ek]⟩
   rw[OY _ hv,hf,h3];rfl
  | none =>
   have hf:kP (ts.map (mk ls)) n=true:=by
    cases e:kP (ts.map (mk ls)) n with
    | true=>rfl
    | false =>
     obtain⟨i,hi,q⟩:=(oi (y7 ht)).mp e
     rw[aH]at q
     cases e2:ts[i]? with
     | none=>rw[e2]at q;cases q
     | some u =>
      rw[e2]at q
      have q2:mk ls u=mk ls t:=aB q
      have:=h1 i u hi e2
      rw[q2,hv]at this
      cases this
   rw[vJ _ hv,hf,au,h3];rfl
theorem DN.t7 {P:Program}{w:World}{H:Hp}{S a:Addr}{kvs:List (NK × V)}{u o:HO} (d:DN P w H S kvs) (ha:H a=some u) (h1:∀ φ,u ≠ .ext φ) (h2:∀ ys,u ≠ .tup ys):DN P w (aG H a o) S kvs :=
 d.keep (fun φ e=>by rw[aD (fun z=>by rw[z,ha]at e;exact h1 φ (aB e))];exact e) (fun b ys e=>by rw[aD (fun z=>by rw[z,ha]at e;exact h2 ys (aB e))];exact e)
theorem j0.t7 {H:Hp}{a:Addr}{kvs:List (Key × V)}{ps:List Row}{u o:HO} (r:j0 H kvs ps) (ha:H a=some u) (h1:∀ xs,u ≠ .lst xs):j0 (aG H a o) kvs ps :=
 r.keep fun l xs _ e=>by rw[aD (fun z=>by rw[z,ha]at e;exact h1 xs (aB e))];exact e
def sH (ts:List Tm) (ls:List Nat) (n:Nat) (kvs:List (NK × V)):Prop :=
 (∀ (i:Nat) t,i < n->ts[i]? = some t->cA kvs (dv (mk ls t))≠none)∧(∀ k v,cA kvs k=some v->∃ i t,i < n∧ts[i]? = some t∧k=dv (mk ls t))∧kvs.length<=n
theorem OM (ts:List Tm) (ls:List Nat):sH ts ls 0 []:=⟨fun i t hi=>absurd hi (o9 _),(fun k v e=>by rw[vz]at e;cases e),ao _⟩
theorem ON {ts:List Tm}{ls:List Nat}{n:Nat}{kvs:List (NK × V)}{t:Tm} (h:sH ts ls n kvs) (ht:ts[n]? = some t) :
  (cA kvs (dv (mk ls t))=none∧kP (ts.map (mk ls)) n=true)∨((cA kvs (dv (mk ls t))).isSome=true∧kP (ts.map (mk ls)) n=false):=by
 obtain⟨h1,h2,_⟩:=h
 cases hv:cA kvs (dv (mk ls t)) with
 | some v =>
  obtain⟨i,u,hi,hu,ek⟩:=h2 _ _ hv
  exact .inr ⟨rfl,(oi (y7 ht)).mpr ⟨i,hi,by rw[y7 hu,pM ek]⟩⟩
 | none =>
  refine .inl ⟨rfl,?_⟩
  cases e:kP (ts.map (mk ls)) n with
  | true=>rfl
  | false =>
   obtain⟨i,hi,q⟩:=(oi (y7 ht)).mp e
   rw[aH]at q
   cases e2:ts[i]? with
   | none=>rw[e2]at q;cases q
   | some u =>
    rw[e2]at q
    have q2:mk ls u=mk ls t:=aB q
    have:=h1 i u hi e2
    rw[q2]at this
    exact absurd hv this
theorem OL {ts:List Tm}{ls:List Nat}{n:Nat}{kvs:List (NK × V)}{t:Tm} (y:V) (h:sH ts ls n kvs) (ht:ts[n]? = some t):sH ts ls (n+1) (fw kvs (dv (mk ls t)) y):=by
 obtain⟨h1,h2,h3⟩:=h
 refine⟨fun i u hi hu => ?_,fun k v hv => ?_,?_⟩
 ·rw[rP]
  split
  ·exact fun z=>nomatch z
  ·rename_i e
   refine h1 i u ?_ hu
   rcases mL.mp hi with q | q
   ·exact q
   ·subst q;rw[ht]at hu;cases hu;exact absurd rfl e
 ·rw[rP]at hv
  by_cases e:k=dv (mk ls t)
  ·exact⟨n,t,nU n,ht,e⟩
  ·rw[if_neg e]at hv
   obtain⟨i,u,hi,hu,ek⟩:=h2 k v hv
   exact⟨i,u,j5 hi,hu,ek⟩
 ·have:=qm kvs (dv (mk ls t)) y
  omega
theorem L3 {ts:List Tm}{ls:List Nat}{n:Nat}{kvs:List (NK × V)}{t:Tm} (h:sH ts ls n kvs) (ht:ts[n]? = some t) (hs:(cA kvs (dv (mk ls t))).isSome=true):sH ts ls (n+1) kvs:=by
 obtain⟨h1,h2,h3⟩:=h
 refine⟨fun i u hi hu => ?_,fun k v hv => ?_,by omega⟩
 ·rcases mL.mp hi with q | q
  ·exact h1 i u q hu
  ·subst q;rw[ht]at hu;cases hu;intro z;rw[z]at hs;cases hs
 ·obtain⟨i,u,hi,hu,ek⟩:=h2 k v hv
  exact⟨i,u,j5 hi,hu,ek⟩
def Own (H:Hp) (kvs:List (Key × V)):Prop:=(kvs.map (·.2)).Nodup∧∀ kv∈kvs,∃ l,kv.2 = .ref l∧H l=none
theorem Own.fresh {H:Hp}{kvs:List (Key × V)} (h:Own H kvs) {a:Addr} (hv:(.ref a:V)∈kvs.map (·.2)):H a=none:=by
 obtain⟨kv,hm,e⟩:=bu.mp hv
 obtain⟨l,e2,hl⟩:=h.2 kv hm
 rw[e]at e2
 cases e2
 exact hl
theorem R7 {κ : Type} [DecidableEq κ] {kvs:List (κ × V)}{k : κ}{v:V} (h:cA kvs k=some v):v∈kvs.map (·.2):=by
 obtain⟨uM,hf,e4⟩:=bS.mp h
 exact bu.mpr ⟨uM,me hf,e4⟩
theorem Own.snoc {H H1:Hp}{kvs:List (Key × V)}{ps:List Row}{N:Addr}{k:Key} (h:Own H kvs) (r:j0 H1 kvs ps) (hN:H1 N=none) (BC:H N=none):Own H (kvs ++ [(k,.ref N)]):=by
 refine⟨?_,fun kv hm => ?_⟩
 ·rw[cf,fZ]
  refine⟨h.1,by simp,?_⟩
  intro x hx y hy e
  simp only[aJ,du,av]at hy
  subst hy
  subst e
  have:∀ {kvs:List (Key × V)}{ps:List Row},j0 H1 kvs ps->(.ref N:V)∈kvs.map (·.2)->False:=by
   intro kvs ps r
   induction r with
   | nil=>intro hm;cases hm
   | @cons kv p kvs ps q t ih =>
    intro hm
    rw[aJ]at hm
    rcases aN.mp hm with e | hm
    ·obtain⟨_,l,e2,hl⟩:=q
     rw[<- e]at e2
     cases e2
     rw[hN]at hl
     cases hl
    ·exact ih hm
  exact this r hx
 ·rcases bg.mp hm with hm | hm
  ·exact h.2 kv hm
  ·rw[av.mp hm];exact⟨N,rfl,BC⟩
end Sw
namespace PySem
section
variable {prog:Program}{w:World}{A:Around}{E:Value->Shared->Prop}{s:Shared}
end
section
variable {prog:Program}{w:World}{A:Around}{s:Shared}{R:Result->Shared->Prop}{I l:Addr}{dA:Array Value}
end
section
variable {prog:Program}{w:World}{A:Around}{E:Value->Shared->Prop}{s:Shared}{I l:Addr}{dA:Array Value}
end
end PySem
namespace L2
open PySem PySem.Spec PyProof.Rows
theorem Mm {X:Cx}:Passes (yT X.prog X.w) X E0:=fun ae σ H s e s' I h=>by
 obtain⟨_,_,_,_,_,_,_,_,_,_,_,_,_,_,q⟩:=h
 exact fO q
section
variable {X:Cx}
inductive yD (xs:List V) (H:Hp) (Q:VK):Prop
 | mk:∀ p kvs,(xs = [.ref p])->(H p=some (.dK kvs))->(∀ l,H l=none->Q (.ref l) (aG H l (.dK kvs)))->yD xs H Q
theorem BP:k9 X (.type "dict") (fun xs H Q=>yD xs H Q):=by
 intro ae s σ H xs us Q I r h
 obtain⟨p,kvs,rfl,e,q⟩:=h
 obtain⟨u,rfl,rx⟩:=vals1 r
 cases rx
 obtain⟨z,y,vs,dM,dd⟩:=(show cR X.prog X.w H s.heap p (.dK kvs) from I.bw p _ e)
 have hl:=dM.length
 refine kt_call_dict y dd (by rw[<- hl];exact z) fun h' hm hs => ?_
 have kp:∀ b o',s.heap.get? b=some o'->h'.get? b=some o':=fun b o' e'=>by
  have hb:b≠s.heap.objs.size:=fun z=>absurd (aW e') (by rw[z];exact eU _)
  have h1:=aA { cls := .type "dict",data := .dict #[] } e'
  rw[hs.2 b hb]
  exact h1
 exact⟨.ref s.heap.objs.size,_,I.laid (t':=s.toks) kp (ao _) (show cR X.prog X.w _ h' _ (.dK kvs) from ⟨z,beq_eq_false_iff_ne.mpr (dh (bP I.big)),vs,dM,hm⟩),rfl,q _ (I.bw.fresh (ao _))⟩
def Qy (L:List Int):TA:=fun _ H Q=>Q (L.map V.int) H
inductive Ck:List Expr->List Int->Prop where
 | nil:Ck [] []
 | cons {x:Int}{j:Nat}{p:Pos}{es:List Expr}{L:List Int} (h:Ck es L):Ck (.Constant (.int x) j p :: es) (x :: L)
theorem SD {es:List Expr}{L:List Int} (h:Ck es L):PA X es (Qy L):=by
 induction h with
 | nil=>exact aw
 | cons h ih=>exact ag az ih
def xQ:List Expr->Option (List Int)
 | []=>some []
 | .Constant (.int x) _ _ :: es=>(xQ es).map (x :: ·)
 | _=>none
theorem FT:∀ {es:List Expr}{L:List Int},xQ es=some L->Ck es L
 | [],L,h=>by
  cases (show some []=some L from h)
  exact .nil
 | e :: es,L,h=>by
  unfold xQ at h
  split at h
  ·rename_i heq;cases heq
  ·rename_i x j p RF heq
   cases heq
   cases q:xQ es with
   | none=>rw[q]at h;cases h
   | some L' =>
    rw[q]at h
    cases h
    exact .cons (FT q)
  ·cases h
theorem O3 {es:List Expr}{L:List Int} (h:xQ es=some L):PA X es (Qy L):=SD (FT h)
end
section
variable {P:Program}{w:World}{A:Around}{s:Shared}
open SeqAt MeetsSeq MeetsSeq2 MeetsSeq3 SeqRoads2
open AutoSeq1 (wpAny_loadPart')
def zX (P:Program) (w:World) (A:Around) (s:Shared) (y x:Value) (b:Bool):Prop := ∀ (E:Value->Shared->Prop) (Q:Bool->Shared->Prop),Q b s->wpAny (model P w) A (eqBool y x) Q E s
theorem zX.QX {y x:Value}{b:Bool} (h:EqAt A s y x b):zX P w A s y x b:=fun E Q hq=>h P w E Q hq
theorem zX.of_refs {l b:Addr}{k:Bool} (nz:l≠b) (h:∀ (E Q:Value->Shared->Prop),Q (.bool k) s->wpAny (model P w) A (compareOp .Eq (.ref l) (.ref b)) Q E s):zX P w A s (.ref l) (.ref b) k:=fun E Q hq=>by
 unfold eqBool
 refine wpAny_holding ?_
 refine wpAny_ite_split (fun tL=>absurd (by have:=eq_of_beq tL;injection this) nz) (fun _ => ?_)
 exact wpAny_bind (h E _ (wpAny_truthy_bool hq))
theorem OD {kvs:List (Key × V)} (hn:(kvs.map (·.1)).Nodup):∀ kv∈kvs,cA kvs kv.1=some kv.2:=by
 induction kvs with
 | nil=>intro kv h;cases h
 | cons p r ih =>
  intro kv h
  rw[aJ,dO]at hn
  rcases aN.mp h with rfl | h
  ·exact fq rfl
  ·rw[ft (fun e=>hn.1 (by rw[e];exact bu.mpr ⟨kv,h,rfl⟩))]
   exact ih hn.2 kv h
end
end L2
namespace L2
open PySem PySem.W PySem.Calls PyProof.Rows
theorem LG {ns:List Int}{c:Int}:c∈ns->yp (.int c)<=BW (ns.map tR):=by
 induction ns with
 | nil=>intro h;cases h
 | cons n ns ih =>
  intro h
  rw[aJ,BW]
  rcases aN.mp h with rfl | h
  ·omega
  ·have:=ih h;omega
theorem Qh {ns:List Int} (h:WData.layableAll [BX (ns.map tR)]=true):∀ c∈ns,w8 c<=1048576:=fun c hc=>by
 have h1:WData.layable (BX (ns.map tR))=true:=nY.mp h _ aU
 have h2:=of_decide_eq_true (fQ.mp h1).2
 rw[yp]at h2
 have h3:=LG hc
 rw[yp]at h3
 show (if c == 0 then 0 else c.natAbs.log2+1)<=1048576
 have:(2:Nat) ^ 20=1048576:=by decide
 omega
end L2
namespace L2
open PySem PySem.Spec PyProof.Rows
section
variable {X:Cx}{k:Nat}{y:Str}{p pos:Pos}{e:Expr}{es:List Expr}{tv:TE}{t:TA}
theorem HB {K:ak}{a:Addr}{xs:List V}{ct:TT}{te:TE}{σ : St}{caps:List (Str × Nat)}{H:Hp}{Q:VK} (f:V->Option V) (hS:bo K H a xs) (hn:xs.length<=1000)
  (wQ:∀ x∈xs,∀ H',bz H H'->∀ (R:Bool->Hp->Prop),(∀ pJ,bz H' pJ->R (f x).isSome pJ)->ct (some x :: jy σ caps) H' R)
  (IZ:∀ x v,x∈xs->f x=some v->∀ H',bz H H'->∀ Q':VK,(∀ pJ,bz H' pJ->Q' v pJ)->te (some x :: jy σ caps) H' Q')
  (hq:∀ D H',H D=none->bz H H'->H' D=some (.lst (xs.filterMap f))->Q (.ref D) H') :
  yQ (Kd K a) (bH 0) ct te (aX 1 none ++ jy σ caps) H Q:=by
 intro D hD
 refine⟨fun i m τ zs H'=>m=xs.length - i∧i<=xs.length∧(∃ o, τ = o :: jy σ caps)∧zs=(xs.take i).filterMap f∧bz H H'∧H' D=some (.lst zs),⟨xs.length,by simp,aS _,⟨none,rfl⟩,by simp,aM hD _,ay⟩,?_⟩
 rintro i m τ zs H' ⟨rfl,hi,⟨o,rfl⟩,rfl,sm,zI⟩
 refine⟨zI,?_⟩
 by_cases cS:i < xs.length
 ·refine .inr ⟨⟨xs,xs[i],sm.seq hS,by simp[cS]⟩,?_,fun x pJ y => ?_⟩
  ·refine cY (aF (sR _ _) ?_)
   rw[bA];omega
  ·obtain⟨e,y⟩:=y
   subst e
   have hx:=y xs (sm.seq hS)
   have er:xs.take (i+1)=xs.take i ++ [x]:=by rw[bQ,hx];rfl
   show ct (some x :: jy σ caps) _ _
   refine wQ x (aK hx) _ sm _ (fun H2 s2 => ?_)
   cases e:f x with
   | none =>
    refine⟨xs.length - (i+1),by omega,rfl,cS,⟨_,rfl⟩,?_,sm.trans s2,s2 _ _ zI⟩
    rw[er,oA,gu,e];simp
   | some v =>
    refine IZ x v (aK hx) e _ (sm.trans s2) _ (fun H3 s3 => ?_)
    have Nr:=s3 _ _ (s2 _ _ zI)
    refine⟨Nr,xs.length - (i+1),by omega,rfl,cS,⟨_,rfl⟩,?_,(sm.trans (s2.trans s3)).put hD,ay⟩
    rw[er,oA,gu,e];simp
 ·have e:i=xs.length:=by omega
  subst e
  rw[bG]at zI
  exact .inl ⟨⟨xs,sm.seq hS,ao _⟩,hq D H' hD sm zI⟩
theorem xP:∀ {ns:List Int}{us:List Value},Vals (ns.map V.int) us->IntsAre us ns
 | [],us,r=>by cases r;exact .nil
 | n :: ns,us,r=>by
  cases r with
  | cons h t =>
   obtain⟨tk,rfl⟩:=h
   exact .cons n tk (xP t)
theorem yn:bootBuiltins "sorted" = some (.builtin "sorted"):=by decide +kernel
inductive vm (kK:ak) (xs:List V) (H:Hp) (Q:VK):Prop
 | mk:∀ (p:Addr) (ns:List Int),(xs = [.ref p])->(bo kK H p (ns.map V.int))->(ns.length < 64)->(∀ (r9:List Int) (l:Addr),r9.Perm ns->r9.Pairwise (· <= ·)->H l=none->Q (.ref l) (aG H l (.lst (r9.map V.int))))->vm kK xs H Q
theorem ym:k9 X (.builtin "sorted") (fun xs H Q=>vm X.K xs H Q):=by
 intro ae s σ H xs us Q I r h
 obtain⟨p,ns,rfl,hS,h64,q⟩:=h
 obtain⟨u,rfl,rx⟩:=vals1 r
 cases rx
 obtain⟨its,r',pl,hz⟩:=I.list hS
 have dI:=r'.length
 rw[aj]at dI
 refine sorted_ints pl.isList (xP r') (by omega) fun out r9 a1 a2 a3 => ?_
 obtain⟨e,he⟩:=sortedAll_at s.heap its out
 have IY:H (s.heap.objs.size+1)=none:=I.bw.fresh (lL _)
 have DJ:r9.length=ns.length:=a2.length_eq
 refine⟨.ref (s.heap.objs.size+1),_,I.laid (t':=s.toks) (fun b o e'=>sortedAll_old e') (lL _) (show cR X.prog X.w _ (sortedAll s.heap its out) _ (.lst (r9.map V.int)) from ⟨?_,out.toList,e,xg a1,by rw[he]⟩),rfl,q r9 _ a2 a3 IY⟩
 rw[aj,DJ]
 rw[aj]at hz
 exact hz
end
section
variable {prog:Program}{w:World}{A:Around}{R:Result->Shared->Prop}{I:Addr}{fp wr:List Addr}{n:Nat}{P:Nat->Value->Prop}{St:Nat->Heap->Prop}{kw:List (Str × Value)}{G:Heap->Prop}
end
section
variable {X:Cx}{e:Expr}{te:TE}{p pos kp cp:Pos}{j:Nat}
end
section
variable {P:Program}{w:World}{K:ak}{mg:Str->Option Value}{base:Heap}{x m qual:Str}{st:Stmt}{N ps:List Str}{k:Nat}{sp:Sp}
end
section
variable {X:Cx} {k k':Nat}{x m:Str}{ps:List Str}{sp:Sp}{p pos fI:Pos}{e:Expr}{es:List Expr}{t:TA}{E:XK}
end
section
variable {prog:Program}{w:World}{A:Around}{R:Result->Shared->Prop}{I:Addr}{fp wr:List Addr}{n:Nat}{P:Nat->Value->Prop}{St:Nat->Heap->Prop}{kw:List (Str × Value)}{G:Heap->Prop}
end
section
variable {X:Cx}{e:Expr}{te:TE}{p pos kp cp:Pos}{j:Nat}{d:Int}
end
end L2
namespace HT
open PySem PySem.Spec PyProof.Rows
section
variable {prog:Program}{w:World}{A:Around}{E:Value->Shared->Prop}{s:Shared}
end
end HT
namespace L2
open PySem PySem.Spec PyProof.Rows
section
variable {X:Cx}
theorem Tp:∀ k,k < 26->Builtin.Str.occurrences ("abcdefghijklmnopqrstuvwxyz" : Str) ⟨#[97+k]⟩ 0 ("abcdefghijklmnopqrstuvwxyz" : Str).length 1 = [k]:=by decide +kernel
inductive Kb (x:V) (xs:List V) (H:Hp) (Q:VK):Prop
 | mk:∀ (c:Nat),(x = .str "abcdefghijklmnopqrstuvwxyz")->(xs = [.str ⟨#[c]⟩])->(97<=c)->(c<=122)->(∀ i:Nat,Q (.int i) H)->Kb x xs H Q
theorem Pf:RX X "str.index" (fun x xs H Q=>Kb x xs H Q):=by
 intro ae s σ H x xs v us Q I rx rv h
 obtain⟨c,rfl,rfl,h1,h2,q⟩:=h
 obtain⟨t,rfl⟩:=rx
 obtain⟨u,rfl,ru⟩:=rv.one
 obtain⟨t',rfl⟩:=ru
 have e:=Tp (c - 97) (by omega)
 rw[show 97+(c - 97)=c by omega]at e
 exact call_gives F.slot_str_index (typeIs_str _ _ _) F.entry_str_index (F.args_str_index_2 _ _) (gives_str_index _ _ t t' _ _ e) ⟨.int _,H,I.tok _,⟨_,rfl⟩,q _⟩
end
end L2
namespace Sw
open PySem L2
theorem qA (x:Str) (lo hi:Option Int):(cN x lo hi).cps.toList=(x.cps.toList.drop (HT.ip x.length 0 lo)).take (HT.ip x.length x.length hi - HT.ip x.length 0 lo):=by
 have hx:x.cps.toList.length=x.length:=by simp[wq]
 obtain⟨h1,h2,h3⟩:=xq lo hi x.length
 have ha:HT.ip x.length 0 lo<=x.length:=HT.L5 _ _ (aS _) _
 have hb:HT.ip x.length x.length hi<=x.length:=HT.L5 _ _ (ao _) _
 have e:qV lo hi 1 x.length=sliceRange ((HT.ip x.length 0 lo:Nat):Int) ((HT.ip x.length x.length hi:Nat):Int) 1:=by
  rw[<- h1, <- h2]
  unfold qV sliceBounds
  rfl
 have e2:((sliceRange ((HT.ip x.length 0 lo:Nat):Int) ((HT.ip x.length x.length hi:Nat):Int) 1).filterMap (x.cps[·]?))=(x.cps.toList.drop (HT.ip x.length 0 lo)).take (HT.ip x.length x.length hi - HT.ip x.length 0 lo):=by
  rw[sliceRange_one,pick_run]
 unfold cN
 rw[e]
 split
 ·rename_i hc
  have hl:(sliceRange ((HT.ip x.length 0 lo:Nat):Int) ((HT.ip x.length x.length hi:Nat):Int) 1).length=x.length:=by simpa using hc
  rw[sliceRange_one,aj,fb]at hl
  have ea:HT.ip x.length 0 lo=0∨x.length=0:=by omega
  rcases ea with ea | ea
  ·rw[ea,mK]at hl ⊢
   rw[qb,hl, <- hx,bG]
  ·have:x.cps.toList = []:=fW.mp (hx.trans ea)
   rw[this];simp
 ·show (_:List Nat).toArray.toList=_
  rw[e2]
theorem ve (x y:Str):(x ++ y).cps.toList=x.cps.toList ++ y.cps.toList:=by
 rw[Str.cps_append,cF]
theorem oj (x:Str):x.length=x.cps.toList.length:=by simp[wq]
inductive T where
 | num (n:Int)
 | name (w:Str)
 | any (w:Str)
 | of (w:Str) (ts:List T)
def Eg (w:Str):Prop:=1<=w.length∧w.length<=8∧∀ c∈w.cps.toList,97<=c∧c<=122
mutual
def T.depth:T->Nat
 | .num _=>1
 | .name _=>1
 | .any _=>1
 | .of _ ts=>1+T.gn ts
def T.gn:List T->Nat
 | []=>0
 | t :: ts=>max t.depth (T.gn ts)
end
theorem BL:∀ {ts:List T}{t:T},t∈ts->t.depth<=T.gn ts
 | t' :: ts,t,h=>by
  rw[T.gn]
  rcases aN.mp h with rfl | h
  ·exact Nat.le_max_left _ _
  ·exact aF (BL h) (Nat.le_max_right _ _)
theorem DT:∀ t:T,1<=t.depth
 | .num _=>by rw[T.depth];exact ao _
 | .name _=>by rw[T.depth];exact ao _
 | .any _=>by rw[T.depth];exact ao _
 | .of _ ts=>by rw[T.depth];omega
mutual
def f7 (H:Hp):T->V->Prop
 | .num n,v=>∃ a,v = .ref a∧H a=some (.tup [.str "num",.int n])
 | .name w,v=>∃ a,v = .ref a∧H a=some (.tup [.str "name",.str w])
 | .any w,v=>∃ a,v = .ref a∧H a=some (.tup [.str "any",.str w])
 | .of w ts,v=>∃ a b vs,v = .ref a∧H a=some (.tup [.str "of",.str w,.ref b])∧H b=some (.tup vs)∧gS H ts vs
def gS (H:Hp):List T->List V->Prop
 | [],vs=>vs = []
 | t :: ts,vs=>∃ v r,vs=v :: r∧f7 H t v∧gS H ts r
end
mutual
theorem lC {H H':Hp} (k:∀ a xs,H a=some (.tup xs)->H' a=some (.tup xs)):∀ {t:T}{v:V},f7 H t v->f7 H' t v
 | .num n,v,h=>by
  rw[f7]at h ⊢
  obtain⟨a,e,h⟩:=h
  exact⟨a,e,k _ _ h⟩
 | .name n,v,h=>by
  rw[f7]at h ⊢
  obtain⟨a,e,h⟩:=h
  exact⟨a,e,k _ _ h⟩
 | .any n,v,h=>by
  rw[f7]at h ⊢
  obtain⟨a,e,h⟩:=h
  exact⟨a,e,k _ _ h⟩
 | .of w ts,v,h=>by
  rw[f7]at h ⊢
  obtain⟨a,b,vs,e,h1,h2,h3⟩:=h
  exact⟨a,b,vs,e,k _ _ h1,k _ _ h2,iY k h3⟩
theorem iY {H H':Hp} (k:∀ a xs,H a=some (.tup xs)->H' a=some (.tup xs)):∀ {ts:List T}{vs:List V},gS H ts vs->gS H' ts vs
 | [],vs,h=>by rw[gS]at h ⊢;exact h
 | t :: ts,vs,h=>by
  rw[gS]at h ⊢
  obtain⟨v,r,e,h1,h2⟩:=h
  exact⟨v,r,e,lC k h1,iY k h2⟩
end
theorem rG {H:Hp}:∀ {ts:List T}{vs:List V},gS H ts vs->ts.length=vs.length
 | [],vs,h=>by rw[gS]at h;subst h;rfl
 | t :: ts,vs,h=>by
  rw[gS]at h
  obtain⟨v,r,rfl,_,h2⟩:=h
  rw[bB,bB,rG h2]
theorem EI {H:Hp}:∀ {ts:List T}{vs:List V}{i:Nat}{v:V},gS H ts vs->vs[i]? = some v->∃ t,ts[i]? = some t∧f7 H t v
 | [],vs,i,v,h,e=>by rw[gS]at h;subst h;simp at e
 | t :: ts,vs,i,v,h,e=>by
  rw[gS]at h
  obtain⟨v',r,rfl,h1,h2⟩:=h
  cases i with
  | zero=>simp at e;subst e;exact⟨t,rfl,h1⟩
  | succ i=>simpa using EI (i:=i) h2 (by simpa using e)
def sg (i:Int):Str:=⟨#[97+i.toNat]⟩
theorem oF (i:Int):(sg i).length=1:=rfl
theorem yo {i:Int} (h0:0<=i) (h1:i < 26):ou ("abcdefghijklmnopqrstuvwxyz" : Str).cps.toList i=some (97+i.toNat):=by
 have e:((i.toNat:Nat):Int)=i:=by omega
 have hj:i.toNat < 26:=by omega
 rw[<- e]
 refine a7 ?_
 rw[bR]
 generalize i.toNat=j at hj
 revert j
 decide +kernel
def lR (m:Int):Str:=lp (sg (m / 1664 % 26)) (1+m % 8).toNat
def uD (m:Int):Str:=cN (lR m) none (some (m / 8 % (1+m % 8))) ++ sg (m / 64 % 26) ++ cN (lR m) (some (m / 8 % (1+m % 8)+1)) none
theorem Dp (m:Int):(lR m).cps.toList=aX (1+m % 8).toNat (97+(m / 1664 % 26).toNat):=by
 unfold lR lp sg
 simp
theorem LD (m:Int):Eg (uD m):=by
 have a1:0<=m % 8:=bI _ (by decide)
 have a2:m % 8 < 8:=bp _ (by decide)
 have b1:0<=m / 1664 % 26:=bI _ (by decide)
 have b2:m / 1664 % 26 < 26:=bp _ (by decide)
 have c1:0<=m / 64 % 26:=bI _ (by decide)
 have c2:m / 64 % 26 < 26:=bp _ (by decide)
 have d1:0<=m / 8 % (1+m % 8):=bI _ (by omega)
 have d2:m / 8 % (1+m % 8) < 1+m % 8:=bp _ (by omega)
 have hl:(lR m).length=(1+m % 8).toNat:=by rw[oj,Dp,fk]
 have wc:=Dp m
 obtain⟨S,eS⟩:∃ S:Nat,1+m % 8=(S:Int):=⟨(1+m % 8).toNat,by omega⟩
 obtain⟨k,ek⟩:∃ k:Nat,m / 8 % (1+m % 8)=(k:Int):=⟨_,(iE d1).symm⟩
 have S1:1<=S:=by omega
 have S8:S<=8:=by omega
 have hk:k < S:=by rw[ek,eS]at d2;exact yF.mp d2
 rw[eS,bR]at hl wc
 have e1:HT.ip S S (some (k:Int))=k:=by rw[HT.rK];exact dj (fA hk)
 have e2:HT.ip S 0 (some ((k:Int)+1))=k+1:=by
  have e:(k:Int)+1=((k+1:Nat):Int):=rfl
  rw[e,HT.rK];exact dj hk
 have ec:(uD m).cps.toList=(aX S (97+(m / 1664 % 26).toNat)).take k ++ [97+(m / 64 % 26).toNat] ++ (aX S (97+(m / 1664 % 26).toNat)).drop (k+1):=by
  unfold uD
  rw[ve,ve,qA,qA,ek,hl,e1,e2,HT.pU,HT.pU,wc,qb,mK]
  congr 1
  refine gB ?_
  rw[eP,fk]
  exact ao _
 have el:(uD m).length=S:=by
  rw[oj,ec,au,au,bA,eP,fk,dj (fA hk)]
  show k+1+(S - (k+1))=S
  exact Nat.add_sub_cancel' hk
 clear e1 e2 hl wc hk ek eS d1 d2 a1 a2
 refine⟨by rw[el];omega,by rw[el];omega,fun c hc => ?_⟩
 rw[ec]at hc
 rcases bg.mp hc with hc | hc
 ·rcases bg.mp hc with hc | hc
  ·have:=(yz.mp (fN hc)).2
   omega
  ·have:=av.mp hc
   omega
 ·have:=(yz.mp (ie hc)).2
  omega
end Sw
namespace L2
open PySem PySem.Spec PyProof.Rows
theorem HK:∀ {xs:List V}{us:List Value},xs.length=us.length->(∀ (j:Nat) x u,xs[j]? = some x->us[j]? = some u->RelV x u)->Vals xs us
 | [], [],_,_ => .nil
 | [],_ :: _,h,_=>by cases h
 | _ :: _, [],h,_=>by cases h
 | x :: xs,u :: us,h,f => .cons (f 0 x u rfl rfl) (HK (by simpa using h) fun j a b ha hb=>f (j+1) a b (by simpa using ha) (by simpa using hb))
section
variable {X:Cx}
inductive sT (xs:List V) (H:Hp) (Q:VK):Prop
 | mk:∀ p kvs,(xs = [.ref p])->(Rd H p (.dK kvs))->(∀ l,H l=none->Q (.ref l) (aG H l (.lst (kvs.map fun kv=>kV kv.1))))->sT xs H Q
theorem u9 (hc:X.calm=true):k9 X (.type "list") (fun xs H Q=>sT xs H Q):=by
 intro ae s σ H xs us Q I r h
 obtain⟨p,kvs,rfl,hd,q⟩:=h
 obtain⟨u,rfl,ru⟩:=vals1 r
 cases ru
 obtain⟨z,lo,vs,dM,dd⟩:=tO I.bw hd
 obtain⟨ep,sh⟩:=dd.dictAt
 have hl:=dM.length
 have hk:=dM.keys
 refine PySem.W.kdl_call (PySem.W.kdl_dict (knd:=dg X.prog X.w) (kvs:=vs) (ep:=ep) lo) (I.ok.hd hc) sh (by rw[<- hl];exact z) fun h' tk Qn c' kp hS CT => ?_
 refine⟨.ref s.heap.objs.size,_,I.laid kp (ao _) (show cR X.prog X.w _ h' _ (.lst (kvs.map fun kv=>kV kv.1)) from ⟨by rw[aj];exact z,Qn.toList,c',?_,by simpa using hS⟩),rfl,q _ (I.bw.fresh (ao _))⟩
 refine HK (by rw[aj,hl,bq];exact CT.1.symm) fun j x v hx hv => ?_
 obtain⟨k,y,tJ,Rk⟩:=CT.2 j v (by rw[<- kG];exact hv)
 have e1:(kvs.map (·.1))[j]? = some k:=by rw[hk,aH,tJ];rfl
 rw[aH]at e1 hx
 cases e:kvs[j]? with
 | none=>rw[e]at e1;cases e1
 | some kv =>
  rw[e]at e1 hx
  have ek:kv.1=k:=aB e1
  have ex:kV kv.1=x:=aB hx
  rw[<- ex,ek]
  rcases eW (show vR k v=true from Rk) with⟨i,t,rfl,rfl⟩ | ⟨y,t,rfl,rfl⟩
  ·exact⟨t,rfl⟩
  ·exact⟨t,rfl⟩
end
def Ci (a:Addr) (o:Obj) (kvs:List (Key × V)):It :=
 ⟨fun i H=>i < kvs.length∧H a=some (Ext a o),fun i H x H'=>H'=H∧∃ kv,kvs[i]? = some kv∧x=kv.2,fun i H=>kvs.length<=i∧H a=some (Ext a o)⟩
theorem KV.Tw {kvs:List (Key × V)}{vs:List (Key × Value)} (r:KV kvs vs):∀ {i:Nat}{k:Key}{u:Value},vs[i]? = some (k,u)->∃ kv,kvs[i]? = some kv∧RelV kv.2 u:=by
 unfold KV at r
 induction r with
 | nil=>intro i k u h;simp at h
 | @cons p q ps qs h t ih =>
  intro i k u e
  cases i with
  | zero=>simp at e;subst e;exact⟨p,rfl,h.2⟩
  | succ i=>simpa using ih (by simpa using e)
theorem LM {P:Program}{w:World}{K:ak}{tg:Expr} (a it:Addr) {o:Obj}{kvs:List (Key × V)}{vs:List (Key × Value)}{ep:Nat} (dM:KV kvs vs) (hx:∀ h:Heap,h.get? a=some o->h.DictAt (dg P w) a vs ep) :
  Turn P w K tg (Ci a o kvs) [it] it (fun i h=>h.IsValIter it a i vs.length ep) where
 mem:=by simp
 obj:=fun i h st b hb=>by
  have e:b=it:=by simpa using hb
  subst e
  obtain⟨o,e,c,d⟩:=st
  exact⟨o,e,fun v z=>by rw[d]at z;cases z⟩
 keep:=fun i h h' st k=>st.at fun o e=>k it (by simp) o e
 item:=by
  intro X hP hw hK hc i ae s σ H E I hf st hg
  subst hP hw hK
  obtain⟨hi,ha⟩:=hg
  have hl:=dM.length
  obtain⟨⟨k,u⟩,hv⟩:∃ p,vs[i]? = some p:=⟨vs[i]'(by omega),ai (by omega)⟩
  obtain⟨kv,tJ,ru⟩:=dM.Tw hv
  obtain⟨f0,f1,f2,f3,f4,f5⟩:=hf it (by simp)
  refine wpAny_pyNext_values_item st (hx _ (ze I.bw ha)) hv fun h' aE sb => ?_
  have I1:Inv X ae σ H { s with heap:=h' }:=I.turned (t':=s.toks) (fun b o hb e=>(sb.2 b hb).trans e) f0 f1 f3 f4 f5
  obtain⟨o,e,c,d⟩:=id aE
  exact⟨u,rfl,Ez (s := { s with heap:=h' }) e c d (by decide) ⟨kv.2,H,I1,ru,⟨rfl,kv,tJ,rfl⟩,aE,fun b hb=>(hf b hb).1⟩⟩
 done:=by
   intro X hP hw hK hc i ae s σ H E I hf st hg
   subst hP hw hK
   obtain⟨hi,ha⟩:=hg
   have hl:=dM.length
   obtain⟨f0,f1,f2,f3,f4,f5⟩:=hf it (by simp)
   exact wpAny_pyNext_values_end (I.ok.hd hc) st (hx _ (ze I.bw ha)) (d7 (by omega)) fun h' eb=>⟨rfl,I.turned (t':=s.toks) (fun b o hb e=>eb b o hb e) f0 f1 f3 f4 f5⟩
 self:=fun _ _ _ _ _ st h=>wpAny_pyIter_valiter st h
inductive JW (P:Program) (w:World) (R:It->Hp->Prop) (x:V) (H1:Hp):Prop
 | mk (a:Addr) (kvs:List (Key × V)) (e:x = .ref a) (ea:H1 a=some (.dK kvs)) (q:∀ o,DXo P w a o kvs->R (Ci a o kvs) (aG H1 a (Ext a o))):JW P w R x H1
def XH (P:Program) (w:World) (tl:TE):TI:=fun σ H R=>tl σ H fun x H1=>JW P w R x H1
theorem Su {X:Cx}{tg o:Expr}{tl:TE}{fI eT:Pos} (ho:PE X o tl) (Bz:attributeBase o "values" X.env (eval o X.env)=eval o X.env:=by rfl) (Bu:(fI.endLine == eT.line)=true:=by rfl) :
  PI X tg (.Call (.Attribute o "values" fI) [] [] eT) (XH X.prog X.w tl):=by
 intro ae s σ H R I h
 refine wpAny_Call_method0_late Bz Bu (bW (ho ae s σ H _ I h) fun v s1 ⟨x,H0,I0,r1,q1⟩ => ?_)
 obtain⟨a,kvs,e,ea0,q⟩:=q1
 subst e
 obtain rfl:v=bf a:=r1
 obtain⟨ob,dx,I1⟩:=I0.freeze ea0
 have q:=q ob dx
 have ea:(aG H0 a (Ext a ob)) a=some (Ext a ob):=ay
 generalize aG H0 a (Ext a ob)=H1 at I1 q ea
 obtain⟨z,hd,vs,ep,dM,hx⟩:=dx
 have sh:=hx _ (ze I1.bw ea)
 have Vz:s1.heap.DictOf (dg X.prog X.w) a vs:=by
  obtain⟨o',es,h1,h2,h3,h4,h5,h6⟩:=sh
  exact⟨o',es,ep,h1,h2,h3,h4,h5,h6⟩
 have hob:∀ b,bf a = .ref b->∃ o',s1.heap.get? b=some o'∧o'.dict=none:=fun b e=>by
  cases e
  obtain⟨o',es,h1,h2,_⟩:=sh
  exact⟨o',h1,h2.2.1⟩
 refine⟨"dict", "dict.values",jF,sM,PySem.F.type_dict_values,Vz.typeIs,hob,gC rfl (w4 ?_)⟩
 refine call_meetsIn sM Vz.typeIs PySem.F.entry_dict_values (PySem.F.args_dict_values_1 _) (meets_dict_values (dg X.prog X.w) a hd) ⟨⟨vs,Vz⟩,?_⟩
 have kp:∀ b o',s1.heap.get? b=some o'->(s1.heap.push { cls := .type "dict_values",data := .fields #[.ref a] }).get? b=some o':=fun b o' e=>aA _ e
 have I2:Inv X ae σ H1 { s1 with heap:=s1.heap.push { cls := .type "dict_values",data := .fields #[.ref a] } }:=I1.kept (t':=s1.toks) kp
 refine wpAny_pyIter_values (knd:=dg X.prog X.w) (d:=a) (kvs:=vs) (ep:=ep) ⟨_,bh _ rfl,rfl,rfl⟩ (hx _ (ze I2.bw ea)) ?_
 refine⟨_, [_],_,_,H1,rfl,I2.kept (t':=s1.toks) fun b o e=>aA _ e,LM a _ dM hx,⟨_,bh _ rfl,rfl,rfl⟩,fun b hb => ?_,q⟩
 have e:b=(s1.heap.push { cls := .type "dict_values",data := .fields #[.ref a] }).objs.size:=by simpa using hb
 subst e
 exact I2.Av (ao _) (I2.bw.fresh (ao _))
theorem P6 {a:Addr}{o:Obj}{kvs:List (Key × V)}{g:TG}{tb:TS}{D:Ends}{σ : St}{H:Hp} (Pv:Nat->St->Hp->Prop) (h0:Pv 0 σ H) (hl:∀ i σ H,i<=kvs.length->Pv i σ H->H a=some (Ext a o))
  (hs:∀ i (kv:Key × V) σ H,kvs[i]? = some kv->Pv i σ H->g kv.2 σ H fun ll H2=>tb { D with nx:=Pv (i+1),ct:=Pv (i+1),bk:=D.nx } ll H2) (hd:∀ σ H,Pv kvs.length σ H->D.nx σ H) :
  ∃ W:Nat->Nat->St->Hp->Prop,(∃ m,W 0 m σ H)∧∀ i m σ H,W i m σ H ->
   ((Ci a o kvs).stop i H∧D.nx σ H)∨((Ci a o kvs).go i H∧∃ N:St->Hp->Prop,(∀ cc H',N cc H'->∃ m',m' < m∧W (i+1) m' cc H')∧∀ x H',(Ci a o kvs).zv i H x H'->g x σ H' fun ll H2=>tb { D with nx:=N,ct:=N,bk:=D.nx } ll H2):=by
 refine⟨fun i m σ H=>m=kvs.length - i∧i<=kvs.length∧Pv i σ H,⟨kvs.length,by simp,aS _,h0⟩,?_⟩
 rintro i m σ H ⟨rfl,hi,hp⟩
 by_cases cS:i < kvs.length
 ·refine .inr ⟨⟨cS,hl i σ H hi hp⟩,Pv (i+1),fun cc H' h'=>⟨kvs.length - (i+1),by omega,rfl,cS,h'⟩,?_⟩
  rintro x H' ⟨rfl,kv,tJ,rfl⟩
  exact hs i kv σ _ tJ hp
 ·have e:i=kvs.length:=by omega
  subst e
  exact .inl ⟨⟨ao _,hl _ σ H hi hp⟩,hd σ H hp⟩
section
variable {prog:Program}{w:World}{A:Around}{E:Value->Shared->Prop}{s:Shared}
theorem Si {α : Type}{Q : α -> Shared->Prop} (hh:A.handled=none) (hE:∀ h' e,(∀ c o,s.heap.get? c=some o->h'.get? c=some o)->(∃ o,h'.get? e=some o∧o.cls = .type "StopIteration")->E (.ref e) { s with heap:=h' }) :
  wpAny (model prog w) A (AQ:Sem α) Q E s:=by
 show wpAny _ _ (newExc (.type "StopIteration") [] >>= _) _ _ _
 simp only[newExc,newTuple]
 refine wpAny_bind ?_
 wp_walk
 simp only[raiseNew]
 refine wpAny_bind (wpAny_handled ?_)
 rw[hh]
 refine wpAny_bind (wpAny_pure (wpAny_throw ?_))
 exact hE _ _ (fun c o e=>aA _ (aA _ e)) ⟨_,bh _ rfl,rfl⟩
theorem Be {it t:Addr}{i:Nat}{dA:Array Value}{x:Value}{Q:Value->Shared->Prop} (hit:s.heap.IsTupleIter it t i) (ht:s.heap.IsTuple t dA) (hx:dA[i]? = some x)
  (hQ:∀ h',h'.IsTupleIter it t (i+1)->cQ it s.heap h'->Q x { s with heap:=h' }):wpAny (model prog w) A (dS (.ref it)) Q E s:=by
 obtain⟨o,ho,hc,hd⟩:=id hit
 obtain⟨ol,iq,_,nl,VA⟩:=ht
 unfold dS
 refine wpAny_bind (wpAny_callSpecial?_slot (name:=ky "__next__") hit.typeIs i9 (wpAny_call_entry i9 hit.typeIs qU ?_ (qe _)))
 wp_walk using wpAny_field ho hd (x := .ref t) rfl,wpAny_field ho hd (x := .int i 0) rfl,wpAny_seqItems iq VA
 rw[bR,hx]
 refine wpAny_bind (wpAny_setField ho hd (by simp) (wpAny_pure ⟨x,rfl,wpAny_pure (hQ _ ?_ (dG ..))⟩))
 exact⟨_,iX _ ho (ox (gQ hd _)),(zo ..).trans hc,by rw[gQ hd];simp[rawInt]⟩
theorem Ms {it t:Addr}{i:Nat}{dA:Array Value}{Q:Value->Shared->Prop} (hh:A.handled=none) (hit:s.heap.IsTupleIter it t i) (ht:s.heap.IsTuple t dA) (hx:dA[i]? = none)
  (hE:∀ h' e,zV it s.heap h'->(∃ o,h'.get? e=some o∧o.cls = .type "StopIteration")->E (.ref e) { s with heap:=h' }):wpAny (model prog w) A (dS (.ref it)) Q E s:=by
 obtain⟨o,ho,hc,hd⟩:=id hit
 obtain⟨ol,iq,_,nl,VA⟩:=ht
 unfold dS
 refine wpAny_bind (wpAny_callSpecial?_slot (name:=ky "__next__") hit.typeIs i9 (wpAny_call_entry i9 hit.typeIs qU ?_ (qe _)))
 wp_walk using wpAny_field ho hd (x := .ref t) rfl,wpAny_field ho hd (x := .int i 0) rfl,wpAny_seqItems iq VA
 rw[bR,hx]
 refine wpAny_bind (wpAny_rule (wpAny_bind (wpAny_setField ho hd (by simp) ?_)))
 exact Si hh fun h' e hk he=>hE h' e (fun c o n q=>hk c o ((dG ..).extBut c o n q)) he
structure ZT (z TI TO i1 i2 t1 t2:Addr) (f0:Value) (k:Nat) (h:Heap):Prop where
 hz:IsZip h z TI TO f0
 uY:IsPair h TI (.ref i1) (.ref i2)
 ya:∃ a b,IsPair h TO a b
 h1:h.IsTupleIter i1 t1 k
 h2:h.IsTupleIter i2 t2 k
structure EA (z TO i1 i2:Addr) (h h':Heap):Prop where
 but:∀ c o,c≠z->c≠TO->c≠i1->c≠i2->h.get? c=some o->h'.get? c=some o
theorem mm {it t c:Addr}{k:Nat} {h h':Heap} (x:h.IsTupleIter it t k) (e:zV c h h') (n:it≠c):h'.IsTupleIter it t k:=let ⟨o,a,b,d⟩:=x; ⟨o,e it o n a,b,d⟩
theorem xk {t c:Addr}{xs:Array Value} {h h':Heap} (x:h.IsTuple t xs) (e:zV c h h') (n:t≠c):h'.IsTuple t xs:=let ⟨o,a,b,m,d⟩:=x; ⟨o,e t o n a,b,m,d⟩
theorem Ly {z TI TO i1 i2 t1 t2:Addr}{k:Nat}{xs ys:Array Value}{x y:Value}{Q:Value->Shared->Prop} (D:ZipApart z TI TO i1 i2 t1 t2) (Z:ZT z TI TO i1 i2 t1 t2 .none k s.heap)
  (l1:s.heap.IsTuple t1 xs) (l2:s.heap.IsTuple t2 ys) (hx:xs[k]? = some x) (hy:ys[k]? = some y)
  (hQ:∀ h',ZT z TI TO i1 i2 t1 t2 (rawInt s.heap.objs.size) (k+1) h'->IsPair h' s.heap.objs.size x y->EA z TO i1 i2 s.heap h'->Q (.ref s.heap.objs.size) { s with heap:=h' }) :
  wpAny (model prog w) A (Builtin.«zip.__next__» ⟨[.ref z], []⟩) (fun fin s'=>∃ v,fin = .done (.ret v)∧Q v s') E s:=by
 obtain⟨hz,uY,⟨a,b,ya⟩,h1,h2⟩:=Z
 refine(show wpAny _ _ (field (.ref z) 2 >>= _) _ _ _ from wpAny_bind (wpAny_field hz rfl (x := .bool false) rfl (show wpAny _ _ (field (.ref z) 3 >>= _) _ _ _ from wpAny_bind (wpAny_field hz rfl (x := .ref TI) rfl (wpAny_bind (wpAny_seqItems uY rfl ?_))))))
 refine(show wpAny _ _ (fP (.ref z) >>= _) _ _ _ from wpAny_bind ?_)
 unfold fP
 refine wpAny_bind (wpAny_field hz rfl (x := .none) rfl (wpAny_pure ?_));simp only[if_true]
 refine wpAny_bind (wpAny_rule (wpAny_bind (wpAny_field hz rfl (x := .ref TO) rfl (wpAny_bind (wpAny_setField_rec hz (by simp) fun g1 z1 s1 => ?_)))))
 have z1:IsZip g1 z TI TO .ellipsis:=z1
 refine wpAny_bind ?_
 simp only[B9,sQ,Dg,tV];refine wpAny_bind (wpAny_bind (wpAny_onRaise ?_))
 refine(show wpAny _ _ (dS (.ref i1) >>= _) _ _ _ from wpAny_bind (Be (mm h1 s1.extBut D.i1z) (xk l1 s1.extBut D.l1z) hx fun g2 n1 s2=>wpAny_pure ?_))
 have o2:IsPair g2 TO a b:=s2.extBut _ _ D.TOi1 (s1.extBut _ _ D.TOz ya)
 refine wpAny_bind (wpAny_seqItems o2 rfl (wpAny_bind (wpAny_updateSeq_pair o2 fun g3 o3 s3=>wpAny_bind (wpAny_letGo (wpAny_pure (wpAny_bind (wpAny_bind (wpAny_onRaise ?_))))))))
 have o3:IsPair g3 TO x b:=o3
 refine(show wpAny _ _ (dS (.ref i2) >>= _) _ _ _ from wpAny_bind (Be (mm (mm (mm h2 s1.extBut D.i2z) s2.extBut D.i12.symm) s3.extBut D.TOi2.symm)
  (xk (xk (xk l2 s1.extBut D.l2z) s2.extBut D.l2i1) s3.extBut D.l2TO) hy fun g4 n2 s4=>wpAny_pure ?_))
 have o4:IsPair g4 TO x b:=s4.extBut _ _ D.TOi2 o3
 refine wpAny_bind (wpAny_seqItems o4 rfl (wpAny_bind (wpAny_updateSeq_pair o4 fun g5 o5 s5=>wpAny_bind (wpAny_letGo (wpAny_pure (wpAny_pure (wpAny_bind (wpAny_seqItems (show IsPair g5 TO x y from o5) rfl (wpAny_bind (wpAny_newTuple ?_)))))))))) 
 have o5:IsPair g5 TO x y:=o5
 have sz:g5.objs.size=s.heap.objs.size:=by rw[s5.1,s4.1,s3.1,s2.1,s1.1]
 have z5:IsZip g5 z TI TO .ellipsis:=s5.extBut _ _ D.TOz.symm (s4.extBut _ _ D.i2z.symm (s3.extBut _ _ D.TOz.symm (s2.extBut _ _ D.i1z.symm z1)))
 have k5:∀ c o,c≠z->c≠TO->c≠i1->c≠i2->s.heap.get? c=some o->g5.get? c=some o:=fun c o c1 c2 c3 c4 e=>s5.extBut _ _ c2 (s4.extBut _ _ c4 (s3.extBut _ _ c2 (s2.extBut _ _ c3 (s1.extBut _ _ c1 e))))
 have n15:g5.IsTupleIter i1 t1 (k+1):=mm (mm (mm n1 s3.extBut D.TOi1.symm) s4.extBut D.i12) s5.extBut D.TOi1.symm
 have n25:g5.IsTupleIter i2 t2 (k+1):=mm n2 s5.extBut D.TOi2.symm
 have X6:z < g5.objs.size:=aW z5
 refine(show wpAny _ _ (mT (.ref z) (.ref g5.objs.size) >>= _) _ _ _ from wpAny_bind ?_)
 unfold mT
 refine wpAny_bind (wpAny_setField_rec (show IsZip (g5.push { cls := .type "tuple",data := .seq #[x,y] }) z TI TO .ellipsis from aA _ z5) (by simp) fun g7 z7 s7 => ?_)
 refine wpAny_setField_rec (show IsZip g7 z TI TO (rawInt g5.objs.size) from z7) (by simp) fun g8 z8 s8 => ?_
 have z8:IsZip g8 z TI TO (rawInt g5.objs.size):=z8
 have up:∀ c o,c≠z->g5.get? c=some o->g8.get? c=some o:=fun c o c1 e=>s8.extBut _ _ c1 (s7.extBut _ _ c1 (aA _ e))
 have t8:IsPair g8 g5.objs.size x y:=s8.extBut _ _ (jA X6) (s7.extBut _ _ (jA X6) (bh _ rfl))
 have i8:IsPair g8 TI (.ref i1) (.ref i2):=up _ _ D.TIz (k5 _ _ D.TIz D.TITO D.TIi1 D.TIi2 uY)
 refine wpAny_pure ⟨_,rfl,?_⟩
 rw[sz]at z8 t8
 show Q (.ref g5.objs.size) _
 rw[sz]
 refine hQ g8 ⟨z8,i8,⟨_,_,up _ _ D.TOz o5⟩,?_,?_⟩ t8 ⟨fun c o c1 c2 c3 c4 e=>up c o c1 (k5 c o c1 c2 c3 c4 e)⟩
 ·exact let ⟨o,q,r⟩:=n15; ⟨o,up _ o D.i1z q,r⟩
 ·exact let ⟨o,q,r⟩:=n25; ⟨o,up _ o D.i2z q,r⟩
theorem Oy {z TI TO i1 i2 t1 t2:Addr}{k:Nat}{xs:Array Value}{Q:Fin->Shared->Prop} (hh:A.handled=none) (D:ZipApart z TI TO i1 i2 t1 t2) (Z:ZT z TI TO i1 i2 t1 t2 .none k s.heap)
  (l1:s.heap.IsTuple t1 xs) (hx:xs[k]? = none) (hE:∀ h' e,EA z TO i1 i2 s.heap h'->(∃ o,h'.get? e=some o∧o.cls = .type "StopIteration")->E (.ref e) { s with heap:=h' }) :
  wpAny (model prog w) A (Builtin.«zip.__next__» ⟨[.ref z], []⟩) Q E s:=by
 obtain⟨hz,uY,⟨a,b,ya⟩,h1,h2⟩:=Z
 refine(show wpAny _ _ (field (.ref z) 2 >>= _) _ _ _ from wpAny_bind (wpAny_field hz rfl (x := .bool false) rfl (show wpAny _ _ (field (.ref z) 3 >>= _) _ _ _ from wpAny_bind (wpAny_field hz rfl (x := .ref TI) rfl (wpAny_bind (wpAny_seqItems uY rfl ?_))))))
 refine(show wpAny _ _ (fP (.ref z) >>= _) _ _ _ from wpAny_bind ?_)
 unfold fP
 refine wpAny_bind (wpAny_field hz rfl (x := .none) rfl (wpAny_pure ?_));simp only[if_true]
 refine wpAny_bind (wpAny_rule (wpAny_bind (wpAny_field hz rfl (x := .ref TO) rfl (wpAny_bind (wpAny_setField_rec hz (by simp) fun g1 z1 s1 => ?_)))))
 have z1:IsZip g1 z TI TO .ellipsis:=z1
 refine wpAny_bind ?_
 simp only[B9,sQ,Dg,tV];refine wpAny_bind (wpAny_bind (wpAny_onRaise ?_))
 refine(show wpAny _ _ (dS (.ref i1) >>= _) _ _ _ from wpAny_bind (Ms hh (mm h1 s1.extBut D.i1z) (xk l1 s1.extBut D.l1z) hx fun g2 e s2 he => ?_))
 obtain⟨oe,Vg,Y5⟩:=he
 have z2:IsZip g2 z TI TO .ellipsis:=s2 _ _ D.i1z.symm z1
 have ne:e≠z:=fun q=>by subst q;rw[z2]at Vg;cases Vg;exact absurd (js Y5) (by decide)
 exact wpAny_setField_rec z2 (by simp) fun g3 _ s3=>hE g3 e ⟨fun c o c1 _ c3 _ q=>s3.extBut _ _ c1 (s2 _ _ c3 (s1.extBut _ _ c1 q))⟩ ⟨oe,s3.extBut _ _ ne Vg,Y5⟩
theorem Lx {z TI TO i1 i2 t1 t2:Addr}{k:Nat}{xs ys:Array Value}{x y:Value}{Q:Option Value->Shared->Prop} (D:ZipApart z TI TO i1 i2 t1 t2) (Z:ZT z TI TO i1 i2 t1 t2 .none k s.heap)
  (l1:s.heap.IsTuple t1 xs) (l2:s.heap.IsTuple t2 ys) (hx:xs[k]? = some x) (hy:ys[k]? = some y)
  (hQ:∀ h',ZT z TI TO i1 i2 t1 t2 (rawInt s.heap.objs.size) (k+1) h'->IsPair h' s.heap.objs.size x y->EA z TO i1 i2 s.heap h'->Q (some (.ref s.heap.objs.size)) { s with heap:=h' }) :
  wpAny (model prog w) A (pyNext (.ref z)) Q E s:=by
 have ty:s.TypeIs (.ref z) "zip" := ⟨_,Z.hz,rfl⟩
 unfold pyNext
 exact wpAny_bind (wpAny_attempt (wpAny_callSpecial?_slot (name:=ky "__next__") ty pB (wpAny_call_entry pB ty F.entry_zip_next (Ly D Z l1 l2 hx hy fun h' a b c=>wpAny_pure (hQ h' a b c)) (zu _))))
theorem Lz {z TI TO i1 i2 t1 t2:Addr}{k:Nat}{xs:Array Value}{Q:Option Value->Shared->Prop} (hh:A.handled=none) (D:ZipApart z TI TO i1 i2 t1 t2) (Z:ZT z TI TO i1 i2 t1 t2 .none k s.heap)
  (l1:s.heap.IsTuple t1 xs) (hx:xs[k]? = none) (hQ:∀ h',EA z TO i1 i2 s.heap h'->Q none { s with heap:=h' }):wpAny (model prog w) A (pyNext (.ref z)) Q E s:=by
 have ty:s.TypeIs (.ref z) "zip" := ⟨_,Z.hz,rfl⟩
 unfold pyNext
 refine wpAny_bind (wpAny_attempt (wpAny_callSpecial?_slot (name:=ky "__next__") ty pB (wpAny_call_entry pB ty F.entry_zip_next (Oy hh D Z l1 hx fun h' e hk he => ?_) (zu _))))
 exact let ⟨o,ho,hc⟩:=he;wpAny_bind (wpAny_isInstance (T := "StopIteration") (b:=true) ⟨o,ho,hc⟩ isSubtype_stop (wpAny_pure (hQ _ hk)))
end
abbrev HF (h:Heap) (a:Addr):Heap:=h.push { cls := .type "tuple_iterator",data := .fields #[.ref a,.int 0 0] }
abbrev Qs (h:Heap) (a b:Addr):Heap:=HF (HF h a) b
abbrev Qr (h:Heap) (a b:Addr):Heap:=(Qs h a b).push { cls := .type "tuple",data := .seq #[.ref h.objs.size,.ref (HF h a).objs.size] }
abbrev Qq (h:Heap) (a b:Addr):Heap:=(Qr h a b).push { cls := .type "tuple",data := .seq #[.none,.none] }
abbrev HE (h:Heap) (a b:Addr):Heap:=(Qq h a b).push { cls := .type "zip",data := .fields #[.none,.bool false,.bool false,.ref (Qs h a b).objs.size,.ref (Qr h a b).objs.size] }
theorem Kf (a b:Addr) (xs ys:Array Value):Meets (Builtin.«zip.__new__» ⟨[.type "zip",.ref a,.ref b], []⟩) (fun _ R s=>s.heap.IsTuple a xs∧s.heap.IsTuple b ys ∧
   R (.ok (.ret (.ref (Qq s.heap a b).objs.size))) { s with heap:=HE s.heap a b }) :=
 .of_wp fun prog w A R s h=>by
  obtain⟨hp,g,d,tk,os⟩:=s;obtain⟨ha,hb,h⟩:=h
  have sub:=sub_zip
  have A1:Heap.IsTuple (Shared.heap ⟨hp,g,d,tk,os⟩) a xs:=ha
  have B1:Heap.IsTuple (Shared.heap ⟨HF hp a,g,d,tk,os⟩) b ys:=let ⟨o,e,r⟩:=hb; ⟨o,aA _ e,r⟩
  wp_walk using wpAny_pyIter_tuple A1,wpAny_pyIter_tuple B1
  exact⟨_,rfl,h⟩
section
variable {prog:Program}{w:World}{A:Around}{E:Value->Shared->Prop}{s:Shared}
theorem LA {a b:Addr}{xs ys:Array Value}{Q:Value->Shared->Prop} (ha:s.heap.IsTuple a xs) (hb:s.heap.IsTuple b ys)
  (h:∀ h',ZT (s.heap.objs.size+4) (s.heap.objs.size+2) (s.heap.objs.size+3) s.heap.objs.size (s.heap.objs.size+1) a b .none 0 h'->(∀ c o,s.heap.get? c=some o->h'.get? c=some o)->Q (.ref (s.heap.objs.size+4)) { s with heap:=h' }) :
  wpAny (model prog w) A (call (.type "zip") [.ref a,.ref b]) Q E s:=by
 refine callType_new F.called_zip (by decide) (F.typeCall_zip_2 _ _) (F.newCall_zip_2 _ _) (fun obj=>F.args_object_init_3 obj _ _) F.entry_zip_new (Kf a b xs ys) ⟨ha,hb,?_⟩
 have e1:(HF s.heap a).objs.size=s.heap.objs.size+1:=iK ..
 have e2:(Qs s.heap a b).objs.size=s.heap.objs.size+2:=by rw[iK,e1]
 have e3:(Qr s.heap a b).objs.size=s.heap.objs.size+3:=by rw[iK,e2]
 have e4:(Qq s.heap a b).objs.size=s.heap.objs.size+4:=by rw[iK,e3]
 have up {h:Heap}{c:Addr}{o p:Obj} (x:h.get? c=some o):(h.push p).get? c=some o:=aA _ x
 have q5:(HE s.heap a b).get? (Qq s.heap a b).objs.size=some _:=bh _ rfl
 have q4:(HE s.heap a b).get? (Qr s.heap a b).objs.size=some _:=up (bh _ rfl)
 have q3:(HE s.heap a b).get? (Qs s.heap a b).objs.size=some _:=up (up (bh _ rfl))
 have q2:(HE s.heap a b).get? (HF s.heap a).objs.size=some _:=up (up (up (bh _ rfl)))
 have q1:(HE s.heap a b).get? s.heap.objs.size=some _:=up (up (up (up (bh _ rfl))))
 show _∧_
 rw[e2,e3,e4]at q5
 rw[e1,e2]at q3
 rw[e3]at q4
 rw[e1]at q2
 rw[e4]
 exact⟨⟨_,q5,rfl⟩,h _ ⟨q5,q3,⟨_,_,q4⟩,⟨_,q1,rfl,rfl⟩,⟨_,q2,rfl,rfl⟩⟩ fun c o x=>up (up (up (up (up x))))⟩
end
section
variable {X:Cx}{ae:List (Addr × Obj)}{σ : St}{H:Hp}{s:Shared} {h':Heap}
theorem Inv.Sa {ch:List Addr} {t':Nat} (I:Inv X ae σ H s) (k:∀ b o,b ∉ ch->s.heap.get? b=some o->h'.get? b=some o) (hf:∀ b∈ch,nh X ae H b):Inv X ae σ H { s with heap:=h',toks:=t' }:=by
 have Mr:∀ b u,H b=some u->b ∉ ch:=fun b u e z=>by rw[(hf b z).1]at e;cases e
 refine I.step (g':=s.gens) (d':=s.drawn) (ch:=ch) (fun b hb => ?_) (fun b o _ _ hc e _=>k b o hc e) (fun b o _ _ hc e _=>⟨o.slots,k b o hc e⟩) (fun _ _ _ _ n=>n)
  (fun b o hc e=>⟨o,k b o hc e⟩) (fun _ _ e=>e) (fun _ _ _ e=>e) (fun b ps e=>⟨#[],by rw[e];simp⟩) (fun m hm => ?_) (fun b u e => ?_) I.bare
 ·obtain⟨_,f1,_,f3,f4,f5⟩:=hf b hb
  exact⟨f3,f1,f4,f5⟩
 ·obtain⟨o,es,ep,ho,r⟩:=hm
  exact⟨o,es,ep,k _ o (fun z=>(hf _ z).2.1 rfl) ho,r⟩
 ·refine(I.bw b u e).vD (fun c v hc q=>k c v ?_ q) (fun _ q=>q) fun _ _ q=>q
  rcases hc with z | z
  ·rw[z];exact Mr b u e
  ·exact Mr c _ z
end
def Ov (K:ak) (a b:Addr):It :=
 ⟨fun i H=>∃ xs ys x y,bY K H a xs∧bY K H b ys∧xs[i]? = some x∧ys[i]? = some y,
  fun i H r H'=>∃ p u v,H p=none∧r = .ref p∧(∀ xs,bY K H a xs->xs[i]? = some u)∧(∀ ys,bY K H b ys->ys[i]? = some v)∧H'=aG H p (.tup [u,v]),
  fun i H=>∃ xs,bY K H a xs∧xs.length=i⟩
theorem LL {P:Program}{w:World}{K:ak}{Aw:List Expr}{k:Nat}{tp:Pos} (a b z TI TO i1 i2:Addr) (D:ZipApart z TI TO i1 i2 a b) :
  Turn P w K (.Tuple Aw k tp) (Ov K a b) [z,TI,TO,i1,i2] z (ZT z TI TO i1 i2 a b .none) where
 mem:=by simp
 obj:=fun i h st c hc=>by
  obtain⟨hz,uY,⟨x,y,ya⟩,⟨o1,q1,_,d1⟩,⟨o2,q2,_,d2⟩⟩:=st
  simp only[aN,jB,or_false]at hc
  rcases hc with rfl | rfl | rfl | rfl | rfl
  ·exact⟨_,hz,fun v e=>nomatch (show zY _=tZ v from e)⟩
  ·exact⟨_,uY,fun v e=>nomatch (show Data.seq _ _=tZ v from e)⟩
  ·exact⟨_,ya,fun v e=>nomatch (show Data.seq _ _=tZ v from e)⟩
  ·exact⟨o1,q1,fun v e=>by rw[d1]at e;cases e⟩
  ·exact⟨o2,q2,fun v e=>by rw[d2]at e;cases e⟩
 keep:=fun i h h' st k=>by
  obtain⟨hz,uY,⟨x,y,ya⟩,⟨o1,q1,r1⟩,⟨o2,q2,r2⟩⟩:=st
  exact⟨k z (by simp) _ hz,k TI (by simp) _ uY,⟨x,y,k TO (by simp) _ ya⟩,⟨o1,k i1 (by simp) _ q1,r1⟩,⟨o2,k i2 (by simp) _ q2,r2⟩⟩
 item:=by
  intro X hP hw hK hc i ae s σ H E I hf st hg
  subst hP hw hK
  obtain⟨xs,ys,x,y,hq,hr,hx,hy⟩:=hg
  obtain⟨its,rv,p,_⟩:=I.tuple hq
  obtain⟨UP,rv',p',_⟩:=I.tuple hr
  obtain⟨u,hu,ru⟩:=rv.get hx
  obtain⟨v,hv,mY⟩:=rv'.get hy
  refine Lx D st (show s.heap.IsTuple a its.toArray from p) (show s.heap.IsTuple b UP.toArray from p') (x:=u) (y:=v) (by simpa using hu) (by simpa using hv) fun h1 Z1 T1 L1 => ?_
  have cS:∀ c o,s.heap.get? c=some o->c≠s.heap.objs.size:=fun c o e=>bP (aW e)
  have zl:=cS z _ st.hz
  refine⟨_,rfl,wpAny_letOwnedTupleGo_zip Z1.hz fun h2 hz2 cq => ?_⟩
  have ext:=cq.extBut
  have kk:∀ c o,c ∉ [z,TI,TO,i1,i2]->s.heap.get? c=some o->h2.get? c=some o:=fun c o hc q=>by
   have c1:c≠z:=fun e=>hc (by simp[e])
   exact ext _ _ c1 (L1.but c o c1 (fun e=>hc (by simp[e])) (fun e=>hc (by simp[e])) (fun e=>hc (by simp[e])) q)
  have c9:ZT z TI TO i1 i2 a b .none (i+1) h2:=by
   obtain⟨_,uY,⟨x',y',ya⟩,n1,n2⟩:=Z1
   exact⟨hz2,ext _ _ D.TIz uY,⟨x',y',ext _ _ D.TOz ya⟩,mm n1 ext D.i1z,mm n2 ext D.i2z⟩
  refine⟨.ref s.heap.objs.size,aG H s.heap.objs.size (.tup [x,y]),?_,rfl,⟨_,x,y,I.bw.fresh (ao _),rfl,fun zs hz=>by rw[I.xi hz hq];exact hx,fun zs hz=>by rw[I.xi hz hr];exact hy,rfl⟩,c9,fun c hc => ?_⟩
  ·refine I.AU (ch := [z,TI,TO,i1,i2]) (t':=s.toks) kk hf (ao _) ⟨by show 2<=sizeLine;decide, [u,v],.cons ru (.cons mY .nil),?_⟩
   exact⟨_,ext _ _ zl.symm T1,rfl,_,rfl,rfl⟩
  ·have:c≠s.heap.objs.size:=by
    obtain⟨_,uY,⟨_,_,ya⟩,⟨_,q1,_⟩,⟨_,q2,_⟩⟩:=st
    simp only[aN,jB,or_false]at hc
    rcases hc with rfl | rfl | rfl | rfl | rfl
    ·exact zl
    ·exact cS _ _ uY
    ·exact cS _ _ ya
    ·exact cS _ _ q1
    ·exact cS _ _ q2
   rw[aD this]
   exact(hf c hc).1
 done:=by
   intro X hP hw hK hc i ae s σ H E I hf st hg
   subst hP hw hK
   obtain⟨xs,hq,hx⟩:=hg
   obtain⟨its,rv,p,_⟩:=I.tuple hq
   have hl:=rv.length
   refine Lz (I.ok.hd hc) D st (show s.heap.IsTuple a its.toArray from p) (by simp;omega) fun h1 L1=>⟨rfl,?_⟩
   refine I.Sa (ch := [z,TI,TO,i1,i2]) (t':=s.toks) (fun c o hc q=>L1.but c o (fun e=>hc (by simp[e])) (fun e=>hc (by simp[e])) (fun e=>hc (by simp[e])) (fun e=>hc (by simp[e])) q) hf
 self:=fun _ _ _ _ _ st h=>wpAny_pyIter_zip st.hz h
inductive JV (K:ak) (R:It->Hp->Prop) (vs:List V) (H1:Hp):Prop
 | mk:∀ a b xs ys,(vs = [.ref a,.ref b])->(bY K H1 a xs)->(bY K H1 b ys)->(R (Ov K a b) H1)->JV K R vs H1
def XG (K:ak) (ta:TA):TI:=fun σ H R=>ta σ H fun vs H1=>JV K R vs H1
theorem boot_zip:bootBuiltins "zip" = some (.type "zip"):=by decide +kernel
section
variable {X:Cx}
theorem Ss {l m:Expr}{ta:TA}{Aw:List Expr}{k:Nat}{tp p pos:Pos} (hg:Gl X "zip") (hm:X.mg "zip" = none) (ha:PA X [l,m] ta)
  (he:starEach (l :: [m]) X.env=(false,eval l X.env) :: starEach [m] X.env:=by rfl) (lu:(backTo pos (starEach [m] X.env)).any (·.1)=false:=by rfl) :
  PI X (.Tuple Aw k tp) (.Call (.Name "zip" p) [l,m] [] pos) (XG X.K ta):=by
 intro ae s σ H R I h
 refine Call_ (qG I hg hm boot_zip (gk (bW (ha pos ae s σ H _ I h) fun us s1 ⟨vs,H1,I1,r1,q1⟩ => ?_) he lu))
 obtain⟨a,b,xs,ys,e,hq,hr,q⟩:=q1
 subst e
 obtain⟨u,v,rfl,ru,rv⟩:=vals2 r1
 cases ru;cases rv
 obtain⟨its,_,pa,_⟩:=I1.tuple hq
 obtain⟨UP,_,pb,_⟩:=I1.tuple hr
 have la:a < s1.heap.objs.size:=let ⟨_,e,_⟩:=pa; aW e
 have lb:b < s1.heap.objs.size:=let ⟨_,e,_⟩:=pb; aW e
 refine LA (show s1.heap.IsTuple a its.toArray from pa) (show s1.heap.IsTuple b UP.toArray from pb) fun h1 Z1 hk => ?_
 have I2:Inv X ae σ H1 { s1 with heap:=h1 }:=I1.kept (t':=s1.toks) hk
 have fp:∀ c,s1.heap.objs.size<=c->nh X ae H1 c:=fun c hc=>I1.Av hc (I1.bw.fresh hc)
 refine wpAny_pyIter_zip (s := { s1 with heap:=h1 }) Z1.hz ⟨_, [s1.heap.objs.size+4,s1.heap.objs.size+2,s1.heap.objs.size+3,s1.heap.objs.size,s1.heap.objs.size+1],_,_,H1,rfl,I2,LL a b _ _ _ _ _ (zipApart_new la lb),Z1,fun c hc => ?_,q⟩
 simp only[aN,jB,or_false]at hc
 rcases hc with rfl | rfl | rfl | rfl | rfl
 ·exact fp _ (fB ..)
 ·exact fp _ (fB ..)
 ·exact fp _ (fB ..)
 ·exact fp _ (ao _)
 ·exact fp _ (fB ..)
end
theorem P5 {K:ak}{a b:Addr}{xs ys:List V}{g:TG}{tb:TS}{D:Ends}{σ : St}{H:Hp} (dI:xs.length=ys.length) (Pv:Nat->St->Hp->Prop) (h0:Pv 0 σ H)
  (hl:∀ i σ H,i<=xs.length->Pv i σ H->bY K H a xs∧bY K H b ys)
  (hs:∀ i x y p σ H,xs[i]? = some x->ys[i]? = some y->Pv i σ H->H p=none->g (.ref p) σ (aG H p (.tup [x,y])) fun ll H2=>tb { D with nx:=Pv (i+1),ct:=Pv (i+1),bk:=D.nx } ll H2) (hd:∀ σ H,Pv xs.length σ H->D.nx σ H) :
  ∃ W:Nat->Nat->St->Hp->Prop,(∃ m,W 0 m σ H)∧∀ i m σ H,W i m σ H ->
   ((Ov K a b).stop i H∧D.nx σ H)∨((Ov K a b).go i H∧∃ N:St->Hp->Prop,(∀ cc H',N cc H'->∃ m',m' < m∧W (i+1) m' cc H')∧∀ x H',(Ov K a b).zv i H x H'->g x σ H' fun ll H2=>tb { D with nx:=N,ct:=N,bk:=D.nx } ll H2):=by
 refine⟨fun i m σ H=>m=xs.length - i∧i<=xs.length∧Pv i σ H,⟨xs.length,by simp,aS _,h0⟩,?_⟩
 rintro i m σ H ⟨rfl,hi,p⟩
 obtain⟨q,q'⟩:=hl i σ H hi p
 by_cases cS:i < xs.length
 ·have aaZ:i < ys.length:=by omega
  refine .inr ⟨⟨xs,ys,xs[i],ys[i],q,q',by simp[cS],by simp[aaZ]⟩,Pv (i+1),fun cc H' p'=>⟨xs.length - (i+1),by omega,rfl,cS,p'⟩,fun x H' y => ?_⟩
  obtain⟨pa,u,v,M8,rfl,hu,hv,rfl⟩:=y
  exact hs i u v pa σ H (hu xs q) (hv ys q') p M8
 ·have e:i=xs.length:=by omega
  subst e
  exact .inl ⟨⟨xs,q,rfl⟩,hd σ H p⟩
section
variable {P:Program}{w:World}{A:Around}{s:Shared}
open SeqAt MeetsSeq MeetsSeq2 MeetsSeq3 SeqRoads2
open AutoSeq1 (wpAny_loadPart')
theorem R8 {kvs:List (Key × V)}{k:Key}{v:V} (h:cA kvs k=some v):v∈kvs.map (·.2):=by
 induction kvs with
 | nil=>rw[vz]at h;cases h
 | cons p r ih =>
  by_cases e:p.1=k
  ·rw[fq e]at h;cases h;exact aU
  ·rw[ft e]at h;exact aI _ (ih h)
theorem PR {kvs:List (Key × V)}{kb:List (Key × Value)} (r:KV kvs kb) (hi:∀ kv∈kvs,∃ n,kv.2 = .int n) {sub:List (Key × V)}{kc:List (Key × Value)} (q:KV sub kc) (h:∀ kv∈sub,∃ n,kv.2 = .int n) :
  ∃ t,B7 A s kb kc t∧(t=true↔∀ kv∈sub,cA kvs kv.1=some kv.2):=by
 unfold KV at q
 induction q with
 | nil=>exact⟨true,.nil,⟨fun _ kv hm=>(jB hm).elim,fun _=>rfl⟩⟩
 | @cons p c ps cs e t ih =>
  obtain⟨k,u⟩:=c
  obtain⟨e1,e2⟩:=e
  obtain⟨n,hn⟩:=h p aU
  have Jr:p.1=k:=e1
  rw[hn]at e2
  obtain⟨tk,e2⟩:=e2
  have WG:u=ow n tk:=e2
  subst WG
  have hv:=r.val p.1
  obtain⟨t0,k0,i0⟩:=ih fun kv hm=>h kv (aI _ hm)
  cases M5:valueAt kb p.1 with
  | none =>
   rw[M5]at hv
   refine⟨false,.miss (by rw[<- Jr];exact M5),fun z=>(by cases z),fun z => ?_⟩
   rw[z p aU]at hv
   exact(show False from hv).elim
  | some y =>
   rw[M5]at hv
   cases FV:cA kvs p.1 with
   | none=>rw[FV]at hv;exact(show False from hv).elim
   | some v =>
    rw[FV]at hv
    obtain⟨m,hm⟩:∃ m,v = .int m:=by
     obtain⟨kv,tJ,ekv⟩:=bu.mp (R8 FV)
     rw[<- ekv];exact hi kv tJ
    subst hm
    obtain⟨rR,hy⟩:=(show RelV (.int m) y from hv)
    subst hy
    rw[Jr]at M5
    have z:=Lv (A:=A) (s:=s) M5 (EqAt.int_int n tk m rR) k0
    refine⟨_,z,?_⟩
    rw[lg,i0,beq_iff_eq]
    refine⟨fun ⟨a,b⟩ kv hm => ?_,fun z=>⟨?_,fun kv hm=>z kv (aI _ hm)⟩⟩
    ·rcases aN.mp hm with rfl | hm
     ·rw[FV,hn,a]
     ·exact b kv hm
    ·have:=z p aU
     rw[FV,hn]at this
     exact(V.int.inj (aB this)).symm
structure R5 (kvs mx:List (Key × V)):Prop where
 len:kvs.length=mx.length
 at_:∀ kv∈kvs,cA mx kv.1=some kv.2
theorem ND {H:Hp}{a b:Addr}{kvs mx:List (Key × V)} (bw:ir P w H s.heap) (ha:H a=some (.dK kvs)) (hb:H b=some (.dK mx)) (hi:∀ kv∈kvs,∃ n,kv.2 = .int n) (uW:∀ kv∈mx,∃ n,kv.2 = .int n) (hu:A.units < cLine) :
  ∃ t,zX P w A s (.ref a) (.ref b) t∧(t=true↔R5 kvs mx):=by
 obtain⟨z,y,vs,dM,dd⟩:=(show cR P w H s.heap a (.dK kvs) from bw a _ ha)
 have hn:(vs.map (·.1)).Nodup:=let ⟨_,_,_,_,_,_,_,_,hn⟩:=dd;hn
 rw[<- dM.keys]at hn
 by_cases tL:a=b
 ·subst tL
  rw[ha]at hb
  cases hb
  exact⟨true,zX.QX (yK _),fun _=>⟨rfl,OD hn⟩,fun _=>rfl⟩
 ·obtain⟨z',y',nt,T6,u5⟩:=(show cR P w H s.heap b (.dK mx) from bw b _ hb)
  obtain⟨t,kt,it⟩:=PR (A:=A.in1) (s:=s) T6 uW dM hi
  refine⟨vs.length == nt.length && t,zX.of_refs tL fun E Q hq=>PySem.W.keq_eq y y' dd u5 hu (fun _=>kt) hq,?_⟩
  rw[lg,it,beq_iff_eq, <- dM.length, <- T6.length]
  exact⟨fun ⟨a,b⟩=>⟨a,b⟩,fun ⟨a,b⟩=>⟨a,b⟩⟩
end
section
open PySem.SeqAt
open PySem.AutoSeq1 (wpAny_loadPart')
open PySem.MeetsSeq PySem.MeetsSeq2 PySem.MeetsSeq3
theorem ME (l b:Addr) (dA gZ:Array Value) (n n2:Nat) (dd GQ:Option Addr) (sl wJ:Array (Option Value)) (ns ms:List Int) (hi:IntsAre dA.toList ns) (hj:IntsAre gZ.toList ms) (k:Nat) :
  ∀ i:Nat,dA.size - i=k->i<=dA.size->i<=gZ.size->Meets (Builtin.«list.__eq__.loop» ⟨[.ref l,.ref b,rawInt i,rawInt 0], []⟩)
   (fun A R s=>s.heap.get? l=some { cls := .type "list",dict:=dd,data := .seq dA n,slots:=sl }∧s.heap.get? b=some { cls := .type "list",dict:=GQ,data := .seq gZ n2,slots:=wJ } ∧
    R (.ok (.ret (.bool (HT.lexLt (ns.drop i) (ms.drop i))))) s):=by
 have z1:dA.size=ns.length:=by rw[<- hi.length];simp
 have z2:gZ.size=ms.length:=by rw[<- hj.length];simp
 induction k with
 | zero =>
  intro i hk nB aa0 prog w A R s h
  obtain⟨hp,g,d,tk,os⟩:=s;obtain⟨hl,hb,h⟩:=h
  wp_walk using wpAny_loadPart' hl,wpAny_loadPart' hb
  have rj:dA[((i:Nat):Int).toNat]? = none:=by simp;omega
  have hd:ns.drop i = []:=nF (by omega)
  rw[hd]at h
  rw[rj]
  have hv:HT.lexLt [] (ms.drop i)=decide (dA.size < gZ.size):=by
   cases e:ms.drop i with
   | nil =>
    have:=List.drop_eq_nil_iff.mp e
    exact(decide_eq_false (by omega)).symm
   | cons y ys =>
    have:¬ ms.length<=i:=fun z=>by rw[nF z]at e;cases e
    exact(decide_eq_true (by omega)).symm
  rw[hv]at h
  wp_walk using wpAny_loadPart' hl,wpAny_loadPart' hb
  exact h
 | succ k ih =>
  intro i hk nB aa0 prog w A R s h
  obtain⟨hp,g,d,tk,os⟩:=s;obtain⟨hl,hb,h⟩:=h
  wp_walk using wpAny_loadPart' hl,wpAny_loadPart' hb
  have cS:i < dA.size:=by omega
  have hc:((i:Int)+1)=((i+1:Nat):Int):=by push_cast;rfl
  have rj:dA[((i:Nat):Int).toNat]? = some dA[i]:=by simp[cS]
  obtain⟨a,t,ea,hna⟩:=IntsAre.at hi i dA[i] (by simp[cS])
  have d1:ns.drop i=a :: ns.drop (i+1):=by
   have:=(ah.mp hna).2
   rw[jj (by omega),this]
  by_cases Vj:i < gZ.size
  ·have m5:gZ[((i:Nat):Int).toNat]? = some gZ[i]:=by simp[Vj]
   obtain⟨c,u,ec,hnc⟩:=IntsAre.at hj i gZ[i] (by simp[Vj])
   have d2:ms.drop i=c :: ms.drop (i+1):=by
    have:=(ah.mp hnc).2
    rw[jj (by omega),this]
   rw[d1,d2,HT.oO]at h
   rw[rj,m5]
   obtain⟨e,he,Vp⟩:=HT.P7 A.in1 ⟨hp,g,d,tk,os⟩ a t c u
   rw[<- ea, <- ec]at he
   refine wpAny_bind (he prog w _ _ ?_)
   cases e with
   | true =>
    rw[if_pos (Vp.mp rfl)]at h
    wp_walk
    rw[hc]
    exact⟨plainId_quiet plain_eq_loop _,codeAny_builtin entry_eq_loop (by
     rw[wG plain_eq_loop _]
     exact ih (i+1) (by omega) (by omega) (by omega) prog w A R _ ⟨hl,hb,h⟩)⟩
   | false =>
    rw[if_neg (fun q=>absurd (Vp.mpr q) bx)]at h
    wp_walk using wpAny_loadPart' hl,wpAny_loadPart' hb
    rw[rj,m5,ea,ec]
    have hri:=HT.OU A.in1 ⟨hp,g,d,tk,os⟩ a t c u prog w
    wp_walk using hri
    exact h
  ·have m5:gZ[((i:Nat):Int).toNat]? = none:=by simp;omega
   have d2:ms.drop i = []:=nF (by omega)
   rw[d1,d2,HT.CO]at h
   rw[rj,m5]
   wp_walk using wpAny_loadPart' hl,wpAny_loadPart' hb
   show R (.ok (.ret (.bool (decide (dA.size < gZ.size))))) _
   rw[decide_eq_false (by omega)]
   exact h
theorem FH (l b:Addr) (dA gZ:Array Value) (n n2:Nat) (dd GQ:Option Addr) (sl wJ:Array (Option Value)) (ns ms:List Int) (hi:IntsAre dA.toList ns) (hj:IntsAre gZ.toList ms) :
  Meets (Builtin.«list.__lt__» ⟨[.ref l,.ref b], []⟩)
   (fun _ R s=>s.heap.get? l=some { cls := .type "list",dict:=dd,data := .seq dA n,slots:=sl }∧s.heap.get? b=some { cls := .type "list",dict:=GQ,data := .seq gZ n2,slots:=wJ } ∧
    R (.ok (.ret (.bool (HT.lexLt ns ms)))) s):=by
 intro prog w A R s h
 obtain⟨hp,g,d,tk,os⟩:=s;obtain⟨hl,hb,h⟩:=h
 have f3:=AutoSeq1.sub_list_list
 wp_walk using wpAny_loadPart' hl,wpAny_loadPart' hb
 exact⟨plainId_quiet plain_eq_loop _,codeAny_builtin entry_eq_loop (by
  rw[wG plain_eq_loop _]
  exact ME l b dA gZ n n2 dd GQ sl wJ ns ms hi hj _ 0 rfl (aS _) (aS _) prog w A R _ ⟨hl,hb,by simpa using h⟩)⟩
end
section
variable {prog:Program}{w:World}{A:Around}{E:Value->Shared->Prop}{s:Shared}
end
end L2
namespace Sw
open PySem L2
def dH:List Tm->Tm->Option Nat
 | [],_=>none
 | u :: ts,t=>if fT u=fT t then some 0 else (dH ts t).map (· + 1)
theorem oK:∀ {ts:List Tm}{t:Tm}{i:Nat},dH ts t=some i->ts[i]? = some t
 | [],_,_,h=>by rw[dH]at h;cases h
 | u :: ts,t,i,h=>by
  rw[dH]at h
  by_cases e:fT u=fT t
  ·rw[if_pos e]at h;cases h;rw[rH e];rfl
  ·rw[if_neg e]at h
   cases q:dH ts t with
   | none=>rw[q]at h;cases h
   | some j=>rw[q]at h;cases h;simpa using oK q
theorem Ug {ts:List Tm}{t:Tm}{i:Nat} (h:dH ts t=some i):i < ts.length:=(ah.mp (oK h)).1
theorem rZ:∀ {ts:List Tm}{t:Tm},dH ts t=none↔t ∉ ts
 | [],t=>by rw[dH];simp
 | u :: ts,t=>by
  rw[dH]
  by_cases e:fT u=fT t
  ·rw[if_pos e,rH e];simp
  ·rw[if_neg e,ur,rZ,aN,not_or]
   exact⟨fun h=>⟨fun z=>e (by rw[z]),h⟩,fun h=>h.2⟩
theorem CD:∀ (ts:List Tm) (u t:Tm),dH (ts ++ [u]) t=match dH ts t with
  | some i=>some i
  | none=>if fT u=fT t then some ts.length else none
 | [],u,t=>by rw[dB,dH,dH,dH];rfl
 | x :: ts,u,t=>by
  rw[cU,dH,dH,CD ts u t]
  by_cases e:fT x=fT t
  ·rw[if_pos e,if_pos e]
  ·rw[if_neg e,if_neg e]
   cases dH ts t with
   | some j=>rfl
   | none =>
    by_cases e2:fT u=fT t
    ·simp[e2]
    ·simp[e2]
theorem tF:∀ {ts:List Tm}{t:Tm}{i:Nat},dH ts t=some i->∀ j,j < i->ts[j]? ≠ some t
 | [],_,_,h=>by rw[dH]at h;cases h
 | u :: ts,t,i,h=>by
  rw[dH]at h
  by_cases e:fT u=fT t
  ·rw[if_pos e]at h;cases h;intro j hj;omega
  ·rw[if_neg e]at h
   cases q:dH ts t with
   | none=>rw[q]at h;cases h
   | some k =>
    rw[q]at h;cases h
    intro j hj
    cases j with
    | zero=>simp;exact fun z=>e (by rw[z])
    | succ j=>simpa using tF q j (Nat.lt_of_succ_lt_succ hj)
theorem Uh {ts:List Tm}{t:Tm}{i:Nat} (h:ts[i]? = some t) (hf:∀ j,j < i->ts[j]? ≠ some t):dH ts t=some i:=by
 cases q:dH ts t with
 | none=>exact absurd (aK h) (rZ.mp q)
 | some k =>
  have h1:=tF q
  have h2:=oK q
  rcases Nat.lt_trichotomy i k with z | z | z
  ·exact absurd h (h1 i z)
  ·rw[z]
  ·exact absurd h2 (hf k z)
theorem tG {α : Type}:∀ {S U:List α},S.Nodup->(∀ x∈S,x∈U)->S.length<=U.length
 | [],U,_,_=>aS _
 | x :: S,U,hn,h=>by
  obtain⟨A,B,rfl⟩:=List.append_of_mem (h x aU)
  have hx:=(dO.mp hn).1
  have:=tG (S:=S) (U:=A ++ B) (dO.mp hn).2 fun y hy=>by
   have:=h y (aI _ hy)
   rcases bg.mp this with z | z
   ·exact eO _ z
   ·rcases aN.mp z with z | z
    ·exact absurd (z ▸ hy) hx
    ·exact bE _ z
  rw[au]at this
  rw[bB,au,bB]
  omega
mutual
def T.iq:T->List Str
 | .num _ => []
 | .name _ => []
 | .any w => [w]
 | .of _ ts=>T.fX ts
def T.fX:List T->List Str
 | [] => []
 | t :: ts=>t.iq ++ T.fX ts
end
section
variable {S:Type}
end
def iu (ts:List Tm) (ls:List Nat) (m:Tm):Option Nat:=(dH (ts.map (mk ls)) m).map fun i=>ls.getD i 0
theorem EM {ts:List Tm}{ls:List Nat}{m:Tm}{l:Nat} (hl:ls.length=ts.length) (h:iu ts ls m=some l):∃ (i:Nat) (u:Tm),ts[i]? = some u∧mk ls u=m∧ls[i]? = some l:=by
 unfold iu at h
 cases e:dH (ts.map (mk ls)) m with
 | none=>rw[e]at h;cases h
 | some i =>
  rw[e]at h
  have q:=oK e
  rw[aH]at q
  cases eu:ts[i]? with
  | none=>rw[eu]at q;cases q
  | some u =>
   rw[eu]at q
   have hi:=(ah.mp eu).1
   refine⟨i,u,eu,aB q,?_⟩
   have h2:ls.getD i 0=l:=aB h
   rw[ai (by omega), <- h2,br,ai (by omega)]
   rfl
theorem EN {ts:List Tm}{ls:List Nat}{m:Tm} (h:iu ts ls m=none):∀ (i:Nat) (u:Tm),ts[i]? = some u->mk ls u≠m:=fun i u hi z=>by
 unfold iu at h
 rw[ur]at h
 exact rZ.mp h (z ▸ bu.mpr ⟨u,aK hi,rfl⟩)
section
variable {ts ts1:List Tm}{es:List (Nat × Nat)}{ls ls1:List Nat}
end
section
variable {ts:List Tm}{es:List (Nat × Nat)}{ls:List Nat}
end
end Sw
namespace Sw
open PySem L2
abbrev Bd:=List (Str × Nat)
def look:Bd->Str->Option Nat
 | [],_=>none
 | p :: r,w=>if p.1=w then some p.2 else look r w
theorem jv:∀ (b:Bd) (w:Str) (l:Nat) (z:Str),look (b ++ [(w,l)]) z=match look b z with
  | some v=>some v
  | none=>if w=z then some l else none
 | [],w,l,z=>by rw[dB,look,look,look]
 | p :: r,w,l,z=>by
  rw[cU,look,look,jv r w l z]
  by_cases e:p.1=z
  ·rw[if_pos e,if_pos e]
  ·rw[if_neg e,if_neg e]
def Within (m m':Str->Option Nat):Prop := ∀ z v,m z=some v->m' z=some v
theorem zw (m:Str->Option Nat):Within m m:=fun _ _ h=>h
theorem Within.trans {a b c:Str->Option Nat} (h:Within a b) (h':Within b c):Within a c:=fun z v e=>h' z v (h z v e)
def nI (lead:Nat) (w:Str) (b:Bd):List Bd:=match look b w with
 | some l=>if l=lead then [b] else []
 | none => [b ++ [(w,lead)]]
section
variable (ts:List Tm) (ls:List Nat) (hd:Nat->List Nat)
mutual
def d5 (m:Str->Option Nat):T->Option Nat
 | .any w=>m w
 | .num n=>iu ts ls (.num n)
 | .name w=>iu ts ls (.name w)
 | .of w as=>(dJ m as).bind fun ns=>iu ts ls (.of w ns)
def dJ (m:Str->Option Nat):List T->Option (List Nat)
 | []=>some []
 | t :: as=>(d5 m t).bind fun n=>(dJ m as).map fun ns=>n :: ns
end
mutual
def fz:T->Nat->Bd->List Bd
 | .any w,lead,b=>nI lead w b
 | .num n,lead,b=>if iu ts ls (.num n)=some lead then [b] else []
 | .name w,lead,b=>if iu ts ls (.name w)=some lead then [b] else []
 | .of x ps,lead,b=>(hd lead).flatMap fun (k:Nat)=>match ts[k]? with
  | some (TM.of y as)=>if y=x∧as.length=ps.length then iC ps as [b] else []
  | _ => []
def iC:List T->List Nat->List Bd->List Bd
 | [],_,ws=>ws
 | p :: ps,as,ws=>iC ps as.tail (ws.flatMap fun b=>fz p (ls.getD (as.headD 0) 0) b)
end
end
structure Cm (ts:List Tm) (ls:List Nat) (hd:Nat->List Nat):Prop where
 at_:∀ lead,∀ k∈hd lead,∃ u,ts[k]? = some u∧ls[k]? = some lead
 all:∀ (i:Nat) u lead,ts[i]? = some u->ls[i]? = some lead->∃ k∈hd lead,∃ u',ts[k]? = some u'∧mk ls u'=mk ls u
 one:∀ lead,(hd lead).Pairwise fun k k'=>∀ u u',ts[k]? = some u->ts[k']? = some u'->mk ls u≠mk ls u'
 mw:∀ (i j:Nat) t u,ts[i]? = some t->ts[j]? = some u->mk ls t=mk ls u->ls[i]? = ls[j]?
section
variable {ts:List Tm}{ls:List Nat}{hd:Nat->List Nat}
mutual
theorem GV {m m':Str->Option Nat} (h:Within m m'):∀ (p:T) {l:Nat},d5 ts ls m p=some l->d5 ts ls m' p=some l
 | .any w,l,e=>by rw[d5]at e ⊢;exact h w l e
 | .num n,l,e=>by rw[d5]at e ⊢;exact e
 | .name n,l,e=>by rw[d5]at e ⊢;exact e
 | .of w as,l,e=>by
  rw[d5]at e ⊢
  cases q:dJ ts ls m as with
  | none=>rw[q]at e;cases e
  | some ns=>rw[q]at e;rw[tQ h as q];exact e
theorem tQ {m m':Str->Option Nat} (h:Within m m'):∀ (as:List T) {l:List Nat},dJ ts ls m as=some l->dJ ts ls m' as=some l
 | [],l,e=>by rw[dJ]at e ⊢;exact e
 | t :: as,l,e=>by
  rw[dJ]at e ⊢
  cases q:d5 ts ls m t with
  | none=>rw[q]at e;cases e
  | some n =>
   cases q2:dJ ts ls m as with
   | none=>rw[q,q2]at e;cases e
   | some ns=>rw[q,q2]at e;rw[GV h t q,tQ h as q2];exact e
end
theorem Ay {m:Str->Option Nat}:∀ {as:List T}{l:List Nat},dJ ts ls m as=some l->l.length=as.length
 | [],l,e=>by rw[dJ]at e;cases e;rfl
 | t :: as,l,e=>by
  rw[dJ]at e
  cases q:d5 ts ls m t with
  | none=>rw[q]at e;cases e
  | some n =>
   cases q2:dJ ts ls m as with
   | none=>rw[q,q2]at e;cases e
   | some ns=>rw[q,q2]at e;cases e;rw[bB,bB,Ay q2]
structure yJ (b w:Bd) (hs:List Str):Prop where
 ext:Within (look b) (look w)
 oS:∀ z,(look w z).isSome=true↔(look b z).isSome=true∨z∈hs
theorem ye (b:Bd):yJ b b []:=⟨zw _,fun z=>⟨.inl,fun h=>h.elim id fun h=>by cases h⟩⟩
theorem yJ.then {b w v:Bd}{hs gs:List Str} (h:yJ b w hs) (g:yJ w v gs):yJ b v (hs ++ gs) :=
 ⟨h.ext.trans g.ext,fun z=>by rw[g.oS z,h.oS z,bg,or_assoc]⟩
theorem K1 {lead:Nat}{x:Str}{b w:Bd} (h:w∈nI lead x b):yJ b w [x]∧look w x=some lead:=by
 unfold nI at h
 split at h
 ·rename_i l e
  split at h
  ·rename_i el
   rw[av.mp h]
   refine⟨⟨zw _,fun z=>⟨.inl,fun q=>q.elim id fun q => ?_⟩⟩,by rw[e,el]⟩
   rw[av.mp q,e];rfl
  ·cases h
 ·rename_i e
  rw[av.mp h]
  refine⟨⟨fun z v q=>by rw[jv,q],fun z => ?_⟩,by rw[jv,e];exact if_pos rfl⟩
  rw[jv]
  cases q:look b z with
  | some v=>simp
  | none =>
   by_cases ez:x=z
   ·subst ez;simp
   ·simp[ez,dh ez]
theorem KI {k:Nat}{y:Str}{as:List Nat}:(mk ls (TM.of y as):Tm)=TM.of y (as.map fun a=>ls.getD a 0):=rfl
mutual
theorem Az (H:Cm ts ls hd):∀ (p:T) {lead:Nat}{b w:Bd},w∈fz ts ls hd p lead b->yJ b w p.iq∧d5 ts ls (look w) p=some lead
 | .any x,lead,b,w,h=>by rw[fz]at h;rw[d5,T.iq];exact K1 h
 | .num n,lead,b,w,h=>by
  rw[fz]at h
  split at h
  ·rename_i e;rw[av.mp h,d5,T.iq];exact⟨ye b,e⟩
  ·cases h
 | .name n,lead,b,w,h=>by
  rw[fz]at h
  split at h
  ·rename_i e;rw[av.mp h,d5,T.iq];exact⟨ye b,e⟩
  ·cases h
 | .of x ps,lead,b,w,h=>by
  rw[fz]at h
  obtain⟨k,hk,hw⟩:=cH.mp h
  obtain⟨u,hu,hl⟩:=H.at_ lead k hk
  rw[hu]at hw
  cases u with
  | num n=>cases hw
  | name n=>cases hw
  | of y as =>
   dsimp only at hw
   split at hw
   ·rename_i e
    obtain⟨rfl,el⟩:=e
    obtain⟨b0,Gg,f,c⟩:=wo H ps as el hw
    rw[av.mp Gg]at f
    refine⟨by rw[T.iq];exact f,?_⟩
    rw[d5,c]
    show iu ts ls (mk ls (TM.of y as))=some lead
    cases q:iu ts ls (mk ls (TM.of y as)) with
    | none=>exact absurd rfl (EN q k _ hu)
    | some l =>
     unfold iu at q
     cases q1:dH (ts.map (mk ls)) (mk ls (TM.of y as)) with
     | none=>rw[q1]at q;cases q
     | some i =>
      rw[q1]at q
      have q2:=oK q1
      rw[aH]at q2
      cases q3:ts[i]? with
      | none=>rw[q3]at q2;cases q2
      | some u0 =>
       rw[q3]at q2
       have q4:=H.mw i k u0 _ q3 hu (aB q2)
       rw[hl]at q4
       have q5:ls.getD i 0=l:=aB q
       rw[<- q5,br,q4];rfl
   ·cases hw
theorem wo (H:Cm ts ls hd):∀ (ps:List T) (as:List Nat),as.length=ps.length->∀ {ws:List Bd}{w:Bd},w∈iC ts ls hd ps as ws->∃ b∈ws,yJ b w (T.fX ps)∧dJ ts ls (look w) ps=some (as.map fun a=>ls.getD a 0)
 | [], [],_,ws,w,h=>by rw[iC]at h;rw[T.fX,dJ];exact⟨w,h,ye w,rfl⟩
 | p :: ps, [],e,ws,w,h=>by cases e
 | [],a :: as,e,ws,w,h=>by cases e
 | p :: ps,a :: as,e,ws,w,h=>by
  rw[iC]at h
  obtain⟨b1,Gf,f1,c1⟩:=wo H ps as (mJ e) h
  obtain⟨b,hb,h2⟩:=cH.mp Gf
  obtain⟨f2,c2⟩:=Az H p h2
  refine⟨b,hb,by rw[T.fX];exact f2.then f1,?_⟩
  rw[dJ,GV f1.ext p c2,c1]
  rfl
end
def Unl (v w:Bd):Prop := ¬ ∀ z,look v z=look w z
theorem PM {lead:Nat}{x:Str}{b:Bd}{m:Str->Option Nat} (hb:Within (look b) m) (h:m x=some lead):∃ w∈nI lead x b,Within (look w) m:=by
 unfold nI
 split
 ·rename_i l e
  have:=hb x l e
  rw[h]at this
  cases this
  rw[if_pos rfl]
  exact⟨b,dq _,hb⟩
 ·rename_i e
  refine⟨_,dq _,fun z v q => ?_⟩
  rw[jv]at q
  cases e2:look b z with
  | some v'=>rw[e2]at q;exact hb z v (by rw[e2];exact q)
  | none =>
   rw[e2]at q
   dsimp only at q
   by_cases ez:x=z
   ·rw[if_pos ez]at q;rw[<- ez,h];exact q
   ·rw[if_neg ez]at q;cases q
mutual
theorem NO (H:Cm ts ls hd) (dI:ls.length=ts.length):∀ (p:T) {lead:Nat}{b:Bd}{m:Str->Option Nat},Within (look b) m->d5 ts ls m p=some lead->∃ w∈fz ts ls hd p lead b,Within (look w) m
 | .any x,lead,b,m,hb,h=>by rw[d5]at h;rw[fz];exact PM hb h
 | .num n,lead,b,m,hb,h=>by rw[d5]at h;rw[fz,if_pos h];exact⟨b,dq _,hb⟩
 | .name n,lead,b,m,hb,h=>by rw[d5]at h;rw[fz,if_pos h];exact⟨b,dq _,hb⟩
 | .of x ps,lead,b,m,hb,h=>by
  rw[d5]at h
  cases q:dJ ts ls m ps with
  | none=>rw[q]at h;cases h
  | some cs =>
   rw[q]at h
   obtain⟨i,u,hi,em,hl⟩:=EM dI (show iu ts ls (.of x cs)=some lead from h)
   obtain⟨k,hk,u',wM,NH⟩:=H.all i u lead hi hl
   rw[em]at NH
   cases u' with
   | num n=>cases NH
   | name n=>cases NH
   | of y as =>
    rw[KI (k:=0)]at NH
    cases NH
    have el:as.length=ps.length:=by
     have:=Ay q
     rw[aj]at this
     exact this
    obtain⟨w,hw,hm⟩:=N2 H dI ps as el (ws := [b]) ⟨b,dq _,hb⟩ q
    refine⟨w,?_,hm⟩
    rw[fz]
    refine cH.mpr ⟨k,hk,?_⟩
    rw[wM]
    dsimp only
    rw[if_pos ⟨rfl,el⟩]
    exact hw
theorem N2 (H:Cm ts ls hd) (dI:ls.length=ts.length):∀ (ps:List T) (as:List Nat),as.length=ps.length->∀ {ws:List Bd}{m:Str->Option Nat},(∃ b∈ws,Within (look b) m)->dJ ts ls m ps=some (as.map fun a=>ls.getD a 0)->∃ w∈iC ts ls hd ps as ws,Within (look w) m
 | [], [],_,ws,m,hb,h=>by rw[iC];exact hb
 | p :: ps, [],e,ws,m,hb,h=>by cases e
 | [],a :: as,e,ws,m,hb,h=>by cases e
 | p :: ps,a :: as,e,ws,m,⟨b,hb,hm⟩,h=>by
  rw[dJ]at h
  cases q:d5 ts ls m p with
  | none=>rw[q]at h;cases h
  | some l =>
   cases q2:dJ ts ls m ps with
   | none=>rw[q,q2]at h;cases h
   | some cs =>
    rw[q,q2]at h
    have h2:l :: cs=ls.getD a 0 :: as.map fun a=>ls.getD a 0:=aB h
    cases h2
    obtain⟨w,hw,hwm⟩:=NO H dI p hm q
    rw[iC]
    exact N2 H dI ps as (mJ e) ⟨w,cH.mpr ⟨b,hb,hw⟩,hwm⟩ q2
end
end
def BU:List Row->Nat->Nat->List Row
 | [],l,k => [(l, [k])]
 | q :: ps,l,k=>if q.1=l then (q.1,q.2 ++ [k]) :: ps else q :: BU ps l k
theorem mv (q:Row) (ps:List Row) (l:Nat):jg (q :: ps) l=if q.1=l then some q.2 else jg ps l:=by
 unfold jg
 rw[eC]
 by_cases e:q.1=l
 ·rw[decide_eq_true e,if_pos e];rfl
 ·rw[decide_eq_false e,if_neg e]
theorem Mf {q:Row}{ps:List Row}{l:Nat}{zs:List Nat} (e:q.1≠l):oJ (q :: ps) l zs=q :: oJ ps l zs:=by
 unfold oJ
 rw[i6,decide_eq_false e,Bool.false_or,aJ,if_neg e]
 split <;> rfl
theorem G7:∀ (ps:List Row) (l k:Nat),(ps.map (·.1)).Nodup->nS ps l k=BU ps l k
 | [],l,k,_=>rfl
 | q :: ps,l,k,h=>by
  rw[aJ,dO]at h
  rw[BU]
  by_cases e:q.1=l
  ·rw[if_pos e]
   unfold nS oJ
   rw[mv,if_pos e,i6,decide_eq_true e,Bool.true_or,if_pos rfl,aJ,if_pos e]
   congr 1
   refine(dW fun p hp => ?_).trans (qr _)
   rw[if_neg];rfl
   exact fun z=>h.1 (by rw[e, <- z];exact bu.mpr ⟨p,hp,rfl⟩)
  ·rw[if_neg e, <- G7 ps l k h.2]
   unfold nS
   rw[mv,if_neg e,Mf e]
theorem G6:∀ (ps:List Row) (l k l':Nat),(jg (BU ps l k) l').getD []=(jg ps l').getD [] ++ if l=l' then [k] else []
 | [],l,k,l'=>by
  rw[BU,mv]
  by_cases e:l=l'
  ·rw[if_pos e,if_pos e];rfl
  ·rw[if_neg e,if_neg e];rfl
 | q :: ps,l,k,l'=>by
  rw[BU]
  by_cases e:q.1=l
  ·rw[if_pos e,mv,mv]
   by_cases e':l=l'
   ·rw[if_pos (e.trans e'),if_pos (e.trans e'),if_pos e'];rfl
   ·have e2:q.1≠l':=fun z=>e' (e.symm.trans z)
    rw[if_neg e2,if_neg e2,if_neg e',cg]
  ·rw[if_neg e,mv,mv]
   by_cases e2:q.1=l'
   ·rw[if_pos e2,if_pos e2,if_neg (fun z=>e (e2.trans z.symm)),cg]
   ·rw[if_neg e2,if_neg e2];exact G6 ps l k l'
theorem G5:∀ (ps:List Row) (l k:Nat),((BU ps l k).flatMap (·.2)).Perm (ps.flatMap (·.2) ++ [k])
 | [],l,k=>by rw[BU];exact qd _
 | q :: ps,l,k=>by
  rw[BU]
  by_cases e:q.1=l
  ·rw[if_pos e,j6,j6,aV,aV]
   exact fm _ oy
  ·rw[if_neg e,j6,j6,aV]
   exact fm _ (G5 ps l k)
section
variable (ls:List Nat) (ms:List Tm)
theorem mU (l:Nat):∀ n,(jg (jc ls (cV ms n)) l).getD []=(cV ms n).filter fun k=>decide (ls.getD k 0=l)
 | 0=>rfl
 | n+1=>by
  rw[nD]
  cases kP ms n with
  | false=>rw[if_neg (by decide),cg];exact mU l n
  | true =>
   rw[if_pos rfl,xx,G7 _ _ _ (xA ls _),G6,mQ,mU l n]
   congr 1
   by_cases e:ls.getD n 0=l
   ·rw[if_pos e,nX,decide_eq_true e,if_pos rfl];rfl
   ·rw[if_neg e,nX,decide_eq_false e,if_neg (by decide)];rfl
theorem xy:∀ n,((jc ls (cV ms n)).flatMap (·.2)).Perm (cV ms n)
 | 0=>qd _
 | n+1=>by
  rw[nD]
  cases kP ms n with
  | false=>rw[if_neg (by decide),cg];exact xy n
  | true =>
   rw[if_pos rfl,xx,G7 _ _ _ (xA ls _)]
   exact(G5 _ _ _).trans (jY _ (xy n))
theorem GD (n:Nat):(cV ms n).Nodup:=jk _ AI
end
def lx (ts:List Tm) (ls:List Nat) (l:Nat):List Nat:=(jg (jc ls (cV (ts.map (mk ls)) ts.length)) l).getD []
section
variable {ts:List Tm}{ls:List Nat}
theorem By {l k:Nat}:k∈lx ts ls l↔k∈cV (ts.map (mk ls)) ts.length∧ls.getD k 0=l:=by
 unfold lx
 rw[mU,eg,decide_eq_true_iff]
theorem qK {k:Nat}:k∈cV (ts.map (mk ls)) ts.length↔∃ u,ts[k]? = some u∧dH (ts.map (mk ls)) (mk ls u)=some k:=by
 unfold cV
 rw[eg,iJ]
 constructor
 ·rintro⟨hk,hn⟩
  have hu:=ai hk
  refine⟨ts[k],hu,Uh (by rw[aH,hu];rfl) fun j hj e => ?_⟩
  have:=(oi (ms:=ts.map (mk ls)) (n:=k) (m:=mk ls ts[k]) (by rw[aH,hu];rfl)).mpr ⟨j,hj,e⟩
  rw[hn]at this;cases this
 ·rintro⟨u,hu,hp⟩
  refine⟨(ah.mp hu).1,?_⟩
  cases q:kP (ts.map (mk ls)) k with
  | true=>rfl
  | false =>
   obtain⟨j,hj,e⟩:=(oi (oK hp)).mp q
   exact absurd e (tF hp j hj)
theorem xU (dI:ls.length=ts.length) (mw:Cd ts ls):Cm ts ls (lx ts ls) where
 at_:=fun lead k hk=>by
  obtain⟨hf,hl⟩:=By.mp hk
  obtain⟨u,hu,_⟩:=qK.mp hf
  have hk:=(ah.mp hu).1
  refine⟨u,hu,?_⟩
  rw[<- hl,ai (by omega),br,ai (by omega)];rfl
 all:=fun i u lead hi hl=>by
  have hm:(ts.map (mk ls))[i]? = some (mk ls u):=by rw[aH,hi];rfl
  cases q:dH (ts.map (mk ls)) (mk ls u) with
  | none=>exact absurd (aK hm) (rZ.mp q)
  | some k =>
   have h1:=oK q
   rw[aH]at h1
   obtain⟨u',wM,em⟩:=bS.mp h1
   refine⟨k,By.mpr ⟨qK.mpr ⟨u',wM,by rw[em];exact q⟩,?_⟩,u',wM,em⟩
   have:=mw k i u' u wM hi em
   rw[br,this,hl];rfl
 one:=fun lead=>by
  unfold lx
  rw[mU]
  refine jk _ (d8 ?_ (jk _ uu))
  intro k k' hk wO cS u u' hu wM e
  obtain⟨v,hv,hp⟩:=qK.mp wO
  rw[wM]at hv
  cases hv
  refine tF hp k cS ?_
  rw[aH,hu, <- e];rfl
 mw:=mw
theorem S3 {j:Nat}{t:Tm} (dI:ls.length=ts.length) (mw:Cd ts ls) (hj:ts[j]? = some t):∃ zs,jg (jc ls (cV (ts.map (mk ls)) ts.length)) (ls.getD j 0)=some zs:=by
 have hl:ls[j]? = some (ls.getD j 0):=by
  have:=(ah.mp hj).1
  rw[br,ai (by omega)];rfl
 obtain⟨k,hk,_⟩:=(xU dI mw).all j t _ hj hl
 unfold lx at hk
 cases q:jg (jc ls (cV (ts.map (mk ls)) ts.length)) (ls.getD j 0) with
 | none=>rw[q]at hk;cases hk
 | some zs=>exact⟨zs,rfl⟩
theorem Gb (l:Nat):(lx ts ls l).length<=ts.length:=by
 unfold lx
 rw[mU]
 exact aF (iW _ _) (oR _ _)
end
mutual
def T.kn:T->Nat
 | .num _=>0
 | .name _=>0
 | .any _=>0
 | .of _ ps=>1+T.gx ps
def T.gx:List T->Nat
 | []=>0
 | p :: ps=>p.kn+T.gx ps
end
theorem pZ {α β : Type}{f : α -> List β}{n:Nat}:∀ {l:List α},(∀ a∈l,(f a).length<=n)->(l.flatMap f).length<=l.length * n
 | [],_=>by simp
 | a :: l,h=>by
  rw[j6,au,bB,Nat.succ_mul]
  have h1:=h a aU
  have h2:=pZ (l:=l) fun b hb=>h b (aI _ hb)
  omega
section
variable {ts:List Tm}{ls:List Nat}{hd:Nat->List Nat}{N:Nat}
mutual
theorem NN (hN:1<=N) (h:∀ l,(hd l).length<=N):∀ (p:T) (lead:Nat) (b:Bd),(fz ts ls hd p lead b).length<=N ^ p.kn
 | .any x,lead,b=>by
  rw[fz,T.kn,Nat.pow_zero]
  unfold nI
  split
  ·split <;> simp
  ·simp
 | .num n,lead,b=>by rw[fz,T.kn];split <;> simp
 | .name n,lead,b=>by rw[fz,T.kn];split <;> simp
 | .of x ps,lead,b=>by
  rw[fz,T.kn,zQ,Nat.pow_one]
  refine aF (pZ (n:=N ^ T.gx ps) fun k _ => ?_) (eM _ (h lead))
  split
  ·split
   ·refine aF (BR hN h ps _ [b]) ?_
    rw[cP,zR];exact ao _
   ·exact aS _
  ·exact aS _
theorem BR (hN:1<=N) (h:∀ l,(hd l).length<=N):∀ (ps:List T) (as:List Nat) (ws:List Bd),(iC ts ls hd ps as ws).length<=ws.length * N ^ T.gx ps
 | [],as,ws=>by rw[iC,T.gx,Nat.pow_zero,Nat.mul_one];exact ao _
 | p :: ps,as,ws=>by
  rw[iC,T.gx,zQ, <- Nat.mul_assoc]
  refine aF (BR hN h ps _ _) (eM _ ?_)
  exact pZ fun b _=>NN hN h p _ b
end
mutual
theorem Ti:∀ (p:T) {lead:Nat}{b w:Bd},w∈fz ts ls hd p lead b->w.length<=b.length+p.iq.length
 | .any x,lead,b,w,h=>by
  rw[fz]at h
  rw[T.iq]
  unfold nI at h
  split at h
  ·split at h
   ·rw[av.mp h];exact fB _ _
   ·cases h
  ·rw[av.mp h,au];exact ao _
 | .num n,lead,b,w,h=>by
  rw[fz]at h
  split at h
  ·rw[av.mp h];exact fB _ _
  ·cases h
 | .name n,lead,b,w,h=>by
  rw[fz]at h
  split at h
  ·rw[av.mp h];exact fB _ _
  ·cases h
 | .of x ps,lead,b,w,h=>by
  rw[fz]at h
  rw[T.iq]
  obtain⟨k,_,hw⟩:=cH.mp h
  split at hw
  ·split at hw
   ·obtain⟨b0,Gg,l⟩:=Dd ps hw
    rw[av.mp Gg]at l;exact l
   ·cases hw
  ·cases hw
theorem Dd:∀ (ps:List T) {as:List Nat}{ws:List Bd}{w:Bd},w∈iC ts ls hd ps as ws->∃ b∈ws,w.length<=b.length+(T.fX ps).length
 | [],as,ws,w,h=>by rw[iC]at h;exact⟨w,h,fB _ _⟩
 | p :: ps,as,ws,w,h=>by
  rw[iC]at h
  rw[T.fX]
  obtain⟨b1,Gf,l1⟩:=Dd ps h
  obtain⟨b,hb,h2⟩:=cH.mp Gf
  have:=Ti p h2
  exact⟨b,hb,by rw[au];omega⟩
end
end
def qz (ts:List Tm) (ls:List Nat) (k:Nat) (x:Str) (ps:List T) (b:Bd):List Bd:=match ts[k]? with
 | some (TM.of y as)=>if y=x∧as.length=ps.length then iC ts ls (lx ts ls) ps as [b] else []
 | _ => []
theorem NP (ts:List Tm) (ls:List Nat) (x:Str) (ps:List T) (lead:Nat) (b:Bd):fz ts ls (lx ts ls) (.of x ps) lead b=(lx ts ls lead).flatMap fun k=>qz ts ls k x ps b:=by rw[fz];rfl
def zM (ts:List Tm) (ls:List Nat) (ps:List T) (as:List Nat) (b:Bd) (i:Nat):List Bd:=iC ts ls (lx ts ls) (ps.take i) as [b]
theorem JF {ts:List Tm}{ls:List Nat}{hd:Nat->List Nat}:∀ (ps:List T) (p:T) (as:List Nat) (ws:List Bd),iC ts ls hd (ps ++ [p]) as ws=(iC ts ls hd ps as ws).flatMap fun b=>fz ts ls hd p (ls.getD (as.getD ps.length 0) 0) b
 | [],p,as,ws=>by
  rw[dB,iC,iC,iC]
  cases as <;> rfl
 | q :: ps,p,as,ws=>by
  rw[cU,iC,iC,JF ps p as.tail]
  congr 1
  funext b
  cases as <;> rfl
theorem Qm {ts:List Tm}{ls:List Nat}{ps:List T}{as:List Nat}{b:Bd}{i:Nat}{p:T}{a:Nat} (hp:ps[i]? = some p) (ha:as[i]? = some a):zM ts ls ps as b (i+1)=(zM ts ls ps as b i).flatMap fun v=>fz ts ls (lx ts ls) p (ls.getD a 0) v:=by
 have hl:=(ah.mp hp).1
 unfold zM
 rw[bQ,hp]
 show iC ts ls (lx ts ls) (ps.take i ++ [p]) as [b]=_
 rw[JF,bA,dj (by omega),br (l:=as),ha]
 rfl
def tU (a b:List Nat):Prop:=HT.lexLt (a.map fun n:Nat=>(n:Int)) (b.map fun n:Nat=>(n:Int))=true
theorem CL {k k':Nat} {c c':List Nat} (h:k < k'):tU (k :: c) (k' :: c'):=by
 show HT.lexLt ((k:Int) :: _) ((k':Int) :: _)=true
 rw[HT.oO,if_neg (by omega)]
 exact decide_eq_true (by omega)
theorem za {k:Nat} {c c':List Nat} (h:tU c c'):tU (k :: c) (k :: c'):=by
 show HT.lexLt ((k:Int) :: _) ((k:Int) :: _)=true
 rw[HT.oO,if_pos rfl];exact h
theorem MC:∀ {a c c':List Nat},tU c c'->tU (a ++ c) (a ++ c')
 | [],c,c',h=>h
 | k :: a,c,c',h=>za (MC (a:=a) h)
theorem MD:∀ {a a' c c':List Nat},a.length=a'.length->tU a a'->tU (a ++ c) (a' ++ c')
 | [], [],c,c',_,h=>by cases (show false=true from h)
 | [],_ :: _,c,c',e,h=>by cases e
 | _ :: _, [],c,c',e,h=>by cases e
 | k :: a,k' :: a',c,c',e,h=>by
  have h2:HT.lexLt ((k:Int) :: a.map fun n:Nat=>(n:Int)) ((k':Int) :: a'.map fun n:Nat=>(n:Int))=true:=h
  rw[HT.oO]at h2
  by_cases ek:(k:Int)=(k':Int)
  ·rw[if_pos ek]at h2
   rw[show k'=k by omega]
   exact za (MD (a:=a) (a':=a') (mJ e) h2)
  ·rw[if_neg ek]at h2
   have:=of_decide_eq_true h2
   exact CL (by omega)
section
variable (ts:List Tm) (ls:List Nat)
mutual
def fF (m:Str->Option Nat):T->List Nat
 | .any _ => []
 | .num _ => []
 | .name _ => []
 | .of w as=>((dJ ts ls m as).bind fun ns=>dH (ts.map (mk ls)) (.of w ns)).getD 0 :: dN m as
def dN (m:Str->Option Nat):List T->List Nat
 | [] => []
 | t :: as=>fF m t ++ dN m as
end
end
section
variable {ts:List Tm}{ls:List Nat}{hd:Nat->List Nat}
mutual
theorem BO (m:Str->Option Nat):∀ (p:T),(fF ts ls m p).length=p.kn
 | .any _=>by rw[fF,T.kn];rfl
 | .num _=>by rw[fF,T.kn];rfl
 | .name _=>by rw[fF,T.kn];rfl
 | .of w as=>by rw[fF,T.kn,bB,u7 m as];omega
theorem u7 (m:Str->Option Nat):∀ (ps:List T),(dN ts ls m ps).length=T.gx ps
 | []=>by rw[dN,T.gx];rfl
 | p :: ps=>by rw[dN,T.gx,au,BO m p,u7 m ps]
end
theorem C6 (m:Str->Option Nat):∀ (ps qs:List T),dN ts ls m (ps ++ qs)=dN ts ls m ps ++ dN ts ls m qs
 | [],qs=>by rw[dB,dN,dB]
 | p :: ps,qs=>by rw[cU,dN,dN,C6 m ps qs,aV]
theorem Jy (m:Str->Option Nat) (p:T):dN ts ls m [p]=fF ts ls m p:=by rw[dN,dN,cg]
theorem C5 {m:Str->Option Nat}:∀ {ps qs:List T} {l l':List Nat},dJ ts ls m ps=some l->dJ ts ls m qs=some l'->dJ ts ls m (ps ++ qs)=some (l ++ l')
 | [],qs,l,l',h,h'=>by rw[dJ]at h;cases h;exact h'
 | p :: ps,qs,l,l',h,h'=>by
  rw[dJ]at h
  rw[cU,dJ]
  cases e1:d5 ts ls m p with
  | none=>rw[e1]at h;cases h
  | some n =>
   cases e2:dJ ts ls m ps with
   | none=>rw[e1,e2]at h;cases h
   | some k=>rw[e1,e2]at h;cases h;rw[C5 e2 h'];rfl
theorem cls_cons {m:Str->Option Nat}{p:T}{ps:List T}{l:List Nat} (h:dJ ts ls m (p :: ps)=some l):∃ n k,d5 ts ls m p=some n∧dJ ts ls m ps=some k∧l=n :: k:=by
 rw[dJ]at h
 cases e1:d5 ts ls m p with
 | none=>rw[e1]at h;cases h
 | some n =>
  cases e2:dJ ts ls m ps with
  | none=>rw[e1,e2]at h;cases h
  | some k=>rw[e1,e2]at h;cases h;exact⟨n,k,rfl,rfl,rfl⟩
mutual
theorem Tj {m m':Str->Option Nat} (h:Within m m'):∀ (p:T) {l:Nat},d5 ts ls m p=some l->fF ts ls m' p=fF ts ls m p
 | .any _,l,_=>by rw[fF,fF]
 | .num _,l,_=>by rw[fF,fF]
 | .name _,l,_=>by rw[fF,fF]
 | .of w as,l,e=>by
  rw[d5]at e
  cases e1:dJ ts ls m as with
  | none=>rw[e1]at e;cases e
  | some ns=>rw[fF,fF,e1,tQ h as e1,AA h as e1]
theorem AA {m m':Str->Option Nat} (h:Within m m'):∀ (ps:List T) {l:List Nat},dJ ts ls m ps=some l->dN ts ls m' ps=dN ts ls m ps
 | [],l,_=>by rw[dN,dN]
 | p :: ps,l,e=>by
  obtain⟨n,k,e1,e2,_⟩:=cls_cons e
  rw[dN,dN,Tj h p e1,AA h ps e2]
end
structure R3 (ts:List Tm) (ls:List Nat) (hd:Nat->List Nat):Prop where
 asc:∀ l,(hd l).Pairwise (· < ·)
 pos:∀ l,∀ k∈hd l,∀ u,ts[k]? = some u->dH (ts.map (mk ls)) (mk ls u)=some k
theorem Vy:R3 ts ls (lx ts ls) where
 asc:=fun l=>by
  unfold lx
  rw[mU]
  exact(jk _ uu).filter _
 pos:=fun l k hk u hu=>by
  obtain⟨u',wM,hp⟩:=qK.mp (By.mp hk).1
  rw[hu]at wM
  cases wM
  exact hp
theorem JA (H:Cm ts ls hd) {k:Nat}{x:Str}{as:List Nat}{ps:List T}{ws:List Bd}{w:Bd} (hp:dH (ts.map (mk ls)) (mk ls (.of x as))=some k) (el:as.length=ps.length) (hw:w∈iC ts ls hd ps as ws):fF ts ls (look w) (.of x ps)=k :: dN ts ls (look w) ps:=by
 obtain⟨b,_,_,hc⟩:=wo H ps as el hw
 rw[fF,hc]
 congr 1
 rw[AF, <- KI (k:=0),hp];rfl
theorem Ab {α : Type}{R : α -> α -> Prop}:∀ {l:List α},l.length<=1->l.Pairwise R
 | [],_=>f6
 | [a],_=>fV _ _
 | _ :: _ :: _,h=>by simp at h
mutual
theorem WN (H:Cm ts ls hd) (O:R3 ts ls hd):∀ (p:T) (lead:Nat) (b:Bd),(fz ts ls hd p lead b).Pairwise fun v v'=>tU (fF ts ls (look v) p) (fF ts ls (look v') p)
 | .any x,lead,b=>by
  rw[fz]
  unfold nI
  refine Ab ?_
  split
  ·split <;> simp
  ·simp
 | .num n,lead,b=>by rw[fz];refine Ab ?_;split <;> simp
 | .name n,lead,b=>by rw[fz];refine Ab ?_;split <;> simp
 | .of x ps,lead,b=>by
  rw[fz,kE]
  have Rn:∀ k∈hd lead,∀ w,w∈(match ts[k]? with
    | some (TM.of y as)=>if y=x∧as.length=ps.length then iC ts ls hd ps as [b] else []
    | _ => [])->fF ts ls (look w) (.of x ps)=k :: dN ts ls (look w) ps:=fun k hk w hw=>by
   split at hw
   ·rename_i y as e
    split at hw
    ·rename_i c
     obtain⟨rfl,el⟩:=c
     exact JA H (O.pos lead k hk _ e) el hw
    ·cases hw
   ·cases hw
  refine⟨fun k hk => ?_,(O.asc lead).imp_of_mem fun {k k'} hk wO cS v hv v' uR => ?_⟩
  ·refine d8 (R:=fun v v'=>tU (dN ts ls (look v) ps) (dN ts ls (look v') ps)) (fun {v v'} hv uR h=>by rw[Rn k hk v hv,Rn k hk v' uR];exact za h) ?_
   split
   ·split
    ·rename_i c
     exact G4 H O ps _ c.2 (qs := []) (ws := [b]) (fun v _=>⟨[],by rw[dJ]⟩) (fV _ _)
    ·exact f6
   ·exact f6
  ·rw[Rn k hk v hv,Rn k' wO v' uR]
   exact CL cS
theorem G4 (H:Cm ts ls hd) (O:R3 ts ls hd):∀ (ps:List T) (as:List Nat),as.length=ps.length->∀ {qs:List T}{ws:List Bd},(∀ v∈ws,∃ l,dJ ts ls (look v) qs=some l)->ws.Pairwise (fun v v'=>tU (dN ts ls (look v) qs) (dN ts ls (look v') qs)) ->
  (iC ts ls hd ps as ws).Pairwise fun v v'=>tU (dN ts ls (look v) (qs ++ ps)) (dN ts ls (look v') (qs ++ ps))
 | [],as,_,qs,ws,_,hp=>by rw[iC,cg];exact hp
 | p :: ps, [],el,_,_,_,_=>by cases el
 | p :: ps,a :: as,el,qs,ws,hs,hp=>by
  rw[iC,show qs ++ p :: ps=(qs ++ [p]) ++ ps by rw[aV];rfl]
  refine G4 H O ps as (mJ el) (qs:=qs ++ [p]) (fun w hw => ?_) ?_
  ·obtain⟨v,hv,hw⟩:=cH.mp hw
   obtain⟨l,hl⟩:=hs v hv
   obtain⟨fr,hc⟩:=Az H p hw
   exact⟨_,C5 (tQ fr.ext qs hl) (by rw[dJ,hc,dJ];rfl)⟩
  ·rw[kE]
   have oh:∀ v∈ws,∀ w∈fz ts ls hd p (ls.getD ((a :: as).headD 0) 0) v,dN ts ls (look w) (qs ++ [p])=dN ts ls (look v) qs ++ fF ts ls (look w) p:=fun v hv w hw=>by
    obtain⟨l,hl⟩:=hs v hv
    obtain⟨fr,hc⟩:=Az H p hw
    rw[C6,Jy,AA fr.ext qs hl]
   refine⟨fun v hv=>(WN H O p _ v).imp_of_mem fun {w w'} hw IH h => ?_,hp.imp_of_mem fun {v v'} hv uR h w hw w' IH => ?_⟩
   ·rw[oh v hv w hw,oh v hv w' IH];exact MC h
   ·rw[oh v hv w hw,oh v' uR w' IH];exact MD (by rw[u7,u7]) h
end
theorem TC (H:Cm ts ls (lx ts ls)) (O:R3 ts ls (lx ts ls)) (k:Nat) (x:Str) (ps:List T):(qz ts ls k x ps []).Pairwise fun v v'=>tU (dN ts ls (look v) ps) (dN ts ls (look v') ps):=by
 unfold qz
 split
 ·split
  ·rename_i c
   exact G4 H O ps _ c.2 (qs := []) (ws := [[]]) (fun v _=>⟨[],by rw[dJ]⟩) (fV _ _)
  ·exact f6
 ·exact f6
end
mutual
def T.ar:T->Nat
 | .num _=>1
 | .name _=>1
 | .any _=>1
 | .of _ ps=>1+T.lZ ps
def T.lZ:List T->Nat
 | []=>0
 | p :: ps=>p.ar+T.lZ ps
end
theorem JE:∀ (ps qs:List T),T.lZ (ps ++ qs)=T.lZ ps+T.lZ qs
 | [],qs=>by rw[dB,T.lZ,cO]
 | p :: ps,qs=>by rw[cU,T.lZ,T.lZ,JE ps qs,gE]
theorem WT (p:T):1<=p.ar:=by cases p <;> rw[T.ar] <;> omega
theorem JD:∀ (ps:List T),ps.length<=T.lZ ps
 | []=>aS _
 | p :: ps=>by rw[T.lZ,bB];have:=WT p;have:=JD ps;omega
mutual
theorem Q4:∀ (p:T),p.kn<=p.ar
 | .num _=>by rw[T.kn];exact aS _
 | .name _=>by rw[T.kn];exact aS _
 | .any _=>by rw[T.kn];exact aS _
 | .of _ ps=>by rw[T.kn,T.ar];have:=IC ps;omega
theorem IC:∀ (ps:List T),T.gx ps<=T.lZ ps
 | []=>by rw[T.gx];exact aS _
 | p :: ps=>by rw[T.gx,T.lZ];have:=Q4 p;have:=IC ps;omega
end
end Sw
namespace L2
open PySem PySem.Spec PyProof.Rows
section
variable {P:Program}{w:World}{A:Around}{s:Shared}
open SeqAt MeetsSeq MeetsSeq2 MeetsSeq3 SeqRoads2
open AutoSeq1 (wpAny_loadPart')
theorem Pc {l b:Addr} {u v u' v':Value}{r1 r2:Bool}{E Q:Value->Shared->Prop} (hl:s.heap.IsTuple l #[u,v]) (hb:s.heap.IsTuple b #[u',v']) (hu:A.units < cLine)
  (h1:zX P w A.in1 s u u' r1) (h2:r1=true->zX P w A.in1 s v v' r2) (h:Q (.bool (!(r1 && r2))) s):wpAny (model P w) A (compareOp .NotEq (.ref l) (.ref b)) Q E s:=by
 obtain⟨⟨cls,dd,data,sl⟩,ho,hc,n,hd⟩:=id hl
 obtain⟨⟨abB,GQ,data2,wJ⟩,Rb,Gd,n2,Nf⟩:=id hb
 simp only at hc hd Gd Nf
 subst hc hd Gd Nf
 have hT:s.TypeIs (.ref l) "tuple" := ⟨_,ho,rfl⟩
 have uZ:s.TypeIs (.ref b) "tuple" := ⟨_,Rb,rfl⟩
 refine wpAny_richCompare_same_room (op := .NotEq) hT uZ F.slot_tuple_ne (wpAny_call_entry F.slot_tuple_ne hT F.entry_tuple_ne ?_ (F.args_tuple_ne_2 _ _)) hu
 obtain⟨hp,g,d,tk,os⟩:=s
 have f2:=AutoSeq1.sub_tuple_tuple
 wp_walk using wpAny_loadPart' ho,wpAny_loadPart' Rb,wpAny_forIn_list _ (fun rest b s'=>b.1=none∧s'=⟨hp,g,d,tk,os⟩∧((rest = [(u,u'),(v,v')])∨(rest = [(v,v')]∧r1=true)∨(rest = []∧r1=true∧r2=true))) _
 case turn =>
  rintro⟨y,x⟩ rest q s' ⟨hq,rfl,hr⟩
  rcases hr with hr | ⟨hr,e1⟩ | ⟨hr,_⟩
  ·cases hr
   refine wpAny_bind (h1 _ _ ?_)
   cases r1 with
   | true =>
    wp_walk
    exact⟨rfl,rfl,.inr (.inl ⟨rfl,rfl⟩)⟩
   | false =>
    wp_walk
    exact⟨_,rfl,(fun x=>nomatch x),h⟩
  ·cases hr
   subst e1
   refine wpAny_bind (h2 rfl _ _ ?_)
   cases r2 with
   | true =>
    wp_walk
    exact⟨rfl,rfl,.inr (.inr ⟨rfl,rfl,rfl⟩)⟩
   | false =>
    wp_walk
    exact⟨_,rfl,(fun x=>nomatch x),h⟩
  ·cases hr
 case fin =>
  rintro⟨q1,q2⟩ s' ⟨hq,rfl,hr⟩
  simp only at hq
  subst hq
  rcases hr with hr | ⟨hr,_⟩ | ⟨hr,e1,e2⟩
  ·cases hr
  ·cases hr
  ·subst e1 e2
   wp_walk
   exact⟨_,rfl,(fun x=>nomatch x),h⟩
 case h=>exact⟨rfl,rfl,.inl rfl⟩
end
inductive Oo (x y:V) (H:Hp) (Q:VK):Prop
 | mk (p q a b:Addr) (i:Int) (kvs mx:List (Key × V)) (e1:x = .ref p) (e2:y = .ref q) (hp:H p=some (.tup [.int i,.ref a])) (hq:H q=some (.tup [.int i,.ref b])) (ha:H a=some (.dK kvs)) (hb:H b=some (.dK mx))
  (hi:∀ kv∈kvs,∃ n,kv.2 = .int n) (uW:∀ kv∈mx,∃ n,kv.2 = .int n) (hs:R5 kvs mx) (z:Q (.bl false) H):Oo x y H Q
def Xu:R2:=fun x y H Q=>Oo x y H Q
theorem SF {X:Cx} (hu:X.A.units+151 < cLine):kC X (compareOp .NotEq) Xu:=by
 intro ae s σ H x y v u Q I rx ry h
 obtain⟨p,q,a,b,i,kvs,mx,rfl,rfl,hp,hq,ha,hb,hi,uW,hs,z⟩:=h
 cases rx
 cases ry
 obtain⟨_,us,r1,t1⟩:=(show cR X.prog X.w H s.heap p (.tup [.int i,.ref a]) from I.bw p _ hp)
 obtain⟨_,cE,r2,t2⟩:=(show cR X.prog X.w H s.heap q (.tup [.int i,.ref b]) from I.bw q _ hq)
 obtain⟨u1,u2,rfl,⟨tk,rfl⟩,e2⟩:=vals2 r1
 obtain⟨v1,v2,rfl,⟨rR,rfl⟩,WG⟩:=vals2 r2
 cases e2
 cases WG
 obtain⟨t,ht,it⟩:=ND (A:=X.A.in1) I.bw ha hb hi uW (by show X.A.units+1 < cLine;omega)
 obtain rfl:=it.mpr hs
 refine Pc t1.tup t2.tup (by omega) (zX.QX (yq i tk i rR)) (fun _=>ht) ?_
 rw[beq_self_eq_true]
 exact⟨.bl false,H,I,rfl,z⟩
end L2
namespace TG
open PySem PyProof.Rows
class o6 where
 rk:Value->Int
 ok:Value->Prop
class kz [o6] (prog:Program) (w:World) (A:Around) (s:Shared):Prop where
 lt:∀ (x y:Value) {Q:Bool->Shared->Prop}{E:Value->Shared->Prop},o6.ok x->o6.ok y->Q (decide (o6.rk x < o6.rk y)) s->wpAny (model prog w) A (oneLt' true x y) Q E s
variable [o6]
def yE (v:Value) (a:Int) (_:Tok):Prop:=o6.ok v∧o6.rk v=a
def Kr (xs:Array Keyed) (i:Nat):Int:=match xs[i]? with
 | some p=>o6.rk p.1
 | none=>0
def gO (xs:Array Keyed):Prop := ∀ p,p∈xs.toList->∃ n t,yE p.1 n t
def Df (xs:Array Keyed) (k:Nat):Prop := ∀ i j,i<=j->j < k->Kr xs i<=Kr xs j
theorem K_congr {xs ys:Array Keyed}{i j:Nat} (h:xs[i]? = ys[j]?):Kr xs i=Kr ys j:=by unfold Kr;rw[h]
theorem K_bubble {xs:Array Keyed}{wI d:Nat} (hs:wI < xs.size) (hd:d<=wI) (k:Nat):Kr (bubble xs wI d) k=if k=wI - d then Kr xs wI else if wI - d < k∧k<=wI then Kr xs (k - 1) else Kr xs k:=by
 have e:=getElem?_bubble hs d hd k
 split at e <;> rename_i c
 ·rw[if_pos c];exact K_congr e
 ·rw[if_neg c]
  split at e <;> rename_i c
  ·rw[if_pos c];exact K_congr e
  ·rw[if_neg c];exact K_congr e
theorem K_mirror {xs:Array Keyed}{i j:Nat} (hj:j<=xs.size) (k:Nat):Kr (mirror xs i j ((j - i) / 2)) k=if i<=k∧k < j then Kr xs (i+j - 1 - k) else Kr xs k:=by
 have e:=getElem?_mirror_all (i:=i) hj k
 split at e <;> rename_i c
 ·rw[if_pos c];exact K_congr e
 ·rw[if_neg c];exact K_congr e
theorem K_mirror_equal {xs:Array Keyed}{i j:Nat} (hj:j<=xs.size) (heq:∀ k,i<=k->k < j->Kr xs k=Kr xs (j - 1)) (k:Nat):Kr (mirror xs i j ((j - i) / 2)) k=Kr xs k:=by
 rw[K_mirror hj]
 split
 ·rw[heq _ (by omega) (by omega),heq k (by omega) (by omega)]
 ·rfl
section
variable {prog:Program}{w:World}{A:Around}{E:Value->Shared->Prop}{s:Shared} [kz prog w A s]
theorem xf {st:SortSt}{x y:Keyed}{a b:Int}{t u:Tok}{Q:Option Bool->SortSt->Prop} (hk:kindOf st=oneType') (hx:yE x.1 a t) (hy:yE y.1 b u) (h:Q (some (decide (a < b))) st) :
  wpS (model prog w) A E s (lt' x y) Q st:=by
 rw[lt'_eq]
 refine wpS_bind (wpS_get ?_)
 rw[hk,keyLt'_oneType]
 obtain⟨o1,rfl⟩:=hx
 obtain⟨o2,rfl⟩:=hy
 refine wpS_bind (wpS_lift (wpAny_attempt (kz.lt _ _ o1 o2 ⟨rfl,?_⟩)))
 exact wpS_pure h
theorem bF {st:SortSt}{arr:Array Keyed}{i:Nat}{x:Keyed}{Q:Keyed->SortSt->Prop} (hx:arr[i]? = some x) (h:Q x st):wpS (model prog w) A E s (elem' arr i) Q st:=by
 rw[elem'_eq,hx]
 exact wpS_pure h
def ahead (left:Bool) (k x:Int):Bool:=if left then decide (x < k) else !decide (k < x)
theorem LC {st:SortSt}{left:Bool}{key x:Keyed}{k a:Int}{t u:Tok}{Q:Option Bool->SortSt->Prop} (hk:kindOf st=oneType') (hx:yE x.1 a t) (hy:yE key.1 k u) (h:Q (some (ahead left k a)) st) :
  wpS (model prog w) A E s (if left=true then lt' x key else (lt' key x >>= fun r=>pure (r.map (!·)))) Q st:=by
 cases left with
 | true=>exact xf hk hx hy h
 | false=>exact wpS_bind (xf hk hy hx (wpS_pure h))
def Tc:Bool->Keyed->Array Keyed->Nat->Nat->Nat->StateT SortSt Sem (Option Nat):=sortPriv% PySem.Builtin.gallop
structure Run (arr:Array Keyed) (base n:Nat):Prop where
 at_:∀ i,i < n->∃ x t,arr[base+i]? = some x∧yE x.1 (Kr arr (base+i)) t
 le:∀ i j,i<=j->j < n->Kr arr (base+i)<=Kr arr (base+j)
theorem fc {st:SortSt}{left:Bool}{key:Keyed}{k:Int}{u:Tok}{arr:Array Keyed}{base n hint:Nat}{Q:Option Nat->SortSt->Prop} (hk:kindOf st=oneType') (hy:yE key.1 k u) (R:Run arr base n) (hn:hint < n)
  (h:∀ m,m<=n->(∀ i,i < m->ahead left k (Kr arr (base+i))=true)->(∀ i,m<=i->i < n->ahead left k (Kr arr (base+i))=false)->Q (some m) st) :
  wpS (model prog w) A E s (Tc left key arr base n hint) Q st:=by
 let P:Nat->Bool:=fun i=>ahead left k (Kr arr (base+i))
 have NY:∀ {i:Nat}{Q:Option Bool->SortSt->Prop},i < n->Q (some (ahead left k (Kr arr (base+i)))) st->wpS (model prog w) A E s (elem' arr (base+i) >>= fun x=>if left=true then lt' x key else (lt' key x >>= fun r=>pure (r.map (!·)))) Q st:=fun {i Q} hi h=>by
  obtain⟨x,t,e1,e2⟩:=R.at_ i hi
  exact wpS_bind (bF e1 (LC hk e2 hy h))
 have mono:∀ i j,i<=j->j < n->ahead left k (Kr arr (base+j))=true->ahead left k (Kr arr (base+i))=true:=fun i j jw hj h=>by
  have le:=R.le i j jw hj
  unfold ahead at h ⊢
  cases left with
  | true =>
   have:=of_decide_eq_true (show decide _=true from h)
   exact decide_eq_true (by omega)
  | false =>
   have h:(!decide (k < Kr arr (base+j)))=true:=h
   have:=of_decide_eq_false (show decide (k < Kr arr (base+j))=false by rw[<- Bool.not_eq_true'];exact h)
   show (!decide (k < Kr arr (base+i)))=true
   rw[decide_eq_false (by omega)]
   rfl
 refine wpS_bind (NY hn ?_)
 dsimp only
 have no:∀ {i:Nat},P i=false->∀ j,i<=j->j < n->P j=false:=fun {i} hi j jw hj=>by
  cases hq:P j with
  | false=>rfl
  | true=>exact absurd ((mono i j jw hj hq).symm.trans hi) (by decide)
 cases hr:P hint with
 | true =>
  rw[if_pos (show ahead left k (Kr arr (base+hint))=true from hr)]
  refine wpS_bind (wpS_mono (wpS_forRange (I:=fun x c aE=>st=aE∧∃ la of,c=(none,la,of)∧la < of∧x+1<=of∧la < n - hint∧P (hint+la)=true)
   (Q:=fun c aE=>st=aE∧∃ la of,c=(none,la,of)∧la < of∧la < n - hint∧P (hint+la)=true∧(n - hint<=of∨P (hint+of)=false)) (fun x c aE _ hx => ?_) (fun c aE => ?_) ⟨rfl,0,1,rfl,by omega,by omega,by omega,hr⟩) (fun c aE => ?_))
  ·rintro⟨rfl,la,of,rfl,a1,a2,a3,a4⟩
   dsimp only
   by_cases lX:of ≥ n - hint
   ·rw[if_pos lX]
    exact wpS_pure ⟨rfl,la,of,rfl,a1,a3,a4,.inl lX⟩
   ·rw[if_neg lX]
    refine wpS_bind (NY (i:=hint+of) (by omega) ?_)
    dsimp only
    cases hp:ahead left k (Kr arr (base+(hint+of))) with
    | true =>
     rw[if_neg (by decide)]
     exact wpS_pure ⟨rfl,of,2 * of+1,rfl,by omega,by omega,by omega,hp⟩
    | false =>
     rw[if_pos (by decide)]
     exact wpS_pure ⟨rfl,la,of,rfl,a1,a3,a4,.inr hp⟩
  ·rintro⟨rfl,la,of,rfl,a1,a2,a3,a4⟩
   exact⟨rfl,la,of,rfl,a1,a3,a4,.inl (by omega)⟩
  ·rintro⟨rfl,la,of,rfl,a1,a3,a4,a5⟩
   dsimp only
   have b1:hint+la+1<=hint+min of (n - hint):=by omega
   have b2:hint+min of (n - hint)<=n:=by omega
   have b3:∀ i,i < hint+la+1->P i=true:=fun i hi=>mono i (hint+la) (by omega) (by omega) a4
   have b4:∀ i,hint+min of (n - hint)<=i->i < n->P i=false:=fun i hi F9=>by
    rcases a5 with z | z
    ·omega
    ·by_cases hz:hint+of < n
     ·exact no z i (by omega) F9
     ·omega
   refine wpS_bind (wpS_mono (wpS_forRange (I:=fun x c aE=>st=aE∧∃ lo hi,c=(none,lo,hi)∧lo<=hi∧hi<=n∧hi - lo<=n - x∧(∀ i,i < lo->P i=true)∧(∀ i,hi<=i->i < n->P i=false))
    (Q:=fun c aE=>st=aE∧∃ lo hi,c=(none,lo,hi)∧hi<=n∧(∀ i,i < hi->P i=true)∧(∀ i,hi<=i->i < n->P i=false)) (fun x c aE _ hx => ?_) (fun c aE => ?_) ⟨rfl,_,_,rfl,b1,b2,by omega,b3,b4⟩) (fun c aE => ?_))
   ·rintro⟨rfl,lo,hi,rfl,l1,l2,l3,l4,l5⟩
    dsimp only
    by_cases lX:lo ≥ hi
    ·rw[if_pos lX]
     have:lo=hi:=by omega
     subst this
     exact wpS_pure ⟨rfl,lo,lo,rfl,l2,l4,l5⟩
    ·rw[if_neg lX]
     refine wpS_bind (NY (i:=lo+(hi - lo) / 2) (by omega) ?_)
     dsimp only
     cases hp:ahead left k (Kr arr (base+(lo+(hi - lo) / 2))) with
     | true =>
      rw[if_pos rfl]
      refine wpS_pure ⟨rfl,_,_,rfl,by omega,l2,by omega,fun i uW => ?_,l5⟩
      exact mono i (lo+(hi - lo) / 2) (by omega) (by omega) hp
     | false =>
      rw[if_neg (by decide)]
      refine wpS_pure ⟨rfl,_,_,rfl,by omega,by omega,by omega,l4,fun i uW F9 => ?_⟩
      cases hq:P i with
      | false=>rfl
      | true=>exact absurd ((mono _ i uW F9 hq).symm.trans hp) (by decide)
   ·rintro⟨rfl,lo,hi,rfl,l1,l2,l3,l4,l5⟩
    have:lo=hi:=by omega
    subst this
    exact⟨rfl,lo,lo,rfl,l2,l4,l5⟩
   ·rintro⟨rfl,lo,hi,rfl,l2,l4,l5⟩
    exact wpS_pure (h hi l2 l4 l5)
 | false =>
  rw[if_neg (show ¬ ahead left k (Kr arr (base+hint))=true by rw[show ahead left k (Kr arr (base+hint))=false from hr];decide)]
  refine wpS_bind (wpS_mono (wpS_forRange (I:=fun x c aE=>st=aE∧∃ la of,c=(none,la,of)∧la < of∧x+1<=of∧la<=hint∧P (hint - la)=false)
   (Q:=fun c aE=>st=aE∧∃ la of,c=(none,la,of)∧la < of∧la<=hint∧P (hint - la)=false∧(hint+1<=of∨(of<=hint∧P (hint - of)=true))) (fun x c aE _ hx => ?_) (fun c aE => ?_) ⟨rfl,0,1,rfl,by omega,by omega,by omega,hr⟩) (fun c aE => ?_))
  ·rintro⟨rfl,la,of,rfl,a1,a2,a3,a4⟩
   dsimp only
   by_cases lX:of ≥ hint+1
   ·rw[if_pos lX]
    exact wpS_pure ⟨rfl,la,of,rfl,a1,a3,a4,.inl lX⟩
   ·rw[if_neg lX]
    refine wpS_bind (NY (i:=hint - of) (by omega) ?_)
    dsimp only
    cases hp:ahead left k (Kr arr (base+(hint - of))) with
    | true =>
     rw[if_pos rfl]
     exact wpS_pure ⟨rfl,la,of,rfl,a1,a3,a4,.inr ⟨by omega,hp⟩⟩
    | false =>
     rw[if_neg (by decide)]
     exact wpS_pure ⟨rfl,of,2 * of+1,rfl,by omega,by omega,by omega,hp⟩
  ·rintro⟨rfl,la,of,rfl,a1,a2,a3,a4⟩
   exact⟨rfl,la,of,rfl,a1,a3,a4,.inl (by omega)⟩
  ·rintro⟨rfl,la,of,rfl,a1,a3,a4,a5⟩
   dsimp only
   have b1:hint+1 - min of (hint+1)<=hint - la:=by omega
   have b2:hint - la<=n:=by omega
   have b3:∀ i,i < hint+1 - min of (hint+1)->P i=true:=fun i hi=>by
    rcases a5 with z | ⟨z0,z⟩
    ·omega
    ·exact mono i (hint - of) (by omega) (by omega) z
   have b4:∀ i,hint - la<=i->i < n->P i=false:=fun i hi F9=>no a4 i hi F9
   refine wpS_bind (wpS_mono (wpS_forRange (I:=fun x c aE=>st=aE∧∃ lo hi,c=(none,lo,hi)∧lo<=hi∧hi<=n∧hi - lo<=n - x∧(∀ i,i < lo->P i=true)∧(∀ i,hi<=i->i < n->P i=false))
    (Q:=fun c aE=>st=aE∧∃ lo hi,c=(none,lo,hi)∧hi<=n∧(∀ i,i < hi->P i=true)∧(∀ i,hi<=i->i < n->P i=false)) (fun x c aE _ hx => ?_) (fun c aE => ?_) ⟨rfl,_,_,rfl,b1,b2,by omega,b3,b4⟩) (fun c aE => ?_))
   ·rintro⟨rfl,lo,hi,rfl,l1,l2,l3,l4,l5⟩
    dsimp only
    by_cases lX:lo ≥ hi
    ·rw[if_pos lX]
     have:lo=hi:=by omega
     subst this
     exact wpS_pure ⟨rfl,lo,lo,rfl,l2,l4,l5⟩
    ·rw[if_neg lX]
     refine wpS_bind (NY (i:=lo+(hi - lo) / 2) (by omega) ?_)
     dsimp only
     cases hp:ahead left k (Kr arr (base+(lo+(hi - lo) / 2))) with
     | true =>
      rw[if_pos rfl]
      refine wpS_pure ⟨rfl,_,_,rfl,by omega,l2,by omega,fun i uW => ?_,l5⟩
      exact mono i (lo+(hi - lo) / 2) (by omega) (by omega) hp
     | false =>
      rw[if_neg (by decide)]
      refine wpS_pure ⟨rfl,_,_,rfl,by omega,by omega,by omega,l4,fun i uW F9 => ?_⟩
      cases hq:P i with
      | false=>rfl
      | true=>exact absurd ((mono _ i uW F9 hq).symm.trans hp) (by decide)
   ·rintro⟨rfl,lo,hi,rfl,l1,l2,l3,l4,l5⟩
    have:lo=hi:=by omega
    subst this
    exact⟨rfl,lo,lo,rfl,l2,l4,l5⟩
   ·rintro⟨rfl,lo,hi,rfl,l2,l4,l5⟩
    exact wpS_pure (h hi l2 l4 l5)
end
def kv (x:Keyed):Int:=o6.rk x.1
def fG (l:List Keyed):Prop:=l.Pairwise fun x y=>kv x<=kv y
theorem eE {a:Array Keyed}{i:Nat}{x:Keyed} (h:a[i]? = some x):Kr a i=kv x:=by
 unfold Kr kv
 rw[h]
theorem cZ {a:Array Keyed}{i:Nat}:a[i]? = a.toList[i]? := by simp
theorem mn {l:List Keyed} (h:fG l) {i j:Nat}{x y:Keyed} (jw:i<=j) (hx:l[i]? = some x) (hy:l[j]? = some y):kv x<=kv y:=by
 by_cases e:i=j
 ·subst e
  rw[hx]at hy
  cases hy
  exact gW _
 ·obtain⟨h1,e1⟩:=ah.mp hx
  obtain⟨h2,e2⟩:=ah.mp hy
  have:=md.mp h i j h1 h2 (by omega)
  rw[e1,e2]at this
  exact this
theorem fE {l:List Keyed}{i:Nat}{y:Keyed} (h:y∈l.drop i):∃ j,i<=j∧l[j]? = some y:=by
 obtain⟨k,hk⟩:=eQ h
 rw[qS]at hk
 exact⟨i+k,by omega,hk⟩
theorem rW {a:Array Keyed} (ha:gO a) (sa:fG a.toList) (base:Nat):Run a base (a.size - base):=by
 refine⟨fun i hi => ?_,fun i j jw hj => ?_⟩
 ·have hl:base+i < a.size:=by omega
  have e:a[base+i]? = some a[base+i]:=getElem?_pos a _ hl
  obtain⟨n,t,hn⟩:=ha a[base+i] (by simp)
  exact⟨_,t,e,hn.1,(eE e).symm⟩
 ·have hl1:base+i < a.size:=by omega
  have YW:base+j < a.size:=by omega
  have e1:a[base+i]? = some a[base+i]:=getElem?_pos a _ hl1
  have e2:a[base+j]? = some a[base+j]:=getElem?_pos a _ YW
  rw[eE e1,eE e2]
  exact mn sa (by omega) (cZ ▸ e1) (cZ ▸ e2)
structure MI (a b o:Array Keyed) (ia ib:Nat):Prop where
 pm:(o.toList ++ (a.toList.drop ia ++ b.toList.drop ib)).Perm (a.toList ++ b.toList)
 so:fG o.toList
 le:∀ x∈o.toList,∀ y,y∈a.toList.drop ia∨y∈b.toList.drop ib->kv x<=kv y
structure yw (a b m:Array Keyed):Prop where
 pm:m.toList.Perm (a.toList ++ b.toList)
 so:fG m.toList
theorem v9 (a:Array Keyed) (i:Nat):(a.extract i a.size).toList=a.toList.drop i:=by
 rw[fS]
 simp only[pf]
 exact gB (by rw[eP,bq];omega)
variable {a b o:Array Keyed}{ia ib:Nat}
theorem kh {l m:List Keyed} (h1:fG l) (h2:fG m) (h:∀ x∈l,∀ y∈m,kv x<=kv y):fG (l ++ m):=wy.mpr ⟨h1,h2,h⟩
theorem pO {l:List Keyed} (h:fG l) (i:Nat):fG (l.drop i):=kF (List.drop_sublist i l) h
theorem MI.done (h:MI a b o ia ib) (sa:fG a.toList) (sb:fG b.toList) (he:a.size<=ia∨b.size<=ib):yw a b (o ++ a.extract ia a.size ++ b.extract ib b.size):=by
 have e:(o ++ a.extract ia a.size ++ b.extract ib b.size).toList=o.toList ++ (a.toList.drop ia ++ b.toList.drop ib):=by
  rw[cF,cF,v9,v9,aV]
 refine⟨by rw[e];exact h.pm,?_⟩
 rw[e]
 refine kh h.so ?_ fun x hx y hy=>h.le x hx y (bg.mp hy)
 rcases he with z | z
 ·rw[uy (as:=a.toList) (by rw[bq];exact z),dB]
  exact pO sb _
 ·rw[uy (as:=b.toList) (by rw[bq];exact z),cg]
  exact pO sa _
theorem MI.last (h:MI a b o ia ib) (sa:fG a.toList) (sb:fG b.toList) (he:ia+1=a.size) (la:∀ y∈b.toList,∀ z,a.toList[a.size - 1]? = some z->kv y<=kv z):yw a b (o ++ b.extract ib b.size ++ a.extract ia a.size):=by
 have e:(o ++ b.extract ib b.size ++ a.extract ia a.size).toList=o.toList ++ (b.toList.drop ib ++ a.toList.drop ia):=by
  rw[cF,cF,v9,v9,aV]
 refine⟨?_,?_⟩
 ·rw[e]
  exact(fm _ oy).trans h.pm
 rw[e]
 refine kh h.so (kh (pO sb _) (pO sa _) fun x hx y hy => ?_) fun x hx y hy=>h.le x hx y ((bg.mp hy).symm)
 obtain⟨j,hj,ej⟩:=fE hy
 have uV:=(ah.mp ej).1
 have:j=a.size - 1:=by rw[bq]at uV;omega
 subst this
 exact la x (ie hx) y ej
theorem C3 {l:List Keyed}{i:Nat}{y:Keyed} (h:l[i]? = some y):l.drop i=y :: l.drop (i+1):=by
 obtain⟨h1,e⟩:=ah.mp h
 rw[jj h1,e]
theorem MI.iw {y:Keyed} (h:MI a b o ia ib) (sa:fG a.toList) (hy:a[ia]? = some y) (nB:∀ z∈b.toList.drop ib,kv y<=kv z):MI a b (o.push y) (ia+1) ib:=by
 have uQ:a.toList[ia]? = some y:=cZ ▸ hy
 have ed:=C3 uQ
 refine⟨?_,?_,fun x hx z hz => ?_⟩
 ·have:=h.pm
  rw[ed]at this
  rw[cI,aV]
  exact this
 ·rw[cI]
  refine kh h.so (fV _ _) fun x hx z hz => ?_
  rw[av.mp hz]
  exact h.le x hx y (.inl (by rw[ed];exact aU))
 ·rw[cI]at hx
  rcases bg.mp hx with hx | hx
  ·refine h.le x hx z (hz.imp (fun q => ?_) id)
   rw[ed]
   exact aI _ q
  ·rw[av.mp hx]
   rcases hz with q | q
   ·obtain⟨j,hj,ej⟩:=fE q
    exact mn sa (by omega) uQ ej
   ·exact nB z q
theorem MI.lU {y:Keyed} (h:MI a b o ia ib) (sb:fG b.toList) (hy:b[ib]? = some y) (nB:∀ z∈a.toList.drop ia,kv y<=kv z):MI a b (o.push y) ia (ib+1):=by
 have uQ:b.toList[ib]? = some y:=cZ ▸ hy
 have ed:=C3 uQ
 refine⟨?_,?_,fun x hx z hz => ?_⟩
 ·have:=h.pm
  rw[ed]at this
  rw[cI,aV]
  refine mf ?_ this
  show (o.toList ++ (y :: (a.toList.drop ia ++ b.toList.drop (ib+1)))).Perm _
  exact fm _ AH.symm
 ·rw[cI]
  refine kh h.so (fV _ _) fun x hx z hz => ?_
  rw[av.mp hz]
  exact h.le x hx y (.inr (by rw[ed];exact aU))
 ·rw[cI]at hx
  rcases bg.mp hx with hx | hx
  ·refine h.le x hx z (hz.imp id (fun q => ?_))
   rw[ed]
   exact aI _ q
  ·rw[av.mp hx]
   rcases hz with q | q
   ·exact nB z q
   ·obtain⟨j,hj,ej⟩:=fE q
    exact mn sb (by omega) uQ ej
theorem GG {o a:Array Keyed}{i k:Nat}{y:Keyed} (hy:a[i+k]? = some y):o ++ a.extract i (i+(k+1))=(o ++ a.extract i (i+k)).push y:=by
 obtain⟨h1,e⟩:=ja.mp hy
 apply sW.mp
 rw[cI,cF,cF,fS,fS,aV]
 congr 1
 simp only[pf]
 rw[show i+(k+1) - i=k+1 by omega,show i+k - i=k by omega,bQ,qS, <- cZ,hy]
 rfl
theorem MI.vC (h:MI a b o ia ib) (sa:fG a.toList):∀ k,ia+k<=a.size->(∀ i x,i < k->a[ia+i]? = some x->∀ z∈b.toList.drop ib,kv x<=kv z)->MI a b (o ++ a.extract ia (ia+k)) (ia+k) ib
 | 0,_,_=>by
  have:o ++ a.extract ia (ia+0)=o:=by rw[mN,iM (by omega),yV]
  rw[this]
  exact h
 | k+1,hk,nB=>by
  have e:a[ia+k]? = some a[ia+k]:=getElem?_pos a _ (by omega)
  rw[GG e]
  exact(MI.vC h sa k (by omega) fun i x hi=>nB i x (by omega)).iw sa e (nB k _ (by omega) e)
theorem MI.oE (h:MI a b o ia ib) (sb:fG b.toList):∀ k,ib+k<=b.size->(∀ i x,i < k->b[ib+i]? = some x->∀ z∈a.toList.drop ia,kv x<=kv z)->MI a b (o ++ b.extract ib (ib+k)) ia (ib+k)
 | 0,_,_=>by
  have:o ++ b.extract ib (ib+0)=o:=by rw[mN,iM (by omega),yV]
  rw[this]
  exact h
 | k+1,hk,nB=>by
  have e:b[ib+k]? = some b[ib+k]:=getElem?_pos b _ (by omega)
  rw[GG e]
  exact(MI.oE h sb k (by omega) fun i x hi=>nB i x (by omega)).lU sb e (nB k _ (by omega) e)
theorem om {y x:Keyed} (sa:fG a.toList) (hx:a[ia]? = some x) (h:kv y<=kv x):∀ z∈a.toList.drop ia,kv y<=kv z:=fun z hz=>by
 obtain⟨j,hj,ej⟩:=fE hz
 exact iR h (mn sa hj (cZ ▸ hx) ej)
structure SG (st aE:SortSt):Prop where
 kind:kindOf aE=kindOf st
 arr:arrOf aE=arrOf st
 pend:pendingOf aE=pendingOf st
 fail:failedOf aE=failedOf st
inductive RZ {γ : Type} (a b:Array Keyed) (n:Nat):(Option (Array Keyed) × Array Keyed × Nat × Nat × γ)->Prop
 | go (o:Array Keyed) (ia ib:Nat) (z : γ) (M:MI a b o ia ib) (h1:ia+1 < a.size) (h2:ib < b.size) (h3:n<=ia+ib):RZ a b n (none,o,ia,ib,z)
 | end_ (r o:Array Keyed) (ia ib:Nat) (z : γ) (h:yw a b r):RZ a b n (some r,o,ia,ib,z)
theorem km {b:Bool} (h:(!b)=true):b=false:=by cases b <;> first | rfl | cases h
theorem ku {b:Bool} (h:(!b)=false):b=true:=by cases b <;> first | rfl | cases h
theorem gA {a:Array Keyed}{i:Nat}{x:Keyed} (ka:gO a) (h:a[i]? = some x):∃ t,yE x.1 (kv x) t:=by
 obtain⟨n,t,e⟩:=ka x (aK (cZ ▸ h))
 exact⟨t,e.1,rfl⟩
section
variable {prog:Program}{w:World}{A:Around}{E:Value->Shared->Prop}{s:Shared} [kz prog w A s]
def Xp:Nat->StateT SortSt Sem Unit:=sortPriv% PySem.Builtin.setMinGallop
theorem pK {st:SortSt}{g:Nat}{Q:Unit->SortSt->Prop} (h:Q () (fh (kindOf st) (arrOf st) (pendingOf st) g (failedOf st))):wpS (model prog w) A E s (Xp g) Q st:=wpS_modify h
def Ph:Array Keyed->Array Keyed->StateT SortSt Sem (Array Keyed):=sortPriv% PySem.Builtin.mergeLo
theorem Hr {st:SortSt}{a b:Array Keyed}{Q:Array Keyed->SortSt->Prop} (hk:kindOf st=oneType') (ka:gO a) (kb:gO b) (sa:fG a.toList) (sb:fG b.toList) (pa:0 < a.size) (pb:0 < b.size)
  (h1:∀ y,b[0]? = some y->∀ z∈a.toList,kv y<=kv z) (la:∀ y∈b.toList,∀ z,a.toList[a.size - 1]? = some z->kv y<=kv z) (h:∀ m aE,SG st aE->yw a b m->Q m aE):wpS (model prog w) A E s (Ph a b) Q st:=by
 have e0:b[0]? = some b[0]:=getElem?_pos b 0 pb
 have M0:MI a b #[b[0]] 0 1:=MI.lU (o := #[]) (ia:=0) (ib:=0) ⟨qd _,f6,fun x hx=>by cases hx⟩ sb e0 (h1 _ e0)
 have s0:SG st st:=⟨rfl,rfl,rfl,rfl⟩
 refine wpS_bind (wpS_lift (wpAny_rule ⟨rfl,?_⟩))
 refine wpS_bind (bF e0 ?_)
 dsimp only
 by_cases c1:(1 == b.size)=true
 ·rw[if_pos c1]
  exact wpS_pure (h _ _ s0 (M0.done sa sb (.inr (dt (beq_iff_eq.mp c1).symm))))
 rw[if_neg c1]
 have ZK:1≠b.size:=fun z=>c1 (beq_iff_eq.mpr z)
 by_cases c2:(0+1 == a.size)=true
 ·rw[if_pos c2]
  exact wpS_pure (h _ _ s0 (M0.last sa sb (beq_iff_eq.mp c2) la))
 rw[if_neg c2]
 have ZJ:0+1≠a.size:=fun z=>c2 (beq_iff_eq.mpr z)
 refine wpS_bind (wpS_get ?_)
 refine wpS_bind (wpS_mono (wpS_forRange (I:=fun x c aE=>SG st aE∧∃ o ia ib z,c=(none,o,ia,ib,z)∧MI a b o ia ib∧ia+1 < a.size∧ib < b.size∧x<=ia+ib)
  (Q:=fun c aE=>SG st aE∧∃ r o ia ib z,c=(some r,o,ia,ib,z)∧yw a b r) (fun x c n6 _ hx => ?_) (fun c n6 => ?_) ⟨s0,_,_,_,_,rfl,M0,by omega,by omega,by omega⟩) (fun c n6 => ?_))
 ·rintro⟨F1,o,ia,ib,mg,rfl,M,b1,b2,b3⟩
  dsimp only
  refine wpS_bind (wpS_mono (wpS_forRange (I:=fun x' c aE=>SG st aE∧∃ o ia ib z,c=(none,o,ia,ib,z)∧MI a b o ia ib∧ia+1 < a.size∧ib < b.size∧x+x'<=ia+ib)
   (Q:=fun c aE=>SG st aE∧RZ a b (x+1) c) (fun x' c c9 _ Bj => ?_) (fun c c9 => ?_) ⟨F1,_,_,_,_,rfl,M,b1,b2,by omega⟩) (fun c c9 => ?_))
  ·rintro⟨hs,o,ia,ib,z,rfl,M,b1,b2,b3⟩
   obtain⟨ac,bc⟩:=z
   dsimp only
   obtain⟨y,eb⟩:∃ y,b[ib]? = some y:=⟨_,getElem?_pos b ib b2⟩
   obtain⟨v,ea⟩:∃ v,a[ia]? = some v:=⟨_,getElem?_pos a ia (by omega)⟩
   obtain⟨ty,ey⟩:=gA kb eb
   obtain⟨tv,ev⟩:=gA ka ea
   refine wpS_bind (bF eb (wpS_bind (bF ea (wpS_bind (xf (hs.kind.trans hk) ey ev ?_)))))
   dsimp only
   by_cases cS:kv y < kv v
   ·rw[decide_eq_true cS,if_pos rfl]
    have M2:=M.lU sb eb (om sa ea (by omega))
    refine wpS_bind (bF eb ?_)
    try dsimp only
    by_cases cb:(ib+1 == b.size)=true
    ·rw[if_pos cb]
     exact wpS_pure ⟨hs,.end_ _ _ _ _ _ (M2.done sa sb (.inr (dt (beq_iff_eq.mp cb).symm)))⟩
    ·rw[if_neg cb]
     have yl:ib+1≠b.size:=fun z=>cb (beq_iff_eq.mpr z)
     split
     ·exact wpS_pure ⟨hs,.go _ _ _ _ M2 (by omega) (by omega) (by omega)⟩
     ·exact wpS_pure ⟨hs,_,_,_,_,rfl,M2,by omega,by omega,by omega⟩
   ·rw[decide_eq_false cS,if_neg (by decide)]
    have M2:=M.iw sa ea (om sb eb (by omega))
    refine wpS_bind (bF ea ?_)
    try dsimp only
    by_cases cb:(ia+1+1 == a.size)=true
    ·rw[if_pos cb]
     exact wpS_pure ⟨hs,.end_ _ _ _ _ _ (M2.last sa sb (beq_iff_eq.mp cb) la)⟩
    ·rw[if_neg cb]
     have yl:ia+1+1≠a.size:=fun z=>cb (beq_iff_eq.mpr z)
     split
     ·exact wpS_pure ⟨hs,.go _ _ _ _ M2 (by omega) (by omega) (by omega)⟩
     ·exact wpS_pure ⟨hs,_,_,_,_,rfl,M2,by omega,by omega,by omega⟩
  ·rintro⟨hs,o,ia,ib,z,rfl,M,b1,b2,b3⟩
   omega
  ·rintro⟨hs,hc⟩
   cases hc with
   | end_ r o ia ib z hm =>
    try dsimp only
    exact wpS_pure ⟨hs,r,_,_,_,_,rfl,hm⟩
   | go o ia ib z M b1 b2 b3 =>
    try dsimp only
    refine wpS_bind (wpS_lift (wpAny_rule ⟨rfl,?_⟩))
    refine wpS_bind (wpS_mono (wpS_forRange (I:=fun x' c aE=>SG st aE∧∃ o ia ib z,c=(none,o,ia,ib,z)∧MI a b o ia ib∧ia+1 < a.size∧ib < b.size∧x+1<=ia+ib)
     (Q:=fun c aE=>SG st aE∧RZ a b (x+1) c) (fun x' c c9 _ Bj => ?_) (fun c c9 => ?_) ⟨hs,_,_,_,_,rfl,M,b1,b2,b3⟩) (fun c c9 => ?_))
    ·rintro⟨hs,o,ia,ib,z,rfl,M,b1,b2,b3⟩
     obtain⟨mg,ac,bc⟩:=z
     dsimp only
     by_cases Br:mg > 1
     ·rw[if_pos Br]
      refine wpS_bind (pK ?_)
      have cq:SG st (fh (kindOf c9) (arrOf c9) (pendingOf c9) (mg - 1) (failedOf c9)):=⟨hs.kind,hs.arr,hs.pend,hs.fail⟩
      have rh:kindOf (fh (kindOf c9) (arrOf c9) (pendingOf c9) (mg - 1) (failedOf c9))=oneType':=cq.kind.trans hk
      obtain⟨y,eb⟩:∃ y,b[ib]? = some y:=⟨_,getElem?_pos b ib (by omega)⟩
      obtain⟨ty,ey⟩:=gA kb eb
      refine wpS_bind (bF eb (wpS_bind (fc rh ey (rW ka sa ia) (by omega) fun k l1 lo1 rj => ?_)))
      try dsimp only
      have QA:∀ i z,i < k->a[ia+i]? = some z->∀ v∈b.toList.drop ib,kv z<=kv v:=fun i z hi ez=>om sb eb (by
       have:=of_decide_eq_false (km (show (!decide (kv y < Kr a (ia+i)))=true from lo1 i hi))
       rw[eE ez]at this
       omega)
      have yr:∀ v∈a.toList.drop (ia+k),kv y<=kv v:=fun v hv=>by
       obtain⟨j,hj,ej⟩:=fE hv
       have uV:=(ah.mp ej).1
       rw[bq]at uV
       have:=of_decide_eq_true (ku (show (!decide (kv y < Kr a (ia+(j - ia))))=false from rj (j - ia) (by omega) (by omega)))
       rw[show ia+(j - ia)=j by omega,eE (show a[j]? = some v by rw[cZ];exact ej)]at this
       omega
      by_cases uU:k > 0
      ·rw[if_pos uU]
       have MA:=M.vC sa k (by omega) QA
       by_cases ca:(ia+k+1 == a.size)=true
       ·rw[if_pos ca]
        exact wpS_pure ⟨cq,.end_ _ _ _ _ _ (MA.last sa sb (beq_iff_eq.mp ca) la)⟩
       ·rw[if_neg ca]
        have WO:ia+k+1≠a.size:=fun z=>ca (beq_iff_eq.mpr z)
        by_cases cz:(ia+k == a.size)=true
        ·rw[if_pos cz]
         exact wpS_pure ⟨cq,.end_ _ _ _ _ _ (MA.done sa sb (.inl (dt (beq_iff_eq.mp cz).symm)))⟩
        ·rw[if_neg cz]
         have cz':ia+k≠a.size:=fun z=>cz (beq_iff_eq.mpr z)
         refine wpS_bind (bF eb ?_)
         try dsimp only
         have M2:=MA.lU sb eb yr
         by_cases cb:(ib+1 == b.size)=true
         ·rw[if_pos cb]
          exact wpS_pure ⟨cq,.end_ _ _ _ _ _ (M2.done sa sb (.inr (dt (beq_iff_eq.mp cb).symm)))⟩
         ·rw[if_neg cb]
          have yl:ib+1≠b.size:=fun z=>cb (beq_iff_eq.mpr z)
          obtain⟨x,ea⟩:∃ x,a[(ia+k)]? = some x:=⟨_,getElem?_pos a (ia+k) (by omega)⟩
          obtain⟨tx,ex⟩:=gA ka ea
          refine wpS_bind (bF ea (wpS_bind (fc rh ex (rW kb sb (ib+1)) (by omega) fun k2 l2 qE m5 => ?_)))
          dsimp only
          have QB:∀ i z,i < k2->b[ib+1+i]? = some z->∀ v∈a.toList.drop (ia+k),kv z<=kv v:=fun i z hi ez=>om sa ea (by
           have:=of_decide_eq_true (show decide (Kr b (ib+1+i) < kv x)=true from qE i hi)
           rw[eE ez]at this
           omega)
          have QR:∀ v∈b.toList.drop (ib+1+k2),kv x<=kv v:=fun v hv=>by
           obtain⟨j,hj,ej⟩:=fE hv
           have uV:=(ah.mp ej).1
           rw[bq]at uV
           have:=of_decide_eq_false (show decide (Kr b (ib+1+(j - (ib+1))) < kv x)=false from m5 (j - (ib+1)) (by omega) (by omega))
           rw[show ib+1+(j - (ib+1))=j by omega,eE (show b[j]? = some v by rw[cZ];exact ej)]at this
           omega
          by_cases ck:k2 > 0
          ·rw[if_pos ck]
           have MB:=M2.oE sb k2 (by omega) QB
           by_cases hU:(ib+1+k2 == b.size)=true
           ·rw[if_pos hU]
            exact wpS_pure ⟨cq,.end_ _ _ _ _ _ (MB.done sa sb (.inr (dt (beq_iff_eq.mp hU).symm)))⟩
           ·rw[if_neg hU]
            have AB:ib+1+k2≠b.size:=fun z=>hU (beq_iff_eq.mpr z)
            refine wpS_bind (bF ea ?_)
            try dsimp only
            have M3:=MB.iw sa ea QR
            by_cases cl:((ia+k)+1+1 == a.size)=true
            ·rw[if_pos cl]
             exact wpS_pure ⟨cq,.end_ _ _ _ _ _ (M3.last sa sb (beq_iff_eq.mp cl) la)⟩
            ·rw[if_neg cl]
             have sE:(ia+k)+1+1≠a.size:=fun z=>cl (beq_iff_eq.mpr z)
             split
             ·exact wpS_pure ⟨cq,.go _ _ _ _ M3 (by omega) (by omega) (by omega)⟩
             ·exact wpS_pure ⟨cq,_,_,_,_,rfl,M3,by omega,by omega,by omega⟩
          ·rw[if_neg ck]
           have k0:k2=0:=by omega
           subst k0
           have MB:=M2
           refine wpS_bind (bF ea ?_)
           try dsimp only
           have M3:=MB.iw sa ea QR
           by_cases cl:((ia+k)+1+1 == a.size)=true
           ·rw[if_pos cl]
            exact wpS_pure ⟨cq,.end_ _ _ _ _ _ (M3.last sa sb (beq_iff_eq.mp cl) la)⟩
           ·rw[if_neg cl]
            have sE:(ia+k)+1+1≠a.size:=fun z=>cl (beq_iff_eq.mpr z)
            split
            ·exact wpS_pure ⟨cq,.go _ _ _ _ M3 (by omega) (by omega) (by omega)⟩
            ·exact wpS_pure ⟨cq,_,_,_,_,rfl,M3,by omega,by omega,by omega⟩
      ·rw[if_neg uU]
       have k0:k=0:=by omega
       subst k0
       have MA:=M
       refine wpS_bind (bF eb ?_)
       try dsimp only
       have M2:=MA.lU sb eb yr
       by_cases cb:(ib+1 == b.size)=true
       ·rw[if_pos cb]
        exact wpS_pure ⟨cq,.end_ _ _ _ _ _ (M2.done sa sb (.inr (dt (beq_iff_eq.mp cb).symm)))⟩
       ·rw[if_neg cb]
        have yl:ib+1≠b.size:=fun z=>cb (beq_iff_eq.mpr z)
        obtain⟨x,ea⟩:∃ x,a[ia]? = some x:=⟨_,getElem?_pos a ia (by omega)⟩
        obtain⟨tx,ex⟩:=gA ka ea
        refine wpS_bind (bF ea (wpS_bind (fc rh ex (rW kb sb (ib+1)) (by omega) fun k2 l2 qE m5 => ?_)))
        dsimp only
        have QB:∀ i z,i < k2->b[ib+1+i]? = some z->∀ v∈a.toList.drop ia,kv z<=kv v:=fun i z hi ez=>om sa ea (by
         have:=of_decide_eq_true (show decide (Kr b (ib+1+i) < kv x)=true from qE i hi)
         rw[eE ez]at this
         omega)
        have QR:∀ v∈b.toList.drop (ib+1+k2),kv x<=kv v:=fun v hv=>by
         obtain⟨j,hj,ej⟩:=fE hv
         have uV:=(ah.mp ej).1
         rw[bq]at uV
         have:=of_decide_eq_false (show decide (Kr b (ib+1+(j - (ib+1))) < kv x)=false from m5 (j - (ib+1)) (by omega) (by omega))
         rw[show ib+1+(j - (ib+1))=j by omega,eE (show b[j]? = some v by rw[cZ];exact ej)]at this
         omega
        by_cases ck:k2 > 0
        ·rw[if_pos ck]
         have MB:=M2.oE sb k2 (by omega) QB
         by_cases hU:(ib+1+k2 == b.size)=true
         ·rw[if_pos hU]
          exact wpS_pure ⟨cq,.end_ _ _ _ _ _ (MB.done sa sb (.inr (dt (beq_iff_eq.mp hU).symm)))⟩
         ·rw[if_neg hU]
          have AB:ib+1+k2≠b.size:=fun z=>hU (beq_iff_eq.mpr z)
          refine wpS_bind (bF ea ?_)
          try dsimp only
          have M3:=MB.iw sa ea QR
          by_cases cl:(ia+1+1 == a.size)=true
          ·rw[if_pos cl]
           exact wpS_pure ⟨cq,.end_ _ _ _ _ _ (M3.last sa sb (beq_iff_eq.mp cl) la)⟩
          ·rw[if_neg cl]
           have sE:ia+1+1≠a.size:=fun z=>cl (beq_iff_eq.mpr z)
           split
           ·exact wpS_pure ⟨cq,.go _ _ _ _ M3 (by omega) (by omega) (by omega)⟩
           ·exact wpS_pure ⟨cq,_,_,_,_,rfl,M3,by omega,by omega,by omega⟩
        ·rw[if_neg ck]
         have k0:k2=0:=by omega
         subst k0
         have MB:=M2
         refine wpS_bind (bF ea ?_)
         try dsimp only
         have M3:=MB.iw sa ea QR
         by_cases cl:(ia+1+1 == a.size)=true
         ·rw[if_pos cl]
          exact wpS_pure ⟨cq,.end_ _ _ _ _ _ (M3.last sa sb (beq_iff_eq.mp cl) la)⟩
         ·rw[if_neg cl]
          have sE:ia+1+1≠a.size:=fun z=>cl (beq_iff_eq.mpr z)
          split
          ·exact wpS_pure ⟨cq,.go _ _ _ _ M3 (by omega) (by omega) (by omega)⟩
          ·exact wpS_pure ⟨cq,_,_,_,_,rfl,M3,by omega,by omega,by omega⟩
     ·rw[if_neg Br]
      refine wpS_bind (pK ?_)
      have cq:SG st (fh (kindOf c9) (arrOf c9) (pendingOf c9) mg (failedOf c9)):=⟨hs.kind,hs.arr,hs.pend,hs.fail⟩
      have rh:kindOf (fh (kindOf c9) (arrOf c9) (pendingOf c9) mg (failedOf c9))=oneType':=cq.kind.trans hk
      obtain⟨y,eb⟩:∃ y,b[ib]? = some y:=⟨_,getElem?_pos b ib (by omega)⟩
      obtain⟨ty,ey⟩:=gA kb eb
      refine wpS_bind (bF eb (wpS_bind (fc rh ey (rW ka sa ia) (by omega) fun k l1 lo1 rj => ?_)))
      try dsimp only
      have QA:∀ i z,i < k->a[ia+i]? = some z->∀ v∈b.toList.drop ib,kv z<=kv v:=fun i z hi ez=>om sb eb (by
       have:=of_decide_eq_false (km (show (!decide (kv y < Kr a (ia+i)))=true from lo1 i hi))
       rw[eE ez]at this
       omega)
      have yr:∀ v∈a.toList.drop (ia+k),kv y<=kv v:=fun v hv=>by
       obtain⟨j,hj,ej⟩:=fE hv
       have uV:=(ah.mp ej).1
       rw[bq]at uV
       have:=of_decide_eq_true (ku (show (!decide (kv y < Kr a (ia+(j - ia))))=false from rj (j - ia) (by omega) (by omega)))
       rw[show ia+(j - ia)=j by omega,eE (show a[j]? = some v by rw[cZ];exact ej)]at this
       omega
      by_cases uU:k > 0
      ·rw[if_pos uU]
       have MA:=M.vC sa k (by omega) QA
       by_cases ca:(ia+k+1 == a.size)=true
       ·rw[if_pos ca]
        exact wpS_pure ⟨cq,.end_ _ _ _ _ _ (MA.last sa sb (beq_iff_eq.mp ca) la)⟩
       ·rw[if_neg ca]
        have WO:ia+k+1≠a.size:=fun z=>ca (beq_iff_eq.mpr z)
        by_cases cz:(ia+k == a.size)=true
        ·rw[if_pos cz]
         exact wpS_pure ⟨cq,.end_ _ _ _ _ _ (MA.done sa sb (.inl (dt (beq_iff_eq.mp cz).symm)))⟩
        ·rw[if_neg cz]
         have cz':ia+k≠a.size:=fun z=>cz (beq_iff_eq.mpr z)
         refine wpS_bind (bF eb ?_)
         try dsimp only
         have M2:=MA.lU sb eb yr
         by_cases cb:(ib+1 == b.size)=true
         ·rw[if_pos cb]
          exact wpS_pure ⟨cq,.end_ _ _ _ _ _ (M2.done sa sb (.inr (dt (beq_iff_eq.mp cb).symm)))⟩
         ·rw[if_neg cb]
          have yl:ib+1≠b.size:=fun z=>cb (beq_iff_eq.mpr z)
          obtain⟨x,ea⟩:∃ x,a[(ia+k)]? = some x:=⟨_,getElem?_pos a (ia+k) (by omega)⟩
          obtain⟨tx,ex⟩:=gA ka ea
          refine wpS_bind (bF ea (wpS_bind (fc rh ex (rW kb sb (ib+1)) (by omega) fun k2 l2 qE m5 => ?_)))
          dsimp only
          have QB:∀ i z,i < k2->b[ib+1+i]? = some z->∀ v∈a.toList.drop (ia+k),kv z<=kv v:=fun i z hi ez=>om sa ea (by
           have:=of_decide_eq_true (show decide (Kr b (ib+1+i) < kv x)=true from qE i hi)
           rw[eE ez]at this
           omega)
          have QR:∀ v∈b.toList.drop (ib+1+k2),kv x<=kv v:=fun v hv=>by
           obtain⟨j,hj,ej⟩:=fE hv
           have uV:=(ah.mp ej).1
           rw[bq]at uV
           have:=of_decide_eq_false (show decide (Kr b (ib+1+(j - (ib+1))) < kv x)=false from m5 (j - (ib+1)) (by omega) (by omega))
           rw[show ib+1+(j - (ib+1))=j by omega,eE (show b[j]? = some v by rw[cZ];exact ej)]at this
           omega
          by_cases ck:k2 > 0
          ·rw[if_pos ck]
           have MB:=M2.oE sb k2 (by omega) QB
           by_cases hU:(ib+1+k2 == b.size)=true
           ·rw[if_pos hU]
            exact wpS_pure ⟨cq,.end_ _ _ _ _ _ (MB.done sa sb (.inr (dt (beq_iff_eq.mp hU).symm)))⟩
           ·rw[if_neg hU]
            have AB:ib+1+k2≠b.size:=fun z=>hU (beq_iff_eq.mpr z)
            refine wpS_bind (bF ea ?_)
            try dsimp only
            have M3:=MB.iw sa ea QR
            by_cases cl:((ia+k)+1+1 == a.size)=true
            ·rw[if_pos cl]
             exact wpS_pure ⟨cq,.end_ _ _ _ _ _ (M3.last sa sb (beq_iff_eq.mp cl) la)⟩
            ·rw[if_neg cl]
             have sE:(ia+k)+1+1≠a.size:=fun z=>cl (beq_iff_eq.mpr z)
             split
             ·exact wpS_pure ⟨cq,.go _ _ _ _ M3 (by omega) (by omega) (by omega)⟩
             ·exact wpS_pure ⟨cq,_,_,_,_,rfl,M3,by omega,by omega,by omega⟩
          ·rw[if_neg ck]
           have k0:k2=0:=by omega
           subst k0
           have MB:=M2
           refine wpS_bind (bF ea ?_)
           try dsimp only
           have M3:=MB.iw sa ea QR
           by_cases cl:((ia+k)+1+1 == a.size)=true
           ·rw[if_pos cl]
            exact wpS_pure ⟨cq,.end_ _ _ _ _ _ (M3.last sa sb (beq_iff_eq.mp cl) la)⟩
           ·rw[if_neg cl]
            have sE:(ia+k)+1+1≠a.size:=fun z=>cl (beq_iff_eq.mpr z)
            split
            ·exact wpS_pure ⟨cq,.go _ _ _ _ M3 (by omega) (by omega) (by omega)⟩
            ·exact wpS_pure ⟨cq,_,_,_,_,rfl,M3,by omega,by omega,by omega⟩
      ·rw[if_neg uU]
       have k0:k=0:=by omega
       subst k0
       have MA:=M
       refine wpS_bind (bF eb ?_)
       try dsimp only
       have M2:=MA.lU sb eb yr
       by_cases cb:(ib+1 == b.size)=true
       ·rw[if_pos cb]
        exact wpS_pure ⟨cq,.end_ _ _ _ _ _ (M2.done sa sb (.inr (dt (beq_iff_eq.mp cb).symm)))⟩
       ·rw[if_neg cb]
        have yl:ib+1≠b.size:=fun z=>cb (beq_iff_eq.mpr z)
        obtain⟨x,ea⟩:∃ x,a[ia]? = some x:=⟨_,getElem?_pos a ia (by omega)⟩
        obtain⟨tx,ex⟩:=gA ka ea
        refine wpS_bind (bF ea (wpS_bind (fc rh ex (rW kb sb (ib+1)) (by omega) fun k2 l2 qE m5 => ?_)))
        dsimp only
        have QB:∀ i z,i < k2->b[ib+1+i]? = some z->∀ v∈a.toList.drop ia,kv z<=kv v:=fun i z hi ez=>om sa ea (by
         have:=of_decide_eq_true (show decide (Kr b (ib+1+i) < kv x)=true from qE i hi)
         rw[eE ez]at this
         omega)
        have QR:∀ v∈b.toList.drop (ib+1+k2),kv x<=kv v:=fun v hv=>by
         obtain⟨j,hj,ej⟩:=fE hv
         have uV:=(ah.mp ej).1
         rw[bq]at uV
         have:=of_decide_eq_false (show decide (Kr b (ib+1+(j - (ib+1))) < kv x)=false from m5 (j - (ib+1)) (by omega) (by omega))
         rw[show ib+1+(j - (ib+1))=j by omega,eE (show b[j]? = some v by rw[cZ];exact ej)]at this
         omega
        by_cases ck:k2 > 0
        ·rw[if_pos ck]
         have MB:=M2.oE sb k2 (by omega) QB
         by_cases hU:(ib+1+k2 == b.size)=true
         ·rw[if_pos hU]
          exact wpS_pure ⟨cq,.end_ _ _ _ _ _ (MB.done sa sb (.inr (dt (beq_iff_eq.mp hU).symm)))⟩
         ·rw[if_neg hU]
          have AB:ib+1+k2≠b.size:=fun z=>hU (beq_iff_eq.mpr z)
          refine wpS_bind (bF ea ?_)
          try dsimp only
          have M3:=MB.iw sa ea QR
          by_cases cl:(ia+1+1 == a.size)=true
          ·rw[if_pos cl]
           exact wpS_pure ⟨cq,.end_ _ _ _ _ _ (M3.last sa sb (beq_iff_eq.mp cl) la)⟩
          ·rw[if_neg cl]
           have sE:ia+1+1≠a.size:=fun z=>cl (beq_iff_eq.mpr z)
           split
           ·exact wpS_pure ⟨cq,.go _ _ _ _ M3 (by omega) (by omega) (by omega)⟩
           ·exact wpS_pure ⟨cq,_,_,_,_,rfl,M3,by omega,by omega,by omega⟩
        ·rw[if_neg ck]
         have k0:k2=0:=by omega
         subst k0
         have MB:=M2
         refine wpS_bind (bF ea ?_)
         try dsimp only
         have M3:=MB.iw sa ea QR
         by_cases cl:(ia+1+1 == a.size)=true
         ·rw[if_pos cl]
          exact wpS_pure ⟨cq,.end_ _ _ _ _ _ (M3.last sa sb (beq_iff_eq.mp cl) la)⟩
         ·rw[if_neg cl]
          have sE:ia+1+1≠a.size:=fun z=>cl (beq_iff_eq.mpr z)
          split
          ·exact wpS_pure ⟨cq,.go _ _ _ _ M3 (by omega) (by omega) (by omega)⟩
          ·exact wpS_pure ⟨cq,_,_,_,_,rfl,M3,by omega,by omega,by omega⟩
    ·rintro⟨hs,o,ia,ib,z,rfl,M,b1,b2,b3⟩
     exact⟨hs,.go _ _ _ _ M b1 b2 b3⟩
    ·rintro⟨hs,hc⟩
     cases hc with
     | end_ r o ia ib z hm =>
      dsimp only
      exact wpS_pure ⟨hs,r,_,_,_,_,rfl,hm⟩
     | go o ia ib z M b1 b2 b3 =>
      obtain⟨mg,ac,bc⟩:=z
      dsimp only
      refine wpS_bind (pK (wpS_pure ⟨⟨hs.kind,hs.arr,hs.pend,hs.fail⟩,_,_,_,_,rfl,M,b1,b2,b3⟩))
 ·rintro⟨hs,o,ia,ib,z,rfl,M,b1,b2,b3⟩
  omega
 ·rintro⟨hs,r,o,ia,ib,z,rfl,hm⟩
  exact wpS_pure (h r _ hs hm)
end
structure MH (a b o:Array Keyed) (na nb:Nat):Prop where
 la:na<=a.size
 lb:nb<=b.size
 pm:(a.toList.take na ++ (b.toList.take nb ++ o.toList.reverse)).Perm (a.toList ++ b.toList)
 so:fG o.toList.reverse
 le:∀ x∈o.toList,∀ y,y∈a.toList.take na∨y∈b.toList.take nb->kv y<=kv x
variable {a b o:Array Keyed}{na nb:Nat}
theorem vK (a:Array Keyed) (n:Nat):(a.extract 0 n).toList=a.toList.take n:=by
 rw[fS]
 simp[pf]
theorem pN {l:List Keyed} (h:fG l) (i:Nat):fG (l.take i):=kF (ng i l) h
theorem fD {l:List Keyed}{i:Nat}{y:Keyed} (h:y∈l.take i):∃ j,j < i∧l[j]? = some y:=by
 obtain⟨k,hk⟩:=eQ h
 have hl:=(ah.mp hk).1
 rw[bA]at hl
 rw[jC (by omega)]at hk
 exact⟨k,by omega,hk⟩
theorem MH.done (h:MH a b o na nb) (sa:fG a.toList) (sb:fG b.toList) (he:na=0∨nb=0):yw a b (a.extract 0 na ++ b.extract 0 nb ++ o.reverse):=by
 have e:(a.extract 0 na ++ b.extract 0 nb ++ o.reverse).toList=a.toList.take na ++ (b.toList.take nb ++ o.toList.reverse):=by
  rw[cF,cF,vK,vK,lh,aV]
 refine⟨by rw[e];exact h.pm,?_⟩
 rw[e, <- aV]
 refine kh ?_ h.so fun x hx y hy=>h.le y (nW.mp hy) x (bg.mp hx)
 rcases he with z | z
 ·subst z
  exact pN sb _
 ·subst z
  rw[fM,cg]
  exact pN sa _
theorem MH.first (h:MH a b o na nb) (sa:fG a.toList) (sb:fG b.toList) (he:nb=1) (h1:∀ y,b[0]? = some y->∀ z∈a.toList,kv y<=kv z):yw a b (b.extract 0 nb ++ a.extract 0 na ++ o.reverse):=by
 have e:(b.extract 0 nb ++ a.extract 0 na ++ o.reverse).toList=b.toList.take nb ++ (a.toList.take na ++ o.toList.reverse):=by
  rw[cF,cF,vK,vK,lh,aV]
 refine⟨?_,?_⟩
 ·rw[e]
  refine mf ?_ h.pm
  rw[<- aV, <- aV]
  exact jY _ oy
 rw[e, <- aV]
 refine kh (kh (pN sb _) (pN sa _) fun x hx y hy => ?_) h.so fun x hx y hy=>h.le y (nW.mp hy) x ((bg.mp hx).symm)
 obtain⟨j,hj,ej⟩:=fD hx
 have:j=0:=by omega
 subst this
 exact h1 x (by rw[cZ];exact ej) y (fN hy)
theorem HP {l:List Keyed}{n:Nat}{y:Keyed} (hn:1<=n) (h:l[n - 1]? = some y):l.take n=l.take (n - 1) ++ [y]:=by
 have:=bQ (l:=l) (i:=n - 1)
 rw[show n - 1+1=n by omega,h]at this
 exact this
theorem MH.iw {y:Keyed} (h:MH a b o na nb) (sa:fG a.toList) (hn:1<=na) (hy:a[na - 1]? = some y) (nB:∀ z∈b.toList.take nb,kv z<=kv y):MH a b (o.push y) (na - 1) nb:=by
 have uQ:a.toList[na - 1]? = some y:=cZ ▸ hy
 have ed:=HP hn uQ
 have hl:=h.la
 refine⟨by omega,h.lb,?_,?_,fun x hx z hz => ?_⟩
 ·have:=h.pm
  rw[ed,aV]at this
  rw[cI,lO]
  refine mf ?_ this
  refine fm _ ?_
  show (b.toList.take nb ++ (y :: o.toList.reverse)).Perm (y :: (b.toList.take nb ++ o.toList.reverse))
  exact AH
 ·rw[cI,lO]
  refine mP.mpr ⟨fun z hz => ?_,h.so⟩
  exact h.le z (nW.mp hz) y (.inl (by rw[ed];exact bE _ aU))
 ·rw[cI]at hx
  rcases bg.mp hx with hx | hx
  ·exact h.le x hx z (hz.imp (fun q=>by rw[ed];exact eO _ q) id)
  ·rw[av.mp hx]
   rcases hz with q | q
   ·obtain⟨j,hj,ej⟩:=fD q
    exact mn sa (by omega) ej uQ
   ·exact nB z q
theorem MH.lU {y:Keyed} (h:MH a b o na nb) (sb:fG b.toList) (hn:1<=nb) (hy:b[nb - 1]? = some y) (nB:∀ z∈a.toList.take na,kv z<=kv y):MH a b (o.push y) na (nb - 1):=by
 have uQ:b.toList[nb - 1]? = some y:=cZ ▸ hy
 have ed:=HP hn uQ
 have hl:=h.lb
 refine⟨h.la,by omega,?_,?_,fun x hx z hz => ?_⟩
 ·have:=h.pm
  rw[ed,aV]at this
  rw[cI,lO]
  exact this
 ·rw[cI,lO]
  refine mP.mpr ⟨fun z hz => ?_,h.so⟩
  exact h.le z (nW.mp hz) y (.inr (by rw[ed];exact bE _ aU))
 ·rw[cI]at hx
  rcases bg.mp hx with hx | hx
  ·exact h.le x hx z (hz.imp id (fun q=>by rw[ed];exact eO _ q))
  ·rw[av.mp hx]
   rcases hz with q | q
   ·exact nB z q
   ·obtain⟨j,hj,ej⟩:=fD q
    exact mn sb (by omega) ej uQ
theorem Jo {o a:Array Keyed}{n k:Nat}{y:Keyed} (hk:k+1<=n) (hn:n<=a.size) (hy:a[n - k - 1]? = some y):o ++ (a.extract (n - (k+1)) n).reverse=(o ++ (a.extract (n - k) n).reverse).push y:=by
 apply sW.mp
 rw[cI,cF,cF,lh,lh,fS,fS,aV]
 congr 1
 simp only[pf]
 have e:a.toList.drop (n - (k+1))=y :: a.toList.drop (n - k):=by
  have:=C3 (l:=a.toList) (i:=n - (k+1)) (y:=y) (by rw[<- cZ];exact hy)
  rw[this,show n - (k+1)+1=n - k by omega]
 rw[e,show n - (n - (k+1))=(n - (n - k))+1 by omega,w5,List.reverse_cons]
theorem MH.vC (h:MH a b o na nb) (sa:fG a.toList):∀ k,k<=na->(∀ j x,na - k<=j->j < na->a[j]? = some x->∀ z∈b.toList.take nb,kv z<=kv x)->MH a b (o ++ (a.extract (na - k) na).reverse) (na - k) nb
 | 0,_,_=>by
  have:o ++ (a.extract (na - 0) na).reverse=o:=by rw[mK,iM (by omega)];simp
  rw[this]
  exact h
 | k+1,hk,nB=>by
  have hl:=h.la
  have e:a[na - k - 1]? = some a[na - k - 1]:=getElem?_pos a _ (by omega)
  rw[Jo hk h.la e]
  exact(MH.vC h sa k (by omega) fun j x h1 h2=>nB j x (by omega) h2).iw sa (by omega) e (nB _ _ (by omega) (by omega) e)
theorem MH.oE (h:MH a b o na nb) (sb:fG b.toList):∀ k,k<=nb->(∀ j x,nb - k<=j->j < nb->b[j]? = some x->∀ z∈a.toList.take na,kv z<=kv x)->MH a b (o ++ (b.extract (nb - k) nb).reverse) na (nb - k)
 | 0,_,_=>by
  have:o ++ (b.extract (nb - 0) nb).reverse=o:=by rw[mK,iM (by omega)];simp
  rw[this]
  exact h
 | k+1,hk,nB=>by
  have hl:=h.lb
  have e:b[nb - k - 1]? = some b[nb - k - 1]:=getElem?_pos b _ (by omega)
  rw[Jo hk h.lb e]
  exact(MH.oE h sb k (by omega) fun j x h1 h2=>nB j x (by omega) h2).lU sb (by omega) e (nB _ _ (by omega) (by omega) e)
theorem qF {y x:Keyed} (sa:fG a.toList) (hn:1<=na) (hx:a[na - 1]? = some x) (h:kv x<=kv y):∀ z∈a.toList.take na,kv z<=kv y:=fun z hz=>by
 obtain⟨j,hj,ej⟩:=fD hz
 exact iR (mn sa (by omega) ej (cZ ▸ hx)) h
theorem rL {a:Array Keyed} (ha:gO a) (sa:fG a.toList) {n:Nat} (hn:n<=a.size):Run a 0 n:=by
 have r:=rW ha sa 0
 exact⟨fun i hi=>r.at_ i (by omega),fun i j jw hj=>r.le i j jw (by omega)⟩
inductive R0 {γ : Type} (a b:Array Keyed) (n:Nat):(Option (Array Keyed) × Nat × Nat × Array Keyed × γ)->Prop
 | go (na nb:Nat) (o:Array Keyed) (z : γ) (M:MH a b o na nb) (h1:1<=na) (h2:2<=nb) (h3:n+na+nb<=a.size+b.size):R0 a b n (none,na,nb,o,z)
 | end_ (r:Array Keyed) (na nb:Nat) (o:Array Keyed) (z : γ) (h:yw a b r):R0 a b n (some r,na,nb,o,z)
section
variable {prog:Program}{w:World}{A:Around}{E:Value->Shared->Prop}{s:Shared} [kz prog w A s]
def Pj:Array Keyed->Array Keyed->StateT SortSt Sem (Array Keyed):=sortPriv% PySem.Builtin.mergeHi
theorem Hs {st:SortSt}{a b:Array Keyed}{Q:Array Keyed->SortSt->Prop} (hk:kindOf st=oneType') (ka:gO a) (kb:gO b) (sa:fG a.toList) (sb:fG b.toList) (pa:0 < a.size) (pb:0 < b.size)
  (h1:∀ y,b[0]? = some y->∀ z∈a.toList,kv y<=kv z) (la:∀ y∈b.toList,∀ z,a.toList[a.size - 1]? = some z->kv y<=kv z) (h:∀ m aE,SG st aE->yw a b m->Q m aE):wpS (model prog w) A E s (Pj a b) Q st:=by
 have e0:a[a.size - 1]? = some a[a.size - 1]:=getElem?_pos a (a.size - 1) (by omega)
 have M0:MH a b #[a[a.size - 1]] (a.size - 1) b.size:=MH.iw (o := #[]) (na:=a.size) (nb:=b.size) ⟨ao _,ao _,by
  rw[gB (by rw[bq];exact ao _),gB (by rw[bq];exact ao _)]
  simp,f6,fun x hx=>by cases hx⟩ sa (by omega) e0 (fun z hz=>la z (fN hz) _ (cZ ▸ e0))
 have s0:SG st st:=⟨rfl,rfl,rfl,rfl⟩
 refine wpS_bind (wpS_lift (wpAny_rule ⟨rfl,?_⟩))
 refine wpS_bind (bF e0 ?_)
 dsimp only
 by_cases c1:(a.size - 1 == 0)=true
 ·rw[if_pos c1]
  exact wpS_pure (h _ _ s0 (M0.done sa sb (.inl (beq_iff_eq.mp c1))))
 rw[if_neg c1]
 have ZK:a.size - 1≠0:=fun z=>c1 (beq_iff_eq.mpr z)
 by_cases c2:(b.size == 1)=true
 ·rw[if_pos c2]
  exact wpS_pure (h _ _ s0 (M0.first sa sb (beq_iff_eq.mp c2) h1))
 rw[if_neg c2]
 have ZJ:b.size≠1:=fun z=>c2 (beq_iff_eq.mpr z)
 refine wpS_bind (wpS_get ?_)
 refine wpS_bind (wpS_mono (wpS_forRange (I:=fun x c aE=>SG st aE∧∃ na nb o z,c=(none,na,nb,o,z)∧MH a b o na nb∧1<=na∧2<=nb∧x+na+nb<=a.size+b.size)
  (Q:=fun c aE=>SG st aE∧∃ r na nb o z,c=(some r,na,nb,o,z)∧yw a b r) (fun x c n6 _ hx => ?_) (fun c n6 => ?_) ⟨s0,_,_,_,_,rfl,M0,by omega,by omega,by omega⟩) (fun c n6 => ?_))
 ·rintro⟨F1,na,nb,o,mg,rfl,M,b1,b2,b3⟩
  dsimp only
  refine wpS_bind (wpS_mono (wpS_forRange (I:=fun x' c aE=>SG st aE∧∃ na nb o z,c=(none,na,nb,o,z)∧MH a b o na nb∧1<=na∧2<=nb∧x+x'+na+nb<=a.size+b.size)
   (Q:=fun c aE=>SG st aE∧R0 a b (x+1) c) (fun x' c c9 _ Bj => ?_) (fun c c9 => ?_) ⟨F1,_,_,_,_,rfl,M,b1,b2,by omega⟩) (fun c c9 => ?_))
  ·rintro⟨hs,na,nb,o,z,rfl,M,b1,b2,b3⟩
   obtain⟨ac,bc⟩:=z
   dsimp only
   have YH:=M.la
   have YG:=M.lb
   obtain⟨y,eb⟩:∃ y,b[nb - 1]? = some y:=⟨_,getElem?_pos b (nb - 1) (by omega)⟩
   obtain⟨v,ea⟩:∃ v,a[na - 1]? = some v:=⟨_,getElem?_pos a (na - 1) (by omega)⟩
   obtain⟨ty,ey⟩:=gA kb eb
   obtain⟨tv,ev⟩:=gA ka ea
   refine wpS_bind (bF eb (wpS_bind (bF ea (wpS_bind (xf (hs.kind.trans hk) ey ev ?_)))))
   dsimp only
   by_cases cS:kv y < kv v
   ·rw[decide_eq_true cS,if_pos rfl]
    have M2:=M.iw sa (by omega) ea (qF sb (by omega) eb (by omega))
    refine wpS_bind (bF ea ?_)
    try dsimp only
    by_cases cb:(na - 1 == 0)=true
    ·rw[if_pos cb]
     exact wpS_pure ⟨hs,.end_ _ _ _ _ _ (M2.done sa sb (.inl (beq_iff_eq.mp cb)))⟩
    ·rw[if_neg cb]
     have yl:na - 1≠0:=fun z=>cb (beq_iff_eq.mpr z)
     split
     ·exact wpS_pure ⟨hs,.go _ _ _ _ M2 (by omega) (by omega) (by omega)⟩
     ·exact wpS_pure ⟨hs,_,_,_,_,rfl,M2,by omega,by omega,by omega⟩
   ·rw[decide_eq_false cS,if_neg (by decide)]
    have M2:=M.lU sb (by omega) eb (qF sa (by omega) ea (by omega))
    refine wpS_bind (bF eb ?_)
    try dsimp only
    by_cases cb:(nb - 1 == 1)=true
    ·rw[if_pos cb]
     exact wpS_pure ⟨hs,.end_ _ _ _ _ _ (M2.first sa sb (beq_iff_eq.mp cb) h1)⟩
    ·rw[if_neg cb]
     have yl:nb - 1≠1:=fun z=>cb (beq_iff_eq.mpr z)
     split
     ·exact wpS_pure ⟨hs,.go _ _ _ _ M2 (by omega) (by omega) (by omega)⟩
     ·exact wpS_pure ⟨hs,_,_,_,_,rfl,M2,by omega,by omega,by omega⟩
  ·rintro⟨hs,na,nb,o,z,rfl,M,b1,b2,b3⟩
   omega
  ·rintro⟨hs,hc⟩
   cases hc with
   | end_ r na nb o z hm =>
    dsimp only
    exact wpS_pure ⟨hs,r,_,_,_,_,rfl,hm⟩
   | go na nb o z M b1 b2 b3 =>
    dsimp only
    refine wpS_bind (wpS_lift (wpAny_rule ⟨rfl,?_⟩))
    refine wpS_bind (wpS_mono (wpS_forRange (I:=fun x' c aE=>SG st aE∧∃ na nb o z,c=(none,na,nb,o,z)∧MH a b o na nb∧1<=na∧2<=nb∧x+1+na+nb<=a.size+b.size)
     (Q:=fun c aE=>SG st aE∧R0 a b (x+1) c) (fun x' c c9 _ Bj => ?_) (fun c c9 => ?_) ⟨hs,_,_,_,_,rfl,M,b1,b2,b3⟩) (fun c c9 => ?_))
    ·rintro⟨hs,na,nb,o,z,rfl,M,b1,b2,b3⟩
     obtain⟨mg,ac,bc⟩:=z
     dsimp only
     by_cases Br:mg > 1
     ·rw[if_pos Br]
      refine wpS_bind (pK ?_)
      have cq:SG st (fh (kindOf c9) (arrOf c9) (pendingOf c9) (mg - 1) (failedOf c9)):=⟨hs.kind,hs.arr,hs.pend,hs.fail⟩
      have rh:kindOf (fh (kindOf c9) (arrOf c9) (pendingOf c9) (mg - 1) (failedOf c9))=oneType':=cq.kind.trans hk
      have YH:=M.la
      have YG:=M.lb
      obtain⟨y,eb⟩:∃ y,b[nb - 1]? = some y:=⟨_,getElem?_pos b (nb - 1) (by omega)⟩
      obtain⟨ty,ey⟩:=gA kb eb
      refine wpS_bind (bF eb (wpS_bind (fc rh ey (rL ka sa (n:=na) (by omega)) (by omega) fun m l1 lo1 rj => ?_)))
      dsimp only
      have QA:∀ j z,m<=j->j < na->a[j]? = some z->∀ v∈b.toList.take nb,kv v<=kv z:=fun j z hj xS ez=>qF sb (by omega) eb (by
       have:=of_decide_eq_true (ku (show (!decide (kv y < Kr a (0+j)))=false from rj j hj xS))
       rw[cO,eE ez]at this
       omega)
      have yr:∀ v∈a.toList.take m,kv v<=kv y:=fun v hv=>by
       obtain⟨j,hj,ej⟩:=fD hv
       have:=of_decide_eq_false (km (show (!decide (kv y < Kr a (0+j)))=true from lo1 j hj))
       rw[cO,eE (show a[j]? = some v by rw[cZ];exact ej)]at this
       omega
      by_cases uU:na - m > 0
      ·rw[if_pos uU]
       have MA:=M.vC sa (na - m) (by omega) (fun j z q1 q2=>QA j z (by omega) q2)
       rw[show na - (na - m)=m by omega]at MA
       by_cases ca:(m == 0)=true
       ·rw[if_pos ca]
        exact wpS_pure ⟨cq,.end_ _ _ _ _ _ (MA.done sa sb (.inl (beq_iff_eq.mp ca)))⟩
       ·rw[if_neg ca]
        have WO:m≠0:=fun z=>ca (beq_iff_eq.mpr z)
        refine wpS_bind (bF eb ?_)
        try dsimp only
        have M2:=MA.lU sb (by omega) eb yr
        by_cases cb:(nb - 1 == 1)=true
        ·rw[if_pos cb]
         exact wpS_pure ⟨cq,.end_ _ _ _ _ _ (M2.first sa sb (beq_iff_eq.mp cb) h1)⟩
        ·rw[if_neg cb]
         have yl:nb - 1≠1:=fun z=>cb (beq_iff_eq.mpr z)
         obtain⟨x,ea⟩:∃ x,a[m - 1]? = some x:=⟨_,getElem?_pos a (m - 1) (by omega)⟩
         obtain⟨tx,ex⟩:=gA ka ea
         refine wpS_bind (bF ea (wpS_bind (fc rh ex (rL kb sb (n:=nb - 1) (by omega)) (by omega) fun m2 l2 qE m5 => ?_)))
         dsimp only
         have QB:∀ j z,m2<=j->j < nb - 1->b[j]? = some z->∀ v∈a.toList.take m,kv v<=kv z:=fun j z hj xS ez=>qF sa (by omega) ea (by
          have:=of_decide_eq_false (show decide (Kr b (0+j) < kv x)=false from m5 j hj xS)
          rw[cO,eE ez]at this
          omega)
         have QR:∀ v∈b.toList.take m2,kv v<=kv x:=fun v hv=>by
          obtain⟨j,hj,ej⟩:=fD hv
          have:=of_decide_eq_true (show decide (Kr b (0+j) < kv x)=true from qE j hj)
          rw[cO,eE (show b[j]? = some v by rw[cZ];exact ej)]at this
          omega
         by_cases ck:nb - 1 - m2 > 0
         ·rw[if_pos ck]
          have MB:=M2.oE sb (nb - 1 - m2) (by omega) (fun j z q1 q2=>QB j z (by omega) q2)
          rw[show nb - 1 - (nb - 1 - m2)=m2 by omega]at MB
          by_cases hU:(m2 == 1)=true
          ·rw[if_pos hU]
           exact wpS_pure ⟨cq,.end_ _ _ _ _ _ (MB.first sa sb (beq_iff_eq.mp hU) h1)⟩
          ·rw[if_neg hU]
           have AB:m2≠1:=fun z=>hU (beq_iff_eq.mpr z)
           by_cases oU:(m2 == 0)=true
           ·rw[if_pos oU]
            exact wpS_pure ⟨cq,.end_ _ _ _ _ _ (MB.done sa sb (.inr (beq_iff_eq.mp oU)))⟩
           ·rw[if_neg oU]
            have Qf:m2≠0:=fun z=>oU (beq_iff_eq.mpr z)
            refine wpS_bind (bF ea ?_)
            try dsimp only
            have M3:=MB.iw sa (by omega) ea QR
            by_cases cl:(m - 1 == 0)=true
            ·rw[if_pos cl]
             exact wpS_pure ⟨cq,.end_ _ _ _ _ _ (M3.done sa sb (.inl (beq_iff_eq.mp cl)))⟩
            ·rw[if_neg cl]
             have sE:m - 1≠0:=fun z=>cl (beq_iff_eq.mpr z)
             split
             ·exact wpS_pure ⟨cq,.go _ _ _ _ M3 (by omega) (by omega) (by omega)⟩
             ·exact wpS_pure ⟨cq,_,_,_,_,rfl,M3,by omega,by omega,by omega⟩
         ·rw[if_neg ck]
          have k0:m2=nb - 1:=by omega
          subst k0
          have MB:=M2
          refine wpS_bind (bF ea ?_)
          try dsimp only
          have M3:=MB.iw sa (by omega) ea QR
          by_cases cl:(m - 1 == 0)=true
          ·rw[if_pos cl]
           exact wpS_pure ⟨cq,.end_ _ _ _ _ _ (M3.done sa sb (.inl (beq_iff_eq.mp cl)))⟩
          ·rw[if_neg cl]
           have sE:m - 1≠0:=fun z=>cl (beq_iff_eq.mpr z)
           split
           ·exact wpS_pure ⟨cq,.go _ _ _ _ M3 (by omega) (by omega) (by omega)⟩
           ·exact wpS_pure ⟨cq,_,_,_,_,rfl,M3,by omega,by omega,by omega⟩
      ·rw[if_neg uU]
       have k0:m=na:=by omega
       subst k0
       have MA:=M
       refine wpS_bind (bF eb ?_)
       try dsimp only
       have M2:=MA.lU sb (by omega) eb yr
       by_cases cb:(nb - 1 == 1)=true
       ·rw[if_pos cb]
        exact wpS_pure ⟨cq,.end_ _ _ _ _ _ (M2.first sa sb (beq_iff_eq.mp cb) h1)⟩
       ·rw[if_neg cb]
        have yl:nb - 1≠1:=fun z=>cb (beq_iff_eq.mpr z)
        obtain⟨x,ea⟩:∃ x,a[m - 1]? = some x:=⟨_,getElem?_pos a (m - 1) (by omega)⟩
        obtain⟨tx,ex⟩:=gA ka ea
        refine wpS_bind (bF ea (wpS_bind (fc rh ex (rL kb sb (n:=nb - 1) (by omega)) (by omega) fun m2 l2 qE m5 => ?_)))
        dsimp only
        have QB:∀ j z,m2<=j->j < nb - 1->b[j]? = some z->∀ v∈a.toList.take m,kv v<=kv z:=fun j z hj xS ez=>qF sa (by omega) ea (by
         have:=of_decide_eq_false (show decide (Kr b (0+j) < kv x)=false from m5 j hj xS)
         rw[cO,eE ez]at this
         omega)
        have QR:∀ v∈b.toList.take m2,kv v<=kv x:=fun v hv=>by
         obtain⟨j,hj,ej⟩:=fD hv
         have:=of_decide_eq_true (show decide (Kr b (0+j) < kv x)=true from qE j hj)
         rw[cO,eE (show b[j]? = some v by rw[cZ];exact ej)]at this
         omega
        by_cases ck:nb - 1 - m2 > 0
        ·rw[if_pos ck]
         have MB:=M2.oE sb (nb - 1 - m2) (by omega) (fun j z q1 q2=>QB j z (by omega) q2)
         rw[show nb - 1 - (nb - 1 - m2)=m2 by omega]at MB
         by_cases hU:(m2 == 1)=true
         ·rw[if_pos hU]
          exact wpS_pure ⟨cq,.end_ _ _ _ _ _ (MB.first sa sb (beq_iff_eq.mp hU) h1)⟩
         ·rw[if_neg hU]
          have AB:m2≠1:=fun z=>hU (beq_iff_eq.mpr z)
          by_cases oU:(m2 == 0)=true
          ·rw[if_pos oU]
           exact wpS_pure ⟨cq,.end_ _ _ _ _ _ (MB.done sa sb (.inr (beq_iff_eq.mp oU)))⟩
          ·rw[if_neg oU]
           have Qf:m2≠0:=fun z=>oU (beq_iff_eq.mpr z)
           refine wpS_bind (bF ea ?_)
           try dsimp only
           have M3:=MB.iw sa (by omega) ea QR
           by_cases cl:(m - 1 == 0)=true
           ·rw[if_pos cl]
            exact wpS_pure ⟨cq,.end_ _ _ _ _ _ (M3.done sa sb (.inl (beq_iff_eq.mp cl)))⟩
           ·rw[if_neg cl]
            have sE:m - 1≠0:=fun z=>cl (beq_iff_eq.mpr z)
            split
            ·exact wpS_pure ⟨cq,.go _ _ _ _ M3 (by omega) (by omega) (by omega)⟩
            ·exact wpS_pure ⟨cq,_,_,_,_,rfl,M3,by omega,by omega,by omega⟩
        ·rw[if_neg ck]
         have k0:m2=nb - 1:=by omega
         subst k0
         have MB:=M2
         refine wpS_bind (bF ea ?_)
         try dsimp only
         have M3:=MB.iw sa (by omega) ea QR
         by_cases cl:(m - 1 == 0)=true
         ·rw[if_pos cl]
          exact wpS_pure ⟨cq,.end_ _ _ _ _ _ (M3.done sa sb (.inl (beq_iff_eq.mp cl)))⟩
         ·rw[if_neg cl]
          have sE:m - 1≠0:=fun z=>cl (beq_iff_eq.mpr z)
          split
          ·exact wpS_pure ⟨cq,.go _ _ _ _ M3 (by omega) (by omega) (by omega)⟩
          ·exact wpS_pure ⟨cq,_,_,_,_,rfl,M3,by omega,by omega,by omega⟩
     ·rw[if_neg Br]
      refine wpS_bind (pK ?_)
      have cq:SG st (fh (kindOf c9) (arrOf c9) (pendingOf c9) mg (failedOf c9)):=⟨hs.kind,hs.arr,hs.pend,hs.fail⟩
      have rh:kindOf (fh (kindOf c9) (arrOf c9) (pendingOf c9) mg (failedOf c9))=oneType':=cq.kind.trans hk
      have YH:=M.la
      have YG:=M.lb
      obtain⟨y,eb⟩:∃ y,b[nb - 1]? = some y:=⟨_,getElem?_pos b (nb - 1) (by omega)⟩
      obtain⟨ty,ey⟩:=gA kb eb
      refine wpS_bind (bF eb (wpS_bind (fc rh ey (rL ka sa (n:=na) (by omega)) (by omega) fun m l1 lo1 rj => ?_)))
      dsimp only
      have QA:∀ j z,m<=j->j < na->a[j]? = some z->∀ v∈b.toList.take nb,kv v<=kv z:=fun j z hj xS ez=>qF sb (by omega) eb (by
       have:=of_decide_eq_true (ku (show (!decide (kv y < Kr a (0+j)))=false from rj j hj xS))
       rw[cO,eE ez]at this
       omega)
      have yr:∀ v∈a.toList.take m,kv v<=kv y:=fun v hv=>by
       obtain⟨j,hj,ej⟩:=fD hv
       have:=of_decide_eq_false (km (show (!decide (kv y < Kr a (0+j)))=true from lo1 j hj))
       rw[cO,eE (show a[j]? = some v by rw[cZ];exact ej)]at this
       omega
      by_cases uU:na - m > 0
      ·rw[if_pos uU]
       have MA:=M.vC sa (na - m) (by omega) (fun j z q1 q2=>QA j z (by omega) q2)
       rw[show na - (na - m)=m by omega]at MA
       by_cases ca:(m == 0)=true
       ·rw[if_pos ca]
        exact wpS_pure ⟨cq,.end_ _ _ _ _ _ (MA.done sa sb (.inl (beq_iff_eq.mp ca)))⟩
       ·rw[if_neg ca]
        have WO:m≠0:=fun z=>ca (beq_iff_eq.mpr z)
        refine wpS_bind (bF eb ?_)
        try dsimp only
        have M2:=MA.lU sb (by omega) eb yr
        by_cases cb:(nb - 1 == 1)=true
        ·rw[if_pos cb]
         exact wpS_pure ⟨cq,.end_ _ _ _ _ _ (M2.first sa sb (beq_iff_eq.mp cb) h1)⟩
        ·rw[if_neg cb]
         have yl:nb - 1≠1:=fun z=>cb (beq_iff_eq.mpr z)
         obtain⟨x,ea⟩:∃ x,a[m - 1]? = some x:=⟨_,getElem?_pos a (m - 1) (by omega)⟩
         obtain⟨tx,ex⟩:=gA ka ea
         refine wpS_bind (bF ea (wpS_bind (fc rh ex (rL kb sb (n:=nb - 1) (by omega)) (by omega) fun m2 l2 qE m5 => ?_)))
         dsimp only
         have QB:∀ j z,m2<=j->j < nb - 1->b[j]? = some z->∀ v∈a.toList.take m,kv v<=kv z:=fun j z hj xS ez=>qF sa (by omega) ea (by
          have:=of_decide_eq_false (show decide (Kr b (0+j) < kv x)=false from m5 j hj xS)
          rw[cO,eE ez]at this
          omega)
         have QR:∀ v∈b.toList.take m2,kv v<=kv x:=fun v hv=>by
          obtain⟨j,hj,ej⟩:=fD hv
          have:=of_decide_eq_true (show decide (Kr b (0+j) < kv x)=true from qE j hj)
          rw[cO,eE (show b[j]? = some v by rw[cZ];exact ej)]at this
          omega
         by_cases ck:nb - 1 - m2 > 0
         ·rw[if_pos ck]
          have MB:=M2.oE sb (nb - 1 - m2) (by omega) (fun j z q1 q2=>QB j z (by omega) q2)
          rw[show nb - 1 - (nb - 1 - m2)=m2 by omega]at MB
          by_cases hU:(m2 == 1)=true
          ·rw[if_pos hU]
           exact wpS_pure ⟨cq,.end_ _ _ _ _ _ (MB.first sa sb (beq_iff_eq.mp hU) h1)⟩
          ·rw[if_neg hU]
           have AB:m2≠1:=fun z=>hU (beq_iff_eq.mpr z)
           by_cases oU:(m2 == 0)=true
           ·rw[if_pos oU]
            exact wpS_pure ⟨cq,.end_ _ _ _ _ _ (MB.done sa sb (.inr (beq_iff_eq.mp oU)))⟩
           ·rw[if_neg oU]
            have Qf:m2≠0:=fun z=>oU (beq_iff_eq.mpr z)
            refine wpS_bind (bF ea ?_)
            try dsimp only
            have M3:=MB.iw sa (by omega) ea QR
            by_cases cl:(m - 1 == 0)=true
            ·rw[if_pos cl]
             exact wpS_pure ⟨cq,.end_ _ _ _ _ _ (M3.done sa sb (.inl (beq_iff_eq.mp cl)))⟩
            ·rw[if_neg cl]
             have sE:m - 1≠0:=fun z=>cl (beq_iff_eq.mpr z)
             split
             ·exact wpS_pure ⟨cq,.go _ _ _ _ M3 (by omega) (by omega) (by omega)⟩
             ·exact wpS_pure ⟨cq,_,_,_,_,rfl,M3,by omega,by omega,by omega⟩
         ·rw[if_neg ck]
          have k0:m2=nb - 1:=by omega
          subst k0
          have MB:=M2
          refine wpS_bind (bF ea ?_)
          try dsimp only
          have M3:=MB.iw sa (by omega) ea QR
          by_cases cl:(m - 1 == 0)=true
          ·rw[if_pos cl]
           exact wpS_pure ⟨cq,.end_ _ _ _ _ _ (M3.done sa sb (.inl (beq_iff_eq.mp cl)))⟩
          ·rw[if_neg cl]
           have sE:m - 1≠0:=fun z=>cl (beq_iff_eq.mpr z)
           split
           ·exact wpS_pure ⟨cq,.go _ _ _ _ M3 (by omega) (by omega) (by omega)⟩
           ·exact wpS_pure ⟨cq,_,_,_,_,rfl,M3,by omega,by omega,by omega⟩
      ·rw[if_neg uU]
       have k0:m=na:=by omega
       subst k0
       have MA:=M
       refine wpS_bind (bF eb ?_)
       try dsimp only
       have M2:=MA.lU sb (by omega) eb yr
       by_cases cb:(nb - 1 == 1)=true
       ·rw[if_pos cb]
        exact wpS_pure ⟨cq,.end_ _ _ _ _ _ (M2.first sa sb (beq_iff_eq.mp cb) h1)⟩
       ·rw[if_neg cb]
        have yl:nb - 1≠1:=fun z=>cb (beq_iff_eq.mpr z)
        obtain⟨x,ea⟩:∃ x,a[m - 1]? = some x:=⟨_,getElem?_pos a (m - 1) (by omega)⟩
        obtain⟨tx,ex⟩:=gA ka ea
        refine wpS_bind (bF ea (wpS_bind (fc rh ex (rL kb sb (n:=nb - 1) (by omega)) (by omega) fun m2 l2 qE m5 => ?_)))
        dsimp only
        have QB:∀ j z,m2<=j->j < nb - 1->b[j]? = some z->∀ v∈a.toList.take m,kv v<=kv z:=fun j z hj xS ez=>qF sa (by omega) ea (by
         have:=of_decide_eq_false (show decide (Kr b (0+j) < kv x)=false from m5 j hj xS)
         rw[cO,eE ez]at this
         omega)
        have QR:∀ v∈b.toList.take m2,kv v<=kv x:=fun v hv=>by
         obtain⟨j,hj,ej⟩:=fD hv
         have:=of_decide_eq_true (show decide (Kr b (0+j) < kv x)=true from qE j hj)
         rw[cO,eE (show b[j]? = some v by rw[cZ];exact ej)]at this
         omega
        by_cases ck:nb - 1 - m2 > 0
        ·rw[if_pos ck]
         have MB:=M2.oE sb (nb - 1 - m2) (by omega) (fun j z q1 q2=>QB j z (by omega) q2)
         rw[show nb - 1 - (nb - 1 - m2)=m2 by omega]at MB
         by_cases hU:(m2 == 1)=true
         ·rw[if_pos hU]
          exact wpS_pure ⟨cq,.end_ _ _ _ _ _ (MB.first sa sb (beq_iff_eq.mp hU) h1)⟩
         ·rw[if_neg hU]
          have AB:m2≠1:=fun z=>hU (beq_iff_eq.mpr z)
          by_cases oU:(m2 == 0)=true
          ·rw[if_pos oU]
           exact wpS_pure ⟨cq,.end_ _ _ _ _ _ (MB.done sa sb (.inr (beq_iff_eq.mp oU)))⟩
          ·rw[if_neg oU]
           have Qf:m2≠0:=fun z=>oU (beq_iff_eq.mpr z)
           refine wpS_bind (bF ea ?_)
           try dsimp only
           have M3:=MB.iw sa (by omega) ea QR
           by_cases cl:(m - 1 == 0)=true
           ·rw[if_pos cl]
            exact wpS_pure ⟨cq,.end_ _ _ _ _ _ (M3.done sa sb (.inl (beq_iff_eq.mp cl)))⟩
           ·rw[if_neg cl]
            have sE:m - 1≠0:=fun z=>cl (beq_iff_eq.mpr z)
            split
            ·exact wpS_pure ⟨cq,.go _ _ _ _ M3 (by omega) (by omega) (by omega)⟩
            ·exact wpS_pure ⟨cq,_,_,_,_,rfl,M3,by omega,by omega,by omega⟩
        ·rw[if_neg ck]
         have k0:m2=nb - 1:=by omega
         subst k0
         have MB:=M2
         refine wpS_bind (bF ea ?_)
         try dsimp only
         have M3:=MB.iw sa (by omega) ea QR
         by_cases cl:(m - 1 == 0)=true
         ·rw[if_pos cl]
          exact wpS_pure ⟨cq,.end_ _ _ _ _ _ (M3.done sa sb (.inl (beq_iff_eq.mp cl)))⟩
         ·rw[if_neg cl]
          have sE:m - 1≠0:=fun z=>cl (beq_iff_eq.mpr z)
          split
          ·exact wpS_pure ⟨cq,.go _ _ _ _ M3 (by omega) (by omega) (by omega)⟩
          ·exact wpS_pure ⟨cq,_,_,_,_,rfl,M3,by omega,by omega,by omega⟩
    ·rintro⟨hs,na,nb,o,z,rfl,M,b1,b2,b3⟩
     exact⟨hs,.go _ _ _ _ M b1 b2 b3⟩
    ·rintro⟨hs,hc⟩
     cases hc with
     | end_ r na nb o z hm =>
      dsimp only
      exact wpS_pure ⟨hs,r,_,_,_,_,rfl,hm⟩
     | go na nb o z M b1 b2 b3 =>
      obtain⟨mg,ac,bc⟩:=z
      dsimp only
      refine wpS_bind (pK (wpS_pure ⟨⟨hs.kind,hs.arr,hs.pend,hs.fail⟩,_,_,_,_,rfl,M,b1,b2,b3⟩))
 ·rintro⟨hs,na,nb,o,z,rfl,M,b1,b2,b3⟩
  omega
 ·rintro⟨hs,r,na,nb,o,z,rfl,hm⟩
  exact wpS_pure (h r _ hs hm)
end
theorem seg_at {arr:Array Keyed}{P X S:List Keyed} (h:arr.toList=P ++ (X ++ S)) {i:Nat} (hi:i < X.length):arr[P.length+i]? = X[i]? := by
 rw[cZ,h,dk (by omega),jG,gR hi]
theorem Ii {arr:Array Keyed}{P X S:List Keyed} (ha:gO arr) (h:arr.toList=P ++ (X ++ S)) (sx:fG X):Run arr P.length X.length:=by
 refine⟨fun i hi => ?_,fun i j jw hj => ?_⟩
 ·have e:arr[P.length+i]? = some X[i]:=by rw[seg_at h hi,ai hi]
  obtain⟨t,ht⟩:=gA ha e
  exact⟨_,t,e,by rw[eE e];exact ht⟩
 ·have e1:arr[P.length+i]? = some X[i]:=by rw[seg_at h (by omega),ai (by omega)]
  have e2:arr[P.length+j]? = some X[j]:=by rw[seg_at h hj,ai hj]
  rw[eE e1,eE e2]
  exact mn sx jw (ai (by omega)) (ai hj)
theorem Jn {arr:Array Keyed}{P X S:List Keyed} (h:arr.toList=P ++ (X ++ S)):(arr.extract P.length (P.length+X.length)).toList=X:=by
 rw[fS]
 simp only[pf]
 rw[h,List.drop_left,jG,List.take_left]
theorem G1 {sa:Nat}:∀ (l:List Keyed) (Fv:Nat) (arr:Array Keyed) (P X S:List Keyed),arr.toList=P ++ (X ++ S)->X.length=l.length->P.length=sa+Fv ->
  ((l.zipIdx Fv).foldl (fun a q=>a.setIfInBounds (sa+q.2) q.1) arr).toList=P ++ (l ++ S)
 | [],Fv,arr,P,X,S,h,hx,hp=>by
  have:X = []:=fW.mp hx
  subst this
  exact h
 | p :: l,Fv,arr,P,X,S,h,hx,hp=>by
  cases X with
  | nil=>cases hx
  | cons x X =>
   rw[sQ,tW]
   have e:(arr.setIfInBounds (sa+Fv) p).toList=(P ++ [p]) ++ (X ++ S):=by
    rw[rf,h, <- hp,vk _ _ (ao _),yt]
    simp
   have:=G1 l (Fv+1) (arr.setIfInBounds (sa+Fv) p) (P ++ [p]) X S e (by simpa using hx) (by rw[au,hp];rfl)
   rw[this]
   simp
theorem Ds {l m:List Keyed} (h:fG (l ++ m)):∀ x∈l,∀ y∈m,kv x<=kv y:=(wy.mp h).2.2
theorem FN {arr x:Array Keyed} (ha:gO arr) (h:∀ p∈x.toList,p∈arr.toList):gO x:=fun p hp=>ha p (h p hp)
section
variable {prog:Program}{w:World}{A:Around}{E:Value->Shared->Prop}{s:Shared} [kz prog w A s]
theorem R6 {M:Model}{σ : Type}{st aE : σ}{Q:PUnit -> σ -> Prop} (h:Q ⟨⟩ aE):wpS M A E s (set aE:StateT σ Sem PUnit) Q st:=by
 unfold wpS;rw[StateT.run_set];exact wpAny_pure ⟨rfl,h⟩
structure SP (st aE:SortSt):Prop where
 kind:kindOf aE=kindOf st
 fail:failedOf aE=failedOf st
theorem Ht {st:SortSt}{i pw pw2:Nat}{P X Y S:List Keyed}{Q:Bool->SortSt->Prop} (hk:kindOf st=oneType') (hf:failedOf st=none) (ka:gO (arrOf st)) (ha:(arrOf st).toList=P ++ (X ++ (Y ++ S))) (sx:fG X) (sy:fG Y) (px:0 < X.length) (py:0 < Y.length)
  (hi:(pendingOf st)[i]? = some (P.length,X.length,pw)) (hj:(pendingOf st)[i+1]? = some (P.length+X.length,Y.length,pw2))
  (h:∀ aE M,SP st aE->(arrOf aE).toList=P ++ (M ++ S)->M.Perm (X ++ Y)->fG M->pendingOf aE=((pendingOf st).setIfInBounds i (P.length,X.length+Y.length,pw)).eraseIdxIfInBounds (i+1)->Q true aE) :
  wpS (model prog w) A E s (mergeAt' i) Q st:=by
 refine wpS_bind (wpS_get ?_)
 rw[show (sortPriv% PySem.Builtin.SortState.pending) st=pendingOf st from rfl,hi,hj]
 dsimp only
 refine wpS_bind (R6 ?_)
 have F1:SP st (fh (kindOf st) (arrOf st) (((pendingOf st).setIfInBounds i (P.length,X.length+Y.length,pw)).eraseIdxIfInBounds (i+1)) (gallopOf st) (failedOf st)):=⟨rfl,rfl⟩
 have Nc:kindOf (fh (kindOf st) (arrOf st) (((pendingOf st).setIfInBounds i (P.length,X.length+Y.length,pw)).eraseIdxIfInBounds (i+1)) (gallopOf st) (failedOf st))=oneType':=hk
 have Rp:(arrOf st).toList=(P ++ X) ++ (Y ++ S):=by rw[ha,aV]
 have Q3:(P ++ X).length=P.length+X.length:=au
 have e0:(arrOf st)[P.length+X.length]? = some Y[0]:=by
  have:=seg_at Rp (i:=0) py
  rw[Q3,mN,ai py]at this
  exact this
 obtain⟨ty,ey⟩:=gA ka e0
 refine wpS_bind (bF e0 (wpS_bind (fc Nc ey (Ii ka ha sx) px fun k l1 lo1 rj => ?_)))
 dsimp only
 have KX:∀ j (hj:j < X.length),Kr (arrOf st) (P.length+j)=kv X[j]:=fun j hj=>eE (by rw[seg_at ha hj,ai hj])
 have KY:∀ j (hj:j < Y.length),Kr (arrOf st) (P.length+X.length+j)=kv Y[j]:=fun j hj=>eE (by
  have:=seg_at Rp hj
  rw[Q3,ai hj]at this
  exact this)
 have X9:∀ x∈X.take k,kv x<=kv Y[0]:=fun x hx=>by
  obtain⟨j,hj,ej⟩:=fD hx
  obtain⟨hl,e⟩:=ah.mp ej
  have:=of_decide_eq_false (km (show (!decide (kv Y[0] < Kr (arrOf st) (P.length+j)))=true from lo1 j hj))
  rw[KX j hl,e]at this
  omega
 have xhi:∀ x∈X.drop k,kv Y[0]<=kv x:=fun x hx=>by
  obtain⟨j,hj,ej⟩:=fE hx
  obtain⟨hl,e⟩:=ah.mp ej
  have:=of_decide_eq_true (ku (show (!decide (kv Y[0] < Kr (arrOf st) (P.length+j)))=false from rj j hj hl))
  rw[KX j hl,e]at this
  omega
 have y0:∀ y∈Y,kv Y[0]<=kv y:=fun y hy=>by
  obtain⟨j,ej⟩:=eQ hy
  exact mn sy (aS _) (ai py) ej
 have plain:(∀ x∈X,∀ y∈Y,kv x<=kv y)->Q true (fh (kindOf st) (arrOf st) (((pendingOf st).setIfInBounds i (P.length,X.length+Y.length,pw)).eraseIdxIfInBounds (i+1)) (gallopOf st) (failedOf st)):=fun c =>
  h _ (X ++ Y) F1 (by rw[aV];exact ha) (qd _) (kh sx sy c) rfl
 by_cases c1:(X.length - k == 0)=true
 ·rw[if_pos c1]
  have kx:X.length<=k:=by have:=beq_iff_eq.mp c1;omega
  refine wpS_pure (plain fun x hx y hy=>iR (X9 x ?_) (y0 y hy))
  rw[gB kx]
  exact hx
 rw[if_neg c1]
 have ZK:X.length - k≠0:=fun z=>c1 (beq_iff_eq.mpr z)
 have IF:X.length - 1 < X.length:=by omega
 have el:(arrOf st)[P.length+k+(X.length - k) - 1]? = some X[X.length - 1]:=by
  rw[show P.length+k+(X.length - k) - 1=P.length+(X.length - 1) by omega,seg_at ha IF,ai IF]
 obtain⟨tx,ex⟩:=gA ka el
 have rY:Run (arrOf st) (P.length+X.length) Y.length:=by
  have:=Ii ka Rp sy
  rw[Q3]at this
  exact this
 refine wpS_bind (bF el (wpS_bind (fc Nc ex rY (by omega) fun n l2 qE m5 => ?_)))
 dsimp only
 have ylo:∀ y∈Y.take n,kv y<=kv X[X.length - 1]:=fun y hy=>by
  obtain⟨j,hj,ej⟩:=fD hy
  obtain⟨hl,e⟩:=ah.mp ej
  have:=of_decide_eq_true (show decide (Kr (arrOf st) (P.length+X.length+j) < kv X[X.length - 1])=true from qE j hj)
  rw[KY j hl,e]at this
  omega
 have X8:∀ y∈Y.drop n,kv X[X.length - 1]<=kv y:=fun y hy=>by
  obtain⟨j,hj,ej⟩:=fE hy
  obtain⟨hl,e⟩:=ah.mp ej
  have:=of_decide_eq_false (show decide (Kr (arrOf st) (P.length+X.length+j) < kv X[X.length - 1])=false from m5 j hj hl)
  rw[KY j hl,e]at this
  omega
 have xl:∀ x∈X,kv x<=kv X[X.length - 1]:=fun x hx=>by
  obtain⟨j,ej⟩:=eQ hx
  have hl:=(ah.mp ej).1
  exact mn sx (by omega) ej (ai IF)
 by_cases c2:(n == 0)=true
 ·rw[if_pos c2]
  have n0:=beq_iff_eq.mp c2
  subst n0
  exact wpS_pure (plain fun x hx y hy=>iR (xl x hx) (X8 y hy))
 rw[if_neg c2]
 have ZJ:n≠0:=fun z=>c2 (beq_iff_eq.mpr z)
 have YF:(X.take k).length=k:=by rw[bA];omega
 have VG:(arrOf st).toList=(P ++ X.take k) ++ (X.drop k ++ (Y ++ S)):=by
  rw[ha,aV, <- aV (X.take k),c6]
 have Y8:(arrOf st).toList=(P ++ X) ++ (Y.take n ++ (Y.drop n ++ S)):=by
  rw[Rp, <- aV (Y.take n),c6]
 have YE:(Y.take n).length=n:=by rw[bA];omega
 have eA:((arrOf st).extract (P.length+k) (P.length+X.length)).toList=X.drop k:=by
  have:=Jn VG
  rw[au,YF,eP,show P.length+k+(X.length - k)=P.length+X.length by omega]at this
  exact this
 have eB:((arrOf st).extract (P.length+X.length) (P.length+X.length+n)).toList=Y.take n:=by
  have:=Jn Y8
  rw[Q3,YE]at this
  exact this
 generalize hA:(arrOf st).extract (P.length+k) (P.length+X.length)=a2 at eA
 generalize hB:(arrOf st).extract (P.length+X.length) (P.length+X.length+n)=b1 at eB
 have kA:gO a2:=FN ka fun p hp=>by rw[eA]at hp;rw[VG];exact bE _ (eO _ hp)
 have kB:gO b1:=FN ka fun p hp=>by rw[eB]at hp;rw[Y8];exact bE _ (eO _ hp)
 have sA:fG a2.toList:=by rw[eA];exact pO sx _
 have sB:fG b1.toList:=by rw[eB];exact pN sy _
 have zA:a2.size=X.length - k:=by rw[<- bq,eA,eP]
 have zB:b1.size=n:=by rw[<- bq,eB,YE]
 have q1:∀ y,b1[0]? = some y->∀ z∈a2.toList,kv y<=kv z:=fun y hy z hz=>by
  rw[cZ,eB,jC (by omega),ai py]at hy
  cases hy
  rw[eA]at hz
  exact xhi z hz
 have q2:∀ y∈b1.toList,∀ z,a2.toList[a2.size - 1]? = some z->kv y<=kv z:=fun y hy z hz=>by
  rw[eB]at hy
  rw[eA,zA,qS,show k+(X.length - k - 1)=X.length - 1 by omega,ai IF]at hz
  cases hz
  exact ylo y hy
 have fin:∀ (m:Array Keyed) (c9:SortSt),SG (fh (kindOf st) (arrOf st) (((pendingOf st).setIfInBounds i (P.length,X.length+Y.length,pw)).eraseIdxIfInBounds (i+1)) (gallopOf st) (failedOf st)) c9->yw a2 b1 m ->
   Q (failedOf c9).isNone (fh (kindOf c9) (m.toList.zipIdx.foldl (fun a q=>a.setIfInBounds (P.length+k+q.2) q.1) (arrOf c9)) (pendingOf c9) (gallopOf c9) (failedOf c9)):=fun m c9 g hm=>by
  have f2:failedOf c9=none:=g.fail.trans hf
  rw[f2]
  have ar:arrOf c9=arrOf st:=g.arr
  have QO:m.toList.Perm (X.drop k ++ Y.take n):=by have:=hm.pm;rw[eA,eB]at this;exact this
  have bk:=G1 (sa:=P.length+k) m.toList 0 (arrOf c9) (P ++ X.take k) (X.drop k ++ Y.take n) (Y.drop n ++ S) (by
   rw[ar,VG]
   congr 1
   rw[aV, <- aV (Y.take n),c6]) (QO.length_eq.symm) (by rw[au,YF];rfl)
  refine h _ (X.take k ++ (m.toList ++ Y.drop n)) ⟨g.kind,hf.symm⟩ ?_ ?_ ?_ g.pend
  ·show (m.toList.zipIdx.foldl (fun a q=>a.setIfInBounds (P.length+k+q.2) q.1) (arrOf c9)).toList=_
   rw[bk]
   simp only[aV]
  ·refine mf (fm _ (jY _ QO)) (Cc ?_)
   rw[aV (X.drop k),c6, <- aV,c6]
  ·refine kh (pN sx k) (kh hm.so (pO sy n) fun x hx y hy => ?_) fun x hx y hy => ?_
   ·rcases bg.mp (QO.mem_iff.mp hx) with z | z
    ·exact iR (xl x (ie z)) (X8 y hy)
    ·have:=Ds (l:=Y.take n) (m:=Y.drop n) (by rw[c6];exact sy)
     exact this x z y hy
   ·have yy:∀ v∈Y,kv x<=kv v:=fun v hv=>iR (X9 x hx) (y0 v hv)
    rcases bg.mp hy with z | z
    ·rcases bg.mp (QO.mem_iff.mp z) with q | q
     ·have:=Ds (l:=X.take k) (m:=X.drop k) (by rw[c6];exact sx)
      exact this x hx y q
     ·exact yy y (fN q)
    ·exact yy y (ie z)
 by_cases c3:X.length - k<=n
 ·rw[if_pos c3]
  exact wpS_bind (Hr Nc kA kB sA sB (by omega) (by omega) q1 q2 fun m c9 g hm=>wpS_bind (wpS_modify (wpS_bind (wpS_get (wpS_pure (fin m c9 g hm))))))
 ·rw[if_neg c3]
  exact wpS_bind (Hs Nc kA kB sA sB (by omega) (by omega) q1 q2 fun m c9 g hm=>wpS_bind (wpS_modify (wpS_bind (wpS_get (wpS_pure (fin m c9 g hm))))))
end
def jz (xs:Array Keyed) (lo n:Nat):Prop := ∀ i j,i<=j->j < n->Kr xs (lo+i)<=Kr xs (lo+j)
def kX (xs:Array Keyed) (lo n:Nat):Prop := ∀ i j,i<=j->j < n->Kr xs (lo+j)<=Kr xs (lo+i)
theorem jz.snoc {xs:Array Keyed}{lo n:Nat} (h:jz xs lo n) (h1:1<=n) (hl:Kr xs (lo+(n - 1))<=Kr xs (lo+n)):jz xs lo (n+1):=fun i j jw hj=>by
 by_cases e:j < n
 ·exact h i j jw e
 ·have:j=n:=by omega
  subst this
  by_cases e2:i=j
  ·rw[e2];exact gW _
  ·exact iR (h i (j - 1) (by omega) (by omega)) hl
theorem kX.snoc {xs:Array Keyed}{lo n:Nat} (h:kX xs lo n) (h1:1<=n) (hl:Kr xs (lo+n)<=Kr xs (lo+(n - 1))):kX xs lo (n+1):=fun i j jw hj=>by
 by_cases e:j < n
 ·exact h i j jw e
 ·have:j=n:=by omega
  subst this
  by_cases e2:i=j
  ·rw[e2];exact gW _
  ·exact iR hl (h i (j - 1) (by omega) (by omega))
theorem kX.congr {xs ys:Array Keyed}{lo n:Nat} (h:kX xs lo n) (e:∀ k,Kr ys k=Kr xs k):kX ys lo n:=fun i j jw hj=>by rw[e,e];exact h i j jw hj
structure kL (st aE:SortSt) (lo hi:Nat):Prop where
 perm:(arrOf aE).Perm (arrOf st)
 out:∀ k,k < lo∨hi<=k->(arrOf aE)[k]? = (arrOf st)[k]?
 kind:kindOf aE=kindOf st
 fail:failedOf aE=failedOf st
 pend:pendingOf aE=pendingOf st
theorem kL.refl (st:SortSt) (lo hi:Nat):kL st st lo hi:=⟨t4 _,fun _ _=>rfl,rfl,rfl,rfl⟩
theorem kL.size {st aE:SortSt}{lo hi:Nat} (h:kL st aE lo hi):(arrOf aE).size=(arrOf st).size:=h.perm.size_eq
theorem kL.keys {st aE:SortSt}{lo hi:Nat} (h:kL st aE lo hi) (ka:gO (arrOf st)):gO (arrOf aE):=fun p hp=>ka p ((gF.mp h.perm).mem_iff.mp hp)
theorem kL.rev {st aE:SortSt}{lo hi i j:Nat} (h:kL st aE lo hi) (rj:lo<=i) (hj:j<=hi) (hz:hi<=(arrOf st).size):kL st (setArr aE (mirror (arrOf aE) i j ((j - i) / 2))) lo hi:=by
 refine⟨(mirror_perm _ _ _ _).trans h.perm,fun k hk => ?_,h.kind,h.fail,h.pend⟩
 show (mirror (arrOf aE) i j ((j - i) / 2))[k]? = _
 rw[getElem?_mirror_all (by rw[h.size];omega),if_neg (by omega)]
 exact h.out k hk
section
variable {prog:Program}{w:World}{A:Around}{E:Value->Shared->Prop}{s:Shared} [kz prog w A s]
theorem wpS_ltK {st:SortSt}{i j:Nat}{Q:Option Bool->SortSt->Prop} (hk:kindOf st=oneType') (ka:gO (arrOf st)) (hi:i < (arrOf st).size) (hj:j < (arrOf st).size)
  (h:Q (some (decide (Kr (arrOf st) i < Kr (arrOf st) j))) st):wpS (model prog w) A E s (ltAt' i j) Q st:=by
 have e1:(arrOf st)[i]? = some (arrOf st)[i]:=getElem?_pos _ i hi
 have e2:(arrOf st)[j]? = some (arrOf st)[j]:=getElem?_pos _ j hj
 obtain⟨t,p1⟩:=gA ka e1
 obtain⟨u,p2⟩:=gA ka e2
 rw[eE e1,eE e2]at h
 rw[ltAt'_eq]
 refine wpS_bind (wpS_get ?_)
 show wpS _ _ _ _ (do let x <- elem' (arrOf st) i;let y <- elem' (arrOf st) j;lt' x y) Q st
 exact wpS_bind (bF e1 (wpS_bind (bF e2 (xf hk p1 p2 h))))
theorem Cq {st:SortSt}{lo c7:Nat}{Q:Option Nat->SortSt->Prop} (hk:kindOf st=oneType') (ka:gO (arrOf st)) (hz:lo+c7<=(arrOf st).size) (h1:1<=c7)
  (h:∀ m aE,kL st aE lo (lo+c7)->1<=m->m<=c7->jz (arrOf aE) lo m->Q (some m) aE):wpS (model prog w) A E s (countRun' lo c7) Q st:=by
 rw[countRun'_eq]
 refine wpS_bind (wpS_mono (wpS_forRange (I:=fun x c aE=>st=aE∧c=(none,x)∧jz (arrOf st) lo x) (Q:=fun c aE=>st=aE∧∃ x,c=(none,x)∧1<=x∧x<=c7∧jz (arrOf st) lo x∧(x=c7∨Kr (arrOf st) (lo+x) < Kr (arrOf st) (lo+x - 1))) (fun x c aE tI IG => ?_) (fun c aE => ?_) ⟨rfl,rfl,fun i j jw hj=>by rw[show i=j by omega];exact gW _⟩) (fun c aE => ?_))
 ·rintro⟨rfl,rfl,so⟩
  dsimp only
  refine wpS_bind (wpS_ltK hk ka (by omega) (by omega) ?_)
  dsimp only
  by_cases hl:Kr (arrOf st) (lo+x) < Kr (arrOf st) (lo+x - 1)
  ·rw[decide_eq_true hl,if_pos rfl]
   exact wpS_pure ⟨rfl,x,rfl,tI,by omega,so,.inr hl⟩
  ·rw[decide_eq_false hl,if_neg (by decide)]
   exact wpS_pure ⟨rfl,rfl,so.snoc tI (by rw[show lo+(x - 1)=lo+x - 1 by omega];omega)⟩
 ·rintro⟨rfl,rfl,so⟩
  rw[show max 1 c7=c7 by omega]at so
  exact⟨rfl,c7,by rw[show max 1 c7=c7 by omega],h1,ao _,so,.inl rfl⟩
 ·rintro⟨rfl,n,rfl,n1,n2,so,or⟩
  dsimp only
  by_cases hn:(n == c7)=true
  ·rw[if_pos hn]
   exact wpS_pure (h n st (kL.refl _ _ _) n1 n2 so)
  rw[if_neg hn]
  have Vi:n≠c7:=fun z=>hn (beq_iff_eq.mpr z)
  have cS:=or.resolve_left Vi
  by_cases hg:n > 1
  ·rw[if_pos hg]
   refine wpS_bind (wpS_ltK hk ka (by omega) (by omega) ?_)
   dsimp only
   by_cases hr:Kr (arrOf st) lo < Kr (arrOf st) (lo+n - 1)
   ·rw[decide_eq_true hr,if_pos rfl]
    exact wpS_pure (h n st (kL.refl _ _ _) n1 n2 so)
   ·rw[decide_eq_false hr,if_neg (by decide)]
    refine wpS_bind (wpS_reverse ?_)
    have all:∀ k,lo<=k->k < lo+n->Kr (arrOf st) k=Kr (arrOf st) (lo+n - 1):=fun k k1 k2=>by
     have a1:=so 0 (k - lo) (by omega) (by omega)
     have a2:=so (k - lo) (n - 1) (by omega) (by omega)
     rw[mN,show lo+(k - lo)=k by omega]at a1
     rw[show lo+(k - lo)=k by omega,show lo+(n - 1)=lo+n - 1 by omega]at a2
     omega
    have B3:=(kL.refl st lo (lo+c7)).rev (i:=lo) (j:=lo+n) (ao _) (by omega) hz
    have eK:∀ k,Kr (mirror (arrOf st) lo (lo+n) ((lo+n - lo) / 2)) k=Kr (arrOf st) k:=K_mirror_equal (by omega) all
    have QZ:kX (arrOf (setArr st (mirror (arrOf st) lo (lo+n) ((lo+n - lo) / 2)))) lo (n+1):=kX.congr (xs:=arrOf st) (kX.snoc (fun i j jw hj=>by rw[all (lo+i) (by omega) (by omega),all (lo+j) (by omega) (by omega)];exact gW _) n1 (by rw[show lo+(n - 1)=lo+n - 1 by omega];omega)) eK
    generalize setArr st (mirror (arrOf st) lo (lo+n) ((lo+n - lo) / 2))=HV at B3 QZ
    refine wpS_bind (wpS_lift (wpAny_rule ⟨rfl,?_⟩))
    refine wpS_bind (wpS_mono (wpS_forRange (I:=fun x c aE=>∃ gM,c=(none,x,gM)∧kL st aE lo (lo+c7)∧kX (arrOf aE) lo x∧gM+1<=x∧(∀ i,x - (gM+1)<=i->i < x->Kr (arrOf aE) (lo+i)=Kr (arrOf aE) (lo+(x - 1))))
     (Q:=fun c aE=>∃ m gM,c=(none,m,gM)∧n+1<=m∧m<=c7∧kL st aE lo (lo+c7)∧kX (arrOf aE) lo m∧gM+1<=m∧(∀ i,m - (gM+1)<=i->i < m->Kr (arrOf aE) (lo+i)=Kr (arrOf aE) (lo+(m - 1)))) (fun x c aE tI IG => ?_) (fun c aE => ?_) ⟨0,rfl,B3,QZ,by omega,fun i q1 q2=>by rw[show i=n+1 - 1 by omega]⟩) (fun c aE => ?_))
    ·rintro⟨gM,rfl,B,ni,q,qL⟩
     dsimp only
     have sz:=B.size
     refine wpS_bind (wpS_ltK (B.kind.trans hk) (B.keys ka) (by omega) (by omega) ?_)
     dsimp only
     by_cases hl:Kr (arrOf aE) (lo+x) < Kr (arrOf aE) (lo+x - 1)
     ·rw[decide_eq_true hl,if_pos rfl]
      have n6:∀ xs:Array Keyed,(∀ k,Kr xs k=Kr (arrOf aE) k)->kX xs lo (x+1):=fun xs e=>(ni.snoc (by omega) (by rw[show lo+(x - 1)=lo+x - 1 by omega];omega)).congr e
      by_cases hq:gM > 0
      ·rw[if_pos hq]
       refine wpS_bind (wpS_reverse (wpS_pure ⟨0,rfl,B.rev (by omega) (by omega) hz,n6 _ (K_mirror_equal (by omega) fun k q1 q2 => ?_),by omega,fun i q1 q2=>by rw[show i=x+1 - 1 by omega]⟩))
       have:=qL (k - lo) (by omega) (by omega)
       rw[show lo+(k - lo)=k by omega,show lo+(x - 1)=lo+x - 1 by omega]at this
       exact this
      ·rw[if_neg hq]
       exact wpS_pure ⟨0,rfl,B,n6 _ (fun _=>rfl),by omega,fun i q1 q2=>by rw[show i=x+1 - 1 by omega]⟩
     ·rw[decide_eq_false hl,if_neg (by decide)]
      refine wpS_bind (wpS_ltK (B.kind.trans hk) (B.keys ka) (by omega) (by omega) ?_)
      dsimp only
      by_cases hg:Kr (arrOf aE) (lo+x - 1) < Kr (arrOf aE) (lo+x)
      ·rw[decide_eq_true hg,if_pos rfl]
       exact wpS_pure ⟨x,gM,rfl,by omega,by omega,B,ni,q,qL⟩
      ·rw[decide_eq_false hg,if_neg (by decide)]
       have ex:Kr (arrOf aE) (lo+x)=Kr (arrOf aE) (lo+(x - 1)):=by rw[show lo+(x - 1)=lo+x - 1 by omega];omega
       refine wpS_pure ⟨gM+1,rfl,B,ni.snoc (by omega) (by omega),by omega,fun i q1 q2 => ?_⟩
       rw[show x+1 - 1=x by omega]
       by_cases Vo:i=x
       ·rw[Vo]
       ·rw[ex];exact qL i (by omega) (by omega)
    ·rintro⟨gM,rfl,B,ni,q,qL⟩
     rw[show max (n+1) c7=c7 by omega]at ni q qL
     exact⟨c7,gM,by rw[show max (n+1) c7=c7 by omega],by omega,ao _,B,ni,q,qL⟩
    ·rintro⟨m,gM,rfl,m1,m2,B,ni,q,qL⟩
     dsimp only
     have sz:=B.size
     by_cases hq:gM > 0
     ·rw[if_pos hq]
      refine wpS_bind (wpS_reverse ?_)
      have B4:=B.rev (i:=lo+m - (gM+1)) (j:=lo+m) (by omega) (by omega) hz
      have xK:kX (arrOf (setArr aE (mirror (arrOf aE) (lo+m - (gM+1)) (lo+m) ((lo+m - (lo+m - (gM+1))) / 2)))) lo m:=ni.congr (K_mirror_equal (by omega) fun k q1 q2=>by
       have:=qL (k - lo) (by omega) (by omega)
       rw[show lo+(k - lo)=k by omega,show lo+(m - 1)=lo+m - 1 by omega]at this
       exact this)
      generalize setArr aE (mirror (arrOf aE) (lo+m - (gM+1)) (lo+m) ((lo+m - (lo+m - (gM+1))) / 2))=ke at B4 xK
      refine wpS_bind (wpS_reverse ?_)
      have B5:=B4.rev (i:=lo) (j:=lo+m) (ao _) (by omega) hz
      have xp:jz (arrOf (setArr ke (mirror (arrOf ke) lo (lo+m) ((lo+m - lo) / 2)))) lo m:=fun i j jw hj=>by
       show Kr (mirror (arrOf ke) lo (lo+m) ((lo+m - lo) / 2)) (lo+i)<=Kr (mirror (arrOf ke) lo (lo+m) ((lo+m - lo) / 2)) (lo+j)
       rw[K_mirror (by rw[B4.size];omega),K_mirror (by rw[B4.size];omega),if_pos (by omega),if_pos (by omega),show lo+(lo+m) - 1 - (lo+i)=lo+(m - 1 - i) by omega,show lo+(lo+m) - 1 - (lo+j)=lo+(m - 1 - j) by omega]
       exact xK _ _ (by omega) (by omega)
      generalize setArr ke (mirror (arrOf ke) lo (lo+m) ((lo+m - lo) / 2))=gv at B5 xp
      refine wpS_bind (wpS_mono (wpS_forRange (I:=fun x c aE=>gv=aE∧c=(none,x)∧jz (arrOf gv) lo x) (Q:=fun c aE=>gv=aE∧∃ x,c=(none,x)∧1<=x∧x<=c7∧jz (arrOf gv) lo x) (fun x c aE tI IG => ?_) (fun c aE => ?_) ⟨rfl,rfl,xp⟩) (fun c aE => ?_))
      ·rintro⟨rfl,rfl,so⟩
       dsimp only
       refine wpS_bind (wpS_ltK (B5.kind.trans hk) (B5.keys ka) (by rw[B5.size];omega) (by rw[B5.size];omega) ?_)
       dsimp only
       by_cases hl:Kr (arrOf gv) (lo+x) < Kr (arrOf gv) (lo+x - 1)
       ·rw[decide_eq_true hl,if_pos rfl]
        exact wpS_pure ⟨rfl,x,rfl,by omega,by omega,so⟩
       ·rw[decide_eq_false hl,if_neg (by decide)]
        exact wpS_pure ⟨rfl,rfl,so.snoc (by omega) (by rw[show lo+(x - 1)=lo+x - 1 by omega];omega)⟩
      ·rintro⟨rfl,rfl,so⟩
       rw[show max m c7=c7 by omega]at so
       exact⟨rfl,c7,by rw[show max m c7=c7 by omega],by omega,ao _,so⟩
      ·rintro⟨rfl,x,rfl,x1,x2,so⟩
       exact wpS_pure (h x gv B5 x1 x2 so)
     ·rw[if_neg hq]
      have B4:=B
      have xK:=ni
      generalize aE=ke at B4 xK
      refine wpS_bind (wpS_reverse ?_)
      have B5:=B4.rev (i:=lo) (j:=lo+m) (ao _) (by omega) hz
      have xp:jz (arrOf (setArr ke (mirror (arrOf ke) lo (lo+m) ((lo+m - lo) / 2)))) lo m:=fun i j jw hj=>by
       show Kr (mirror (arrOf ke) lo (lo+m) ((lo+m - lo) / 2)) (lo+i)<=Kr (mirror (arrOf ke) lo (lo+m) ((lo+m - lo) / 2)) (lo+j)
       rw[K_mirror (by rw[B4.size];omega),K_mirror (by rw[B4.size];omega),if_pos (by omega),if_pos (by omega),show lo+(lo+m) - 1 - (lo+i)=lo+(m - 1 - i) by omega,show lo+(lo+m) - 1 - (lo+j)=lo+(m - 1 - j) by omega]
       exact xK _ _ (by omega) (by omega)
      generalize setArr ke (mirror (arrOf ke) lo (lo+m) ((lo+m - lo) / 2))=gv at B5 xp
      refine wpS_bind (wpS_mono (wpS_forRange (I:=fun x c aE=>gv=aE∧c=(none,x)∧jz (arrOf gv) lo x) (Q:=fun c aE=>gv=aE∧∃ x,c=(none,x)∧1<=x∧x<=c7∧jz (arrOf gv) lo x) (fun x c aE tI IG => ?_) (fun c aE => ?_) ⟨rfl,rfl,xp⟩) (fun c aE => ?_))
      ·rintro⟨rfl,rfl,so⟩
       dsimp only
       refine wpS_bind (wpS_ltK (B5.kind.trans hk) (B5.keys ka) (by rw[B5.size];omega) (by rw[B5.size];omega) ?_)
       dsimp only
       by_cases hl:Kr (arrOf gv) (lo+x) < Kr (arrOf gv) (lo+x - 1)
       ·rw[decide_eq_true hl,if_pos rfl]
        exact wpS_pure ⟨rfl,x,rfl,by omega,by omega,so⟩
       ·rw[decide_eq_false hl,if_neg (by decide)]
        exact wpS_pure ⟨rfl,rfl,so.snoc (by omega) (by rw[show lo+(x - 1)=lo+x - 1 by omega];omega)⟩
      ·rintro⟨rfl,rfl,so⟩
       rw[show max m c7=c7 by omega]at so
       exact⟨rfl,c7,by rw[show max m c7=c7 by omega],by omega,ao _,so⟩
      ·rintro⟨rfl,x,rfl,x1,x2,so⟩
       exact wpS_pure (h x gv B5 x1 x2 so)
  ·rw[if_neg hg]
   have e1:n=1:=by omega
   have B3:=kL.refl st lo (lo+c7)
   have QZ:kX (arrOf st) lo (n+1):=kX.snoc (fun i j jw hj=>by rw[show i=j by omega];exact gW _) n1 (by rw[show lo+(n - 1)=lo+n - 1 by omega];omega)
   refine wpS_bind (wpS_lift (wpAny_rule ⟨rfl,?_⟩))
   refine wpS_bind (wpS_mono (wpS_forRange (I:=fun x c aE=>∃ gM,c=(none,x,gM)∧kL st aE lo (lo+c7)∧kX (arrOf aE) lo x∧gM+1<=x∧(∀ i,x - (gM+1)<=i->i < x->Kr (arrOf aE) (lo+i)=Kr (arrOf aE) (lo+(x - 1))))
    (Q:=fun c aE=>∃ m gM,c=(none,m,gM)∧n+1<=m∧m<=c7∧kL st aE lo (lo+c7)∧kX (arrOf aE) lo m∧gM+1<=m∧(∀ i,m - (gM+1)<=i->i < m->Kr (arrOf aE) (lo+i)=Kr (arrOf aE) (lo+(m - 1)))) (fun x c aE tI IG => ?_) (fun c aE => ?_) ⟨0,rfl,B3,QZ,by omega,fun i q1 q2=>by rw[show i=n+1 - 1 by omega]⟩) (fun c aE => ?_))
   ·rintro⟨gM,rfl,B,ni,q,qL⟩
    dsimp only
    have sz:=B.size
    refine wpS_bind (wpS_ltK (B.kind.trans hk) (B.keys ka) (by omega) (by omega) ?_)
    dsimp only
    by_cases hl:Kr (arrOf aE) (lo+x) < Kr (arrOf aE) (lo+x - 1)
    ·rw[decide_eq_true hl,if_pos rfl]
     have n6:∀ xs:Array Keyed,(∀ k,Kr xs k=Kr (arrOf aE) k)->kX xs lo (x+1):=fun xs e=>(ni.snoc (by omega) (by rw[show lo+(x - 1)=lo+x - 1 by omega];omega)).congr e
     by_cases hq:gM > 0
     ·rw[if_pos hq]
      refine wpS_bind (wpS_reverse (wpS_pure ⟨0,rfl,B.rev (by omega) (by omega) hz,n6 _ (K_mirror_equal (by omega) fun k q1 q2 => ?_),by omega,fun i q1 q2=>by rw[show i=x+1 - 1 by omega]⟩))
      have:=qL (k - lo) (by omega) (by omega)
      rw[show lo+(k - lo)=k by omega,show lo+(x - 1)=lo+x - 1 by omega]at this
      exact this
     ·rw[if_neg hq]
      exact wpS_pure ⟨0,rfl,B,n6 _ (fun _=>rfl),by omega,fun i q1 q2=>by rw[show i=x+1 - 1 by omega]⟩
    ·rw[decide_eq_false hl,if_neg (by decide)]
     refine wpS_bind (wpS_ltK (B.kind.trans hk) (B.keys ka) (by omega) (by omega) ?_)
     dsimp only
     by_cases hg:Kr (arrOf aE) (lo+x - 1) < Kr (arrOf aE) (lo+x)
     ·rw[decide_eq_true hg,if_pos rfl]
      exact wpS_pure ⟨x,gM,rfl,by omega,by omega,B,ni,q,qL⟩
     ·rw[decide_eq_false hg,if_neg (by decide)]
      have ex:Kr (arrOf aE) (lo+x)=Kr (arrOf aE) (lo+(x - 1)):=by rw[show lo+(x - 1)=lo+x - 1 by omega];omega
      refine wpS_pure ⟨gM+1,rfl,B,ni.snoc (by omega) (by omega),by omega,fun i q1 q2 => ?_⟩
      rw[show x+1 - 1=x by omega]
      by_cases Vo:i=x
      ·rw[Vo]
      ·rw[ex];exact qL i (by omega) (by omega)
   ·rintro⟨gM,rfl,B,ni,q,qL⟩
    rw[show max (n+1) c7=c7 by omega]at ni q qL
    exact⟨c7,gM,by rw[show max (n+1) c7=c7 by omega],by omega,ao _,B,ni,q,qL⟩
   ·rintro⟨m,gM,rfl,m1,m2,B,ni,q,qL⟩
    dsimp only
    have sz:=B.size
    by_cases hq:gM > 0
    ·rw[if_pos hq]
     refine wpS_bind (wpS_reverse ?_)
     have B4:=B.rev (i:=lo+m - (gM+1)) (j:=lo+m) (by omega) (by omega) hz
     have xK:kX (arrOf (setArr aE (mirror (arrOf aE) (lo+m - (gM+1)) (lo+m) ((lo+m - (lo+m - (gM+1))) / 2)))) lo m:=ni.congr (K_mirror_equal (by omega) fun k q1 q2=>by
      have:=qL (k - lo) (by omega) (by omega)
      rw[show lo+(k - lo)=k by omega,show lo+(m - 1)=lo+m - 1 by omega]at this
      exact this)
     generalize setArr aE (mirror (arrOf aE) (lo+m - (gM+1)) (lo+m) ((lo+m - (lo+m - (gM+1))) / 2))=ke at B4 xK
     refine wpS_bind (wpS_reverse ?_)
     have B5:=B4.rev (i:=lo) (j:=lo+m) (ao _) (by omega) hz
     have xp:jz (arrOf (setArr ke (mirror (arrOf ke) lo (lo+m) ((lo+m - lo) / 2)))) lo m:=fun i j jw hj=>by
      show Kr (mirror (arrOf ke) lo (lo+m) ((lo+m - lo) / 2)) (lo+i)<=Kr (mirror (arrOf ke) lo (lo+m) ((lo+m - lo) / 2)) (lo+j)
      rw[K_mirror (by rw[B4.size];omega),K_mirror (by rw[B4.size];omega),if_pos (by omega),if_pos (by omega),show lo+(lo+m) - 1 - (lo+i)=lo+(m - 1 - i) by omega,show lo+(lo+m) - 1 - (lo+j)=lo+(m - 1 - j) by omega]
      exact xK _ _ (by omega) (by omega)
     generalize setArr ke (mirror (arrOf ke) lo (lo+m) ((lo+m - lo) / 2))=gv at B5 xp
     refine wpS_bind (wpS_mono (wpS_forRange (I:=fun x c aE=>gv=aE∧c=(none,x)∧jz (arrOf gv) lo x) (Q:=fun c aE=>gv=aE∧∃ x,c=(none,x)∧1<=x∧x<=c7∧jz (arrOf gv) lo x) (fun x c aE tI IG => ?_) (fun c aE => ?_) ⟨rfl,rfl,xp⟩) (fun c aE => ?_))
     ·rintro⟨rfl,rfl,so⟩
      dsimp only
      refine wpS_bind (wpS_ltK (B5.kind.trans hk) (B5.keys ka) (by rw[B5.size];omega) (by rw[B5.size];omega) ?_)
      dsimp only
      by_cases hl:Kr (arrOf gv) (lo+x) < Kr (arrOf gv) (lo+x - 1)
      ·rw[decide_eq_true hl,if_pos rfl]
       exact wpS_pure ⟨rfl,x,rfl,by omega,by omega,so⟩
      ·rw[decide_eq_false hl,if_neg (by decide)]
       exact wpS_pure ⟨rfl,rfl,so.snoc (by omega) (by rw[show lo+(x - 1)=lo+x - 1 by omega];omega)⟩
     ·rintro⟨rfl,rfl,so⟩
      rw[show max m c7=c7 by omega]at so
      exact⟨rfl,c7,by rw[show max m c7=c7 by omega],by omega,ao _,so⟩
     ·rintro⟨rfl,x,rfl,x1,x2,so⟩
      exact wpS_pure (h x gv B5 x1 x2 so)
    ·rw[if_neg hq]
     have B4:=B
     have xK:=ni
     generalize aE=ke at B4 xK
     refine wpS_bind (wpS_reverse ?_)
     have B5:=B4.rev (i:=lo) (j:=lo+m) (ao _) (by omega) hz
     have xp:jz (arrOf (setArr ke (mirror (arrOf ke) lo (lo+m) ((lo+m - lo) / 2)))) lo m:=fun i j jw hj=>by
      show Kr (mirror (arrOf ke) lo (lo+m) ((lo+m - lo) / 2)) (lo+i)<=Kr (mirror (arrOf ke) lo (lo+m) ((lo+m - lo) / 2)) (lo+j)
      rw[K_mirror (by rw[B4.size];omega),K_mirror (by rw[B4.size];omega),if_pos (by omega),if_pos (by omega),show lo+(lo+m) - 1 - (lo+i)=lo+(m - 1 - i) by omega,show lo+(lo+m) - 1 - (lo+j)=lo+(m - 1 - j) by omega]
      exact xK _ _ (by omega) (by omega)
     generalize setArr ke (mirror (arrOf ke) lo (lo+m) ((lo+m - lo) / 2))=gv at B5 xp
     refine wpS_bind (wpS_mono (wpS_forRange (I:=fun x c aE=>gv=aE∧c=(none,x)∧jz (arrOf gv) lo x) (Q:=fun c aE=>gv=aE∧∃ x,c=(none,x)∧1<=x∧x<=c7∧jz (arrOf gv) lo x) (fun x c aE tI IG => ?_) (fun c aE => ?_) ⟨rfl,rfl,xp⟩) (fun c aE => ?_))
     ·rintro⟨rfl,rfl,so⟩
      dsimp only
      refine wpS_bind (wpS_ltK (B5.kind.trans hk) (B5.keys ka) (by rw[B5.size];omega) (by rw[B5.size];omega) ?_)
      dsimp only
      by_cases hl:Kr (arrOf gv) (lo+x) < Kr (arrOf gv) (lo+x - 1)
      ·rw[decide_eq_true hl,if_pos rfl]
       exact wpS_pure ⟨rfl,x,rfl,by omega,by omega,so⟩
      ·rw[decide_eq_false hl,if_neg (by decide)]
       exact wpS_pure ⟨rfl,rfl,so.snoc (by omega) (by rw[show lo+(x - 1)=lo+x - 1 by omega];omega)⟩
     ·rintro⟨rfl,rfl,so⟩
      rw[show max m c7=c7 by omega]at so
      exact⟨rfl,c7,by rw[show max m c7=c7 by omega],by omega,ao _,so⟩
     ·rintro⟨rfl,x,rfl,x1,x2,so⟩
      exact wpS_pure (h x gv B5 x1 x2 so)
end
theorem kL.move {st aE:SortSt}{lo hi wI d:Nat} (h:kL st aE lo hi) (h1:lo+d<=wI) (h2:wI < hi) (hz:hi<=(arrOf st).size):kL st (setArr aE (bubble (arrOf aE) wI d)) lo hi:=by
 refine⟨(bubble_perm _ _ _).trans h.perm,fun k hk => ?_,h.kind,h.fail,h.pend⟩
 show (bubble (arrOf aE) wI d)[k]? = _
 rw[getElem?_bubble (by rw[h.size];omega) d (by omega),if_neg (by omega),if_neg (by omega)]
 exact h.out k hk
section
variable {prog:Program}{w:World}{A:Around}{E:Value->Shared->Prop}{s:Shared} [kz prog w A s]
theorem zZ {st:SortSt}{lo n ok:Nat}{Q:Bool->SortSt->Prop} (hk:kindOf st=oneType') (ka:gO (arrOf st)) (hz:lo+n<=(arrOf st).size) (bw:ok<=n) (so:jz (arrOf st) lo ok)
  (h:∀ aE,kL st aE lo (lo+n)->jz (arrOf aE) lo n->Q true aE):wpS (model prog w) A E s (binarySort' lo n ok) Q st:=by
 rw[binarySort'_eq]
 refine wpS_bind (wpS_mono (wpS_forRange (I:=fun k c aE=>c=(none,())∧kL st aE lo (lo+n)∧jz (arrOf aE) lo (min k n))
  (Q:=fun c aE=>c=(none,())∧kL st aE lo (lo+n)∧jz (arrOf aE) lo n) (fun k c aE Nc rh => ?_) (fun c aE => ?_) ⟨rfl,kL.refl _ _ _,fun i j jw hj => ?_⟩) (fun c aE => ?_))
 ·rintro⟨rfl,B,uG⟩
  rw[show min k n=k by omega]at uG
  have sz:=B.size
  refine wpS_bind (wpS_mono (wpS_forRange (I:=fun x c kg=>aE=kg∧∃ l r,c=(none,l,r)∧l<=r∧r<=k∧r - l<=k - x ∧
    (∀ i,i < l->Kr (arrOf aE) (lo+i)<=Kr (arrOf aE) (lo+k))∧(∀ i,r<=i->i < k->Kr (arrOf aE) (lo+k) < Kr (arrOf aE) (lo+i)))
   (Q:=fun c kg=>aE=kg∧∃ l r,c=(none,l,r)∧l<=k ∧
    (∀ i,i < l->Kr (arrOf aE) (lo+i)<=Kr (arrOf aE) (lo+k))∧(∀ i,l<=i->i < k->Kr (arrOf aE) (lo+k) < Kr (arrOf aE) (lo+i))) (fun x c kg _ hx => ?_) (fun c kg => ?_) ⟨rfl,0,k,rfl,by omega,by omega,by omega,fun i hi=>by omega,fun i q1 q2=>by omega⟩) (fun c kg => ?_))
  ·rintro⟨rfl,l,r,rfl,l1,l2,l3,l4,l5⟩
   dsimp only
   by_cases lX:l ≥ r
   ·rw[if_pos lX]
    have:l=r:=by omega
    subst this
    exact wpS_pure ⟨rfl,l,l,rfl,l2,l4,l5⟩
   ·rw[if_neg lX]
    refine wpS_bind (wpS_ltK (B.kind.trans hk) (B.keys ka) (by omega) (by omega) ?_)
    dsimp only
    by_cases Eu:Kr (arrOf aE) (lo+k) < Kr (arrOf aE) (lo+(l+r) / 2)
    ·rw[decide_eq_true Eu,if_pos rfl]
     refine wpS_pure ⟨rfl,l,(l+r) / 2,rfl,by omega,by omega,by omega,l4,fun i q1 q2 => ?_⟩
     exact mR Eu (uG _ _ q1 q2)
    ·rw[decide_eq_false Eu,if_neg (by decide)]
     refine wpS_pure ⟨rfl,(l+r) / 2+1,r,rfl,by omega,by omega,by omega,fun i q1 => ?_,l5⟩
     exact iR (uG i ((l+r) / 2) (by omega) (by omega)) (Int.not_lt.mp Eu)
  ·rintro⟨rfl,l,r,rfl,l1,l2,l3,l4,l5⟩
   have:l=r:=by omega
   subst this
   exact⟨rfl,l,l,rfl,l2,l4,l5⟩
  ·rintro⟨rfl,l,r,rfl,lk,l4,l5⟩
   show wpS _ _ _ _ (do moveDown' (lo+k) (lo+l);pure (mh (none,()))) _ _
   rw[moveDown'_eq]
   have IT:lo+k < (arrOf aE).size:=by omega
   refine wpS_bind (wpS_modify (wpS_pure ⟨rfl,B.move (by omega) (by omega) (by omega),?_⟩))
   rw[show min (k+1) n=k+1 by omega]
   intro i j jw hj
   show Kr (bubble (arrOf aE) (lo+k) (lo+k - (lo+l))) (lo+i)<=Kr (bubble (arrOf aE) (lo+k) (lo+k - (lo+l))) (lo+j)
   rw[K_bubble IT (by omega),K_bubble IT (by omega),show lo+k - (lo+k - (lo+l))=lo+l by omega]
   have sub:∀ q,1<=q->lo+q - 1=lo+(q - 1):=fun q hq=>by omega
   repeat' split
   all_goals first
    | (exfalso;omega)
    | exact gW _
    | exact l4 _ (by omega)
    | exact uG _ _ (by omega) (by omega)
    | (rw[sub _ (by omega)];exact Int.le_of_lt (l5 _ (by omega) (by omega)))
    | (rw[sub _ (by omega),sub _ (by omega)];exact uG _ _ (by omega) (by omega))
    | (rw[sub _ (by omega)];exact uG _ _ (by omega) (by omega))
 ·rintro⟨rfl,B,uG⟩
  rw[show min (max (max ok 1) n) n=n by omega]at uG
  exact⟨rfl,B,uG⟩
 ·by_cases h0:ok=0
  ·rw[show i=j by omega];exact gW _
  ·exact so i j jw (by omega)
 ·rintro⟨rfl,B,uG⟩
  exact wpS_pure (h aE B uG)
end
def kO:Nat->List (List Keyed)->List (Nat × Nat)
 | _, [] => []
 | o,x :: l=>(o,x.length) :: kO (o+x.length) l
def pr (q:Nat × Nat × Nat):Nat × Nat:=(q.1,q.2.1)
theorem vO:∀ (A B:List (List Keyed)) (o:Nat),kO o (A ++ B)=kO o A ++ kO (o+A.flatten.length) B
 | [],B,o=>by simp[kO]
 | x :: A,B,o=>by
  rw[cU,kO,kO,vO A B,ik,au,gE]
  rfl
theorem nP:∀ (A:List (List Keyed)) (o:Nat),(kO o A).length=A.length
 | [],o=>rfl
 | x :: A,o=>by rw[kO,bB,bB,nP A]
structure RI (a₀ : List Keyed) (st:SortSt) (segs:List (List Keyed)) (R:List Keyed):Prop where
 kind:kindOf st=oneType'
 fail:failedOf st=none
 perm:(arrOf st).toList.Perm a₀
 ar:(arrOf st).toList=segs.flatten ++ R
 pd:(pendingOf st).toList.map pr=kO 0 segs
 so:∀ x∈segs,fG x∧0 < x.length
section
variable {a₀ : List Keyed}{st:SortSt}{segs:List (List Keyed)}{R:List Keyed}
theorem RI.keys (h:RI a₀ st segs R) (ka:∀ p∈a₀,∃ n t,yE p.1 n t):gO (arrOf st):=fun p hp=>ka p (h.perm.mem_iff.mp hp)
theorem RI.size (h:RI a₀ st segs R):(arrOf st).size=a₀.length:=by rw[<- bq];exact h.perm.length_eq
theorem RI.Fl (h:RI a₀ st segs R):(pendingOf st).size=segs.length:=by
 have:=congrArg jq h.pd
 rw[aj,nP,bq]at this
 exact this
theorem Ie:∀ {segs:List (List Keyed)},(∀ x∈segs,fG x∧0 < x.length)->segs.length<=segs.flatten.length
 | [],_=>aS _
 | x :: l,h=>by
  have ih:=Ie (segs:=l) fun y hy=>h y (aI _ hy)
  have:=(h x aU).2
  rw[ik,au,bB]
  omega
theorem Jx:∀ (l:List (List Keyed)) (i:Nat),i+1 < l.length->∃ A X Y B,l=A ++ (X :: Y :: B)∧A.length=i
 | x :: y :: l,0,_=>⟨[],x,y,l,rfl,rfl⟩
 | [x],0,h=>by simp at h
 | [],i,h=>by simp at h
 | x :: l,i+1,h=>by
  obtain⟨A,X,Y,B,e,n⟩:=Jx l i (by simpa using h)
  exact⟨x :: A,X,Y,B,by rw[e];rfl,by rw[bB,n]⟩
theorem Il (h:RI a₀ st segs R) {i o n:Nat} (e:(kO 0 segs)[i]? = some (o,n)):∃ c,(pendingOf st)[i]? = some (o,n,c):=by
 rw[<- h.pd,aH]at e
 obtain⟨q,hq,e2⟩:=bS.mp e
 refine⟨q.2.2,?_⟩
 have e3:(pendingOf st)[i]? = some q:=by rw[<- kG];exact hq
 rw[e3]
 cases q with
 | mk q1 q2=>cases e2;rfl
theorem DE {α β : Type} (f : α -> β):∀ (l:List α) (i:Nat),(l.eraseIdx i).map f=(l.map f).eraseIdx i
 | [],i=>rfl
 | x :: l,0=>rfl
 | x :: l,i+1=>by rw[jH,aJ,aJ,jH,DE f l i]
theorem Dx {α : Type}:∀ (A B:List α) (x y v : α) ,((A ++ (x :: y :: B)).set A.length v).eraseIdx (A.length+1)=A ++ (v :: B)
 | [],B,x,y,v=>rfl
 | a :: A,B,x,y,v=>by
  have:=Dx A B x y v
  simp only[cU,bB,List.set_cons_succ,jH,this]
section
variable {prog:Program}{w:World}{A:Around}{E:Value->Shared->Prop}{s:Shared} [kz prog w A s]
theorem t5 {i:Nat}{Q:Bool->SortSt->Prop} (h:RI a₀ st segs R) (ka:∀ p∈a₀,∃ n t,yE p.1 n t) (hi:i+1 < segs.length)
  (q:∀ aE Kq,RI a₀ aE Kq R->Kq.length+1=segs.length->Kq.flatten.length=segs.flatten.length->Q true aE):wpS (model prog w) A E s (mergeAt' i) Q st:=by
 obtain⟨C,X,Y,D,e,hc⟩:=Jx segs i hi
 subst hc
 subst e
 have hX:=h.so X (by simp)
 have hY:=h.so Y (by simp)
 have ha:(arrOf st).toList=C.flatten ++ (X ++ (Y ++ (D.flatten ++ R))):=by rw[h.ar];simp
 have eo:kO 0 (C ++ (X :: Y :: D))=kO 0 C ++ ((C.flatten.length,X.length) :: (C.flatten.length+X.length,Y.length) :: kO (C.flatten.length+X.length+Y.length) D):=by
  rw[vO,cO,kO,kO]
 obtain⟨c1,p1⟩:=Il h (i:=C.length) (by rw[eo,dk (by rw[nP];exact ao _),nP,yt];rfl)
 obtain⟨c2,p2⟩:=Il h (i:=C.length+1) (by rw[eo,dk (by rw[nP];omega),nP,jG];rfl)
 refine Ht h.kind h.fail (h.keys ka) ha hX.1 hY.1 hX.2 hY.2 p1 p2 fun aE M sp ZN pm uG pd' => ?_
 have lm:M.length=X.length+Y.length:=by rw[pm.length_eq,au]
 refine q aE (C ++ (M :: D)) ⟨sp.kind.trans h.kind,sp.fail.trans h.fail,?_,by rw[ZN];simp,?_,fun x hx => ?_⟩ (by simp;omega) (by simp[lm];omega)
 ·refine mf ?_ h.perm
  rw[ZN,ha]
  refine fm _ ?_
  rw[<- aV X]
  exact jY _ pm
 ·rw[pd',Array.toList_eraseIdxIfInBounds,rf,DE,List.map_set,h.pd,eo]
  have:=Dx (kO 0 C) (kO (C.flatten.length+X.length+Y.length) D) (C.flatten.length,X.length) (C.flatten.length+X.length,Y.length) (C.flatten.length,X.length+Y.length)
  rw[nP]at this
  refine this.trans ?_
  rw[vO,cO,kO,lm,gE]
 ·rcases bg.mp hx with z | z
  ·exact h.so x (eO _ z)
  ·rcases aN.mp z with z | z
   ·subst z
    have:=hX.2
    exact⟨uG,by omega⟩
   ·exact h.so x (bE _ (aI _ (aI _ z)))
theorem KP {l m:List Keyed}{n:Nat} (h:l.take n=m):l=m ++ l.drop n:=by rw[<- h,c6]
theorem LY {arr:Array Keyed} {L R':List Keyed}{n:Nat} (h:arr.toList=L ++ R') (hn:n<=R'.length) (so:jz arr L.length n):fG (R'.take n):=by
 have e:∀ j,j < n->arr[L.length+j]? = R'[j]? := fun j hj=>by rw[cZ,h,dk (by omega),jG]
 refine md.mpr fun i j hi hj jw => ?_
 rw[bA]at hi hj
 have:=so i j (by omega) (by omega)
 have e1:arr[L.length+i]? = some R'[i]:=by rw[e i (by omega),ai (by omega)]
 have e2:arr[L.length+j]? = some R'[j]:=by rw[e j (by omega),ai (by omega)]
 rw[eE e1,eE e2]at this
 rw[zr,zr]
 exact this
theorem RI.ahead {aE:SortSt}{hi:Nat} (h:RI a₀ st segs R) (b:kL st aE segs.flatten.length hi):∃ R',RI a₀ aE segs R'∧R'.length=R.length:=by
 have ep:(arrOf aE).toList.take segs.flatten.length=segs.flatten:=by
  refine il fun k => ?_
  by_cases hk:k < segs.flatten.length
  ·rw[jC hk, <- cZ,b.out k (.inl hk),cZ,h.ar,gR hk]
  ·rw[d7 (by rw[bA];omega),d7 (by omega)]
 have ea:=KP ep
 have pm:=gF.mp b.perm
 refine⟨_,⟨b.kind.trans h.kind,b.fail.trans h.fail,pm.trans h.perm,ea,by rw[b.pend];exact h.pd,h.so⟩,?_⟩
 have l1:=pm.length_eq
 rw[h.ar,au]at l1
 rw[eP]
 omega
end
end
theorem Bf {α β : Type} (g : α -> β) (f : α -> α) (h:∀ x,g (f x)=g x):∀ (l:List α) (i:Nat),(l.modify i f).map g=l.map g
 | [],0=>rfl
 | [],i+1=>rfl
 | x :: l,0=>by simp[h]
 | x :: l,i+1=>by simp[Bf g f h l i]
theorem tN (segs:List (List Keyed)) (X:List Keyed):(segs ++ [X]).flatten.length=segs.flatten.length+X.length:=by simp
theorem RI.push {a₀ : List Keyed}{st:SortSt}{segs:List (List Keyed)}{R:List Keyed}{n:Nat} (h:RI a₀ st segs R) (hn:n<=R.length) (h1:1<=n) (so:fG (R.take n)):RI a₀ (setPending st ((pendingOf st).push (segs.flatten.length,n,0))) (segs ++ [R.take n]) (R.drop n):=by
 have ln:(R.take n).length=n:=by rw[bA];omega
 refine⟨h.kind,h.fail,h.perm,?_,?_,fun x hx => ?_⟩
 ·show (arrOf st).toList=_
  rw[h.ar,List.flatten_append]
  simp
 ·show (((pendingOf st).push (segs.flatten.length,n,0)).toList).map pr=_
  rw[cI,cf,h.pd,vO,cO]
  show _ ++ [(segs.flatten.length,n)]=_ ++ [(segs.flatten.length,(R.take n).length)]
  rw[ln]
 ·rcases bg.mp hx with z | z
  ·exact h.so x z
  ·rw[av.mp z]
   exact⟨so,by omega⟩
theorem RI.Md {a₀ : List Keyed}{st:SortSt}{segs:List (List Keyed)}{R:List Keyed}{i:Nat}{f:Nat × Nat × Nat->Nat × Nat × Nat} (h:RI a₀ st segs R) (hf:∀ q,pr (f q)=pr q):RI a₀ (setPending st ((pendingOf st).modify i f)) segs R:=by
 refine⟨h.kind,h.fail,h.perm,h.ar,?_,h.so⟩
 show (((pendingOf st).modify i f).toList).map pr=_
 rw[Array.toList_modify,Bf pr f hf]
 exact h.pd
section
variable {prog:Program}{w:World}{A:Around}{E:Value->Shared->Prop}{s:Shared} [kz prog w A s]
theorem Hq {st:SortSt}{a₀ : Array Keyed}{Q:Unit->SortSt->Prop} (h0:gO a₀) (hB:SBase a₀ st) (h2:2<=a₀.size)
  (h:∀ aE,(arrOf aE).Perm a₀ -> failedOf aE=none->Df (arrOf aE) a₀.size->Q () aE):wpS (model prog w) A E s sortRuns' Q st:=by
 have ka:∀ p∈a₀.toList,∃ n t,yE p.1 n t:=h0
 have ls:a₀.toList.length=a₀.size:=bq
 rw[sortRuns'_eq]
 refine wpS_bind (wpS_get ?_)
 try dsimp only
 simp only[hB.size]
 generalize minRun' a₀.size a₀.size 0=mr
 have I0:RI a₀.toList st [] (arrOf st).toList:=⟨hB.kind,hB.failed,gF.mp hB.perm,rfl,by rw[hB.pend];rfl,fun x hx=>nomatch hx⟩
 refine wpS_bind (wpS_mono (wpS_forRange (I:=fun x c aE=>∃ segs R lo,c=(none,lo)∧RI a₀.toList aE segs R∧lo=segs.flatten.length∧x<=lo)
  (Q:=fun c aE=>∃ segs lo,c=(none,lo)∧RI a₀.toList aE segs []) (fun x c aE _ hx => ?_) (fun c aE => ?_) ⟨[],_,0,rfl,I0,rfl,ao _⟩) (fun c aE => ?_))
 ·rintro⟨segs,R,lo,rfl,I,rfl,xl⟩
  try dsimp only
  have sz:=I.size
  have el:segs.flatten.length+R.length=a₀.size:=by
   have:=congrArg jq I.ar
   rw[au,bq]at this
   omega
  by_cases lX:segs.flatten.length ≥ a₀.size
  ·rw[if_pos lX]
   have:R = []:=fW.mp (by omega)
   subst this
   exact wpS_pure ⟨segs,_,rfl,I⟩
  rw[if_neg lX]
  refine wpS_bind (Cq I.kind (I.keys ka) (by omega) (by omega) fun n n6 B n1 n2 so => ?_)
  try dsimp only
  obtain⟨R1,I1,l1⟩:=I.ahead B
  by_cases hm:n < mr
  ·rw[if_pos hm]
   refine wpS_bind (wpS_lift (wpAny_rule ⟨rfl,?_⟩))
   have sz1:=I1.size
   refine wpS_bind (zZ I1.kind (I1.keys ka) (by omega) (by omega) so fun c9 B2 so2 => ?_)
   obtain⟨R2,I2,l2⟩:=I1.ahead B2
   simp only[lB,eG,if_false]
   have hX:=LY I2.ar (by omega) so2
   refine wpS_bind (wpS_get ?_)
   cases hb:(pendingOf c9).back? with
   | none =>
    try dsimp only
    exact wpS_bind (wpS_modify (wpS_pure ⟨segs ++ [R2.take (min (a₀.size - segs.flatten.length) mr)],R2.drop (min (a₀.size - segs.flatten.length) mr),_,rfl,I2.push (by omega) (by omega) hX,by rw[tN,bA];omega,by omega⟩))
   | some q =>
    obtain⟨s1,n1,p1⟩:=q
    try dsimp only
    have ne:1<=segs.length:=by
     rcases qR segs.length with z | z
     ·have e:=I2.Fl
      rw[z]at e
      have:pendingOf c9 = #[]:=jS e
      rw[this]at hb
      cases hb
     ·exact z
    refine wpS_bind (wpS_mono (wpS_forRange (I:=fun _ c aE=>c=(none,())∧∃ sg,RI a₀.toList aE sg R2∧sg.flatten.length=segs.flatten.length)
     (Q:=fun c aE=>c=(none,())∧∃ sg,RI a₀.toList aE sg R2∧sg.flatten.length=segs.flatten.length) (fun y c aE _ hy => ?_) (fun c aE z=>z) ⟨rfl,segs,I2,rfl⟩) (fun c aE => ?_))
    ·rintro⟨rfl,sg,J,fl⟩
     refine wpS_bind (wpS_get ?_)
     try dsimp only
     have pl:=J.Fl
     by_cases hp:(pendingOf aE).size > 1
     ·rw[if_pos hp]
      cases ho:(pendingOf aE)[(pendingOf aE).size - 2]? with
      | none=>exact wpS_pure ⟨rfl,sg,J,fl⟩
      | some q =>
       obtain⟨o1,o2,o3⟩:=q
       try dsimp only
       split
       ·exact wpS_pure ⟨rfl,sg,J,fl⟩
       ·refine wpS_bind (t5 J ka (by omega) fun HV L0 J3 l3 f3 => ?_)
        exact wpS_pure ⟨rfl,L0,J3,f3.trans fl⟩
     ·rw[if_neg hp]
      exact wpS_pure ⟨rfl,sg,J,fl⟩
    ·rintro⟨rfl,sg,J,fl⟩
     try dsimp only
     refine wpS_bind (wpS_modify ?_)
     have J2:=J.Md (i:=(pendingOf aE).size - 1) (f:=fun (q:Nat × Nat × Nat)=>match q with | (st,len,_)=>(st,len,power' a₀.size (2 * s1+n1) (2 * s1+n1+n1+(min (a₀.size - segs.flatten.length) mr)) a₀.size)) (fun q=>rfl)
     have J3:=J2.push (n:=(min (a₀.size - segs.flatten.length) mr)) (by omega) (by omega) hX
     rw[fl]at J3
     exact wpS_bind (wpS_modify (wpS_pure ⟨sg ++ [R2.take (min (a₀.size - segs.flatten.length) mr)],R2.drop (min (a₀.size - segs.flatten.length) mr),_,rfl,J3,by rw[tN,bA,fl];omega,by omega⟩))
  ·rw[if_neg hm]
   have hX:=LY I1.ar (by omega) so
   refine wpS_bind (wpS_get ?_)
   cases hb:(pendingOf n6).back? with
   | none =>
    try dsimp only
    exact wpS_bind (wpS_modify (wpS_pure ⟨segs ++ [R1.take n],R1.drop n,_,rfl,I1.push (by omega) (by omega) hX,by rw[tN,bA];omega,by omega⟩))
   | some q =>
    obtain⟨s1,n1,p1⟩:=q
    try dsimp only
    have ne:1<=segs.length:=by
     rcases qR segs.length with z | z
     ·have e:=I1.Fl
      rw[z]at e
      have:pendingOf n6 = #[]:=jS e
      rw[this]at hb
      cases hb
     ·exact z
    refine wpS_bind (wpS_mono (wpS_forRange (I:=fun _ c aE=>c=(none,())∧∃ sg,RI a₀.toList aE sg R1∧sg.flatten.length=segs.flatten.length)
     (Q:=fun c aE=>c=(none,())∧∃ sg,RI a₀.toList aE sg R1∧sg.flatten.length=segs.flatten.length) (fun y c aE _ hy => ?_) (fun c aE z=>z) ⟨rfl,segs,I1,rfl⟩) (fun c aE => ?_))
    ·rintro⟨rfl,sg,J,fl⟩
     refine wpS_bind (wpS_get ?_)
     try dsimp only
     have pl:=J.Fl
     by_cases hp:(pendingOf aE).size > 1
     ·rw[if_pos hp]
      cases ho:(pendingOf aE)[(pendingOf aE).size - 2]? with
      | none=>exact wpS_pure ⟨rfl,sg,J,fl⟩
      | some q =>
       obtain⟨o1,o2,o3⟩:=q
       try dsimp only
       split
       ·exact wpS_pure ⟨rfl,sg,J,fl⟩
       ·refine wpS_bind (t5 J ka (by omega) fun HV L0 J3 l3 f3 => ?_)
        exact wpS_pure ⟨rfl,L0,J3,f3.trans fl⟩
     ·rw[if_neg hp]
      exact wpS_pure ⟨rfl,sg,J,fl⟩
    ·rintro⟨rfl,sg,J,fl⟩
     try dsimp only
     refine wpS_bind (wpS_modify ?_)
     have J2:=J.Md (i:=(pendingOf aE).size - 1) (f:=fun (q:Nat × Nat × Nat)=>match q with | (st,len,_)=>(st,len,power' a₀.size (2 * s1+n1) (2 * s1+n1+n1+n) a₀.size)) (fun q=>rfl)
     have J3:=J2.push (n:=n) (by omega) (by omega) hX
     rw[fl]at J3
     exact wpS_bind (wpS_modify (wpS_pure ⟨sg ++ [R1.take n],R1.drop n,_,rfl,J3,by rw[tN,bA,fl];omega,by omega⟩))
 ·rintro⟨segs,R,lo,rfl,I,rfl,xl⟩
  have el:segs.flatten.length+R.length=a₀.size:=by
   have:=congrArg jq I.ar
   rw[au,bq,I.size]at this
   omega
  have:R = []:=fW.mp (by omega)
  subst this
  exact⟨segs,_,rfl,I⟩
 ·rintro⟨segs,lo,rfl,I⟩
  try dsimp only
  have el:segs.flatten.length=a₀.size:=by
   have:=congrArg jq I.ar
   rw[cg,bq,I.size]at this
   omega
  have sl:=Ie I.so
  have s1:1<=segs.length:=by
   rcases qR segs.length with z | z
   ·rw[fW.mp z]at el
    simp at el
    omega
   ·exact z
  refine wpS_bind (wpS_mono (wpS_forRange (I:=fun x c kg=>c=(none,())∧∃ sg,RI a₀.toList kg sg []∧1<=sg.length∧sg.length+x<=a₀.size)
   (Q:=fun c kg=>c=(none,())∧∃ sg,RI a₀.toList kg sg []∧sg.length=1) (fun x c kg _ hx => ?_) (fun c kg => ?_) ⟨rfl,segs,I,s1,by omega⟩) (fun c kg => ?_))
  ·rintro⟨rfl,sg,J,b1,b2⟩
   refine wpS_bind (wpS_get ?_)
   try dsimp only
   have pl:=J.Fl
   by_cases hp:(pendingOf kg).size<=1
   ·rw[if_pos hp]
    exact wpS_pure ⟨rfl,sg,J,by omega⟩
   ·rw[if_neg hp]
    refine wpS_bind (t5 J ka ?_ fun HV L0 J3 l3 f3 => ?_)
    ·have aaD:∀ (c:Prop) [Decidable c] (k n:Nat),k+1 < n->(if c then k - 1 else k)+1 < n:=fun c _ k n hk=>by split <;> omega
     exact aaD _ _ _ (by omega)
    ·exact wpS_pure ⟨rfl,L0,J3,by omega,by omega⟩
  ·rintro⟨rfl,sg,J,b1,b2⟩
   omega
  ·rintro⟨rfl,sg,J,b1⟩
   obtain⟨X,rfl⟩:=List.length_eq_one_iff.mp b1
   have eX:(arrOf kg).toList=X:=by have:=J.ar;simpa using this
   refine wpS_pure (h kg (gF.mpr J.perm) J.fail fun i j jw hj => ?_)
   have sX:=(J.so X aU).1
   have sz:=J.size
   have e1:(arrOf kg)[i]? = some (arrOf kg)[i]:=getElem?_pos _ i (by omega)
   have e2:(arrOf kg)[j]? = some (arrOf kg)[j]:=getElem?_pos _ j (by omega)
   rw[eE e1,eE e2]
   exact mn sX jw (by rw[<- eX, <- cZ];exact e1) (by rw[<- eX, <- cZ];exact e2)
end
end TG
namespace L2
open PySem PySem.Spec PyProof.Rows
section
variable {prog:Program}{w:World}{A:Around}{E:Value->Shared->Prop}{s:Shared}
end
section
variable {M:Model}{A:Around}{E:Value->Shared->Prop}{qn nm:Str}{N C:Addr}{bm bs:List Value}{PX ab:Bool}{sn:List Str}{sub:List Value}{col:Option Bool}{dd:Option Addr}{k0 k1 k2 k3 k5:Option Value}{KH:String}
end
section
variable {prog:Program}{w:World}{A:Around}{E:Value->Shared->Prop}{s:Shared}{env:Env}{qn nm:Str}{N C:Addr}{bm bs:List Value}{PX ab:Bool}{sn:List Str}{sub:List Value}{col:Option Bool}{dd:Option Addr}{k0 k1 k2 k3 k5:Option Value}{KH:String}
end
section
variable {prog:Program}{w:World}{A:Around}{E:Value->Shared->Prop}{s:Shared}{env:Env}{qn nm:Str}{N C:Addr}{bm bs bmB:List Value}{PX ab:Bool}{sn:List Str}{sub:List Value}{col:Option Bool}{dd:Option Addr}{k0 k1 k2 k3 k5:Option Value}{B KH acK:String}
end
section
variable {M:Model}{A:Around}{E:Value->Shared->Prop}{s:Shared}
end
section
variable {P:Program}{w:World}{K:ak}{mg:Str->Option Value}{base:Heap}{N:List Str}{qual:Str}{scope:Scope}{f:Addr}{da:Value}{A:Around}{outer:List Env}{s0:Shared}{H0:Hp}{E:XK}{ea C:Addr}
end
section
variable {X:Cx}{ae:List (Addr × Obj)}{σ : St} {H0 H':Hp} {s0 s':Shared}{ea C:Addr}{a0:Value}{B h5:Heap}{m:Option Addr}
end
section
variable {X:Cx} {k k':Nat}{m:Str}{C:Addr}{ps:List Str}{lY:List V}{sp:Sp}{pos fI:Pos}{e o:Expr}{es:List Expr}{ta:TE}{t:TA}{pl:Sem Bool}
end
section
variable {prog:Program}{w:World}{K:Type} [DecidableEq K] {knd:HeapKind prog w K}{A:Around}{E:Value->Shared->Prop}{s:Shared}{d a:Addr}{k:K}{xs:List (K × Addr × Value)}
end
section
variable {prog:Program}{w:World}{K:Type} [DecidableEq K] (knd:HeapKind prog w K) (d a:Addr)
end
section
variable {X:Cx}{ae:List (Addr × Obj)}{σ : St}{H:Hp}{s:Shared}{a b:Addr}{kvs:List (NK × V)}{k:NK}{v:V}{A:Around}{E:Value->Shared->Prop}
end
section
variable {X:Cx}{o e:Expr}{fI eT:Pos}{td ty:TE}
end
section
variable {prog:Program}{w:World}{A:Around}{E:Value->Shared->Prop}{s:Shared}
end
end L2
namespace L2
open PySem PySem.Spec PySem.W PyProof.Rows PySem.Calls
section
variable {prog:Program}{w:World}{A:Around}{E:Value->Shared->Prop}{s:Shared}
theorem KC {l b:Addr}{dA gZ:Array Value}{ns ms:List Int}{Q:Bool->Shared->Prop} (hl:s.heap.IsList l dA) (hb:s.heap.IsList b gZ) (hi:IntsAre dA.toList ns) (hj:IntsAre gZ.toList ms) (hu:A.units < cLine) (h:Q (HT.lexLt ns ms) s) :
  wpAny (model prog w) A (oneLt' true (.ref l) (.ref b)) Q E s:=by
 obtain⟨⟨cls,dd,data,sl⟩,ho,hc,n,hd⟩:=id hl
 obtain⟨⟨abB,GQ,data2,wJ⟩,Rb,Gd,n2,Nf⟩:=id hb
 simp only at hc hd Gd Nf
 subst hc hd Gd Nf
 rw[oneLt'_eq]
 simp only[if_true]
 refine wpAny_bind (wpAny_cRoomFor hu ?_)
 refine wpAny_bind (wpAny_callSpecialIfBound?_slot (T := "list") ⟨_,ho,rfl⟩ wu (call_meets wu ⟨_,ho,rfl⟩ PySem.F.entry_list_lt (PySem.F.args_list_lt_2 _ _) (FH l b dA gZ n n2 dd GQ sl wJ ns ms hi hj) ⟨ho,Rb,?_⟩))
 exact wpAny_truthy_bool h
def EC (rk:Value->Int) (kl vs out:List Value):Prop := ∃ ps:List (Value × Value),ps.Perm (kl.zip vs)∧out=ps.map Prod.snd∧ps.Pairwise fun p q=>rk p.1<=rk q.1
theorem Wm {rk:Value->Int}{ok:Value->Prop}{a kS:Addr}{vs kl:List Value}{T:Value}{e e1:Nat}{P:Ea->Shared->Prop} (hk:s.heap.get? kS=some (seqObj "list" kl.toArray e)) (ha:s.heap.get? a=some (seqObj "list" #[] e1)) (nz:kS≠a)
  (bw:∀ v∈kl,ok v) (hT:∀ v∈kl,Looks (model prog w) s.heap (typeOf v) T) (zH:(T != gD "tuple")=true) (uZ:(T == T)=true) (hl:kl.length=vs.length) (hz:vs.length<=100000) (lt : @TG.kz ⟨rk,ok⟩ prog w A s)
  (q:∀ (h':Heap) (tk:Nat) (out:Array Value) (c:Nat),(∀ b o,b≠kS->b≠a->s.heap.get? b=some o->h'.get? b=some o)->h'.get? a=some (seqObj "list" out c)->EC rk kl vs out.toList->P (.done (.ret .none)) { s with heap:=h',toks:=tk }) :
  wpAny (model prog w) A (ksk_end a false vs.toArray e1 (.ref kS) kl.toArray) P E s:=by
 letI:TG.o6:=⟨rk,ok⟩
 have zl:vs.length<=sizeLine:=by rw[sizeLine_eq];omega
 have pz:(kl.toArray.zip vs.toArray).size=vs.length:=by rw[Array.size_zip,aR,aR,hl,Nat.min_self]
 have ez:(kl.toArray.zip vs.toArray).toList=kl.zip vs:=by simp
 have fin:∀ st:SortSt,(arrOf st).Perm (kl.toArray.zip vs.toArray)->TG.Df (arrOf st) (arrOf st).size->failedOf st=none->wpAny (model prog w) A (ksk_tail a false e1 (.ref kS) st) P E s:=fun st pm so fl=>by
  have Fq:=fun (b:Addr) (hb:b≠kS)=>(dG s.heap kS (iN fun _=>(#[]:Array Value))).2 b hb
  have VH:=(Fq a (dh nz)).trans ha
  unfold ksk_tail
  refine wpAny_bind (listUpdate_at hk rfl (wpAny_bind (wpAny_letGo (wpAny_bind (seqEpoch_at VH rfl (wpAny_bind (listUpdate_at VH rfl ?_ (aS _) ?_)))))) (by rw[aR,hl];exact zl) (aS _))
  ·rw[fl]
   simp only[bne_self_eq_false,eG,if_false]
   refine wpAny_pure (q _ _ _ _ (fun b o n1 n2 z => ?_) (get?_update_seq VH _) ⟨(arrOf st).toList,?_,?_,?_⟩)
   ·exact((dG _ a _).2 b n2).trans ((Fq b n1).trans z)
   ·rw[<- ez];exact gF.mp pm
   ·rw[Array.toList_map]
   ·rw[md]
    intro i j hi hj jw
    have uW:i < (arrOf st).size:=by simpa using hi
    have Rj:j < (arrOf st).size:=by simpa using hj
    have z:=so i j (fA jw) Rj
    rw[TG.eE (getElem?_pos _ i uW),TG.eE (getElem?_pos _ j Rj)]at z
    have z:rk (arrOf st)[i].1<=rk (arrOf st)[j].1:=z
    simpa using z
  ·show (if false=true then _ else (arrOf st).map (·.2)).size<=_
   rw[if_neg bx,Array.size_map,pm.size_eq,pz]
   exact zq zl
 unfold ksk_end
 dsimp only
 rw[if_neg bx]
 by_cases h2:vs.toArray.size < 2
 ·rw[if_pos h2,if_pos h2]
  refine wpAny_bind (wpAny_pure ?_)
  rw[StateT.run_pure]
  refine wpAny_bind (wpAny_pure (fin _ (t4 _) (fun i j jw hj => ?_) rfl))
  have hj:j < (kl.toArray.zip vs.toArray).size:=hj
  rw[pz]at hj
  rw[aR]at h2
  have:i=j:=by omega
  subst this
  exact gW _
 ·rw[if_neg h2,if_neg h2]
  rw[aR]at h2
  refine wpAny_bind (kas_kind (by omega) hT zH uZ ?_)
  refine wpAny_bind (wpAny_mono (TG.Hq (a₀ := kl.toArray.zip vs.toArray) (st:=fh oneType' (kl.toArray.zip vs.toArray) #[] 7 none)
   (Q:=fun _ t=>(arrOf t).Perm (kl.toArray.zip vs.toArray)∧failedOf t=none∧TG.Df (arrOf t) (kl.toArray.zip vs.toArray).size) (fun p hp => ?_) ⟨t4 _,rfl,rfl,rfl⟩ (by rw[pz];omega) fun t p1 p2 p3=>⟨p1,p2,p3⟩) (fun r t z => ?_) fun _ _ z=>z)
  ·rw[ez]at hp
   obtain⟨x,y⟩:=p
   exact⟨_,0,bw _ (pe hp).1,rfl⟩
  ·obtain⟨⟨⟩,st⟩:=r
   obtain⟨rfl,pm,fl,so⟩:=z
   exact fin st pm (by rw[pm.size_eq];exact so) fl
theorem S6 {rk:Value->Int}{ok:Value->Prop}{a kS:Addr}{f:Value}{vs kl:List Value}{T:Value}{e1:Nat}{P:Ea->Shared->Prop} (hk:s.heap.get? kS=some (seqObj "list" #[] 0)) (ha:s.heap.get? a=some (seqObj "list" #[] e1)) (nz:kS≠a) (hl:kl.length=vs.length) (hz:vs.length<=100000)
  (bw:∀ v∈kl,ok v) (zH:(T != gD "tuple")=true) (uZ:(T == T)=true)
  (hh:∀ (h:Heap) (tk:Nat),(∀ b o,b≠kS->s.heap.get? b=some o->h.get? b=some o)->(∀ v∈kl,Looks (model prog w) h (typeOf v) T) ∧ @TG.kz ⟨rk,ok⟩ prog w A { s with heap:=h,toks:=tk })
  (turn:∀ (i:Nat) (v k:Value),vs[i]? = some v->kl[i]? = some k->∀ (h:Heap) (tk:Nat),(∀ b o,b≠kS->s.heap.get? b=some o->h.get? b=some o) ->
   wpAny (model prog w) A (call f [v]) (fun u t=>∃ h' rR,t={ s with heap:=h',toks:=rR }∧u=k∧∀ b o,h.get? b=some o->h'.get? b=some o) (fun _ _=>False) { s with heap:=h,toks:=tk })
  (q:∀ (h':Heap) (tk:Nat) (out:Array Value) (c:Nat),(∀ b o,b≠kS->b≠a->s.heap.get? b=some o->h'.get? b=some o)->h'.get? a=some (seqObj "list" out c)->EC rk kl vs out.toList->P (.done (.ret .none)) { s with heap:=h',toks:=tk }) :
  wpAny (model prog w) A (ksk_rest a f false vs.toArray e1 (.ref kS)) P E s:=by
 have zl:vs.length+1<=sizeLine:=by rw[sizeLine_eq];omega
 unfold ksk_rest
 refine wpAny_bind (wpAny_rule ?_)
 rw[List.forIn_toArray]
 refine wpAny_bind (ksk_fold (fun i s'=>∃ h tk e,s'={ s with heap:=h,toks:=tk }∧(∀ b o,b≠kS->s.heap.get? b=some o->h.get? b=some o)∧h.get? kS=some (seqObj "list" (kl.take i).toArray e)) vs 0 s
  ⟨s.heap,s.toks,0,rfl,fun _ _ _ z=>z,hk⟩ (fun j x s' hx hh => ?_) fun s' hs => ?_)
 ·obtain⟨h,tk,e,rfl,kp,IW⟩:=hh
  rw[cO]at IW ⊢
  have hj:=(ah.mp hx).1
  have YX:kl[j]? = some (kl[j]'(by omega)):=ai (by omega)
  have hs:(kl.take j).toArray.size<=vs.length:=by rw[aR,bA];omega
  refine wpAny_bind (wpAny_attempt (wpAny_mono (turn j x _ hx YX h tk kp) (fun u t z => ?_) fun _ _ z=>z.elim))
  obtain⟨h',rR,rfl,rfl,k2⟩:=z
  have Vm:=k2 _ _ IW
  dsimp only
  obtain⟨e2,z2⟩:∃ e2,(h'.update kS (iN fun xs=>xs.push kl[j])).get? kS=some (seqObj "list" (kl.take (j+1)).toArray e2):=⟨_,by
   rw[show (kl.take (j+1)).toArray=(kl.take j).toArray.push kl[j] by rw[bQ,YX];simp]
   exact get?_update_seq Vm _⟩
  refine wpAny_bind (listUpdate_at (s := { s with heap:=h',toks:=rR }) Vm rfl (wpAny_pure ⟨rfl,_,_,e2,rfl,fun b o n z => ?_,z2⟩) (by omega) (by rw[Array.size_push];omega))
  exact((dG h' kS _).2 b n).trans (k2 b o (kp b o n z))
 ·obtain⟨h,tk,e,rfl,kp,IW⟩:=hs
  rw[cO, <- hl,bG]at IW
  refine wpAny_bind (listItems_at (s := { s with heap:=h,toks:=tk }) IW rfl ?_)
  obtain⟨hT,lt⟩:=hh h tk kp
  exact Wm (s := { s with heap:=h,toks:=tk }) IW (kp _ _ (dh nz) ha) nz bw hT zH uZ hl hz lt fun h' rR out c k2 g ko=>q h' rR out c (fun b o n1 n2 z=>k2 b o n1 n2 (kp b o n1 z)) g ko
theorem S5 {rk:Value->Int}{ok:Value->Prop}{a:Addr}{f:Value}{vs kl:List Value}{T:Value}{n:Nat}{P:Ea->Shared->Prop} (ho:s.heap.get? a=some (seqObj "list" vs.toArray n)) (hl:kl.length=vs.length) (hz:vs.length<=100000)
  (bw:∀ v∈kl,ok v) (zH:(T != gD "tuple")=true) (uZ:(T == T)=true)
  (hh:∀ (h:Heap) (tk:Nat),(∀ b o,b≠a->s.heap.get? b=some o->h.get? b=some o)->(∀ v∈kl,Looks (model prog w) h (typeOf v) T) ∧ @TG.kz ⟨rk,ok⟩ prog w A { s with heap:=h,toks:=tk })
  (turn:∀ (i:Nat) (v k:Value),vs[i]? = some v->kl[i]? = some k->∀ (h:Heap) (tk:Nat),(∀ b o,b≠a->s.heap.get? b=some o->h.get? b=some o) ->
   wpAny (model prog w) A (call f [v]) (fun u t=>∃ h' rR,t={ s with heap:=h',toks:=rR }∧u=k∧∀ b o,h.get? b=some o->h'.get? b=some o) (fun _ _=>False) { s with heap:=h,toks:=tk })
  (q:∀ (h':Heap) (tk:Nat) (out:Array Value) (c:Nat),(∀ b o,b≠a->s.heap.get? b=some o->h'.get? b=some o)->h'.get? a=some (seqObj "list" out c)->EC rk kl vs out.toList->P (.done (.ret .none)) { s with heap:=h',toks:=tk }) :
  wpAny (model prog w) A (ksk_tree a f false) P E s:=by
 have lt:a < s.heap.objs.size:=aW ho
 have zl:vs.toArray.size<=sizeLine:=by rw[aR,sizeLine_eq];omega
 obtain⟨m,o1⟩:∃ m,(s.heap.update a (iN fun _=>(#[]:Array Value))).get? a=some (seqObj "list" #[] m):=⟨_,get?_update_seq ho _⟩
 have Fq:=fun (b:Addr) (hb:b≠a)=>(dG s.heap a (iN fun _=>(#[]:Array Value))).2 b hb
 have us:(s.heap.update a (iN fun _=>(#[]:Array Value))).objs.size=s.heap.objs.size:=Heap.size_update ..
 unfold ksk_tree
 refine wpAny_bind (listItems_at ho rfl (wpAny_bind (listUpdate_at ho rfl ?_ zl (aS _))))
 refine wpAny_bind (seqEpoch_at (s := { s with heap:=_ }) o1 rfl (wpAny_bind (wpAny_newTuple (wpAny_bind (wpAny_newList (wpAny_holding ?_))))))
 generalize s.heap.update a (iN fun _=>(#[]:Array Value))=g0 at o1 Fq us ⊢
 have pk:((g0.push (seqObj "tuple" vs.toArray 0)).push (seqObj "list" #[] 0)).get? (g0.push (seqObj "tuple" vs.toArray 0)).objs.size=some (seqObj "list" #[] 0):=bh _ rfl
 have ps:(g0.push (seqObj "tuple" vs.toArray 0)).objs.size=g0.objs.size+1:=size_push' ..
 have up:∀ b o,g0.get? b=some o->((g0.push (seqObj "tuple" vs.toArray 0)).push (seqObj "list" #[] 0)).get? b=some o:=fun b o z=>aA _ (aA _ z)
 have nk:∀ b o,s.heap.get? b=some o->b≠(g0.push (seqObj "tuple" vs.toArray 0)).objs.size:=fun b o z e=>by
  have h1:b < s.heap.objs.size:=aW z
  rw[ps]at e
  rw[e, <- us]at h1
  exact absurd h1 (Nat.not_lt.mpr (lL _))
 refine S6 (s := { s with heap:=_ }) pk (up _ _ o1) (dh (nk a _ ho)) hl hz bw zH uZ (fun h tk kp=>hh h tk fun b o nb z => ?_) (fun i v k hv hk h tk kp=>turn i v k hv hk h tk fun b o nb z => ?_) fun h' tk out c kp g ko=>q h' tk out c (fun b o nb z => ?_) g ko
 ·exact kp b o (nk b o z) (up b o ((Fq b nb).trans z))
 ·exact kp b o (nk b o z) (up b o ((Fq b nb).trans z))
 ·exact kp b o (nk b o z) nb (up b o ((Fq b nb).trans z))
theorem Nx {rk:Value->Int}{ok:Value->Prop}{l:Value}{f:Addr}{vs kl:List Value}{T:Value}{Q:Value->Shared->Prop} (hl:kl.length=vs.length) (hz:vs.length<=100000)
  (bw:∀ v∈kl,ok v) (zH:(T != gD "tuple")=true) (uZ:(T == T)=true)
  (hh:∀ (h:Heap) (tk:Nat),(∀ b o,s.heap.get? b=some o->h.get? b=some o)->(∀ v∈kl,Looks (model prog w) h (typeOf v) T) ∧ @TG.kz ⟨rk,ok⟩ prog w A.in1.in1 { s with heap:=h,toks:=tk })
  (hc:∀ (E':Value->Shared->Prop) (R:List Value->Shared->Prop),(∀ h' tk,(∀ b o,s.heap.get? b=some o->h'.get? b=some o)->R vs { s with heap:=h',toks:=tk })->wpAny (model prog w) A.in1 (collect l) R E' s)
  (turn:∀ (i:Nat) (v k:Value),vs[i]? = some v->kl[i]? = some k->∀ (h:Heap) (tk:Nat),(∀ b o,s.heap.get? b=some o->h.get? b=some o) ->
   wpAny (model prog w) A.in1.in1 (call (.ref f) [v]) (fun u t=>∃ h' rR,t={ s with heap:=h',toks:=rR }∧u=k∧∀ b o,h.get? b=some o->h'.get? b=some o) (fun _ _=>False) { s with heap:=h,toks:=tk })
  (q:∀ (N:Addr) (h':Heap) (tk:Nat) (out:Array Value) (c:Nat),s.heap.get? N=none->(∀ b o,s.heap.get? b=some o->h'.get? b=some o)->h'.get? N=some (seqObj "list" out c)->EC rk kl vs out.toList->Q (.ref N) { s with heap:=h',toks:=tk }) :
  wpAny (model prog w) A (call (.builtin "sorted") [l] [(ky "key",.ref f)]) Q E s:=by
 refine call_function_entry_kw kind_sorted plain_sorted entry_sorted (ksk_s1 _ _) ?_
 unfold Builtin.«sorted»
 refine wpAny_bind (m:=checkCount "sorted" 1 1 _) (wpAny_pure (wpAny_bind (hc _ _ fun h1 Yg k1=>wpAny_bind (wpAny_newList ?_ (by rw[sizeLine_eq];omega)))))
 have ho:(h1.push (seqObj "list" vs.toArray 0)).get? h1.objs.size=some (seqObj "list" vs.toArray 0):=bh _ rfl
 have up:∀ b o,s.heap.get? b=some o->b≠h1.objs.size∧(h1.push (seqObj "list" vs.toArray 0)).get? b=some o:=fun b o z=>⟨bP (aW (k1 b o z)),aA _ (k1 b o z)⟩
 refine wpAny_bind (wpAny_holding (wpAny_call_entry_kw slot_list_sort ⟨_,ho,rfl⟩ entry_list_sort ?_ (ksk_l1 _ _)))
 show wpAny (model prog w) A.in1.in1 (Builtin.«list.sort» ⟨[.ref h1.objs.size], [(ky "key",.ref f)]⟩) _ _ _
 rw[ksk_t1]
 refine S5 (s := { s with heap:=_,toks:=Yg }) ho hl hz bw zH uZ (fun h tk kp=>hh h tk fun b o z=>kp b o (up b o z).1 (up b o z).2) (fun i v k hv hk h tk kp=>turn i v k hv hk h tk fun b o z=>kp b o (up b o z).1 (up b o z).2) fun h' tk out c kp g ko=>⟨_,rfl,wpAny_pure ⟨_,rfl,q _ h' tk out c ?_ (fun b o z=>kp b o (up b o z).1 (up b o z).2) g ko⟩⟩
 cases z:s.heap.get? h1.objs.size with
 | none=>rfl
 | some o=>exact absurd rfl (up _ o z).1
end
def nJ (H:Hp) (P:Addr) (pos:Pos) (qual:Str):Prop :=
 H P=some (.nu #[])∨∃ c' oc vs t,H P=some (.nu #[rawInt pos.line,rawInt pos.col,.ref c'])∧H c'=some (Ext c' oc)∧oc.data = .fields vs∧vs[1]? = some (.str qual t)
def Lr (P:Addr) (H H':Hp):Prop := ∀ b o,b≠P->H b=some o->H' b=some o
structure TabAt (base:Heap) (mg:Str->Option Value) (c P:Addr):Prop where
 code:CodeHd base c P
 blt:base.BuiltinsAt mg P
theorem GI {P:Program}{w:World}{H:Hp}{h:Heap}{a:Addr}{o:Obj} (e:h.get? a=some o):cR P w H h a (Ext a o) :=
 ⟨e,⟨o,e⟩,fun h1 h2 p k=>k o p⟩
section
variable {X:Cx}{c P:Addr}{params:Arguments}{body:Expr}{scope:Scope}{pos:Pos}{uo:List (Str × Addr)}
inductive W5 (P:Addr) (pos:Pos) (qual:Str) (params:Arguments) (body:Expr) (scope:Scope) (uo:List (Str × Addr)) (H:Hp) (Q:VK):Prop
 | mk (ht:nJ H P pos qual) (q:∀ f c' oc vs t pm mF H',Lr P H H'->nJ H' P pos qual->H f=none->H' f=some (Ext f (kla_obj "<lambda>" qual params body scope uo pm c' mF))->H' c'=some (Ext c' oc)->oc.data = .fields vs ->
   vs[1]? = some (.str qual t)->Q (.ref f) H'):W5 P pos qual params body scope uo H Q
def TQ (P:Addr) (pos:Pos) (qual:Str) (params:Arguments) (body:Expr) (scope:Scope) (uo:List (Str × Addr)):TE:=fun _ H Q=>W5 P pos qual params body scope uo H Q
theorem Ul (T:TabAt X.base X.mg c P) (Ew:X.env.code = .ref c) (K5:closureFor scope X.env=pure uo) (PV:defaultsOf params X.env=([], [])) :
  PE X (.Lambda params body scope pos) (TQ P pos (X.env.qual ++ "<lambda>") params body scope uo):=by
 intro ae s σ H Q I h
 obtain⟨ht,h⟩:=h
 refine kla_eval PV ?_
 have Vs:s.heap.Ns mainGlobals X.mg:=I.mod.glob.keeps I.bk
 have hC:=T.code.keeps I.bk
 have hB:s.heap.BuiltinsAt X.mg P:=let ⟨bm,o,e1,e2,e3,e4,e5,r⟩:=T.blt; ⟨bm,o,e1,e2,e3,e4,I.bk _ _ e5,r⟩
 rcases ht with ht | ⟨c',oc,vs,t,ht,gN,hd,hv⟩
 ·have hP:s.heap.get? P=some (tabObj #[]):=I.bw P _ ht
  have YY:mainGlobals≠P:=fun q=>by
   obtain⟨o,es,ep,e,hd,_⟩:=Vs
   rw[q,hP]at e;cases e;cases hd
  refine kla_makeFunction (mg:=X.mg) (ps := #[]) K5 I.ok.glob Vs Ew hC hP trivial rfl YY hB fun c' mF h' tk hx lX cS aaT Bl => ?_
  obtain⟨c2,oc,vs,t,e2,IM,hd,hv⟩:=aaT
  cases e2
  have Q0:∀ {b:Addr},H b=none->b≠P:=fun n z=>by rw[z,ht]at n;cases n
  have hsz:s.heap.objs.size<=h'.objs.size:=fA (qQ lX cS)
  have Bw:∀ (fo:Obj) (b:Addr) (o:Obj),b≠P->s.heap.get? b=some o->(h'.push fo).get? b=some o:=fun fo b o hb e=>aA _ (hx b o hb e)
  have vT:∀ (u1 u2 u3:HO) (b:Addr),b < s.heap.objs.size->b≠P->aG (aG (aG H P u1) c' u2) h'.objs.size u3 b=H b:=fun u1 u2 u3 b hb hP=>by
   rw[aD (bP (bK hb hsz)),aD (bP (bK hb lX)),aD hP]
  have Y0:h'.objs.size≠c':=jA cS
  have Ze:P < s.heap.objs.size:=aW hP
  have Zg:P≠c':=bP (bK Ze lX)
  have Zf:P≠h'.objs.size:=bP (bK Ze hsz)
  have hLP:X.env.locals≠P:=Q0 I.free
  generalize Rl:kla_obj "<lambda>" (X.env.qual ++ "<lambda>") params body scope uo ((X.mg "__name__").getD .none) c' mF=fo
  have IY:fo.isFreed=false:=by rw[<- Rl];rfl
  have I2:Inv X ae σ (aG (aG (aG H P (.nu (#[] ++ #[rawInt pos.line,rawInt pos.col,.ref c']))) c' (Ext c' oc)) h'.objs.size (Ext h'.objs.size fo)) { s with heap:=h'.push fo,toks:=tk }:=by
   refine I.step (g':=s.gens) (d':=s.drawn) (ch := []) (fun _ z=>nomatch z) (fun b o _ _ _ e n=>Bw fo b o (Q0 n) e) (fun b o _ _ _ e n=>⟨o.slots,Bw fo b o (Q0 n) e⟩)
    (fun b o _ e n=>by rw[vT _ _ _ b (aW e) (Q0 n)];exact n) (fun b o _ e => ?_) (fun b xs e => ?_) (fun b o u e => ?_) (fun b ps e => ?_) (fun m hm => ?_) (fun b u e => ?_) I.bare
   ·by_cases hb:b=P
    ·exact⟨_,by rw[hb];exact aA _ Bl⟩
    ·exact⟨o,Bw fo b o hb e⟩
   ·rw[vT _ _ _ b (I.bw.lt e) (fun z=>by rw[z,ht]at e;cases e)];exact e
   ·rw[vT _ _ _ b (I.bw.lt e) (fun z=>by rw[z,ht]at e;cases e)];exact e
   ·by_cases hb:b=P
    ·subst hb
     rw[ht]at e
     cases e
     exact⟨_,by rw[aD Zf,aD Zg,ay]⟩
    ·exact⟨#[],by rw[vT _ _ _ b (I.bw.lt e) hb,e];simp⟩
   ·obtain⟨o,es,ep,ho,r⟩:=hm
    exact⟨o,es,ep,Bw fo _ o hLP ho,r⟩
   ·by_cases h1:b=h'.objs.size
    ·subst h1
     rw[ay]at e
     cases e
     exact GI (bh _ IY)
    ·rw[aD h1]at e
     by_cases h2:b=c'
     ·subst h2
      rw[ay]at e
      cases e
      exact GI (aA _ IM)
     ·rw[aD h2]at e
      by_cases h3:b=P
      ·subst h3
       rw[ay]at e
       cases e
       exact aA _ Bl
      ·rw[aD h3]at e
       refine(I.bw b u e).vD (fun y v hy q=>Bw fo y v ?_ q) (fun y q => ?_) fun y xs q => ?_
       ·rcases hy with z | z
        ·rw[z];exact h3
        ·exact fun z2=>by rw[z2,ht]at z;cases z
       ·rw[vT _ _ _ y (I.bw.lt q) (fun z=>by rw[z,ht]at q;cases q)];exact q
       ·rw[vT _ _ _ y (I.bw.lt q) (fun z=>by rw[z,ht]at q;cases q)];exact q
  subst Rl
  refine⟨.ref h'.objs.size,_,I2,rfl,h h'.objs.size c' oc vs t _ mF _ (fun b o hb e => ?_) (.inr ⟨c',oc,vs,t,?_,?_,hd,hv⟩) (I.bw.fresh hsz) ay ?_ hd hv⟩
  ·rw[vT _ _ _ b (I.bw.lt e) hb];exact e
  ·rw[aD Zf,aD Zg,ay];simp
  ·rw[aD Y0.symm,ay]
  ·rw[aD Y0.symm,ay]
 ·have hP:s.heap.get? P=some (tabObj #[rawInt pos.line,rawInt pos.col,.ref c']):=I.bw P _ ht
  refine kla_makeFunctionHit (mg:=X.mg) (cv := .ref c') K5 I.ok.glob Vs Ew hC hP (TriplesOk_snoc _ _ _ [] trivial) (codeAmong_snoc [] trivial rfl) hB fun mF h' tk hk hsz => ?_
  have I2:=I.laid (a:=h'.objs.size) (o:=Ext h'.objs.size (kla_obj "<lambda>" (X.env.qual ++ "<lambda>") params body scope uo ((X.mg "__name__").getD .none) c' mF)) (t':=tk) (h':=h'.push (kla_obj "<lambda>" (X.env.qual ++ "<lambda>") params body scope uo ((X.mg "__name__").getD .none) c' mF))
   (fun b u e=>aA _ (hk b u e)) hsz (GI (bh _ rfl))
  have hn:=I.bw.fresh hsz
  refine⟨.ref h'.objs.size,_,I2,rfl,h h'.objs.size c' oc vs t _ mF _ (fun b o hb e => ?_) (.inr ⟨c',oc,vs,t,?_,?_,hd,hv⟩) hn ay ?_ hd hv⟩
  ·rw[aD (bM e hn)];exact e
  ·rw[aD (bM ht hn)];exact ht
  ·rw[aD (bM gN hn)];exact gN
  ·rw[aD (bM gN hn)];exact gN
end
section
variable {X:Cx}
end
theorem MM {Pr:Program}{w:World}{K:ak}{mg mb:Str->Option Value}{CX:vt}{k:Nat}{fa a c P:Addr}{fd:FuncData}{x:Str}{sp:Sp}{dQ : Shared}{vs:List Value}{ns:List Int}
  (KX:K.In dQ.heap) (zG:noTabs K=true) (hC:CodeHd dQ.heap c P) (hP:dQ.heap.get? P=some (tabObj #[])) (hB:dQ.heap.BuiltinsAt mg P)
  (IQ:dQ.heap.Ns mainGlobals mg) (hb:dQ.heap.Ns builtinsNs mb) (hbb:∀ x:Str,x ≠ "__name__" -> mb x=bootBuiltins x) (PQ:dQ.heap.NoLimit) (hg:dQ.gens = #[])
  (ha:dQ.heap.get? a=some { cls := .type "list",data := .seq vs.toArray }) (hi:IntsAre vs ns) (hl:ns.length<=sizeLine) (hr:fK k callerA)
  (F:∀ base:Heap,K.In base->base.Ns mainGlobals mg->TabAt base mg c P->mS Pr w K mg base CX k fa fd [x] sp) (XS:∀ (s:Shared) (u:Value),BindsTo s fd ⟨[u], []⟩ [(x,u)])
  (wN:∀ H:Hp,bo K H a (ns.map V.int)->H P=some (.nu #[])->sp [.ref a] H (fun v _=>v = .bl true) fun _ _ _=>False)
  (Wh:∀ H e s',CX [] H dQ (fun _ _ _=>False) e s'->False) :
  codeAny (model Pr w) callerA (.call (.ref fa) ⟨[.ref a], []⟩) (fun r s'=>r = .ok (.ret (.bool true))∧OldK dQ.heap s'.heap∧s'.os=dQ.os∧AllBare s'.gens) dQ := by
 have rv:=xg hi
 have aaP:=hi.length
 have hPa:P≠a:=fun z=>by rw[z,ha]at hP;cases hP
 obtain⟨Ha,V4,hsq,hka⟩:∃ Ha:Option HO,(Ha=none∨Ha=some (.sr { cls := .type "list",data := .seq vs.toArray } (.lst (ns.map V.int))))∧(∀ H:Hp,H a=Ha->bo K H a (ns.map V.int))∧(Ha≠none->K.lookup a=none):=by
  cases hk:K.lookup a with
  | some o =>
   have e:=KX a o hk
   rw[ha]at e
   cases e
   exact⟨none,.inl rfl,fun H _ => .inr ⟨_,vs.toArray,_,hk,rfl,rfl,rfl,by rw[aR,aaP];exact hl,by simpa using rv⟩,fun z=>absurd rfl z⟩
  | none=>exact⟨some (.sr { cls := .type "list",data := .seq vs.toArray } (.lst (ns.map V.int))),.inr rfl,fun H e => .inl (.inr ⟨_,e⟩),fun _=>rfl⟩
 obtain⟨H,Np,Nq,Rz⟩:∃ H:Hp,H P=some (.nu #[])∧H a=Ha∧∀ b,b≠P->b≠a->H b=none :=
  ⟨fun b=>if b=P then some (.nu #[]) else if b=a then Ha else none,if_pos rfl,by show (if a=P then _ else _)=_;rw[if_neg (dh hPa),if_pos rfl],fun b h1 h2=>by show (if b=P then _ else _)=_;rw[if_neg h1,if_neg h2]⟩
 have bw:ir Pr w H dQ.heap:=fun b u e=>by
  by_cases h1:b=P
  ·subst h1
   rw[Np]at e;cases e
   exact hP
  ·by_cases h2:b=a
   ·subst h2
    rw[Nq]at e
    rcases V4 with z | z
    ·rw[z]at e;cases e
    ·rw[z]at e;cases e
     exact⟨ha,by rw[aj];exact hl,vs,_,rv,ha⟩
   ·rw[Rz b h1 h2]at e;cases e
 have free:∀ {b:Addr}{o:Obj},dQ.heap.get? b=some o->o≠tabObj #[]->o≠{ cls := .type "list",data := .seq vs.toArray }->H b=none:=fun {b o} e n1 n2 =>
  Rz b (fun z=>by rw[z,hP]at e;cases e;exact n1 rfl) (fun z=>by rw[z,ha]at e;cases e;exact n2 rfl)
 have QY:∀ {b:Addr}{m:Str->Option Value},dQ.heap.Ns b m->(vW dQ.heap H).Ns b m:=fun {b m} ⟨o,es,ep,e,d,r⟩=>⟨o,es,ep,vV e (free e (fun z=>by rw[z]at d;cases d) (fun z=>by rw[z]at d;cases d)),d,r⟩
 have Zk:K.In (vW dQ.heap H):=fun b o e=>vV (KX b o e) (by
  by_cases h1:b=P
  ·subst h1
   have e2:=KX b o e
   rw[hP]at e2;cases e2
   have h2:=nY.mp zG (b,_) (mem_of_lookupK e)
   exact absurd (show false=true from h2) bx
  ·by_cases h2:b=a
   ·subst h2
    rw[Nq]
    rcases V4 with z | z
    ·exact z
    ·rw[hka (by rw[z];simp)]at e;cases e
   ·exact Rz b h1 h2)
 have hM:Mod K mg (vW dQ.heap H):=⟨Zk,QY IQ,⟨mb,QY hb,hbb⟩,let ⟨mc,h1,h2⟩:=PQ; ⟨mc,QY h1,h2⟩⟩
 have hT:TabAt (vW dQ.heap H) mg c P:=by
  refine⟨?_,?_⟩
  ·obtain⟨o,us,file,tf,RE,tg,YK,text,tt,e1,r1,r⟩:=hC
   exact⟨o,us,file,tf,RE,tg,YK,text,tt,vV e1 (free e1 (fun z=>by rw[z]at r1;cases r1) (fun z=>by rw[z]at r1;exact absurd (js r1) (by decide))),r1,r⟩
  ·obtain⟨bm,o,a1,a2,a3,a4,e1,r1,r⟩:=hB
   exact⟨bm,o,a1,a2,a3,a4,vV e1 (free e1 (fun z=>by rw[z]at r1;cases r1) (fun z=>by rw[z]at r1;exact absurd (js r1) (by decide))),r1,r⟩
 have e0:AK Pr w K mg (vW dQ.heap H) callerA [] dQ H:=⟨rfl,hM,fun b o e=>SN e,dt (Nd _ _),trivial,fun b hb=>absurd (show b∈([]:List Addr) from hb) (by simp),bw,.of_eq hg⟩
 refine codeAny_mono ((F _ Zk (QY IQ) hT).run callerA [] dQ H ⟨[.ref a], []⟩ [.ref a] [.ref a] _ _ hr e0 (XS dQ (.ref a)) (.cons rfl .nil) (wN H (hsq H Nq) Np)) fun r s' h => ?_
 cases r with
 | error e=>exact(Wh H e s' h).elim
 | ok fl =>
  cases fl with
  | next=>exact fO h
  | brk=>exact fO h
  | cont=>exact fO h
  | ret u =>
   obtain⟨v,H',os,bare,un,Vf,r',q⟩:=h
   have q':v = .bl true:=q
   subst q'
   obtain rfl:u=jN true:=r'
   have oh:∀ b o,dQ.heap.get? b=some o->asItWas dQ.heap s'.heap b o:=fun b o e=>by
    by_cases h1:b=P
    ·subst h1
     rw[hP]at e;cases e
     obtain⟨more,hm⟩:=un.rS b _ Np
     have z:s'.heap.get? b=some (tabObj (#[] ++ more)):=Vf b _ hm
     obtain⟨o,us,file,tf,RE,tg,YK,text,tt,e1,r1,r2,r3,_⟩:=hC
     exact .inr (.inl ⟨⟨c,o,us,e1,r1,r2,r3⟩,rfl, #[],more,rfl,z⟩)
    ·by_cases h2:b=a
     ·subst h2
      rcases V4 with z | z
      ·exact .inl (un.keep b o e (by rw[Nq,z]) (by intro z;exact absurd (show b∈([]:List Addr) from z) (by simp)) (by simp))
      ·have z2:=un.sq b _ _ (Nq.trans z)
       obtain⟨e2,_⟩:=Vf b _ z2
       rw[ha]at e;cases e
       exact .inl e2
     ·exact .inl (un.keep b o e (Rz b h1 h2) (by intro z;exact absurd (show b∈([]:List Addr) from z) (by simp)) (by simp))
   refine⟨rfl,⟨oh,fun b o e => ?_⟩,os,bare⟩
   exact un.there b o e (by simp)
theorem OA {l:OpenLaw}{n k:Nat}{q:Program}{loose:List Str}{XP:(Str->Option Value)->Heap->Prop}{YP:World->Heap->Prop}{d dC:DefRec}{K:Params->Frag}{CX:World->vt}{sp:World->Sp}{x xT:Str}{c P:Addr}
  (hn:l.most=some n) (Rf:n<=sizeLine) (VB:d.params.defaults = []) (hr:fK k callerA)
  (hY:∀ (w:World) (h:Heap),YP w h->(K w.params).In h)
  (Gr:(recsOf q).find? (fun e=>e.name == xT)=some dC) (Gq:∀ w:World,tabIn (K w.params) xT=some (c,P)) (zG:∀ w:World,noTabs (K w.params)=true)
  (F:∀ (w:World) (mg:Str->Option Value) (fa:Addr) (h:Heap),(K w.params).In h->h.Ns mainGlobals mg->mg d.name=some (.ref fa) ->
   ∃ fd:FuncData,(∀ (s:Shared) (u:Value),BindsTo s fd ⟨[u], []⟩ [(x,u)])∧∀ base:Heap,(K w.params).In base->base.Ns mainGlobals mg->TabAt base mg c P->mS l.prog w (K w.params) mg base (CX w) k fa fd [x] (sp w))
  (wN:∀ (w:World) (H:Hp) (a:Addr) (ns:List Int),ns.length<=n->(∀ c∈ns,w8 c<=1048576)->bo (K w.params) H a (ns.map V.int)->H P=some (.nu #[])->sp w [.ref a] H (fun v _=>v = .bl true) fun _ _ _=>False)
  (Wh:∀ (w:World) (H:Hp) (s:Shared) (e:Value) (s':Shared),CX w [] H s (fun _ _ _=>False) e s'->False) :
  WalkO q loose XP YP l.row.toRowW d [] (fun f vs=>PySem.call f vs):=by
 intro w s0 s1 mg mb G Y fa o pm cd doc dV kV ho hd ly hD Br hg args OC as K0 aa1 hrd M4 IS
 have e1:=Dflts.none hD VB
 have e2:=Dflts.noKw hD
 subst e1 e2
 obtain⟨a,vs,ns,ev,ea,aaX,XR,dI⟩:=Xi.L4 hn K0 M4
 subst ev ea
 have KX:=hY w _ Y
 obtain⟨fd,hb,hF⟩:=F w mg fa _ KX G.T.g Br
 obtain⟨hC,hP⟩:=tab_of G.T KX Gr (Gq w)
 have YY:mainGlobals≠P:=fun q=>by
  obtain⟨o,es,ep,e,hd,_⟩:=G.T.g
  rw[q,hP]at e;cases e;cases hd
 have hB:s1.heap.BuiltinsAt mg P:=by
  obtain⟨bm,ob,b1,b2,b3,b4,b5,b6⟩:=G.T.bmain
  refine⟨bm,ob,b1,b2,fun z => ?_,fun z => ?_,b3,b4,b5,b6⟩
  ·obtain⟨o,es,ep,e,hd,_⟩:=G.T.g
   rw[z,e]at b3;cases b3;rw[hd]at b6;cases b6
  ·rw[z,hP]at b3;cases b3;cases b4
 refine enter_call (codeAny_mono (MM KX (zG w) hC hP hB G.T.g G.T.b G.T.builtins G.T.nolimit hg aaX XR (aF dI Rf) hr hF hb (fun H hS Np=>wN w H a ns dI (Qh aa1) hS Np) fun H e s'=>Wh w H s1 e s') fun r s' hq => ?_)
 obtain⟨er,h2,h3,h4⟩:=hq
 subst er
 exact⟨.inl ⟨.bool true,.bool true, [],rfl,fun _=>rfl,.bool true,Xi.Mg l _,fun _=>⟨f6,fun _ hm=>(nomatch hm)⟩⟩,h2,h3,h4⟩
end L2
namespace L2
open PySem
end L2
namespace L2
open PySem PySem.Spec PyProof.Rows
section
variable {P:Program}{w:World}{a:Addr}{o:Obj}{kvs:List (NK × V)}{g:TG}{tb:TS}{D:Ends}{σ : St}{H:Hp}
end
section
variable {X:Cx}{ae:List (Addr × Obj)}{σ : St}{H:Hp}{s:Shared}{a b:Addr}{kvs:List (NK × V)}{k:NK}{v:V}{A:Around}{E:Value->Shared->Prop}
end
end L2
namespace L2
open PySem PySem.Spec PySem.W PyProof.Rows PySem.Calls
abbrev sf (x:Str) (p1 p2 c0:Pos) (k0:Nat):Expr := .Subscript (.Name x p1) (.Constant (.int 0) k0 c0) p2
theorem MN {prog:Program}{w:World}{A:Around}{E:Value->Shared->Prop}{s:Shared}{Q:Value->Shared->Prop} {f c' T:Addr}{qual x:Str}{params:Arguments}{p1 p2 c0:Pos}{k0:Nat}{scope:Scope} {pm mF w':Value}
  {pr:Array Value} (XO:A.depth < recursionLimit) (PQ:s.heap.NoLimit)
  (hf:s.heap.get? f=some (kla_obj "<lambda>" qual params (sf x p1 p2 c0 k0) scope [] pm c' mF)) (ly:s.heap.CodeRec (.ref c') qual)
  (hb:bindArgs (kla_fn "<lambda>" qual params (sf x p1 p2 c0 k0) scope [] pm (.ref c') mF) ⟨[.ref T], []⟩=pure [(x,.ref T)])
  (IV:scope.kind = .function) (Nh:scope.isCoroutine=false) (Ga:scope.isGenerator=false) (iT:∀ y∈scope.names,y.2 ≠ .cell) (IP:scope.names.lookup x=some .local)
  (tI:(x == ("__debug__" : Str))=false) (hT:IsTup s.heap T pr) (h2:pr.size=2) (e0:pr[0]? = some w')
  (h:∀ h' tk,(∀ b o,s.heap.get? b=some o->h'.get? b=some o)->Q w' { s with heap:=h',toks:=tk }) :
  wpAny (model prog w) A (call (.ref f) [.ref T]) Q E s:=by
 refine wpAny_call (kla_callFunE XO hf rfl Nh Ga rfl ly ?_)
 show wpAny _ _ (bindArgs (kla_fn "<lambda>" qual params (sf x p1 p2 c0 k0) scope [] pm (.ref c') mF) ⟨[.ref T], []⟩) _ _ _
 rw[hb]
 refine wpAny_pure (wpAny_newFunctionEnv iT (fun y hy=>by rw[av.mp hy];exact IP) (fun jh IQ IK=>⟨PQ.fresh _ IK,?_⟩) IV)
 have kp:∀ b o,s.heap.get? b=some o->jh.get? b=some o:=fun b o e=>IK.extBut b o (bP (aW e)) (aA _ e)
 show codeAny _ _ (.expr (sf x p1 p2 c0 k0) (envX qual scope s.heap.objs.size f (.ref c') [])) _ _
 refine kla_codeExpr (wpAny_mono ?_ (fun v s' q=>q) fun _ _ y=>y) (R:=_)
 have zH:IsTup jh T pr:=let ⟨o,e,r⟩:=hT; ⟨o,kp _ _ e,r⟩
 have item:∀ (tk:Nat) (n:Nat) (v:Value) (Q' E':Value->Shared->Prop),n < 2->pr[n]? = some v->(∀ rR,Q' v { s with heap:=jh,toks:=rR }) ->
   wpAny (model prog w) (A.deeper (envX qual scope s.heap.objs.size f (.ref c') [])) (eval (.Subscript (.Name x p1) (.Constant (.int (n:Int)) k0 c0) p2) (envX qual scope s.heap.objs.size f (.ref c') [])) Q' E' { s with heap:=jh,toks:=tk }:=by
  intro tk n v Q' E' hn hv hq
  refine HS (T := "tuple") slot_tuple_getitem.lookup (fun _ _=>rfl) (wpAny_Name (wpAny_loadName_local (v := .ref T) IV IP IQ (by simp) (wpAny_Constant_int ⟨zH.typeIs,?_⟩)) tI)
  refine getItem_tuple (s := { s with heap:=jh,toks:=tk+1 }) (j:=n) zH (by omega) (by omega) ?_ hv (hq _)
  rw[h2]
  have:n=0∨n=1:=by omega
  rcases this with rfl | rfl <;> rfl
 exact item _ 0 _ _ _ (by decide) e0 fun Yg=>h jh _ kp
def m8:List Nat->Nat
 | []=>0
 | x :: l=>x * 1000 ^ l.length+m8 l
theorem Lm:∀ {l:List Nat},(∀ n∈l,n < 1000)->m8 l < 1000 ^ l.length
 | [],_=>by decide
 | x :: l,h=>by
  have h1:=Lm (l:=l) fun n hn=>h n (aI _ hn)
  have h2:=h x aU
  rw[m8,bB,Nat.pow_succ]
  have:x * 1000 ^ l.length<=999 * 1000 ^ l.length:=eM _ (by omega)
  omega
abbrev rQ (l:List Nat):List Int:=l.map fun n:Nat=>(n:Int)
theorem FJ:∀ {l m:List Nat},l.length=m.length->(∀ n∈l,n < 1000)->(∀ n∈m,n < 1000)->HT.lexLt (rQ l) (rQ m)=decide (m8 l < m8 m)
 | [], [],_,_,_=>rfl
 | [],_ :: _,e,_,_=>by cases e
 | _ :: _, [],e,_,_=>by cases e
 | x :: l,y :: m,e,hl,hm=>by
  have e':l.length=m.length:=mJ e
  have ih:=FJ e' (fun n hn=>hl n (aI _ hn)) (fun n hn=>hm n (aI _ hn))
  have b1:=Lm (l:=l) fun n hn=>hl n (aI _ hn)
  have b2:=Lm (l:=m) fun n hn=>hm n (aI _ hn)
  rw[<- e']at b2
  show HT.lexLt ((x:Int) :: rQ l) ((y:Int) :: rQ m)=_
  rw[HT.oO,m8,m8, <- e',ih]
  generalize 1000 ^ l.length=p at b1 b2
  by_cases exy:x=y
  ·subst exy
   rw[if_pos rfl]
   by_cases hc:m8 l < m8 m
   ·rw[decide_eq_true hc,decide_eq_true (by omega)]
   ·rw[decide_eq_false hc,decide_eq_false (by omega)]
  ·rw[if_neg (by omega)]
   rcases Nat.lt_or_ge x y with z | z
   ·have:(x+1) * p<=y * p:=eM _ z
    rw[Nat.add_mul]at this
    rw[decide_eq_true (by omega),decide_eq_true (by omega)]
   ·have:(y+1) * p<=x * p:=eM _ (by omega)
    rw[Nat.add_mul]at this
    rw[decide_eq_false (by omega),decide_eq_false (by omega)]
structure sI where
 p:Addr
 c:Addr
 z:V
 ns:List Nat
structure Oc (H:Hp) (m:Nat) (r:sI):Prop where
 hp:H r.p=some (.tup [.ref r.c,r.z])
 hc:H r.c=some (.lst ((rQ r.ns).map V.int))
 hl:r.ns.length=m
 hn:∀ n∈r.ns,n < 1000
theorem Ai {α β : Type}{f : β -> α}{l:List α}{m:List α} (h:l.Perm m):∀ {n:List β},m=n.map f->∃ n':List β,n'.Perm n∧l=n'.map f:=by
 induction h with
 | nil =>
  intro n e
  exact⟨n,.refl _,e⟩
 | @cons x l m _ ih =>
  intro n e
  cases n with
  | nil=>cases e
  | cons y n =>
   cases e
   obtain⟨n',p,rfl⟩:=ih rfl
   exact⟨y :: n',p.cons _,rfl⟩
 | swap x y l =>
  intro n e
  cases n with
  | nil=>cases e
  | cons a n =>
   cases n with
   | nil=>cases e
   | cons b n=>cases e;exact⟨b :: a :: n,.swap ..,rfl⟩
 | trans _ _ US MZ =>
  intro n e
  obtain⟨n1,p1,e1⟩:=MZ e
  obtain⟨n2,p2,e2⟩:=US e1
  exact⟨n2,p2.trans p1,e2⟩
section
variable {X:Cx}
theorem Inv.XE {ae:List (Addr × Obj)}{σ : St}{H:Hp}{s:Shared}{N:Addr}{o:HO} {h':Heap} {t':Nat} (I:Inv X ae σ H s) (k:∀ b u,s.heap.get? b=some u->h'.get? b=some u) (hN:s.heap.get? N=none) (new:cR X.prog X.w (aG H N o) h' N o) :
  H N=none∧Inv X ae σ (aG H N o) { s with heap:=h',toks:=t' }:=by
 have Jd:H N=none:=by
  cases e:H N with
  | none=>rfl
  | some u =>
   obtain⟨ob,z⟩:=(I.bw N u e).there
   rw[hN]at z;cases z
 refine⟨Jd,?_⟩
 refine I.step (g':=s.gens) (d':=s.drawn) (ch := []) (fun _ z=>nomatch z) (fun b u _ _ _ e _=>k b u e) (fun b u _ _ _ e _=>⟨u.slots,k b u e⟩)
  (fun b u _ e n=>by rw[aD (fun z=>by rw[z,hN]at e;cases e)];exact n) (fun b u _ e=>⟨u,k b u e⟩) (fun b xs e=>by rw[aD (bM e Jd)];exact e) (fun b u v e=>by rw[aD (bM e Jd)];exact e)
  (fun b ps e=>⟨#[],by rw[aD (bM e Jd),e];simp⟩) (fun m hm => ?_) (fun b u e => ?_) I.bare
 ·exact hm.keeps k
 ·by_cases hb:b=N
  ·subst hb
   rw[ay]at e
   cases e
   exact new
  ·rw[aD hb]at e
   refine(I.bw b u e).vD (fun y v _ qy=>k y v qy) (fun y qy => ?_) fun y xs qy => ?_
   ·rw[aD (bM qy Jd)];exact qy
   ·rw[aD (bM qy Jd)];exact qy
inductive vf (P:Addr) (pos:Pos) (qual:Str) (v:V) (H:Hp) (Q:VK):Prop
 | mk (l:Addr) (rows:List sI) (m:Nat) (hv:v = .ref l) (hl:H l=some (.lst (rows.map fun r=>V.ref r.p))) (hr:∀ r∈rows,Oc H m r) (hz:rows.length<=100000) (ht:nJ H P pos qual)
   (q:∀ (N:Addr) (H':Hp) (out:List sI),Lr P H H'->nJ H' P pos qual->H N=none->H' N=some (.lst (out.map fun r=>V.ref r.p))->out.Perm rows->out.Pairwise (fun a b=>m8 a.ns<=m8 b.ns)->Q (.ref N) H'):vf P pos qual v H Q
def TL (P:Addr) (pos:Pos) (qual:Str) (te:TE):TE:=fun σ H Q=>te σ H fun v H1=>vf P pos qual v H1 Q
def Pe:V->Nat
 | .int n=>n.toNat
 | _=>0
def Fg (H:Hp):Value->Int
 | .ref c=>(match H c with | some (.lst xs)=>(m8 (xs.map Pe):Int) | _=>0)
 | _=>0
theorem AY {H:Hp}{c:Addr}{ns:List Nat} (h:H c=some (.lst ((rQ ns).map V.int))):Fg H (.ref c)=(m8 ns:Int):=by
 show (match H c with | some (.lst xs)=>(m8 (xs.map Pe):Int) | _=>0)=_
 rw[h]
 show (m8 (((rQ ns).map V.int).map Pe):Int)=_
 rw[dF,dF]
 congr 2
 exact(dW fun n _=>bR n).trans (qr _)
theorem Dr:∀ {rows:List sI}{its:List Value},Vals (rows.map fun r=>V.ref r.p) its->its=rows.map fun r=>bf r.p
 | [],_,.nil=>rfl
 | r :: rows,_,.cons e t=>by
  obtain rfl:=e
  rw[aJ, <- Dr t]
theorem Dz:∀ (rows:List sI),Vals (rows.map fun r=>V.ref r.p) (rows.map fun r=>bf r.p)
 | [] => .nil
 | r :: rows => .cons rfl (Dz rows)
theorem EE {α β γ : Type} (f : α -> β) (g : α -> γ):∀ l:List α,(l.map f).zip (l.map g)=l.map fun x=>(f x,g x)
 | []=>rfl
 | x :: l=>by rw[aJ,aJ,aJ,List.zip_cons_cons,EE f g l]
theorem LX {x:Str}{params:Arguments}{scope:Scope}{p1 p2 c0:Pos}{k0:Nat}{qual:Str}{ae:List (Addr × Obj)}{σ : St}{H:Hp}{s:Shared}{Q:VK} {l f c':Addr}{rows:List sI}{m:Nat}
  {oc:Obj}{fs:Array Value}{t:Tok}{pm mF:Value}
  (hr:X.A.depth < recursionLimit) (hu:X.A.in1.in1.units < cLine)
  (hb:∀ u pm c' mF,bindArgs (kla_fn "<lambda>" qual params (sf x p1 p2 c0 k0) scope [] pm (.ref c') mF) ⟨[u], []⟩=pure [(x,u)])
  (IV:scope.kind = .function) (Nh:scope.isCoroutine=false) (Ga:scope.isGenerator=false) (iT:∀ y∈scope.names,y.2 ≠ .cell) (IP:scope.names.lookup x=some .local)
  (tI:(x == ("__debug__" : Str))=false)
  (I:Inv X ae σ H s) (hl:H l=some (.lst (rows.map fun r=>V.ref r.p))) (An:∀ r∈rows,Oc H m r) (hz:rows.length<=100000)
  (hf:H f=some (Ext f (kla_obj "<lambda>" qual params (sf x p1 p2 c0 k0) scope [] pm c' mF))) (gN:H c'=some (Ext c' oc)) (IM:oc.data = .fields fs) (hq:fs[1]? = some (.str qual t))
  (q:∀ (N:Addr) (out:List sI),H N=none->out.Perm rows->out.Pairwise (fun a b=>m8 a.ns<=m8 b.ns)->Q (.ref N) (aG H N (.lst (out.map fun r=>V.ref r.p)))) :
  wpAny (model X.prog X.w) X.A (call (.builtin "sorted") [.ref l] [(ky "key",.ref f)]) (EP X ae σ Q) X.xe s:=by
 have Rl:=ze I.bw hf
 have aa9:=ze I.bw gN
 obtain⟨its,rv,pl,zl⟩:=I.list (bo.of hl)
 obtain rfl:=Dr rv
 have DK:(rows.map fun r=>bf r.p).length=rows.length:=aj _
 have key:∀ r∈rows,∃ (Aa GW:List Value),IsTup s.heap r.p Aa.toArray∧Aa.toArray.size=2∧Aa.toArray[0]? = some (.ref r.c)∧s.heap.IsList r.c GW.toArray∧IntsAre GW.toArray.toList (rQ r.ns):=fun r hrm=>by
  have ok:=An r hrm
  obtain⟨Aa,tr,tl,_⟩:=I.tuple (bY.of ok.hp)
  obtain⟨GW,cr,cpl,_⟩:=I.list (bo.of ok.hc)
  obtain⟨u0,e0,r0⟩:=tr.get (i:=0) (x := .ref r.c) rfl
  obtain rfl:u0=bf r.c:=r0
  have aai:=tr.length
  exact⟨Aa,GW,tl,by rw[aR, <- aai];rfl,by simpa using e0,cpl.isList,intsAre_of cr⟩
 letI:TG.o6:=⟨Fg H,fun v=>∃ r∈rows,v = .ref r.c⟩
 refine Nx (rk:=Fg H) (ok:=fun v=>∃ r∈rows,v = .ref r.c) (T := .type "list") (kl:=rows.map fun r=>bf r.c) (vs:=rows.map fun r=>bf r.p) (by rw[aj,aj]) (by rw[DK];exact hz) (fun v hv => ?_) (by decide) (by rfl) (fun h tk kp=>⟨fun v hv => ?_,⟨fun a b {Q E} ha m6 zF => ?_⟩⟩) (fun E' R hR => ?_) (fun j v k hv hk h tk kp => ?_) (fun N h' tk out c BC kp g0 ko => ?_)
 ·obtain⟨r,mZ,rfl⟩:=bu.mp hv
  exact⟨r,mZ,rfl⟩
 ·obtain⟨r,mZ,rfl⟩:=bu.mp hv
  obtain⟨_,GW,_,_,_,⟨o,ho,Gd,_⟩,_⟩:=key r mZ
  have:=(Looks.ld (M:=model X.prog X.w) (part:=none) (kp _ _ ho)).andThen (b:=o.cls) (f:=fun o=>pure o.cls) .now
  rw[Gd]at this
  exact this
 ·obtain⟨ra,ma,rfl⟩:=ha
  obtain⟨rb,mb,rfl⟩:=m6
  obtain⟨_,ca,_,_,_,⟨oa,goa,roa⟩,ia⟩:=key ra ma
  obtain⟨_,cb,_,_,_,⟨ob,gob,rob⟩,ib⟩:=key rb mb
  have Ut:=An ra ma
  have Us:=An rb mb
  refine KC (s := { s with heap:=h,toks:=tk }) ⟨oa,kp _ _ goa,roa⟩ ⟨ob,kp _ _ gob,rob⟩ ia ib hu ?_
  have e:(TG.o6.rk (.ref ra.c) < TG.o6.rk (.ref rb.c))↔m8 ra.ns < m8 rb.ns:=by
   show Fg H (.ref ra.c) < Fg H (.ref rb.c)↔_
   rw[AY Ut.hc,AY Us.hc]
   exact yF
  rw[FJ (Ut.hl.trans Us.hl.symm) Ut.hn Us.hn]
  rw[decide_eq_decide.mpr e]at zF
  exact zF
 ·refine collect_list pl.isList ?_ (by rw[DK,sizeLine_eq];omega)
  refine hR _ _ fun b o e => ?_
  exact((dG _ s.heap.objs.size _).2 b (bP (aW e))).trans (aA _ e)
 ·rw[aH]at hv hk
  obtain⟨r,mZ,rfl⟩:=bS.mp hv
  rw[mZ]at hk
  cases hk
  obtain⟨Aa,_,⟨oT,gT,rT⟩,h2,e0,_⟩:=key r (aK mZ)
  refine MN (s := { s with heap:=h,toks:=tk }) (pr:=Aa.toArray) hr ?_ (kp _ _ Rl) ⟨c',oc,fs,t,rfl,kp _ _ aa9,IM,hq⟩ (hb _ _ _ _) IV Nh Ga iT IP tI ⟨oT,kp _ _ gT,rT⟩ h2 e0 fun h2 tk2 k2=>⟨h2,tk2,rfl,rfl,k2⟩
  exact I.mod.nolimit.keeps fun b o e=>kp b o (I.bk b o e)
 ·obtain⟨ps,pp,po,Yu⟩:=ko
  rw[EE]at pp
  obtain⟨Fp,QP,rfl⟩:=Ai pp rfl
  have eo:out.toList=Fp.map fun r=>bf r.p:=by rw[po,dF];rfl
  have srt:Fp.Pairwise (fun a b=>m8 a.ns<=m8 b.ns):=by
   rw[ij]at Yu
   refine d8 ?_ Yu
   intro a b ha m6 z
   have z:Fg H (.ref a.c)<=Fg H (.ref b.c):=z
   rw[AY (An a (QP.mem_iff.mp ha)).hc,AY (An b (QP.mem_iff.mp m6)).hc]at z
   exact Int.ofNat_le.mp z
  have ol:Fp.length=rows.length:=QP.length_eq
  obtain⟨n0,J⟩:=I.XE (t':=tk) kp BC (o := .lst (Fp.map fun r=>V.ref r.p)) (show cR X.prog X.w _ h' N (.lst (Fp.map fun r=>V.ref r.p)) from ⟨by rw[aj,ol,sizeLine_eq];omega,out.toList,c,by rw[eo];exact Dz _,by rw[Array.toArray_toList];exact g0⟩)
  exact⟨.ref N,_,J,rfl,q N _ n0 QP srt⟩
theorem O1 {P c:Addr}{x:Str}{params:Arguments}{scope:Scope}{p1 p2 c0 pos np KQ eT:Pos}{k0:Nat}{e:Expr}{te:TE}
  (T:TabAt X.base X.mg c P) (hr:X.A.depth < recursionLimit) (hu:X.A.units+10 < cLine) (hgl:Gl X "sorted") (hm:X.mg "sorted" = none) (Ew:X.env.code = .ref c)
  (K5:closureFor scope X.env=pure []) (ha:PE X e te) (PV:defaultsOf params X.env=([], []))
  (hb:∀ qual u pm c' mF,bindArgs (kla_fn "<lambda>" qual params (sf x p1 p2 c0 k0) scope [] pm (.ref c') mF) ⟨[u], []⟩=pure [(x,u)])
  (IV:scope.kind = .function) (Nh:scope.isCoroutine=false) (Ga:scope.isGenerator=false) (iT:∀ y∈scope.names,y.2 ≠ .cell) (IP:scope.names.lookup x=some .local)
  (tI:(x == ("__debug__" : Str))=false:=by decide)
  (he:starEach [e] X.env=(false,eval e X.env) :: starEach [] X.env:=by rfl) :
  PE X (.Call (.Name "sorted" np) [e] [⟨some "key",.Lambda params (sf x p1 p2 c0 k0) scope pos,KQ⟩] eT) (TL P pos (X.env.qual ++ "<lambda>") te):=by
 intro ae s σ H Q I h
 refine wpAny_Call_Name_kw (qG I hgl hm boot_sorted ?_ (by decide) (by decide))
 have hPA:PA X [e] (qk te xm):=ag (hs:=he) ha aw
 have hPK:PK X [⟨some "key",.Lambda params (sf x p1 p2 c0 k0) scope pos,KQ⟩] (qk (TQ P pos (X.env.qual ++ "<lambda>") params (sf x p1 p2 c0 k0) scope []) xm):=Sr (Ul T Ew K5 PV) Uj
 have h':(qk te xm) σ H (fun vs H1=>∃ v,vs = [v]∧vf P pos (X.env.qual ++ "<lambda>") v H1 Q):=by
  show te σ H _
  have h:te σ H fun v H1=>vf P pos (X.env.qual ++ "<lambda>") v H1 Q:=h
  have e0:(fun v H1=>xm σ H1 fun vs H2=>∃ v',v :: vs = [v']∧vf P pos (X.env.qual ++ "<lambda>") v' H2 Q)=fun v H1=>vf P pos (X.env.qual ++ "<lambda>") v H1 Q:=by
   funext v H1
   exact propext ⟨fun ⟨v',e1,z⟩=>by cases e1;exact z,fun z=>⟨v,rfl,z⟩⟩
  exact e0 ▸ h
 refine callWith_kw (bW (hPA eT ae s σ H _ I h') fun us s1 ⟨vs,H1,I1,r1,v,ev,q1⟩ => ?_) (by rw[he];rfl) (by rw[he];rfl) rfl rfl
 subst ev
 cases r1 with
 | @cons v u vs us rv r1 =>
  cases r1
  obtain⟨l,rows,m,hv,hl,An,hz,ht,q⟩:=q1
  subst hv
  obtain rfl:u=bf l:=rv
  refine bW (hPK eT ae s1 σ H1 (fun zs H2=>∃ f c' oc fs t pm mF,zs = [.ref f]∧Lr P H1 H2∧nJ H2 P pos (X.env.qual ++ "<lambda>")∧H2 f=some (Ext f (kla_obj "<lambda>" (X.env.qual ++ "<lambda>") params (sf x p1 p2 c0 k0) scope [] pm c' mF)) ∧
   H2 c'=some (Ext c' oc)∧oc.data = .fields fs∧fs[1]? = some (.str (X.env.qual ++ "<lambda>") t)) I1 ⟨ht,fun f c' oc fs t pm mF H2 kb tb _ a1 a2 a3 a4=>⟨f,c',oc,fs,t,pm,mF,rfl,kb,tb,a1,a2,a3,a4⟩⟩) fun ws s2 ⟨zs,H2,I2,r2,f,c',oc,fs,t,pm,mF,ez,kb,tb,a1,a2,a3,a4⟩ => ?_
  subst ez
  cases r2 with
  | @cons v2 w vs2 ws2 rw r3 =>
   cases r3
   obtain rfl:w=bf f:=rw
   have tP:∀ {b:Addr}{o:HO},H1 b=some o->(∀ ps,o ≠ .nu ps)->b≠P:=fun {b o} e ne z=>by
    subst z
    rcases ht with z | ⟨_,_,_,_,z,_⟩
    ·rw[z]at e;cases e;exact ne _ rfl
    ·rw[z]at e;cases e;exact ne _ rfl
   refine LX (m:=m) hr (show X.A.units+1+1 < cLine by omega) (hb _) IV Nh Ga iT IP tI I2 (kb _ _ (tP hl (fun _ z=>nomatch z)) hl) (fun r mZ => ?_) hz a1 a2 a3 a4 (fun N out BC hpm hsd => ?_)
   ·have o:=An r mZ
    exact⟨kb _ _ (tP o.hp (fun _ z=>nomatch z)) o.hp,kb _ _ (tP o.hc (fun _ z=>nomatch z)) o.hc,o.hl,o.hn⟩
   have VX:H1 N=none:=by
    cases z:H1 N with
    | none=>rfl
    | some o =>
     by_cases zp:N=P
     ·subst zp
      rcases tb with z2 | ⟨_,_,_,_,z2,_⟩ <;> rw[z2]at BC <;> cases BC
     ·rw[kb _ _ zp z]at BC;cases BC
   have sN:∀ b o,H2 b=some o->(aG H2 N (.lst (out.map fun r=>V.ref r.p))) b=some o:=fun b o z=>by rw[aD (bM z BC)];exact z
   refine q N _ out (fun b o m6 z=>sN _ _ (kb b o m6 z)) ?_ VX ay hpm hsd
   rcases tb with z | ⟨c3,oc3,f3,t3,z,z1,z2,z3⟩
   ·exact .inl (sN _ _ z)
   ·exact .inr ⟨c3,oc3,f3,t3,sN _ _ z,sN _ _ z1,z2,z3⟩
theorem Td {P:Program}{w:World}{K:ak}{mg:Str->Option Value}{base:Heap}{x:Str}{st:Stmt}{N ps:List Str}{k:Nat}{sp:Sp}{c f:Addr}{oc kV doc pm ct:Value}{od an:Option Addr}{uI:Array (Option Value)}
  (lk:K.lookup f=some ⟨oc,od,.func (dr x x (iG st) (eY st) (a6 st) .none kV doc pm an (.ref c) ct),uI⟩) (ly:gP K (.ref c) x=true) (S:cG N ps (a6 st)) (len:∀ vs H Q E,sp vs H Q E->vs.length=ps.length)
  (mW:∀ (A:Around) (outer:List Env) (s:Shared) (H:Hp) (vs:List V) (Q:VK) (E:XK),fK k (A.deeper (envOfC x (a6 st) s.heap.objs.size f (.ref c)))->sp vs H Q E ->
   ∃ t,pH (eD yU P w K mg base N x (a6 st) f (.ref c) A outer s H E).Fw (eY st) t∧t { nx:=fun _ H'=>Q .df H',rt:=Q } (start N vs) H):mS P w K mg base yU (k+1) f (dr x x (iG st) (eY st) (a6 st) .none kV doc pm an (.ref c) ct) ps sp:=by
 refine Lf lk ly S len fun A outer s H vs Q E hr wN => ?_
 obtain⟨t,h,q⟩:=mW A outer s H vs Q E hr wN
 exact⟨t,h.Fw,q⟩
end
section
variable {X:Cx}{a b o i:Expr}{ta tb td ty:TE}{pos:Pos}
theorem aZ {r:R2} (hr:Ou X r) (ha:PE X a ta) (hb:PE X b tb) (hs:JO b:=by exact fun _ _=>rfl):PE X (.Subscript a b pos) (pE r ta tb):=Xw hr ha hb hs
end
end L2
namespace Sw
open PySem L2
theorem alloc {H:Hp}{t:Addr} (h:H t=none) (o:HO):∃ H',aG H t o=H'∧bz H H'∧H' t=some o:=⟨_,rfl,aM h o,ay⟩
end Sw
namespace aY
open PySem L2 Sw
def top (i:Nat):Stmt:=jO.main.body.getD i (.Pass ⟨0,0,0,0⟩)
abbrev AX:Stmt:=top 1
theorem Sk:cG ["term", "leads"] ["term", "leads"] (a6 AX):=⟨rfl,rfl,rfl,by decide +kernel,rfl,by decide +kernel,by decide +kernel⟩
abbrev pT:Stmt:=top 3
theorem lS:cG ["leads", "a", "b", "low", "high", "k"] ["leads", "a", "b"] (a6 pT):=⟨rfl,rfl,rfl,by decide +kernel,rfl,by decide +kernel,by decide +kernel⟩
abbrev ub:Stmt:=top 4
theorem ju:cG ["terms", "leads", "joined", "first", "k", "term", "other"] ["terms", "leads"] (a6 ub):=⟨rfl,rfl,rfl,by decide +kernel,rfl,by decide +kernel,by decide +kernel⟩
abbrev Ad:Stmt:=top 2
theorem xt:cG ["terms", "edges", "leads", "edge"] ["terms", "edges"] (a6 Ad):=⟨rfl,rfl,rfl,by decide +kernel,rfl,by decide +kernel,by decide +kernel⟩
abbrev Cz:Stmt:=top 5
theorem vF:cG ["terms", "leads", "table", "k", "term"] ["terms", "leads"] (a6 Cz):=⟨rfl,rfl,rfl,by decide +kernel,rfl,by decide +kernel,by decide +kernel⟩
abbrev Cw:Stmt:=top 6
theorem pQ:cG ["terms", "leads", "found", "seen", "k", "term", "own"] ["terms", "leads"] (a6 Cw):=⟨rfl,rfl,rfl,by decide +kernel,rfl,by decide +kernel,by decide +kernel⟩
abbrev xu:Stmt:=top 8
theorem oH:cG ["terms", "leads", "left", "matcher", "found", "k", "binds"] ["terms", "leads", "left"] (a6 xu):=⟨rfl,rfl,rfl,by decide +kernel,rfl,by decide +kernel,by decide +kernel⟩
abbrev pR:Stmt:=top 9
theorem oG:cG ["terms", "leads", "found", "row"] ["terms", "leads"] (a6 pR):=⟨rfl,rfl,rfl,by decide +kernel,rfl,by decide +kernel,by decide +kernel⟩
abbrev pS:Stmt:=CP (top 10) 0
theorem OO:cG ["self", "terms", "leads"] ["self", "terms", "leads"] (a6 pS):=⟨rfl,rfl,rfl,by decide +kernel,rfl,by decide +kernel,by decide +kernel⟩
abbrev ql:Stmt:=CP (top 10) 1
theorem iO:cG ["self", "k", "pattern", "binds", "term", "ways", "number", "arm", "longer", "way"] ["self", "k", "pattern", "binds"] (a6 ql):=⟨rfl,rfl,rfl,by decide +kernel,rfl,by decide +kernel,by decide +kernel⟩
abbrev oI:Stmt:=CP (top 10) 2
theorem qY:cG ["self", "lead", "pattern", "binds", "ways", "k"] ["self", "lead", "pattern", "binds"] (a6 oI):=⟨rfl,rfl,rfl,by decide +kernel,rfl,by decide +kernel,by decide +kernel⟩
abbrev uc:Stmt:=top 11
theorem xr:cG ["lead", "hole", "binds", "more"] ["lead", "hole", "binds"] (a6 uc):=⟨rfl,rfl,rfl,by decide +kernel,rfl,by decide +kernel,by decide +kernel⟩
abbrev xw:Stmt:=top 13
theorem Ks:cG ["_law_script", "_law_k"] ["_law_script", "_law_k"] (a6 xw):=⟨rfl,rfl,rfl,by decide +kernel,rfl,by decide +kernel,by decide +kernel⟩
abbrev Cy:Stmt:=top 14
theorem E6:cG ["_law_cell", "_law_k", "_law_m"] ["_law_cell", "_law_k"] (a6 Cy):=⟨rfl,rfl,rfl,by decide +kernel,rfl,by decide +kernel,by decide +kernel⟩
abbrev E8:Stmt:=top 15
theorem uH:cG ["_law_m", "_law_signs", "_law_size", "_law_at", "_law_word_here"] ["_law_m"] (a6 E8):=⟨rfl,rfl,rfl,by decide +kernel,rfl,by decide +kernel,by decide +kernel⟩
abbrev Ac:Stmt:=top 16
theorem Dy:cG ["_law_cell", "_law_m", "_law_most"] ["_law_cell", "_law_m"] (a6 Ac):=⟨rfl,rfl,rfl,by decide +kernel,rfl,by decide +kernel,by decide +kernel⟩
abbrev Fc:Stmt:=top 17
theorem rJ:cG ["_law_m", "_law_signs", "_law_word_here", "_law_at", "_law_turned", "_law_other"] ["_law_m"] (a6 Fc):=⟨rfl,rfl,rfl,by decide +kernel,rfl,by decide +kernel,by decide +kernel⟩
abbrev E9:Stmt:=top 18
theorem Cu:cG ["_law_cell", "_law_m", "_law_terms_here", "_law_pool_here", "_law_n", "_law_numbers_of"] ["_law_cell", "_law_m", "_law_terms_here", "_law_pool_here"] (a6 E9):=⟨rfl,rfl,rfl,by decide +kernel,rfl,by decide +kernel,by decide +kernel⟩
abbrev y1:Stmt:=top 19
theorem mq:cG ["_law_cells", "_law_pool_here", "_law_most", "_law_ties", "_law_terms_here", "_law_edges", "_law_k", "_law_cell", "_law_m", "_law_n", "_law_term_here"] ["_law_cells", "_law_pool_here", "_law_most", "_law_ties"] (a6 y1):=⟨rfl,rfl,rfl,by decide +kernel,rfl,by decide +kernel,by decide +kernel⟩
abbrev Fe:Stmt:=top 20
theorem Ig:cG ["_law_base", "_law_at", "_law_turn_by", "_law_many", "_law_lead", "_law_letter"] ["_law_base", "_law_at", "_law_turn_by", "_law_many", "_law_lead"] (a6 Fe):=⟨rfl,rfl,rfl,by decide +kernel,rfl,by decide +kernel,by decide +kernel⟩
abbrev tD:Stmt:=top 21
theorem kM:cG ["_law_terms_here", "_law_leads", "_law_t", "_law_picks", "_law_binds", "_law_room", "_law_base", "_law_mode", "_law_arms", "_law_place", "_law_m", "_law_some", "_law_j", "_law_word_here"] ["_law_terms_here", "_law_leads", "_law_t", "_law_picks", "_law_binds", "_law_room", "_law_base", "_law_mode"] (a6 tD):=⟨rfl,rfl,rfl,by decide +kernel,rfl,by decide +kernel,by decide +kernel⟩
abbrev xv:Stmt:=top 22
theorem n9:cG ["_law_script", "_law_terms_here", "_law_leads", "_law_pool_here", "_law_mode", "_law_m", "_law_some", "_law_t", "_law_picks", "_law_word_here", "_law_binds", "_law_left_here"] ["_law_script", "_law_terms_here", "_law_leads", "_law_pool_here", "_law_mode"] (a6 xv):=⟨rfl,rfl,rfl,by decide +kernel,rfl,by decide +kernel,by decide +kernel⟩
abbrev y3:Stmt:=top 23
theorem OP:cG ["_law_term_here", "_law_leads"] ["_law_term_here", "_law_leads"] (a6 y3):=⟨rfl,rfl,rfl,by decide +kernel,rfl,by decide +kernel,by decide +kernel⟩
abbrev Cv:Stmt:=top 24
theorem vE:cG ["_law_terms_here", "_law_leads", "_law_table_here", "_law_k", "_law_own"] ["_law_terms_here", "_law_leads"] (a6 Cv):=⟨rfl,rfl,rfl,by decide +kernel,rfl,by decide +kernel,by decide +kernel⟩
abbrev Fb:Stmt:=top 25
theorem pP:cG ["_law_table_here", "_law_leads", "_law_pattern", "_law_binds", "_law_chosen", "_law_k", "_law_at", "_law_classes", "_law_arm", "_law_lead"] ["_law_table_here", "_law_leads", "_law_pattern", "_law_binds", "_law_chosen"] (a6 Fb):=⟨rfl,rfl,rfl,by decide +kernel,rfl,by decide +kernel,by decide +kernel⟩
abbrev vG:Stmt:=top 26
theorem ua:cG ["_law_row", "_law_words", "_law_leads", "_law_word_here", "_law_lead"] ["_law_row", "_law_words", "_law_leads"] (a6 vG):=⟨rfl,rfl,rfl,by decide +kernel,rfl,by decide +kernel,by decide +kernel⟩
abbrev vH:Stmt:=top 27
theorem jm:cG ["_law_words", "_law_classes", "_law_rows", "_law_word_here", "_law_more", "_law_row", "_law_lead", "_law_further"] ["_law_words", "_law_classes"] (a6 vH):=⟨rfl,rfl,rfl,by decide +kernel,rfl,by decide +kernel,by decide +kernel⟩
abbrev lT:Stmt:=top 28
theorem iP:cG ["_law_script", "_law_first", "_law_pool_here", "_law_terms_here", "_law_edges", "_law_leads", "_law_t", "_law_left_here", "_law_binds", "_law_table_here", "_law_due", "_law_some", "_law_chosen", "_law_found", "_law_k"] ["_law_script"] (a6 lT):=⟨rfl,rfl,rfl,by decide +kernel,rfl,by decide +kernel,by decide +kernel⟩
section
variable {P:Program}{w:World}{K:ak}{mg:Str->Option Value}{base:Heap}{CB CF CH CS CN CE CM tB:Addr}
inductive N8 (K:ak) (vs:List V) (H:Hp) (Q:VK):Prop
 | mk (v:V) (t:Tm) (L:Addr) (ls:List Nat) (z0:vs = [v,.ref L]) (z1:i7 H t v) (z2:bo K H L (ls.map nV)) (z3:(∀ x as,t = .of x as->as.length<=1000∧∀ a∈as,a < ls.length)) (z4:∀ v' H',bz H H'->i7 H' (mk ls t) v'->Q v' H'):N8 K vs H Q
def uF (K:ak):Sp:=fun vs H Q _=>N8 K vs H Q
theorem SJ (B:nG mg) (D:Def K mg "mark" AX ["term", "leads"]):dP P w K mg base 1 "mark" ["term", "leads"] (uF K):=by
 refine D.has Sk (fun vs H Q E h => ?_) (fun f da A outer s H vs Q E hr h => ?_)
 ·obtain⟨v,t,L,ls,rfl,_⟩:=h;rfl
 obtain⟨v,t,L,ls,rfl,hT,hL,hb,q⟩:=h
 refine⟨_,(ax (dz (b8 nH (aZ cL (pv 0) az) eF (cC _)) (aO (bZ (pv 0))) cJ)
  (aO (bZ (gL (ag eF (ag (aZ cL (pv 0) az) (ag (fy lA rfl B.uE lJ (ag (Im (te:=(pE (xE K) _ _)) (own := ["number"]) (caps := [("leads",1)]) (kR (a6 AX) ["term", "leads"] rfl rfl rfl (by decide +kernel)) (A5 (aZ cL (pv 0) az)) rfl (fun _ _ _=>cB (i:=0) (show (["number", "leads"]:List Str).Nodup by decide +kernel) rfl (aP rfl)) (fun _ _ _=>(aZ b9 (pv 1) (pv 0)))) aw)) aw))))))),?_⟩
 try dsimp only[eD]
 cases t with
 | num n =>
  obtain⟨a,rfl,h⟩:=id hT
  refine⟨_,rfl,a,_,0,_,rfl,rfl,bY.of h,a7 (j:=0) rfl,rfl,_,rfl,iy (fun _=>⟨_,rfl,q _ _ (bz.refl _) hT⟩) (fun z=>absurd (V.str.inj z) (by decide))⟩
 | name n =>
  obtain⟨a,rfl,h⟩:=id hT
  refine⟨_,rfl,a,_,0,_,rfl,rfl,bY.of h,a7 (j:=0) rfl,rfl,_,rfl,iy (fun _=>⟨_,rfl,q _ _ (bz.refl _) hT⟩) (fun z=>absurd (V.str.inj z) (by decide))⟩
 | of x as =>
  obtain⟨a,b,rfl,h,h2⟩:=id hT
  obtain⟨hl,cS⟩:=hb x as rfl
  refine⟨_,rfl,a,_,0,_,rfl,rfl,bY.of h,a7 (j:=0) rfl,rfl,_,rfl,iy (fun z=>absurd rfl z) (fun _ => ?_)⟩
  refine⟨_,rfl,a,_,1,_,rfl,rfl,bY.of h,a7 (j:=1) rfl,?_⟩
  refine⟨_,rfl,a,_,2,_,rfl,rfl,bY.of h,a7 (j:=2) rfl,b,rfl,⟨_,bY.of h2⟩,?_⟩
  refine DY (ys:=(as.map fun a=>ls.getD a 0).map nV) (bY.of h2) (by rw[aj];exact hl) (by simp) (fun i y z hy hz H' sm Q' q' => ?_) (fun D1 H' DP sm hD => ?_)
  ·rw[aH]at hy
   rw[aH,aH]at hz
   cases e:as[i]? with
   | none=>rw[e]at hy;cases hy
   | some k =>
    rw[e]at hy hz
    have e1:nV k=y:=aB hy
    have e2:nV (ls.getD k 0)=z:=aB hz
    subst e1 e2
    have hk:=cS k (aK e)
    have e3:ls[k]? = some (ls.getD k 0):=by rw[br,ai hk];rfl
    exact⟨_,rfl,_,rfl,L,_,_,_,rfl,rfl,sm.seq hL,jf e3,q' _ (bz.refl _)⟩
  ·refine⟨D1,_,rfl,.inl ⟨bo.of hD,fun l DJ => ?_⟩⟩
   refine⟨(show 3<=sizeLine by decide),fun t ht => ?_⟩
   refine q _ _ (sm.trans ((aM DJ _).trans (aM ht _))) ⟨t,l,rfl,ay,?_⟩
   rw[aD (bM ay ht),ay]
inductive N9 (vs:List V) (H:Hp) (Q:VK):Prop
 | mk (L:Addr) (ls:List Nat) (a b la lb:Nat) (z0:vs = [.ref L,nV a,nV b]) (z1:H L=some (.lst (ls.map nV))) (z2:j7 ls) (z3:ls.length<=1000000) (z4:ls[a]? = some la) (z5:ls[b]? = some lb) (z6:(la=lb->Q (.bl false) H)) (z7:(la≠lb->Q (.bl true) (aG H L (.lst ((jn ls (max la lb) (min la lb)).map nV))))):N9  vs H Q
def EX:Sp:=fun vs H Q _=>N9  vs H Q
theorem A9 (B:nG mg) (D:Def K mg "join_classes" pT ["leads", "a", "b"]):dP P w K mg base 1 "join_classes" ["leads", "a", "b"] EX:=by
 refine D.has lS (fun vs H Q E h => ?_) (fun f da A outer s H vs Q E hr h => ?_)
 ·obtain⟨L,ls,a,b,la,lb,rfl,_⟩:=h;rfl
 obtain⟨L,ls,a,b,la,lb,rfl,hL,hg,hz,ha,hb,q1,q2⟩:=h
 refine⟨_,(ax (bC (i:=3) lS.nd rfl (aP rfl) (bX (NS rfl) rfl B.aaN NV (ag (aZ b9 (pv 0) (pv 1)) (ag (aZ b9 (pv 0) (pv 2)) aw))))
  (ax (bC (i:=4) lS.nd rfl (aP rfl) (bX (NT rfl) rfl B.aaO NW (ag (aZ b9 (pv 0) (pv 1)) (ag (aZ b9 (pv 0) (pv 2)) aw))))
  (ax (dz (b8 je (pv 3) (pv 4) (cC _)) (aO (bZ lV)) cJ)
  (ax (gw cy rfl (Mh rfl B.qC (ag (pv 4) (ag (bX b7 rfl B.gU bD (ag (pv 0) aw)) aw))) (cB (i:=5) lS.nd rfl (aP rfl))
  (aO (dz (b8 je (aZ b9 (pv 0) (pv 5)) (pv 4) (cC _)) (aO (A4 (pv 3) (Mi (pv 0) (pv 5) E5))) cJ)))
  (aO (bZ lV)))))),?_⟩
 try dsimp only[eD]
 refine⟨_,rfl,_,rfl,L,_,_,_,rfl,rfl,bo.of hL,jf ha,_,rfl,_,rfl,L,_,_,_,rfl,rfl,bo.of hL,jf hb,_,_,rfl,?_⟩
 refine⟨_,rfl,_,rfl,L,_,_,_,rfl,rfl,bo.of hL,jf ha,_,rfl,_,rfl,L,_,_,_,rfl,rfl,bo.of hL,jf hb,_,_,rfl,?_⟩
 have e1:(if (lb:Int) < (la:Int) then (lb:Int) else (la:Int))=((min la lb:Nat):Int):=by split <;> omega
 have e2:(if (lb:Int) > (la:Int) then (lb:Int) else (la:Int))=((max la lb:Nat):Int):=by split <;> omega
 dsimp only[bH]
 rw[e1,e2]
 by_cases tL:la=lb
 ·refine⟨_,rfl,_,rfl,rfl,_,rfl,gy (fun _=>q1 tL) (fun z=>absurd ?_ z)⟩
  show V.int _=V.int _
  congr 1;omega
 ·refine⟨_,rfl,_,rfl,rfl,_,rfl,gy (fun z => ?_) (fun _ => ?_)⟩
  ·have:=V.int.inj z
   omega
  have Vr:∃ c:Nat,ls[c]? = some (max la lb):=by
   rcases mM la lb with h | h
   ·exact⟨b,by rw[kZ h];exact hb⟩
   ·exact⟨a,by rw[l9 h];exact ha⟩
  obtain⟨c,hc⟩:=Vr
  have aa2:=(hg c _ hc).2
  have cS:max la lb < ls.length:=(ah.mp aa2).1
  have q2':=q2 tL
  have aeD:min la lb < max la lb:=by omega
  generalize max la lb=hi at *
  generalize min la lb=lo at *
  refine⟨_,rfl,_,rfl,L,_,rfl,.inl (bo.of hL),hi,_,rfl,?_,?_⟩
  ·rw[aj];omega
  have en:(((ls.map nV).length:Nat):Int) - (hi:Int)=((ls.length - hi:Nat):Int):=by rw[aj];omega
  rw[en,bR]
  refine yf (lo:=(hi:Int)) (fun i σ H'=>∃ o, σ = [some (.ref L),some (nV a),some (nV b),some (nV lo),some (nV hi),o]∧H'=aG H L (.lst ((wL ls hi lo (hi+i)).map nV))) ⟨none,rfl,?_⟩ ?_ ?_
  ·rw[mN,Mz hg]
   funext c'
   by_cases h:c'=L
   ·subst h;rw[ay];exact hL
   ·rw[aD h]
  ·rintro i σ H' uW ⟨o,rfl,rfl⟩
   have hk:hi+i < ls.length:=by omega
   have ev:=ai hk
   generalize ls[hi+i]=v at ev
   have em:(wL ls hi lo (hi+i))[hi+i]? = some v:=by
    rw[se,ev]
    show some _=some _
    dsimp only
    rw[if_neg (by omega)]
   have ek:(hi:Int)+(i:Int)=((hi+i:Nat):Int):=by omega
   show OI _ _ _ _ _ _
   refine⟨_,rfl,_,rfl,L,_,_,nV v,rfl,rfl,bo.of ay,(by rw[ek];exact jf em),_,rfl,rfl,_,rfl,gy (fun z => ?_) (fun z => ?_)⟩
   ·have hv:v=hi:=by have:=V.int.inj z;omega
    refine⟨_,rfl,_,rfl,_,rfl,L,_,_,hi+i,rfl,rfl,ay,?_,⟨_,rfl,?_⟩⟩
    ·rw[ek,aj,Iu]
     unfold Bh
     rw[if_pos (by omega),if_pos (by omega),bR]
    ·rw[Cr]
     have:=SU (hi:=hi) (lo:=lo) ev
     unfold lr at this
     rw[if_pos hv]at this
     rw[Uy,this]
     rfl
   ·have hv:v≠hi:=fun e=>z (by rw[e])
    refine⟨_,rfl,?_⟩
    have:=Pg (hi:=hi) (lo:=lo) ev hv
    rw[show hi+(i+1)=hi+i+1 from rfl,this]
  ·rintro σ H' ⟨o,rfl,rfl⟩
   rw[SV (by omega)]
   exact q2'
inductive B0 (P:Program) (w:World) (vs:List V) (H:Hp) (Q:VK):Prop
 | mk (T L:Addr) (us:List V) (ts:List Tm) (ls:List Nat) (es:List (Nat × Nat)) (z0:vs = [.ref T,.ref L]) (z1:H T=some (.lst us)) (z2:mG H us ts) (z3:H L=some (.lst (ls.map nV))) (z4:T≠L) (z5:j7 ls) (z6:Sound ts es ls) (z7:Dn ts) (z8:ls.length=ts.length) (z9:ts.length<=1000) (HH:(∀ (i:Nat) x as,ts[i]? = some (.of x as)->as.length<=1000)) (HG:∀ fU b H',gm L H H'->H' L=some (.lst (fU.map nV))->j7 fU->Sound ts es fU->Keeps ls fU->fU.length=ls.length->(b=true->fU.sum < ls.sum)->(b=false->fU=ls∧∀ (i j:Nat) (t u:Tm),ts[i]? = some t->ts[j]? = some u->mk ls t=mk ls u->ls[i]? = ls[j]?)->Q (.bl b) H'):B0 P w vs H Q
def AW (P:Program) (w:World):Sp:=fun vs H Q _=>B0 P w vs H Q
inductive wZ (P:Program) (w:World) (H:Hp) (T:Addr) (L:Addr) (p:Addr) (ts:List Tm) (es:List (Nat × Nat)) (ls:List Nat) (i:Nat) (σ : St) (H':Hp):Prop
 | mk:∀ (fU:List Nat) (jd:Bool) (kvs:List (NK × V)) (x4 x5 x6:Option V),(σ = [some (.ref T),some (.ref L),some (.bl jd),some (.ref p),x4,x5,x6])->(gm L H H')->(H' L=some (.lst (fU.map nV)))->(DN P w H' p kvs)->(j7 fU)->(Sound ts es fU)->(Keeps ls fU)->(fU.length=ls.length)->((jd=true->fU.sum < ls.sum))->((jd=false->fU=ls))->(fU.sum<=ls.sum)->(kvs.length<=i)->((∀ key v,cA kvs key=some v->∃ j t m,v=nV j∧ts[j]? = some t∧key=dv m∧BZ ts es t m))->((jd=false->∀ (j:Nat) t,j < i->ts[j]? = some t->∃ j',cA kvs (dv (mk ls t))=some (nV j')∧ls[j']? = ls[j]?))->wZ P w H T L p ts es ls i σ H'
theorem Ft (B:nG mg) (oQ:dP P w K mg base 1 "mark" ["term", "leads"] (uF K)) (jr:dP P w K mg base 1 "join_classes" ["leads", "a", "b"] EX) (D:Def K mg "join_like" ub ["terms", "leads"]) :
  dP P w K mg base 2 "join_like" ["terms", "leads"] (AW P w):=by
 refine D.has ju (fun vs H Q E h => ?_) (fun f da A outer s H vs Q E hr h => ?_)
 ·obtain⟨T,L,us,ts,ls,es,rfl,_⟩:=h;rfl
 obtain⟨T,L,us,ts,ls,es,rfl,hT,jo,hL,VJ,hg,hs,DL,dI,hz,UW,q⟩:=h
 refine⟨_,(ax (bC (i:=2) ju.nd rfl (aP rfl) lV)
  (ax (bC (i:=3) ju.nd rfl (aP rfl) vL)
  (ax (gw cy rfl (y4 rfl B.rE (ag (pv 0) aw)) (r6 rfl (gG (cB (i:=4) ju.nd rfl (aP rfl)) (gG (cB (i:=5) ju.nd rfl (aP rfl)) pV)))
  (ax (bC (i:=6) ju.nd rfl (aP rfl) (Sx (t9 hr) (pv 3) (cj oQ hr (by omega) rfl (ag (pv 5) (ag (pv 1) aw))) (pv 4) ⟨rfl,rfl,rfl,rfl⟩))
  (aO (dz (nv (cj jr hr (by omega) rfl (ag (pv 1) (ag (pv 6) (ag (pv 4) aw))))) (aO (bC (i:=2) ju.nd rfl (aP rfl) lV)) cJ))))
  (aO (bZ (pv 2)))))),?_⟩
 try dsimp only[eD]
 have qH:=bJ jo
 intro p φ hp zK
 dsimp only[bH]
 have Vc:p≠L:=fun e=>by rw[e,hL]at hp;cases hp
 have hpT:p≠T:=fun e=>by rw[e,hT]at hp;cases hp
 refine⟨_,rfl,T,rfl,⟨us,bo.of (by rw[aD (dh hpT)];exact hT)⟩,?_⟩
 refine vZ (xs:=us) (wZ P w H T L p ts es ls)
  ⟨ls,false, [],none,none,none,rfl,(gm.refl L H).new hp,by rw[aD (dh Vc)];exact hL,zK,hg,hs,KR ls,rfl,(fun z=>nomatch z),fun _=>rfl,ao _,aS _,(fun key v e=>by rw[vz]at e;cases e),fun _ j t hj=>absurd hj (o9 _)⟩ ?_ ?_ ?_
 ·rintro i σ H' _ ⟨fU,jd,kvs,x4,x5,x6,rfl,bt,_⟩
  exact bo.of (bt T _ VJ hT)
 ·rintro i x a0 σ H' hx ⟨fU,jd,kvs,x4,x5,x6,rfl,bt,DM,dn,qI,kH,wO,qp,Ri,IX,PJ,IU,iA,iB⟩ Gh
  obtain⟨t,ht,Bj⟩:=j8 jo hx
  have hi:i < ts.length:=(ah.mp ht).1
  have rV:=aM Gh (.tup [.int (i:Int),x])
  have D3:=bt.same rV
  have YJ:i7 (aG H' a0 (.tup [.int (i:Int),x])) t x:=Bj.keep (D3.tup hL)
  have Jc:=rV _ _ DM
  have BK:=dn.same rV
  refine⟨a0,_,rfl,bY.of ay,rfl,_,_,rfl,_,_,rfl,rfl,?_⟩
  generalize aG H' a0 (.tup [.int (i:Int),x])=H1 at D3 YJ Jc BK ⊢
  have hb:∀ x as,t = .of x as->as.length<=1000∧∀ a∈as,a < fU.length:=fun x as e=>by
   subst e
   refine⟨UW i x as ht,fun a ha => ?_⟩
   have:=DL i x as ht a ha
   omega
  refine⟨_,rfl,p,rfl,⟨kvs,BK⟩,_,rfl,_,rfl,x,t,L,fU,rfl,YJ,bo.of Jc,hb,fun v' H2 LZ hm => ?_⟩
  obtain⟨b,rfl,nk⟩:=hm.key
  have wR:=BK.same LZ
  have BE:=LZ _ _ Jc
  have vd:=D3.same LZ
  obtain⟨li,rg⟩:∃ li,fU[i]? = some li:=⟨_,ai (by omega)⟩
  refine⟨_,rfl,kvs,dv (mk fU t),b,wR,rfl,nk,cY (by omega),fun v hv => ?_,fun hn X4 DS => ?_⟩
  ·-- there is one abH
   obtain⟨j,u,m,rfl,hu,vU,FZ⟩:=iA _ _ hv
   have em:m=mk fU t:=pM vU.symm
   subst em
   have hj:j < ts.length:=(ah.mp hu).1
   obtain⟨lj,F6⟩:∃ lj,fU[j]? = some lj:=⟨_,ai (by omega)⟩
   have eq:Eqv ts es j i:=AV hu ht FZ (tu kH (fun x as e=>(hb x as e).2))
   refine⟨_,rfl,_,rfl,_,rfl,L,fU,j,i,lj,li,rfl,BE,qI,by omega,F6,rg,fun e => ?_,fun e => ?_⟩
   ·refine⟨_,rfl,iZ ⟨fU,jd,kvs,_,_,_,rfl,vd,BE,wR,qI,kH,wO,qp,Ri,IX,PJ,by omega,iA,fun Bx j' t' Rj uS => ?_⟩⟩
    by_cases F8:j' < i
    ·exact iB Bx j' t' F8 uS
    ·have e':j'=i:=by omega
     subst e'
     rw[ht]at uS;cases uS
     have el:=IX Bx
     rw[el]at hv F6 rg
     exact⟨j,hv,by rw[F6,rg,e]⟩
   ·have e1:Eqv ts es lj li := .trans (.symm (kH j lj F6)) (.trans eq (kH i li rg))
    have g1:=(qI j lj F6).2
    have g2:=(qI i li rg).2
    have WA:Eqv ts es (max lj li) (min lj li):=by
     rcases mM lj li with h | h
     ·rw[kZ h,dj h];exact e1.symm
     ·rw[l9 h,kY h];exact e1
    have IS:fU[min lj li]? = some (min lj li):=by
     rcases mM lj li with h | h
     ·rw[dj h];exact g1
     ·rw[kY h];exact g2
    have Vr:max lj li∈fU:=by
     rcases mM lj li with h | h
     ·rw[kZ h];exact aK g2
     ·rw[l9 h];exact aK g1
    have cS:min lj li < max lj li:=by omega
    have hsm:=LP cS Vr
    refine⟨_,rfl,my ?_⟩
    refine⟨jn fU (max lj li) (min lj li),true,kvs,_,_,_,rfl,vd.put,ay,wR.keep (fun φ e=>by rw[aD Vc];exact e) (fun c ys e=>by rw[aD (cX e BE (fun z=>nomatch z))];exact e),
     Ji qI IS cS,E3 kH WA,wO.trans (Py _ _ _),by rw[MV];exact qp,fun _=>by omega,(fun z=>nomatch z),by omega,by omega,iA,(fun z=>nomatch z)⟩
  ·-- it is EL first one
   have BD:(aG H2 p (.ext X4)) L=some (.lst (fU.map nV)):=by rw[aD (dh Vc)];exact BE
   refine⟨_,rfl,_,rfl,_,rfl,L,fU,i,i,li,li,rfl,BD,qI,by omega,rg,rg,fun _ => ?_,fun z=>absurd rfl z⟩
   refine⟨_,rfl,iZ ⟨fU,jd,_,_,_,_,rfl,vd.new hp,BD,DS,qI,kH,wO,qp,Ri,IX,PJ,by rw[au];show kvs.length+1<=i+1;omega,fun key v e => ?_,fun Bx j' t' Rj uS => ?_⟩⟩
   ·rw[tq _ _ _ _ hn]at e
    by_cases hk:key=dv (mk fU t)
    ·rw[if_pos hk]at e
     cases e
     exact⟨i,t,mk fU t,rfl,ht,hk,tu kH (fun x as e=>(hb x as e).2)⟩
    ·rw[if_neg hk]at e
     exact iA key v e
   ·have el:=IX Bx
    rw[tq _ _ _ _ hn]
    by_cases F8:j' < i
    ·obtain⟨j2,e1,e2⟩:=iB Bx j' t' F8 uS
     by_cases hk:dv (mk ls t')=dv (mk fU t)
     ·rw[hk,hn]at e1;cases e1
     ·rw[if_neg hk];exact⟨j2,e1,e2⟩
    ·have e':j'=i:=by omega
     subst e'
     rw[ht]at uS;cases uS
     rw[el,if_pos rfl]
     exact⟨j',rfl,rfl⟩
 ·rintro σ H' ⟨fU,jd,kvs,x4,x5,x6,rfl,bt,DM,dn,qI,kH,wO,qp,Ri,IX,PJ,IU,iA,iB⟩
  refine⟨_,rfl,q fU jd H' bt DM qI kH wO qp Ri fun Bx=>⟨IX Bx,fun i j t u hi hj hm => ?_⟩⟩
  obtain⟨i',a1,a2⟩:=iB Bx i t (by rw[qH];exact(ah.mp hi).1) hi
  obtain⟨j',b1,b2⟩:=iB Bx j u (by rw[qH];exact(ah.mp hj).1) hj
  rw[hm,b1]at a1
  have e:i'=j':=by have:=V.int.inj (aB a1);omega
  rw[<- a2, <- b2,e]
inductive He (K:ak) (vs:List V) (H:Hp) (Q:VK):Prop
 | mk (T E:Addr) (us iU:List V) (ts:List Tm) (es:List (Nat × Nat)) (z0:vs = [.ref T,.ref E]) (z1:H T=some (.lst us)) (z2:mG H us ts) (z3:bo K H E iU) (z4:Cn H iU es) (z5:Dn ts) (z6:ts.length<=1000) (z7:(∀ (i:Nat) x as,ts[i]? = some (.of x as)->as.length<=1000)) (z8:(∀ a b:Nat,(a,b)∈es->a < ts.length∧b < ts.length)) (z9:∀ L ls H',bz H H'->H L=none->H' L=some (.lst (ls.map nV))->Ox ts es ls->Q (.ref L) H'):He K vs H Q
def EZ (K:ak):Sp:=fun vs H Q _=>He K vs H Q
inductive Cg (H:Hp) (T:Addr) (E:Addr) (L:Addr) (ts:List Tm) (es:List (Nat × Nat)) (cc:St) (H':Hp):Prop
 | mk:∀ (ls:List Nat) (x3:Option V),(cc = [some (.ref T),some (.ref E),some (.ref L),x3])->(bz H H')->(H' L=some (.lst (ls.map nV)))->(j7 ls)->(Sound ts es ls)->(ls.length=ts.length)->(∀ a b:Nat,(a,b)∈es->ls[a]? = ls[b]?)->Cg H T E L ts es cc H'
inductive Cf (H:Hp) (T:Addr) (E:Addr) (L:Addr) (ts:List Tm) (es:List (Nat × Nat)) (i:Nat) (cc:St) (H':Hp):Prop
 | mk:∀ (ls:List Nat) (x3:Option V),(cc = [some (.ref T),some (.ref E),some (.ref L),x3])->(bz H H')->(H' L=some (.lst (ls.map nV)))->(j7 ls)->(Sound ts es ls)->(ls.length=ts.length)->(∀ (j a b:Nat),j < i->es[j]? = some (a,b)->ls[a]? = ls[b]?)->Cf H T E L ts es i cc H'
theorem Mp (B:nG mg) (jr:dP P w K mg base 1 "join_classes" ["leads", "a", "b"] EX) (uh:dP P w K mg base 2 "join_like" ["terms", "leads"] (AW P w)) (D:Def K mg "closed" Ad ["terms", "edges"]) :
  dP P w K mg base 3 "closed" ["terms", "edges"] (EZ K):=by
 refine D.has xt (fun vs H Q E h => ?_) (fun f da A outer s H vs Q E hr h => ?_)
 ·obtain⟨T,E,us,iU,ts,es,rfl,_⟩:=h;rfl
 obtain⟨T,E,us,iU,ts,es,rfl,hT,jo,hE,Y1,DL,hz,UW,Vv,q⟩:=h
 refine⟨_,(ax (bC (i:=2) xt.nd rfl (aP rfl) (fy (Em rfl) rfl B.tH jM (ag (fy GZ rfl B.qC PyProof.Rows.boot_range (ag (bX b7 rfl B.gU bD (ag (pv 0) aw)) aw)) aw)))
  (ax (gw cy rfl (ki (pv 1)) (cB (i:=3) xt.nd rfl (aP rfl))
  (aO (gK (cj jr hr (by omega) rfl (ag (pv 2) (ag (aZ cL (pv 3) az) (ag (aZ cL (pv 3) az) aw)))))))
  (ax (O0 cy (nv (cj uh hr (by omega) rfl (ag (pv 0) (ag (pv 2) aw))))
  (aO Sq))
  (aO (bZ (pv 2)))))),?_⟩
 try dsimp only[eD]
 have qH:=bJ jo
 have hue:=bJ Y1
 refine⟨_,rfl,T,us,rfl,.inl (bo.of hT),_,rfl,fun r Bm=>⟨r,us.length,rfl,ay,by omega,fun L tM => ?_⟩⟩
 dsimp only[bH]
 have Ry:H L=none:=by
  by_cases e:L=r
  ·rw[e];exact Bm
  ·rw[aD e]at tM;exact tM
 have rV:bz H (aG (aG H r (.xB 0 ((us.length:Nat):Int))) L (.lst ((cu us.length).map fun i:Nat=>V.int (i:Int)))):=(aM Bm _).trans (aM tM _)
 have Jc:(aG (aG H r (.xB 0 ((us.length:Nat):Int))) L (.lst ((cu us.length).map fun i:Nat=>V.int (i:Int)))) L=some (.lst ((cu ts.length).map nV)):=by rw[ay,qH]
 generalize (aG (aG H r (.xB 0 ((us.length:Nat):Int))) L (.lst ((cu us.length).map fun i:Nat=>V.int (i:Int))))=H1 at rV Jc ⊢
 have VJ:T≠L:=fun e=>by rw[e,Ry]at hT;cases hT
 refine xD (Cg H T E L ts es) ?_ (fun key => ?_)
 ·rintro cc H2 ⟨ls,x3,rfl,LZ,BE,hg2,cq,XQ,aa7⟩
  refine⟨fun m cc H'=>∃ (ls:List Nat),m=ls.sum ∧ cc = [some (.ref T),some (.ref E),some (.ref L),x3]∧bz H H'∧H' L=some (.lst (ls.map nV))∧j7 ls∧Sound ts es ls∧ls.length=ts.length∧∀ a b:Nat,(a,b)∈es->ls[a]? = ls[b]?,
   ⟨_,ls,rfl,rfl,LZ,BE,hg2,cq,XQ,aa7⟩,?_⟩
  rintro m cc H3 ⟨ls,rfl,rfl,tw,BD,hg3,uT,Rg,Vw⟩
  refine⟨_,rfl,_,rfl,T,L,us,ts,ls,es,rfl,tw _ _ hT,fu tw jo,BD,VJ,hg3,uT,DL,Rg,hz,UW,fun fU b H4 bt Gw YZ YS hk4 aeE hbt hbf => ?_⟩
  have Yk:bz H H4:=fun c o h=>bt c o (fun e=>by rw[e,Ry]at h;cases h) (tw c o h)
  have aa6:∀ a b:Nat,(a,b)∈es->fU[a]? = fU[b]? := fun a b h=>by
   obtain⟨h1,h2⟩:=Vv a b h
   obtain⟨v,hv⟩:∃ v,ls[a]? = some v:=⟨_,ai (by omega)⟩
   obtain⟨u,e1,e2⟩:=hk4 a b v hv (by rw[<- Vw a b h];exact hv)
   rw[e1,e2]
  refine⟨_,rfl,?_⟩
  cases b with
  | true =>
   refine my ⟨fun cc H'=>∃ m',m' < ls.sum∧∃ (ls:List Nat),m'=ls.sum ∧ cc = [some (.ref T),some (.ref E),some (.ref L),x3]∧bz H H'∧H' L=some (.lst (ls.map nV))∧j7 ls∧Sound ts es ls∧ls.length=ts.length∧∀ a b:Nat,(a,b)∈es->ls[a]? = ls[b]?,fun cc H' h=>h,?_⟩
   exact⟨_,hbt rfl,fU,rfl,rfl,Yk,Gw,YZ,YS,by omega,aa6⟩
  | false =>
   obtain⟨el,hm⟩:=hbf rfl
   refine iZ ⟨_,rfl,q L fU H4 Yk Ry Gw ⟨by omega,YZ,YS,fun i j hi hj e => ?_⟩⟩
   rw[el]
   exact Qd DL Vv Rg Vw hm e
 ·refine⟨_,rfl,E,rfl,⟨iU,rV.seq hE⟩,?_⟩
  refine jX (xs:=iU) (Cf H T E L ts es)
   ⟨_,none,rfl,rV,Jc,S4 _,OK _ _ _,fb,fun j a b hj=>absurd hj (o9 _)⟩ ?_ ?_ ?_
  ·rintro i cc H' _ ⟨ls,x3,rfl,sm,_⟩
   exact sm.seq hE
  ·rintro i x cc H' hx ⟨ls,x3,rfl,sm,DM,qI,kH,qp,K3⟩
   obtain⟨⟨a,b⟩,he,ea,rest,rfl,hea⟩:=GL Y1 hx
   have Vx:=sm _ _ hea
   obtain⟨ha,hb⟩:=Vv a b (aK he)
   obtain⟨la,F7⟩:∃ la,ls[a]? = some la:=⟨_,ai (by omega)⟩
   obtain⟨lb,Nb⟩:∃ lb,ls[b]? = some lb:=⟨_,ai (by omega)⟩
   refine⟨_,rfl,_,rfl,ea,_,0,_,rfl,rfl,bY.of Vx,a7 (j:=0) rfl,_,rfl,ea,_,1,_,rfl,rfl,bY.of Vx,a7 (j:=1) rfl,L,ls,a,b,la,lb,rfl,DM,qI,by omega,F7,Nb,fun e => ?_,fun e => ?_⟩
   ·refine⟨ls,_,rfl,sm,DM,qI,kH,qp,fun j c d hj ly => ?_⟩
    by_cases F8:j < i
    ·exact K3 j c d F8 ly
    ·have e':j=i:=by omega
     subst e'
     rw[he]at ly;cases ly
     rw[F7,Nb,e]
   ·have e1:Eqv ts es la lb := .trans (.symm (kH a la F7)) (.trans (.WD (aK he)) (kH b lb Nb))
    have g1:=(qI a la F7).2
    have g2:=(qI b lb Nb).2
    have WA:Eqv ts es (max la lb) (min la lb):=by
     rcases mM la lb with h | h
     ·rw[kZ h,dj h];exact e1.symm
     ·rw[l9 h,kY h];exact e1
    have IS:ls[min la lb]? = some (min la lb):=by
     rcases mM la lb with h | h
     ·rw[dj h];exact g1
     ·rw[kY h];exact g2
    have cS:min la lb < max la lb:=by omega
    refine⟨jn ls (max la lb) (min la lb),_,rfl,sm.put Ry,ay,Ji qI IS cS,E3 kH WA,by rw[MV];exact qp,fun j c d hj ly => ?_⟩
    by_cases F8:j < i
    ·have:=K3 j c d F8 ly
     rw[oP,oP,this]
    ·have e':j=i:=by omega
     subst e'
     rw[he]at ly;cases ly
     rw[oP,oP,F7,Nb]
     show some _=some _
     unfold lr
     by_cases h:la<=lb
     ·rw[kZ h,dj h,if_neg e,if_pos rfl]
     ·rw[l9 (by omega),kY (by omega),if_pos rfl,if_neg (fun z=>e z.symm)]
  ·rintro cc H' ⟨ls,x3,rfl,sm,DM,qI,kH,qp,K3⟩
   refine key _ _ ⟨ls,x3,rfl,sm,DM,qI,kH,qp,fun a b h => ?_⟩
   obtain⟨j,hj⟩:=oz.mp h
   exact K3 j a b (by rw[hue];exact(ah.mp hj).1) hj
inductive Ob (K:ak) (vs:List V) (H:Hp) (Q:VK):Prop
 | mk (a:Addr) (ns:List Int) (k:Int) (z0:vs = [.ref a,.int k]) (z1:bo K H a (ns.map V.int)) (z2:0<=k) (z3:∀ c:Int,Q (.int c) H):Ob K vs H Q
def E2 (K:ak):Sp:=fun vs H Q _=>Ob K vs H Q
theorem KG (B:nG mg) (D:Def K mg "_law_cell_at" xw ["_law_script", "_law_k"]):dP P w K mg base 1 "_law_cell_at" ["_law_script", "_law_k"] (E2 K):=by
 refine D.has Ks (fun vs H Q E h => ?_) (fun f da A outer s H vs Q E hr h => ?_)
 ·obtain⟨a,ns,k,rfl,_⟩:=h;rfl
 obtain⟨a,ns,k,rfl,hS,h0,q⟩:=h
 refine⟨_,(ax (dz (b8 vN (pv 1) (bX b7 rfl B.gU bD (ag (pv 0) aw)) (cC _)) (aO (bZ (aZ b9 (pv 0) (pv 1)))) cJ)
  (aO (bZ az))),?_⟩
 try dsimp only[eD]
 refine⟨_,rfl,_,rfl,a,_,rfl,.inl hS,k,_,rfl,rfl,_,rfl,?_⟩
 refine gy (fun c => ?_) (fun c => ?_)
 ·rw[aj]at c
  have hk:k.toNat < ns.length:=by omega
  have ek:((k.toNat:Nat):Int)=k:=by omega
  have ha:ou (ns.map V.int) k=some (.int ns[k.toNat]):=by
   have z:ou (ns.map V.int) ((k.toNat:Nat):Int)=some (.int ns[k.toNat]):=a7 (by rw[aH,ai hk];rfl)
   rw[ek]at z
   exact z
  exact⟨_,rfl,_,rfl,a,_,k,_,rfl,rfl,hS,ha,q _⟩
 ·exact q 0
inductive JK (vs:List V) (H:Hp) (Q:VK):Prop
 | mk (c k:Int) (z0:vs = [.int c,.int k]) (z1:0<=k) (z2:k<=100000) (z3:∀ m:Int,0<=m->m < 2147483629->Q (.int m) H):JK  vs H Q
def yZ:Sp:=fun vs H Q _=>JK  vs H Q
theorem O8 (D:Def K mg "_law_mixed" Cy ["_law_cell", "_law_k"]):dP P w K mg base 1 "_law_mixed" ["_law_cell", "_law_k"] yZ:=by
 refine D.has E6 (fun vs H Q E h => ?_) (fun f da A outer s H vs Q E hr h => ?_)
 ·obtain⟨c,k,rfl,_⟩:=h;rfl
 obtain⟨c,k,rfl,h0,h1,q⟩:=h
 refine⟨_,(ax (bC (i:=2) E6.nd rfl (aP rfl) (bb cK (bb uJ (bb jJ (bb cK (pv 0) az) az) (bb jJ az (bb uJ (bb uJ az (pv 1)) (pv 1)))) az))
  (aO (bZ (bb cK (bb uJ (pv 2) (pv 2)) az)))),?_⟩
 try dsimp only[eD]
 have p1:0<=c % 2147483647:=bI _ (by decide)
 have p2:c % 2147483647 < 2147483647:=bp _ (by decide)
 refine⟨_,rfl,c,2147483647,rfl,rfl,eI,_,_,rfl,rfl,_,rfl,2,k,rfl,rfl,.inl (by decide),_,rfl,_,_,rfl,rfl,.inl ⟨by omega,by omega⟩,_,_,rfl,rfl,_,_,rfl,rfl,.inl ⟨by omega,by omega⟩,_,_,rfl,rfl,eI,?_⟩
 have m1:0<=(c % 2147483647+1) * (48271+2 * k * k) % 2147483647:=bI _ (by decide)
 have m2:(c % 2147483647+1) * (48271+2 * k * k) % 2147483647 < 2147483647:=bp _ (by decide)
 refine⟨_,rfl,_,rfl,_,_,rfl,rfl,.inl ⟨mR (by decide) m1,Int.lt_trans m2 (by decide)⟩,_,_,rfl,rfl,eI,?_⟩
 exact q _ (bI _ (by decide)) (bp _ (by decide))
inductive N4 (vs:List V) (H:Hp) (Q:VK):Prop
 | mk (m:Int) (z0:vs = [.int m]) (z1:Q (.str (uD m)) H):N4  vs H Q
def LS:Sp:=fun vs H Q _=>N4  vs H Q
theorem SH (D:Def K mg "_law_word" E8 ["_law_m"]):dP P w K mg base 1 "_law_word" ["_law_m"] LS:=by
 refine D.has uH (fun vs H Q E h => ?_) (fun f da A outer s H vs Q E hr h => ?_)
 ·obtain⟨m,rfl,_⟩:=h;rfl
 obtain⟨m,rfl,q⟩:=h
 refine⟨_,(ax (bC (i:=1) uH.nd rfl (aP rfl) eF)
  (ax (bC (i:=2) uH.nd rfl (aP rfl) (bb jJ az (bb cK (pv 0) az)))
  (ax (bC (i:=3) uH.nd rfl (aP rfl) (bb cK (bb dR (pv 0) az) (pv 2)))
  (ax (bC (i:=4) uH.nd rfl (aP rfl) (bb Hu (aZ uO (pv 1) (bb cK (bb dR (pv 0) az) az)) (pv 2)))
  (aO (bZ (bb kN (bb kN (jV qB (pv 4) lF (lE (pv 3))) (aZ uO (pv 1) (bb cK (bb dR (pv 0) az) az))) (jV qB (pv 4) (lE (bb jJ (pv 3) az)) lF)))))))),?_⟩
 try dsimp only[eD]
 have a1:0<=m % 8:=bI _ (by decide)
 have a2:m % 8 < 8:=bp _ (by decide)
 have b1:0<=m / 1664 % 26:=bI _ (by decide)
 have b2:m / 1664 % 26 < 26:=bp _ (by decide)
 have c1:0<=m / 64 % 26:=bI _ (by decide)
 have c2:m / 64 % 26 < 26:=bp _ (by decide)
 have hA:(lR m).length<=8:=by
  unfold lR
  rw[vA,oF]
  omega
 have Yl:=hV (lR m) none (some (m / 8 % (1+m % 8)))
 have wJ:=hV (lR m) (some (m / 8 % (1+m % 8)+1)) none
 refine⟨_,rfl,_,_,rfl,rfl,eI,_,_,rfl,rfl,?_⟩
 refine⟨_,rfl,_,_,rfl,rfl,ji,_,rfl,_,_,rfl,rfl,by omega,?_⟩
 refine⟨_,rfl,_,rfl,_,_,rfl,rfl,ji,_,_,rfl,rfl,eI,_,_,_,rfl,rfl,by decide,yo b1 b2,_,rfl,_,_,rfl,rfl,by omega,by omega,by show (1:Nat)<=1000;decide,?_⟩
 refine⟨_,rfl,_,rfl,_,rfl,lR m,rfl,aF hA (by decide),_,rfl,_,rfl,_,_,rfl,rfl,ji,_,_,rfl,rfl,eI,_,_,_,rfl,rfl,by decide,yo c1 c2,_,_,rfl,rfl,?_,?_⟩
 ·show (cN (lR m) none (some (m / 8 % (1+m % 8)))).length+(sg (m / 64 % 26)).length<=sizeLine
  rw[oF]
  exact aF (by omega:_<=1000) (by decide)
 refine⟨_,rfl,_,rfl,_,_,rfl,rfl,_,rfl,lR m,rfl,aF hA (by decide),_,_,rfl,rfl,?_,?_⟩
 ·show (cN (lR m) none (some (m / 8 % (1+m % 8))) ++ sg (m / 64 % 26)).length+(cN (lR m) (some (m / 8 % (1+m % 8)+1)) none).length<=sizeLine
  rw[j3,oF]
  exact aF (by omega:_<=1000) (by decide)
 ·exact q
inductive Hb (vs:List V) (H:Hp) (Q:VK):Prop
 | mk (c m:Int) (z0:vs = [.int c,.int m]) (z1 : -(2 ^ 64) < m) (z2:m < 2 ^ 64) (z3:∀ n:Int, -(10 ^ 60) < n->n < 10 ^ 60->∀ H',bz H H'->Q (.int n) H'):Hb  vs H Q
def EW:Sp:=fun vs H Q _=>Hb  vs H Q
theorem My {x y M:Int} (hy:y=2 * M+1) (hM:0<=M) : -M<=x % y - M∧x % y - M<=M:=by
 have h1:0<=x % y:=bI _ (by omega)
 have h2:x % y < y:=bp _ (by omega)
 omega
theorem Mo (D:Def K mg "_law_number" Ac ["_law_cell", "_law_m"]):dP P w K mg base 1 "_law_number" ["_law_cell", "_law_m"] EW:=by
 refine D.has Dy (fun vs H Q E h => ?_) (fun f da A outer s H vs Q E hr h => ?_)
 ·obtain⟨c,m,rfl,_⟩:=h;rfl
 obtain⟨c,m,rfl,h0,h1,q⟩:=h
 have big:(10:Int) ^ (60:Int).toNat - 1=10 ^ 60 - 1:=rfl
 have hm:m.natAbs < 2 ^ 64:=by omega
 refine⟨_,(ax (bC (i:=2) Dy.nd rfl (aP rfl) (bb A7 (bb xH az az) az))
  (ax (dz (b8 je (bb cK (pv 1) az) az (cC _)) (aO (bZ (bb A7 (bb cK (pv 0) az) az))) cJ)
  (ax (dz (b8 je (bb cK (pv 1) az) az (cC _)) (aO (bZ (bb A7 (bb cK (bb xH (pv 1) az) (bb jJ (bb uJ az (pv 2)) az)) (pv 2)))) cJ)
  (ax (dz (b8 je (bb cK (pv 1) az) az (cC _)) (aO (bZ (bb A7 (bb cK (pv 0) (bb jJ (bb uJ az (pv 2)) az)) (pv 2)))) cJ)
  (aO (bZ (aZ b9 (dZ (ag (pv 2) (ag (QT LJ (pv 2)) (ag (bb xH az az) (ag (QT LJ (bb xH az az)) (ag az (ag az aw))))))) (bb cK (bb dR (pv 1) az) az)))))))),?_⟩
 try dsimp only[eD]
 refine⟨10,60,rfl,rfl,⟨by decide,by decide,by decide⟩,_,_,rfl,rfl,?_⟩
 refine⟨_,rfl,_,_,rfl,rfl,eI,rfl,_,rfl,?_⟩
 refine gy (fun _ => ?_) (fun _ => ?_)
 ·have p1:0<=c % 19:=bI _ (by decide)
  have p2:c % 19 < 19:=bp _ (by decide)
  exact⟨_,rfl,_,_,rfl,rfl,eI,_,_,rfl,rfl,q _ (by omega) (by omega) _ (bz.refl _)⟩
 refine⟨_,rfl,_,_,rfl,rfl,eI,rfl,_,rfl,?_⟩
 refine gy (fun _ => ?_) (fun _ => ?_)
 ·have z:=My (x:=m ^ (11:Int).toNat) (y:=2 * ((10:Int) ^ (60:Int).toNat - 1)+1) (M:=(10:Int) ^ (60:Int).toNat - 1) rfl (by rw[big];decide)
  have z1:=mR (show -(10 ^ 60:Int) < -((10:Int) ^ (60:Int).toNat - 1) by decide) z.1
  have z2:=yG z.2 (show (10:Int) ^ (60:Int).toNat - 1 < 10 ^ 60 by decide)
  exact⟨_,rfl,m,11,rfl,rfl,⟨by decide,by decide,hm⟩,_,rfl,2,_,rfl,rfl,.inl (by decide),_,_,rfl,rfl,_,_,rfl,rfl,(by decide:(0:Int) < 2 * ((10:Int) ^ (60:Int).toNat - 1)+1),_,rfl,_,_,rfl,rfl,q _ z1 z2 _ (bz.refl _)⟩
 refine⟨_,rfl,_,_,rfl,rfl,eI,rfl,_,rfl,?_⟩
 refine gy (fun _ => ?_) (fun _ => ?_)
 ·have z:=My (x:=c) (y:=2 * ((10:Int) ^ (60:Int).toNat - 1)+1) (M:=(10:Int) ^ (60:Int).toNat - 1) rfl (by rw[big];decide)
  have z1:=mR (show -(10 ^ 60:Int) < -((10:Int) ^ (60:Int).toNat - 1) by decide) z.1
  have z2:=yG z.2 (show (10:Int) ^ (60:Int).toNat - 1 < 10 ^ 60 by decide)
  exact⟨_,rfl,_,rfl,2,_,rfl,rfl,.inl (by decide),_,_,rfl,rfl,_,_,rfl,rfl,(by decide:(0:Int) < 2 * ((10:Int) ^ (60:Int).toNat - 1)+1),_,rfl,_,_,rfl,rfl,q _ z1 z2 _ (bz.refl _)⟩
 have p1:0<=m / 4 % 6:=bI _ (by decide)
 have p2:m / 4 % 6 < 6:=bp _ (by decide)
 refine⟨_,rfl,_,rfl,_,rfl,10,59,rfl,rfl,⟨by decide,by decide,by decide⟩,10,59,rfl,rfl,⟨by decide,by decide,by decide⟩,_,rfl,(by show 6<=sizeLine;decide),fun p hp => ?_⟩
 refine⟨_,rfl,_,_,rfl,rfl,ji,_,_,rfl,rfl,eI,?_⟩
 have sm:bz H (aG H p (.lst [.int ((10:Int) ^ (60:Int).toNat - 1),.int (-((10:Int) ^ (60:Int).toNat - 1)),.int ((10:Int) ^ (59:Int).toNat),.int (-((10:Int) ^ (59:Int).toNat)),.int 10,.int 0])):=aM hp _
 have fin:∀ n:Int, -(10 ^ 60) < n->n < 10 ^ 60->ou [.int ((10:Int) ^ (60:Int).toNat - 1),.int (-((10:Int) ^ (60:Int).toNat - 1)),.int ((10:Int) ^ (59:Int).toNat),.int (-((10:Int) ^ (59:Int).toNat)),V.int 10,.int 0] (m / 4 % 6)=some (.int n) ->
   xE K (.ref p) (.int (m / 4 % 6)) (aG H p (.lst [.int ((10:Int) ^ (60:Int).toNat - 1),.int (-((10:Int) ^ (60:Int).toNat - 1)),.int ((10:Int) ^ (59:Int).toNat),.int (-((10:Int) ^ (59:Int).toNat)),.int 10,.int 0])) Q :=
  fun n n1 n2 hn=>⟨p,_,_,.int n,rfl,rfl,bo.of ay,hn,q n n1 n2 _ sm⟩
 rcases(by omega:m / 4 % 6=0∨m / 4 % 6=1∨m / 4 % 6=2∨m / 4 % 6=3∨m / 4 % 6=4∨m / 4 % 6=5) with e | e | e | e | e | e
 ·exact fin ((10:Int) ^ (60:Int).toNat - 1) (by decide) (by decide) (by rw[e];rfl)
 ·exact fin (-((10:Int) ^ (60:Int).toNat - 1)) (by decide) (by decide) (by rw[e];rfl)
 ·exact fin ((10:Int) ^ (59:Int).toNat) (by decide) (by decide) (by rw[e];rfl)
 ·exact fin (-((10:Int) ^ (59:Int).toNat)) (by decide) (by decide) (by rw[e];rfl)
 ·exact fin 10 (by decide) (by decide) (by rw[e];rfl)
 ·exact fin 0 (by decide) (by decide) (by rw[e];rfl)
theorem Pz {z:Str} (h:Eg z) {k:Nat} (hk:k < z.length) {j:Int} (h0:0<=j) (h1:j < 26):Eg (cN z none (some ((k:Nat):Int)) ++ sg j ++ cN z (some (((k:Nat):Int)+1)) none):=by
 obtain⟨l1,l8,hc⟩:=h
 have e1:HT.ip z.length z.length (some (k:Int))=k:=by rw[HT.rK];exact dj (fA hk)
 have e2:HT.ip z.length 0 (some ((k:Int)+1))=k+1:=by
  have e:(k:Int)+1=((k+1:Nat):Int):=rfl
  rw[e,HT.rK];exact dj hk
 have ec:(cN z none (some ((k:Nat):Int)) ++ sg j ++ cN z (some (((k:Nat):Int)+1)) none).cps.toList=z.cps.toList.take k ++ [97+j.toNat] ++ z.cps.toList.drop (k+1):=by
  rw[ve,ve,qA,qA,e1,e2,HT.pU,HT.pU,qb,mK]
  congr 1
  refine gB ?_
  rw[eP, <- oj]
  exact ao _
 have el:(cN z none (some ((k:Nat):Int)) ++ sg j ++ cN z (some (((k:Nat):Int)+1)) none).length=z.length:=by
  rw[oj,ec,au,au,bA,eP, <- oj]
  show min k z.length+1+(z.length - (k+1))=z.length
  omega
 refine⟨by rw[el];exact l1,by rw[el];exact l8,fun c gN => ?_⟩
 rw[ec]at gN
 rcases bg.mp gN with gN | gN
 ·rcases bg.mp gN with gN | gN
  ·exact hc c (fN gN)
  ·have:=av.mp gN
   omega
 ·exact hc c (ie gN)
theorem PB {z:Str} (h:Eg z) (hl:z.length < 8) {j:Int} (h0:0<=j) (h1:j < 26):Eg (z ++ sg j):=by
 obtain⟨l1,l8,hc⟩:=h
 refine⟨by rw[j3];omega,by rw[j3,oF];omega,fun c gN => ?_⟩
 rw[ve]at gN
 rcases bg.mp gN with gN | gN
 ·exact hc c gN
 ·have:=av.mp (show c ∈ [97+j.toNat] from gN)
  omega
theorem IE {z:Str} (h:Eg z):Eg (cN z none (some 7)):=by
 obtain⟨l1,l8,hc⟩:=h
 have e7:HT.ip z.length z.length (some (7:Int))=min 7 z.length:=HT.rK z.length z.length 7
 have ec:(cN z none (some 7)).cps.toList=z.cps.toList.take (min 7 z.length):=by
  rw[qA,e7,HT.pU,qb,mK]
 have el:(cN z none (some 7)).length=min 7 z.length:=by
  rw[oj,ec,bA, <- oj];omega
 refine⟨by rw[el];omega,by rw[el];omega,fun c gN => ?_⟩
 rw[ec]at gN
 exact hc c (fN gN)
def qP (H:Hp) (l:Addr) (ws:List Str):Prop:=H l=some (.lst (ws.map V.str))∧ws.length=3∧∀ z∈ws,Eg z
inductive N6 (vs:List V) (H:Hp) (Q:VK):Prop
 | mk (m:Int) (z0:vs = [.int m]) (z1:∀ l ws H',bz H H'->qP H' l ws->Q (.ref l) H'):N6  vs H Q
def LU:Sp:=fun vs H Q _=>N6  vs H Q
theorem SI (B:nG mg) (Gi:dP P w K mg base 1 "_law_word" ["_law_m"] LS) (D:Def K mg "_law_pool" Fc ["_law_m"]):dP P w K mg base 2 "_law_pool" ["_law_m"] LU:=by
 refine D.has rJ (fun vs H Q E h => ?_) (fun f da A outer s H vs Q E hr h => ?_)
 ·obtain⟨m,rfl,_⟩:=h;rfl
 obtain⟨m,rfl,q⟩:=h
 refine⟨_,(ax (bC (i:=1) rJ.nd rfl (aP rfl) eF)
  (ax (bC (i:=2) rJ.nd rfl (aP rfl) (cj Gi hr (by omega) rfl (ag (pv 0) aw)))
  (ax (bC (i:=3) rJ.nd rfl (aP rfl) (bb cK (bb dR (pv 0) az) (bX sG rfl B.gU bD (ag (pv 2) aw))))
  (ax (bC (i:=4) rJ.nd rfl (aP rfl) (aZ uO (pv 1) (bb cK (bb jJ (bb jJ (j1 PySem.F.plainAttrs_str PySem.F.slot_str_index PySem.F.type_str_index Pf (pv 1) (ag (aZ uO (pv 2) (pv 3)) aw)) az) (bb cK (bb dR (pv 0) az) az)) az)))
  (ax (bC (i:=5) rJ.nd rfl (aP rfl) (bb kN (bb kN (jV qB (pv 2) lF (lE (pv 3))) (pv 4)) (jV qB (pv 2) (lE (bb jJ (pv 3) az)) lF)))
  (ax (dz (b8 vN (bX sG rfl B.gU bD (ag (pv 2) aw)) az (cC _)) (aO (bZ (dZ (ag (pv 2) (ag (pv 5) (ag (bb kN (pv 2) (aZ uO (pv 1) (bb cK (bb dR (pv 0) az) az))) aw)))))) cJ)
  (aO (bZ (dZ (ag (pv 2) (ag (pv 5) (ag (jV qB (pv 2) lF (lE az)) aw)))))))))))),?_⟩
 try dsimp only[eD]
 have hw:=LD m
 refine⟨_,rfl,m,rfl,?_⟩
 dsimp only[bH]
 generalize uD m=z at hw
 obtain⟨l1,l8,hc⟩:=id hw
 have hz:z.length<=sizeLine:=aF l8 (by decide)
 refine⟨_,rfl,_,_,rfl,rfl,ji,_,rfl,z,rfl,hz,_,_,rfl,rfl,(by omega),?_⟩
 dsimp only[bH]
 have k0:0<=m / 7 % ((z.length:Nat):Int):=bI _ (by omega)
 have k1:m / 7 % ((z.length:Nat):Int) < ((z.length:Nat):Int):=bp _ (by omega)
 obtain⟨k,ek⟩:∃ k:Nat,m / 7 % ((z.length:Nat):Int)=(k:Int):=⟨_,(iE k0).symm⟩
 rw[ek]at k1 ⊢
 have hk:k < z.length:=yF.mp k1
 have wO:k < z.cps.toList.length:=by rw[<- oj];exact hk
 have Y4:=hc _ (k4 wO)
 refine⟨_,rfl,_,rfl,rfl,_,rfl,_,rfl,z,_,_,rfl,rfl,hz,a7 (ai wO),_,rfl,rfl,Y4.1,Y4.2,fun ix => ?_⟩
 refine⟨_,_,rfl,rfl,_,rfl,_,_,rfl,rfl,ji,_,_,rfl,rfl,eI,_,_,rfl,rfl,_,_,rfl,rfl,eI,?_⟩
 have t0:0<=((ix:Int)+1+m / 50 % 25) % 26:=bI _ (by decide)
 have t1:((ix:Int)+1+m / 50 % 25) % 26 < 26:=bp _ (by decide)
 refine⟨_,_,_,rfl,rfl,by decide,yo t0 t1,?_⟩
 dsimp only[bH]
 have ho:=Pz hw hk t0 t1
 generalize ((ix:Int)+1+m / 50 % 25) % 26=tj at t0 t1 ho ⊢
 have Yl:=hV z none (some ((k:Nat):Int))
 have wJ:=hV z (some (((k:Nat):Int)+1)) none
 refine⟨_,rfl,_,rfl,_,rfl,z,rfl,hz,_,rfl,_,_,rfl,rfl,?_,?_⟩
 ·show (cN z none (some ((k:Nat):Int))).length+(sg tj).length<=sizeLine
  rw[oF]
  exact aF (by omega:_<=1000) (by decide)
 refine⟨_,rfl,_,rfl,_,_,rfl,rfl,_,rfl,z,rfl,hz,_,_,rfl,rfl,?_,?_⟩
 ·show (cN z none (some ((k:Nat):Int)) ++ sg tj).length+(cN z (some (((k:Nat):Int)+1)) none).length<=sizeLine
  rw[j3,oF]
  exact aF (by omega:_<=1000) (by decide)
 dsimp only[bH]
 have g0:0<=m / 90 % 26:=bI _ (by decide)
 have g1:m / 90 % 26 < 26:=bp _ (by decide)
 refine⟨_,rfl,z,rfl,hz,_,_,rfl,rfl,_,rfl,gy (fun cS => ?_) (fun lX => ?_)⟩
 ·have hl8:z.length < 8:=by omega
  refine⟨_,rfl,_,rfl,_,rfl,_,rfl,_,rfl,_,_,rfl,rfl,ji,_,_,rfl,rfl,eI,_,_,_,rfl,rfl,by decide,yo g0 g1,_,_,rfl,rfl,?_,(show 3<=sizeLine by decide),fun l hl => ?_⟩
  ·show z.length+(sg (m / 90 % 26)).length<=sizeLine
   rw[oF]
   exact aF (by omega:_<=1000) (by decide)
  ·refine q l [z,_,z ++ sg (m / 90 % 26)] _ (aM hl _) ⟨ay,rfl,fun y hy => ?_⟩
   rcases aN.mp hy with rfl | hy
   ·exact hw
   rcases aN.mp hy with rfl | hy
   ·exact ho
   ·rw[av.mp hy];exact PB hw hl8 g0 g1
 ·refine⟨_,rfl,_,rfl,_,rfl,_,rfl,z,rfl,hz,(show 3<=sizeLine by decide),fun l hl => ?_⟩
  refine q l [z,_,cN z none (some 7)] _ (aM hl _) ⟨ay,rfl,fun y hy => ?_⟩
  rcases aN.mp hy with rfl | hy
  ·exact hw
  rcases aN.mp hy with rfl | hy
  ·exact ho
  ·rw[av.mp hy];exact IE hw
theorem G2 {xs:List V}{i:Int} (h0:0<=i) (h1:i < xs.length):∃ v,ou xs i=some v∧v∈xs:=by
 have hi:i.toNat < xs.length:=by omega
 have z:ou xs ((i.toNat:Nat):Int)=some xs[i.toNat]:=a7 (ai hi)
 rw[show ((i.toNat:Nat):Int)=i by omega]at z
 exact⟨_,z,k4 hi⟩
def G9 (iF:Nat) (t:Tm):Prop := ∀ x as,t = .of x as->as.length<=4∧1<=as.length∧∀ a∈as,a < iF
theorem Pq {iF:Nat}{n:Int}:G9 iF (.num n):=fun x as e=>nomatch e
theorem DG {iF:Nat}{n:Str}:G9 iF (.name n):=fun x as e=>nomatch e
theorem xj {ts:List Tm}{t:Tm} (h:G8 ts) (ht:G9 ts.length t) (hn:fT t ∉ ts.map fT):G8 (ts ++ [t]):=by
 have key:∀ (i:Nat) y as,(ts ++ [t])[i]? = some (.of y as)->ts[i]? = some (.of y as)∨(i=ts.length∧t = .of y as):=fun i y as e=>by
  by_cases hi:i < ts.length
  ·rw[gR hi]at e;exact .inl e
  ·rw[dk (by omega)]at e
   by_cases h0:i - ts.length=0
   ·rw[h0]at e
    exact .inr ⟨by omega,by simpa using e⟩
   ·rw[d7 (by simp;omega)]at e;cases e
 refine⟨fun i y as e a ha => ?_,fun i y as e => ?_,?_⟩
 ·rcases key i y as e with e' | ⟨rfl,e'⟩
  ·exact h.1 i y as e' a ha
  ·exact(ht _ _ e').2.2 a ha
 ·rcases key i y as e with e' | ⟨rfl,e'⟩
  ·exact h.2.1 i y as e'
  ·exact⟨(ht _ _ e').1,(ht _ _ e').2.1⟩
 ·rw[fZ]
  refine⟨h.2.2,by simp,fun a ha b hb => ?_⟩
  rw[av.mp hb]
  intro e
  exact hn (bu.mpr ⟨a,ha,by rw[e]⟩)
structure yx (H H':Hp) (T E:Addr) (us iU:List V) (ts:List Tm) (es:List (Nat × Nat)):Prop where
 same:bz H H'
 t0:H T=none
 e0:H E=none
 te:T≠E
 hT:H' T=some (.lst us)
 iz:mG H' us ts
 hE:H' E=some (.lst iU)
 u4:Cn H' iU es
 ok:G8 ts
 jZ:ts.length<=24
 lt:∀ a b:Nat,(a,b)∈es->a < ts.length∧b < ts.length
theorem CG {ts:List Tm}{es:List (Nat × Nat)}{a b:Nat} (h:∀ a b:Nat,(a,b)∈es->a < ts.length∧b < ts.length) (ha:a < ts.length) (hb:b < ts.length):∀ x y:Nat,(x,y)∈es ++ [(a,b)]->x < ts.length∧y < ts.length:=fun x y hm=>by
 rcases bg.mp hm with hm | hm
 ·exact h x y hm
 ·have:=av.mp hm
  cases this
  exact⟨ha,hb⟩
inductive JH (vs:List V) (H:Hp) (Q:VK):Prop
 | mk (c m:Int) (T l:Addr) (us:List V) (n:Nat) (ws:List Str) (z0:vs = [.int c,.int m,.ref T,.ref l]) (z1:0<=m) (z2:m < 2147483629) (z3:H T=some (.lst us)) (z4:us.length=n) (z5:0 < n) (z6:qP H l ws) (z7:∀ v t H',bz H H'->i7 H' t v->G9 n t->Q v H'):JH  vs H Q
def HX:Sp:=fun vs H Q _=>JH  vs H Q
theorem rM {H:Hp}{l:Addr}{ws:List Str} (h:qP H l ws) {i:Int} (h0:0<=i) (h1:i < 3):∃ z,z∈ws∧ou (ws.map V.str) i=some (.str z):=by
 obtain⟨y,hy,hm⟩:=G2 (xs:=ws.map V.str) h0 (by rw[aj,h.2.1];exact h1)
 obtain⟨z,hz,rfl⟩:=bu.mp hm
 exact⟨z,hz,hy⟩
theorem qP.same {H H':Hp}{l:Addr}{ws:List Str} (h:qP H l ws) (s:bz H H'):qP H' l ws:=⟨s _ _ h.1,h.2⟩
theorem SS {xs:List V}{n:Nat} (h:∀ x∈xs,∃ k:Nat,x=nV k∧k < n):∃ ks:List Nat,xs=ks.map nV∧∀ k∈ks,k < n:=by
 induction xs with
 | nil=>exact⟨[],rfl,fun k hk=>nomatch hk⟩
 | cons x xs ih =>
  obtain⟨k,rfl,hk⟩:=h x aU
  obtain⟨ks,rfl,IT⟩:=ih fun y hy=>h y (aI _ hy)
  refine⟨k :: ks,rfl,fun j hj => ?_⟩
  rcases aN.mp hj with rfl | hj
  ·exact hk
  ·exact IT j hj
theorem y8 {m:Int}{c n:Nat} (hn:0 < n):∃ k:Nat,V.int (m / (c:Int) % ((n:Nat):Int))=nV k∧k < n:=by
 have h0:0<=m / (c:Int) % ((n:Nat):Int):=bI _ (by omega)
 have h1:m / (c:Int) % ((n:Nat):Int) < ((n:Nat):Int):=bp _ (by omega)
 refine⟨(m / (c:Int) % ((n:Nat):Int)).toNat,?_,by omega⟩
 show V.int _=V.int _
 rw[iE h0]
theorem O5 (B:nG mg) (As:dP P w K mg base 1 "_law_number" ["_law_cell", "_law_m"] EW) (D:Def K mg "_law_term" E9 ["_law_cell", "_law_m", "_law_terms_here", "_law_pool_here"]):dP P w K mg base 2 "_law_term" ["_law_cell", "_law_m", "_law_terms_here", "_law_pool_here"] HX:=by
 refine D.has Cu (fun vs H Q E h => ?_) (fun f da A outer s H vs Q E hr h => ?_)
 ·obtain⟨c,m,T,l,us,n,ws,rfl,_⟩:=h;rfl
 obtain⟨c,m,T,l,us,n,ws,rfl,m0,m1,hT,hun,hn,hp,q⟩:=h
 refine⟨_,(ax (bC (i:=4) Cu.nd rfl (aP rfl) (bX b7 rfl B.gU bD (ag (pv 2) aw)))
  (ax (dz (b8 je (bb cK (pv 1) az) az (cC _)) (ax (dz (b8 je (bb cK (bb dR (pv 1) az) az) az (cC _)) (aO (bZ (gL (ag eF (ag (cj As hr (by omega) rfl (ag (pv 0) (ag (bb dR (pv 1) az) aw))) aw))))) cJ)
  (aO (bZ (gL (ag eF (ag (aZ b9 (pv 3) (bb cK (bb dR (pv 1) az) az)) aw)))))) cJ)
  (ax (bC (i:=5) Cu.nd rfl (aP rfl) (dZ (ag (bb cK (bb dR (pv 1) az) (pv 4)) (ag (bb cK (bb dR (pv 1) az) (pv 4)) (ag (bb cK (bb dR (pv 1) az) (pv 4)) (ag (bb cK (bb dR (pv 1) az) (pv 4)) aw))))))
  (aO (bZ (gL (ag eF (ag (aZ b9 (pv 3) (bb cK (bb dR (pv 1) az) az)) (ag (fy lA rfl B.uE lJ (ag (jV Ic (pv 5) lF (lE (aZ b9 (dZ (O3 (L := [1,2,2,3,4]) (by decide +kernel))) (bb cK (bb dR (pv 1) az) az)))) aw)) aw))))))))),?_⟩
 try dsimp only[eD]
 refine⟨_,rfl,T,us,rfl,.inl (bo.of hT),?_⟩
 dsimp only[bH]
 rw[hun]
 refine⟨_,rfl,_,_,rfl,rfl,eI,rfl,_,rfl,gy (fun _ => ?_) (fun _ => ?_)⟩
 ·have a0:0<=m / 4 % 3:=bI _ (by decide)
  have a1:m / 4 % 3 < 3:=bp _ (by decide)
  refine⟨_,rfl,_,_,rfl,rfl,ji,_,_,rfl,rfl,eI,rfl,_,rfl,gy (fun _ => ?_) (fun _ => ?_)⟩
  ·refine⟨_,rfl,_,rfl,_,_,rfl,rfl,ji,c,m / 12,rfl,by omega,by omega,fun k k0 k1 H' sm => ?_⟩
   exact⟨(show 2<=sizeLine by decide),fun p Bo=>q (.ref p) (.num k) _ (sm.trans (aM Bo _)) ⟨p,rfl,ay⟩ Pq⟩
  ·obtain⟨z,hz,sh⟩:=rM hp a0 a1
   exact⟨_,rfl,_,rfl,_,_,rfl,rfl,ji,_,_,rfl,rfl,eI,l,_,_,_,rfl,rfl,bo.of hp.1,sh,(show 2<=sizeLine by decide),fun p Bo=>q (.ref p) (.name z) _ (aM Bo _) ⟨p,rfl,ay⟩ DG⟩
 ·have b0:0<=m / 4 % 2:=bI _ (by decide)
  have b1:m / 4 % 2 < 2:=bp _ (by decide)
  obtain⟨z,hz,sh⟩:=rM hp b0 (Int.lt_trans b1 (by decide))
  have Bq:(0:Int) < ((n:Nat):Int):=by omega
  refine⟨_,rfl,_,_,rfl,rfl,ji,_,rfl,_,_,rfl,rfl,Bq,_,rfl,_,_,rfl,rfl,ji,_,rfl,_,_,rfl,rfl,Bq,_,rfl,_,_,rfl,rfl,ji,_,rfl,_,_,rfl,rfl,Bq,_,rfl,_,_,rfl,rfl,ji,_,rfl,_,_,rfl,rfl,Bq,(show 4<=sizeLine by decide),fun N hN => ?_⟩
  dsimp only[bH]
  have lN:∀ x ∈ [V.int (m / 12 % ((n:Nat):Int)),V.int (m / 180 % ((n:Nat):Int)),V.int (m / 2700 % ((n:Nat):Int)),V.int (m / 40500 % ((n:Nat):Int))],∃ k:Nat,x=nV k∧k < n:=fun x hx=>by
   rcases aN.mp hx with rfl | hx
   ·exact y8 (c:=12) hn
   rcases aN.mp hx with rfl | hx
   ·exact y8 (c:=180) hn
   rcases aN.mp hx with rfl | hx
   ·exact y8 (c:=2700) hn
   ·rw[av.mp hx];exact y8 (c:=40500) hn
  have IF:1 <= [V.int (m / 12 % ((n:Nat):Int)),V.int (m / 180 % ((n:Nat):Int)),V.int (m / 2700 % ((n:Nat):Int)),V.int (m / 40500 % ((n:Nat):Int))].length ∧ [V.int (m / 12 % ((n:Nat):Int)),V.int (m / 180 % ((n:Nat):Int)),V.int (m / 2700 % ((n:Nat):Int)),V.int (m / 40500 % ((n:Nat):Int))].length<=4:=(show 1<=4∧4<=4 by decide)
  generalize [V.int (m / 12 % ((n:Nat):Int)),V.int (m / 180 % ((n:Nat):Int)),V.int (m / 2700 % ((n:Nat):Int)),V.int (m / 40500 % ((n:Nat):Int))]=xs at lN IF ⊢
  obtain⟨H1,eH,s1,VX⟩:=alloc hN (.lst xs)
  rw[eH]
  refine⟨_,rfl,_,rfl,_,_,rfl,rfl,ji,_,_,rfl,rfl,eI,l,_,_,_,rfl,rfl,bo.of (hp.same s1).1,sh,_,rfl,(show 5<=sizeLine by decide),fun F hF => ?_⟩
  have d0:0<=m / 8 % 5:=bI _ (by decide)
  have d1:m / 8 % 5 < 5:=bp _ (by decide)
  have hk5:∃ kk:Nat,1<=kk∧ou ([1,2,2,3,4].map V.int) (m / 8 % 5)=some (.int (kk:Int)):=by
   rcases(show m / 8 % 5=0∨m / 8 % 5=1∨m / 8 % 5=2∨m / 8 % 5=3∨m / 8 % 5=4 by omega) with e | e | e | e | e <;> rw[e]
   ·exact⟨1,by decide,rfl⟩
   ·exact⟨2,by decide,rfl⟩
   ·exact⟨2,by decide,rfl⟩
   ·exact⟨3,by decide,rfl⟩
   ·exact⟨4,by decide,rfl⟩
  obtain⟨kk,hkk,abe⟩:=hk5
  have s2:=s1.trans (aM hF (.lst ([1,2,2,3,4].map V.int)))
  have Jb:=aM hF (.lst ([1,2,2,3,4].map V.int)) _ _ VX
  have BF:=ay (H:=H1) (a:=F) (o := .lst ([1,2,2,3,4].map V.int))
  show _
  generalize aG H1 F (.lst ([1,2,2,3,4].map V.int))=H2 at s2 Jb BF ⊢
  refine⟨_,rfl,_,_,rfl,rfl,ji,_,_,rfl,rfl,eI,F,_,_,_,rfl,rfl,bo.of BF,abe,_,rfl,N,xs,rfl,bo.of Jb,fun p F3 => ?_⟩
  obtain⟨ks,eks,IT⟩:=SS fun x hx=>lN x (GR hx:x∈xs)
  have xW:=uk xs none (some (kk:Int))
  have PY:1<=(wj xs none (some (kk:Int))).length:=by
   unfold wj
   rw[HT.rK,HT.pU,bA,eP]
   omega
  rw[eks]at xW PY ⊢
  rw[aj]at xW PY
  have s3:=s2.trans (aM F3 (.lst (ks.map nV)))
  have M9:=ay (H:=H2) (a:=p) (o := .lst (ks.map nV))
  generalize aG H2 p (.lst (ks.map nV))=H3 at s3 M9 ⊢
  refine⟨p,_,rfl,.inl ⟨bo.of M9,fun r mZ => ?_⟩⟩
  have s4:=s3.trans (aM mZ (.tup (ks.map nV)))
  have YU:=ay (H:=H3) (a:=r) (o := .tup (ks.map nV))
  generalize aG H3 r (.tup (ks.map nV))=H4 at s4 YU ⊢
  refine⟨(show 3<=sizeLine by decide),fun o ho=>q (.ref o) (.of z ks) _ (s4.trans (aM ho _)) ⟨o,r,rfl,ay,aM ho _ _ _ YU⟩ fun x as e => ?_⟩
  cases e
  exact⟨by omega,PY,IT⟩
theorem Fi {c:TT}{t u:TS}{D:Ends}{σ : St}{H:Hp} (R:Bool->Hp->Prop) (hc:∀ Q:Bool->Hp->Prop,(∀ b H',R b H'->Q b H')->c σ H Q) (h1:∀ H',R true H'->t D σ H') (h2:∀ H',R false H'->u D σ H'):OI c t u D σ H:=by
 refine hc _ (fun b H' r => ?_)
 cases b with
 | true=>exact my (h1 H' r)
 | false=>exact iZ (h2 H' r)
def wK (H:Hp):V->Option V
 | .ref b=>match H b with
  | some (.tup (.str k :: _))=>if k = "of" then some (.ref b) else none
  | _=>none
 | _=>none
theorem Iq {H:Hp}{t:Tm}{x:V} (h:i7 H t x):∃ b k vs,x = .ref b∧H b=some (.tup (.str k :: vs))∧wK H x=if k = "of" then some x else none:=by
 cases t with
 | num n=>obtain⟨b,rfl,h2⟩:=id h;exact⟨b,_,_,rfl,h2,by unfold wK;dsimp only;rw[h2]⟩
 | name n=>obtain⟨b,rfl,h2⟩:=id h;exact⟨b,_,_,rfl,h2,by unfold wK;dsimp only;rw[h2]⟩
 | of y as=>obtain⟨b,c,rfl,h2,h3⟩:=id h;exact⟨b,_,_,rfl,h2,by unfold wK;dsimp only;rw[h2]⟩
def EB (ts:List Tm):Prop := ∃ (i:Nat) (x:Str) (as:List Nat),ts[i]? = some (.of x as)
theorem VD {H:Hp}{us:List V}{ts:List Tm} (h:mG H us ts) (hn:us.filterMap (wK H) ≠ []):EB ts:=by
 obtain⟨y,hy⟩:=List.exists_mem_of_ne_nil _ hn
 obtain⟨x,hx,e⟩:=fC.mp hy
 obtain⟨j,hj⟩:=eQ hx
 obtain⟨t,ht,hT⟩:=j8 h hj
 cases t with
 | num n=>obtain⟨b,rfl,h2⟩:=id hT;unfold wK at e;dsimp only at e;rw[h2]at e;simp at e;exact absurd e.1 (by decide)
 | name n=>obtain⟨b,rfl,h2⟩:=id hT;unfold wK at e;dsimp only at e;rw[h2]at e;simp at e;exact absurd e.1 (by decide)
 | of y as=>exact⟨j,y,as,ht⟩
inductive JG (vs:List V) (H:Hp) (Q:VK):Prop
 | mk (a l:Addr) (ns:List Int) (ws:List Str) (most vB:Int) (z0:vs = [.ref a,.ref l,.int most,.int vB]) (z1:H a=some (.lst (ns.map V.int))) (z2:ns.length<=80) (z3:qP H l ws) (z4:most<=11) (z5:∀ p T E us iU ts es H',yx H H' T E us iU ts es->H' p=some (.tup [.ref T,.ref E])->0 < ts.length->EB ts->iU.length<=80->Q (.ref p) H'):JG  vs H Q
def HW:Sp:=fun vs H Q _=>JG  vs H Q
inductive Eh (H:Hp) (a l T E:Addr) (most vB:Int) (i:Nat) (σ : St) (H':Hp):Prop
 | mk:∀ (us iU:List V) (ts:List Tm) (es:List (Nat × Nat)) (x6 x7 x8 x9 uC:Option V),(σ = [some (.ref a),some (.ref l),some (.int most),some (.int vB),some (.ref T),some (.ref E),x6,x7,x8,x9,uC])->(yx H H' T E us iU ts es)->(0 < ts.length)->(ts.length<=11)->(iU.length<=i)->Eh H a l T E most vB i σ H'
theorem OE {t:Tm} (h:G9 0 t):G8 [t]:=xj (ts := []) OF h (fun z=>nomatch z)
theorem O4 (B:nG mg) (lH:dP P w K mg base 1 "_law_mixed" ["_law_cell", "_law_k"] yZ) (Gj:dP P w K mg base 2 "_law_term" ["_law_cell", "_law_m", "_law_terms_here", "_law_pool_here"] HX) (D:Def K mg "_law_terms" y1 ["_law_cells", "_law_pool_here", "_law_most", "_law_ties"]):dP P w K mg base 3 "_law_terms" ["_law_cells", "_law_pool_here", "_law_most", "_law_ties"] HW:=by
 refine D.has mq (fun vs H Q E h => ?_) (fun f da A outer s H vs Q E hr h => ?_)
 ·obtain⟨a,l,ns,ws,most,vB,rfl,_⟩:=h;rfl
 obtain⟨a,l,ns,ws,most,vB,rfl,ha,IQ,hp,aeC,q⟩:=h
 refine⟨_,(ax (bC (i:=4) mq.nd rfl (aP rfl) (dZ (ag (gL (ag eF (ag (aZ b9 (pv 1) az) aw))) aw)))
  (ax (bC (i:=5) mq.nd rfl (aP rfl) (dZ aw))
  (ax (gw cy rfl (y4 rfl B.rE (ag (pv 0) aw)) (r6 rfl (gG (cB (i:=6) mq.nd rfl (aP rfl)) (gG (cB (i:=7) mq.nd rfl (aP rfl)) pV)))
  (ax (bC (i:=8) mq.nd rfl (aP rfl) (cj lH hr (by omega) rfl (ag (pv 7) (ag (pv 6) aw))))
  (ax (bC (i:=9) mq.nd rfl (aP rfl) (bX b7 rfl B.gU bD (ag (pv 4) aw)))
  (aO (dz (PW.pt (pw_or (b8 je (bb cK (pv 8) az) az (cC _)) (pw_or1 (b8 XA (pv 9) (pv 2) (cC _))))) (aO (dz (b8 vN (bX b7 rfl B.gU bD (ag (pv 5) aw)) (pv 3) (cC _)) (aO (gK (j1 bL cx cw f9 (pv 5) (ag (gL (ag (bb cK (bb dR (pv 8) az) (pv 9)) (ag (bb cK (bb dR (pv 8) az) (pv 9)) (ag (bb jJ az (bb cK (pv 7) (bb xH az az))) (ag (gL (ag eF aw)) aw))))) aw)))) cJ)) (ax (bC (i:=10) mq.nd rfl (aP rfl) (cj Gj hr (by omega) rfl (ag (pv 7) (ag (bb dR (pv 8) az) (ag (pv 4) (ag (pv 1) aw))))))
  (aO (dz (b8 (Mn (Qu hr)) (pv 10) (pv 4) (by with_unfolding_all rfl)) (aO (gK (j1 bL cx cw f9 (pv 4) (ag (pv 10) aw)))) cJ))))))))
  (ax (dz (b8 je (bX b7 rfl B.gU bD (ag (Fo (te:=_) (ct:=(yY (pE _ (pE (OV K) _ _) _))) (own := ["_law_term_here"]) (caps := []) (kR (a6 y1) ["_law_cells", "_law_pool_here", "_law_most", "_law_ties", "_law_terms_here", "_law_edges", "_law_k", "_law_cell", "_law_m", "_law_n", "_law_term_here"] rfl rfl rfl (by decide +kernel)) (ki (pv 4)) rfl (fun _ _ _=>cB (i:=0) (show (["_law_term_here"]:List Str).Nodup by decide +kernel) rfl (aP rfl)) (fun _ _ _=>(b8 je (aZ cL (pv 0) az) eF (cC _))) (fun _ _ _=>(pv 0))) aw)) az (cC _)) (aO (gK (j1 bL cx cw f9 (pv 4) (ag (gL (ag eF (ag (aZ b9 (pv 1) az) (ag (gL (ag az aw)) aw)))) aw)))) cJ)
  (aO (bZ (gL (ag (pv 4) (ag (pv 5) aw))))))))),?_⟩
 try dsimp only[eD]
 obtain⟨z0,hz0,abg⟩:=rM hp (i:=0) (gW _) (by decide)
 obtain⟨z1,Q5,abf⟩:=rM hp (i:=1) (by decide) (by decide)
 refine⟨_,rfl,l,_,_,_,rfl,rfl,bo.of hp.1,abg,(show 2<=sizeLine by decide),fun p0 Ve=>⟨(show 1<=sizeLine by decide),fun T hT => ?_⟩⟩
 dsimp only[bH]
 have s1:=aM Ve (.tup [.str "name",.str z0])
 have F3:=ay (H:=H) (a:=p0) (o := .tup [.str "name",.str z0])
 generalize aG H p0 (.tup [.str "name",.str z0])=H1 at s1 F3 hT ⊢
 have s2:=s1.trans (aM hT (.lst [.ref p0]))
 have Bn:=aM hT (.lst [.ref p0]) _ _ F3
 have uZ:=ay (H:=H1) (a:=T) (o := .lst [.ref p0])
 generalize aG H1 T (.lst [.ref p0])=H2 at s2 Bn uZ ⊢
 refine⟨aS _,fun E1 hE => ?_⟩
 dsimp only[bH]
 have s3:=s2.trans (aM hE (.lst []))
 have M9:=aM hE (.lst []) _ _ Bn
 have Zb:=aM hE (.lst []) _ _ uZ
 have Zp:=ay (H:=H2) (a:=E1) (o := .lst [])
 have hTE:T≠E1:=bM uZ hE
 have BB:H T=none:=s1.free hT
 have hE0:H E1=none:=s2.free hE
 generalize aG H2 E1 (.lst [])=H3 at s3 M9 Zb Zp ⊢
 refine xD (fun cc H'=>∃ i,Eh H a l T E1 most vB i cc H'∧i<=80) ?_ (fun key => ?_)
 rotate_left
 ·refine⟨_,rfl,a,rfl,⟨_,bo.of (s3 _ _ ha)⟩,?_⟩
  refine vZ (xs:=ns.map V.int) (Eh H a l T E1 most vB) (Eh.mk [.ref p0] [] [.name z0] [] none none none none none rfl ⟨s3,BB,hE0,hTE,Zb,.cons ⟨p0,rfl,M9⟩ .nil,Zp,.nil,OE DG,(show 1<=24 by decide),(fun a b h=>nomatch h)⟩ (show 0 < 1 by decide) (show 1<=11 by decide) (aS _)) ?_ ?_ ?_
  ·rintro i σ H' _ ⟨us,iU,ts,es,x6,x7,x8,x9,uC,rfl,mo,_⟩
   exact bo.of (mo.same _ _ ha)
  ·rintro i x p σ H' hx ⟨us,iU,ts,es,x6,x7,x8,x9,uC,rfl,mo,mB,Jh,IZ⟩ Bo
   obtain⟨c,hc,rfl⟩:=bu.mp (aK hx)
   have hi:i < ns.length:=by have:=(ah.mp hx).1;rwa [aj]at this
   have w1:=aM Bo (.tup [.int (i:Int),.int c])
   refine⟨p,_,rfl,bY.of ay,rfl,_,_,rfl,_,_,rfl,rfl,?_⟩
   generalize aG H' p (.tup [.int (i:Int),.int c])=H4 at w1 ⊢
   have mo:yx H H4 T E1 us iU ts es := { mo with same:=mo.same.trans w1,hT:=w1 _ _ mo.hT,iz:=fu w1 mo.iz,hE:=w1 _ _ mo.hE,u4:=hJ (fun b ys=>w1 _ _) mo.u4 }
   have dI:=bJ mo.iz
   have aeF:=bJ mo.u4
   refine⟨_,rfl,_,rfl,c,(i:Int),rfl,by omega,by omega,fun m m0 m1 => ?_⟩
   dsimp only[bH]
   refine⟨_,rfl,T,us,rfl,.inl (bo.of mo.hT),?_⟩
   dsimp only[bH]
   rw[dI]
   have Bq:(0:Int) < ((ts.length:Nat):Int):=by omega
   refine Fi (fun b Hc=>Hc=H4∧(b=false->((ts.length:Nat):Int) < most)) (fun Qc qc=>⟨_,rfl,_,_,rfl,rfl,eI,rfl,_,rfl,gy (fun _=>qc true _ ⟨rfl,fun z=>nomatch z⟩) (fun _=>⟨_,rfl,_,rfl,_,_,rfl,rfl,_,rfl,qc _ _ ⟨rfl,fun z => ?_⟩⟩)⟩) ?_ ?_
   ·have:=of_decide_eq_false z
    omega
   ·rintro H4 ⟨rfl,_⟩
    refine⟨_,rfl,E1,iU,rfl,.inl (bo.of mo.hE),_,rfl,_,_,rfl,rfl,_,rfl,gy (fun _ => ?_) (fun _=>Eh.mk us iU ts es _ _ _ _ _ rfl mo mB Jh (by omega))⟩
    have a0:0<=m / 4 % ((ts.length:Nat):Int):=bI _ (by omega)
    have a1:m / 4 % ((ts.length:Nat):Int) < ((ts.length:Nat):Int):=bp _ Bq
    have c0:0<=m / 100 % ((ts.length:Nat):Int):=bI _ (by omega)
    have c1:m / 100 % ((ts.length:Nat):Int) < ((ts.length:Nat):Int):=bp _ Bq
    obtain⟨na,ZC⟩:∃ na:Nat,m / 4 % ((ts.length:Nat):Int)=(na:Int):=⟨_,(iE a0).symm⟩
    obtain⟨nb,ZA⟩:∃ nb:Nat,m / 100 % ((ts.length:Nat):Int)=(nb:Int):=⟨_,(iE c0).symm⟩
    rw[ZC]at a1
    rw[ZA]at c1
    refine⟨_,rfl,.inl ⟨rfl,_,bo.of mo.hE⟩,?_⟩
    refine⟨_,rfl,_,_,rfl,rfl,ji,_,rfl,_,_,rfl,rfl,Bq,_,rfl,_,_,rfl,rfl,ji,_,rfl,_,_,rfl,rfl,Bq,_,rfl,10,12,rfl,rfl,⟨by decide,by decide,by decide⟩,_,_,rfl,rfl,(by show (0:Int) < 10 ^ 12;decide),_,_,rfl,rfl,(show 1<=sizeLine by decide),fun tp Bk=>⟨(show 4<=sizeLine by decide),fun te hte => ?_⟩⟩
    rw[ZC,ZA]
    have s5:=(aM Bk (.tup [.str "told"])).trans (aM hte (.tup [nV na,nV nb,.int (1+c % 10 ^ (12:Int).toNat),.ref tp]))
    have U6:=ay (H:=aG H4 tp (.tup [.str "told"])) (a:=te) (o := .tup [nV na,nV nb,.int (1+c % 10 ^ (12:Int).toNat),.ref tp])
    generalize aG (aG H4 tp (.tup [.str "told"])) te (.tup [nV na,nV nb,.int (1+c % 10 ^ (12:Int).toNat),.ref tp])=H5 at s5 U6 ⊢
    have Zo:=s5 _ _ mo.hE
    have kp:∀ b ys,H5 b=some (.tup ys)->(aG H5 E1 (.lst (iU ++ [.ref te]))) b=some (.tup ys):=fun b ys e=>by rw[aD (cX e Zo (fun z=>nomatch z))];exact e
    refine⟨E1,iU,_,rfl,rfl,Zo,cY (by omega),?_⟩
    refine Eh.mk us (iU ++ [.ref te]) ts (es ++ [(na,nb)]) _ _ _ _ _ rfl ⟨(mo.same.trans s5).put mo.e0,mo.t0,mo.e0,mo.te,by rw[aD mo.te];exact s5 _ _ mo.hT,jU kp (fu s5 mo.iz),ay,lK (hJ kp (hJ (fun b ys=>s5 _ _) mo.u4)) ⟨te,_,rfl,kp _ _ U6⟩,mo.ok,mo.jZ,CG mo.lt (by omega) (by omega)⟩ mB Jh ?_
    rw[au];show iU.length+1<=i+1;omega
   ·rintro H4 ⟨rfl,cS⟩
    have cS:=cS rfl
    refine⟨_,rfl,_,rfl,_,_,rfl,rfl,ji,_,rfl,_,rfl,c,m / 4,T,l,us,ts.length,ws,rfl,by omega,by omega,mo.hT,dI,mB,hp.same mo.same,fun v t H5 s5 hv htm => ?_⟩
    dsimp only[bH]
    have Nl:=s5 _ _ mo.hT
    have Wl:=fu s5 mo.iz
    refine⟨_,rfl,_,rfl,_,_,hv.den,.inl (by rw[Den];exact⟨T,us,rfl,Nl,Sb Wl⟩),aF (EK ts) (by decide),_,rfl,?_⟩
    by_cases hm:fT t∈ts.map fT
    ·rw[decide_eq_true hm]
     exact iZ (Eh.mk us iU ts es _ _ _ _ _ rfl { mo with same:=mo.same.trans s5,hT:=Nl,iz:=Wl,hE:=s5 _ _ mo.hE,u4:=hJ (fun b ys=>s5 _ _) mo.u4 } mB Jh (by omega))
    ·rw[decide_eq_false hm]
     have kp:∀ b ys,H5 b=some (.tup ys)->(aG H5 T (.lst (us ++ [v]))) b=some (.tup ys):=fun b ys e=>by rw[aD (cX e Nl (fun z=>nomatch z))];exact e
     refine my ⟨_,rfl,.inl ⟨rfl,_,bo.of Nl⟩,_,rfl,T,us,v,rfl,rfl,Nl,cY (by omega),?_⟩
     refine Eh.mk (us ++ [v]) iU (ts ++ [t]) es _ _ _ _ _ rfl ⟨(mo.same.trans s5).put mo.t0,mo.t0,mo.e0,mo.te,ay,EJ (jU kp Wl) (hv.keep kp),by rw[aD (dh mo.te)];exact s5 _ _ mo.hE,hJ kp (hJ (fun b ys=>s5 _ _) mo.u4),xj mo.ok htm hm,?_,fun x y UY => ?_⟩ ?_ ?_ (by omega)
     ·rw[au];show ts.length+1<=24;omega
     ·have:=mo.lt x y UY;rw[au];omega
     ·rw[au];exact Nat.succ_pos _
     ·rw[au];show ts.length+1<=11;omega
  ·rintro σ H' h
   exact key _ _ ⟨_,h,by rw[aj];exact IQ⟩
 rintro cc H4 ⟨i,⟨us,iU,ts,es,x6,x7,x8,x9,uC,rfl,mo,mB,Jh,IZ⟩,hi⟩
 have dI:=bJ mo.iz
 refine xD (fun cc H5=>∃ us ts, cc = [some (.ref a),some (.ref l),some (.int most),some (.int vB),some (.ref T),some (.ref E1),x6,x7,x8,x9,uC]∧yx H H5 T E1 us iU ts es∧0 < ts.length∧EB ts) ?_ (fun key => ?_)
 ·rintro cc H5 ⟨us,ts,rfl,mo,mB,Na⟩
  refine⟨_,rfl,_,rfl,(show 2<=sizeLine by decide),fun p Bo => ?_⟩
  have s5:=aM Bo (.tup [.ref T,.ref E1])
  exact q p T E1 us iU ts es _ { mo with same:=mo.same.trans s5,hT:=s5 _ _ mo.hT,iz:=fu s5 mo.iz,hE:=s5 _ _ mo.hE,u4:=hJ (fun b ys=>s5 _ _) mo.u4 } ay mB Na (by omega)
 refine⟨_,rfl,T,rfl,⟨_,bo.of mo.hT⟩,?_⟩
 refine HB (wK H4) (bo.of mo.hT) (by omega) (fun x hx H' sm R r => ?_) (fun x v hx e H' sm Q' q' => ?_) (fun D1 H5 DP s5 hD => ?_)
 ·obtain⟨j,hj⟩:=eQ hx
  obtain⟨t,_,ht⟩:=j8 mo.iz hj
  obtain⟨b,k,vs,rfl,hb,e⟩:=Iq ht
  have r:=r H' (bz.refl _)
  refine⟨_,rfl,b,_,0,_,rfl,rfl,bY.of (sm _ _ hb),a7 (j:=0) rfl,rfl,_,rfl,?_⟩
  rw[e]at r
  by_cases hk:k = "of"
  ·rw[if_pos hk]at r;rw[decide_eq_true (by rw[hk])];exact r
  ·rw[if_neg hk]at r;rw[decide_eq_false fun z=>hk (V.str.inj z)];exact r
 ·obtain⟨j,hj⟩:=eQ hx
  obtain⟨t,_,ht⟩:=j8 mo.iz hj
  obtain⟨b,k,vs,rfl,hb,e'⟩:=Iq ht
  rw[e']at e
  split at e
  ·have:=aB e
   subst this
   exact⟨_,rfl,q' _ (bz.refl _)⟩
  ·cases e
 have DD:yx H H5 T E1 us iU ts es := { mo with same:=mo.same.trans s5,hT:=s5 _ _ mo.hT,iz:=fu s5 mo.iz,hE:=s5 _ _ mo.hE,u4:=hJ (fun b ys=>s5 _ _) mo.u4 }
 refine⟨D1,_,rfl,.inl (bo.of hD),rfl,_,rfl,gy (fun zG => ?_) (fun nz=>key _ _ ⟨us,ts,rfl,DD,mB,VD mo.iz (fun z=>nz (by rw[z];rfl))⟩)⟩
 refine⟨_,rfl,.inl ⟨rfl,_,bo.of DD.hT⟩,_,rfl,l,_,_,_,rfl,rfl,bo.of (hp.same DD.same).1,abf,(show 1<=sizeLine by decide),fun c hc=>⟨(show 3<=sizeLine by decide),fun d hd => ?_⟩⟩
 have s6:=(aM hc (.tup [V.int 0])).trans (aM hd (.tup [.str "of",.str z1,.ref c]))
 have Y3:=ay (H:=aG H5 c (.tup [V.int 0])) (a:=d) (o := .tup [.str "of",.str z1,.ref c])
 have Y7:=aM hd (.tup [.str "of",.str z1,.ref c]) _ _ (ay (H:=H5) (a:=c) (o := .tup ([0].map nV)))
 show _
 generalize aG (aG H5 c (.tup [V.int 0])) d (.tup [.str "of",.str z1,.ref c])=H6 at s6 Y3 Y7 ⊢
 have Za:=s6 _ _ DD.hT
 have aaY:us.filterMap (wK H4) = []:=fW.mp (by have:=V.int.inj zG;omega)
 have PN:fT (.of z1 [0]) ∉ ts.map fT:=fun z=>by
  obtain⟨t,ht,e⟩:=bu.mp z
  have et:=rH e
  subst et
  obtain⟨j,hj⟩:=eQ ht
  obtain⟨v,hv⟩:∃ v,us[j]? = some v:=⟨_,ai (by rw[dI];exact(ah.mp hj).1)⟩
  obtain⟨t',uS,FW⟩:=j8 mo.iz hv
  rw[hj]at uS
  have:=aB uS
  subst this
  obtain⟨b,c',rfl,h2,h3⟩:=id FW
  have e2:wK H4 (.ref b)=some (.ref b):=by unfold wK;dsimp only;rw[h2];rfl
  have:V.ref b∈us.filterMap (wK H4):=fC.mpr ⟨_,aK hv,e2⟩
  rw[aaY]at this
  cases this
 have kp:∀ b ys,H6 b=some (.tup ys)->(aG H6 T (.lst (us ++ [.ref d]))) b=some (.tup ys):=fun b ys e=>by rw[aD (cX e Za (fun z=>nomatch z))];exact e
 have hv6:i7 H6 (.of z1 [0]) (.ref d):=⟨d,c,rfl,Y3,Y7⟩
 refine⟨T,us,_,rfl,rfl,Za,cY (by omega),key _ _ ⟨us ++ [.ref d],ts ++ [.of z1 [0]],rfl,⟨(DD.same.trans s6).put mo.t0,mo.t0,mo.e0,mo.te,ay,EJ (jU kp (fu s6 DD.iz)) (hv6.keep kp),by rw[aD (dh mo.te)];exact s6 _ _ DD.hE,hJ kp (hJ (fun b ys=>s6 _ _) DD.u4),xj mo.ok (fun x as e => ?_) PN,?_,fun x y UY => ?_⟩,?_,⟨ts.length,z1, [0],kJ⟩⟩⟩
 ·cases e
  exact⟨by decide,by decide,fun a ha'=>by rw[av.mp ha'];exact mB⟩
 ·rw[au];show ts.length+1<=24;omega
 ·have:=mo.lt x y UY;rw[au];omega
 ·rw[au];exact Nat.succ_pos _
structure kT (ts:List Tm) (ls:List Nat):Prop where
 arms:Dn ts
 len:ls.length=ts.length
 jZ:ts.length<=900
 small:∀ (i:Nat) x as,ts[i]? = some (.of x as)->as.length<=1000
 mw:Cd ts ls
theorem kT.at {ts:List Tm}{ls:List Nat} (h:kT ts ls) {i:Nat}{t:Tm} (ht:ts[i]? = some t):∀ x as,t = .of x as->as.length<=1000∧∀ a∈as,a < ls.length:=fun x as e=>by
 subst e
 have hl:=(ah.mp ht).1
 exact⟨h.small i x as ht,fun a ha=>by have:=h.arms i x as ht a ha;have:=h.len;omega⟩
inductive JM (P:Program) (w:World) (vs:List V) (H:Hp) (Q:VK):Prop
 | mk (T L:Addr) (us:List V) (ts:List Tm) (ls:List Nat) (z0:vs = [.ref T,.ref L]) (z1:H T=some (.lst us)) (z2:mG H us ts) (z3:H L=some (.lst (ls.map nV))) (z4:kT ts ls) (z5:∀ p kvs H',bz H H'->H p=none->DN P w H' p kvs->nJ ts ls ts.length kvs->Q (.ref p) H'):JM P w vs H Q
def Ia (P:Program) (w:World):Sp:=fun vs H Q _=>JM P w vs H Q
theorem Pa (B:nG mg) (oQ:dP P w K mg base 1 "mark" ["term", "leads"] (uF K)) (D:Def K mg "marks" Cz ["terms", "leads"]):dP P w K mg base 2 "marks" ["terms", "leads"] (Ia P w):=by
 refine D.has vF (fun vs H Q E h => ?_) (fun f da A outer s H vs Q E hr h => ?_)
 ·obtain⟨T,L,us,ts,ls,rfl,_⟩:=h;rfl
 obtain⟨T,L,us,ts,ls,rfl,hT,jo,hL,ok,q⟩:=h
 refine⟨_,(ax (bC (i:=2) vF.nd rfl (aP rfl) vL)
  (ax (gw cy rfl (y4 rfl B.rE (ag (pv 0) aw)) (r6 rfl (gG (cB (i:=3) vF.nd rfl (aP rfl)) (gG (cB (i:=4) vF.nd rfl (aP rfl)) pV)))
  (aO (CA (t9 hr) (pv 2) (cj oQ hr (by omega) rfl (ag (pv 4) (ag (pv 1) aw))) (aZ b9 (pv 1) (pv 3)) rfl)))
  (aO (bZ (pv 2))))),?_⟩
 try dsimp only[eD]
 have qH:=bJ jo
 intro p φ hp zK
 dsimp only[bH]
 have rV:=aM hp (.ext φ)
 generalize aG H p (.ext φ)=H0 at rV zK ⊢
 refine⟨_,rfl,T,rfl,⟨us,bo.of (rV _ _ hT)⟩,?_⟩
 refine vZ (xs:=us) (fun i σ H'=>∃ (kvs:List (NK × V)) (x3 x4:Option V), σ = [some (.ref T),some (.ref L),some (.ref p),x3,x4]∧bz H H'∧DN P w H' p kvs∧nJ ts ls i kvs)
  ⟨[],none,none,rfl,rV,zK,(fun i t hi=>absurd hi (o9 _)),(fun k v e=>by rw[vz]at e;cases e),rfl⟩ ?_ ?_ ?_
 ·rintro i σ H' _ ⟨kvs,x3,x4,rfl,sm,_⟩
  exact bo.of (sm _ _ hT)
 ·rintro i x a0 σ H' hx ⟨kvs,x3,x4,rfl,sm,dn,tb⟩ Gh
  obtain⟨t,ht,Bj⟩:=j8 jo hx
  have hi:i < ts.length:=(ah.mp ht).1
  have s1:=aM Gh (.tup [.int (i:Int),x])
  have g1:=sm.trans s1
  have BK:=dn.same s1
  refine⟨a0,_,rfl,bY.of ay,rfl,_,_,rfl,_,_,rfl,rfl,?_⟩
  generalize aG H' a0 (.tup [.int (i:Int),x])=H1 at s1 g1 BK ⊢
  have hl:=ok.len
  have rg:ls[i]? = some (ls.getD i 0):=getD_at (by omega)
  refine⟨_,rfl,_,rfl,L,_,_,_,rfl,rfl,bo.of (g1 _ _ hL),jf rg,?_⟩
  refine⟨_,rfl,_,rfl,_,rfl,x,t,L,ls,rfl,Bj.same g1,bo.of (g1 _ _ hL),ok.at ht,fun v' H2 s2 hm => ?_⟩
  obtain⟨b,rfl,nk⟩:=hm.key
  have IU:kvs.length<=i:=by rw[tb.2.2];exact oR _ _
  have aeN:H p=none:=hp
  refine⟨p,b,kvs,dv (mk ls t),rfl,rfl,BK.same s2,nk,cY (by have:=ok.jZ;omega),fun X4 DS=>⟨_,_,_,rfl,?_,DS,OG ok.mw ok.len tb ht⟩⟩
  exact fun c o e=>by rw[aD (fun z=>by rw[z,hp]at e;cases e)];exact(g1.trans s2) c o e
 ·rintro σ H' ⟨kvs,x3,x4,rfl,sm,dn,tb⟩
  rw[qH]at tb
  exact⟨_,rfl,q p kvs H' sm hp dn tb⟩
inductive JJ (vs:List V) (H:Hp) (Q:VK):Prop
 | mk (T L:Addr) (us:List V) (ts:List Tm) (ls:List Nat) (z0:vs = [.ref T,.ref L]) (z1:H T=some (.lst us)) (z2:mG H us ts) (z3:H L=some (.lst (ls.map nV))) (z4:kT ts ls) (z5:∀ F kvs H',bz H H'->H F=none->H' F=some (.dK kvs)->j0 H' kvs (jc ls (cV (ts.map (mk ls)) ts.length))->Own H kvs->Q (.ref F) H'):JJ  vs H Q
def Ct:Sp:=fun vs H Q _=>JJ  vs H Q
theorem O7 (B:nG mg) (oQ:dP P w K mg base 1 "mark" ["term", "leads"] (uF K)) (D:Def K mg "nodes" Cw ["terms", "leads"]):dP P w K mg base 2 "nodes" ["terms", "leads"] Ct:=by
 refine D.has pQ (fun vs H Q E h => ?_) (fun f da A outer s H vs Q E hr h => ?_)
 ·obtain⟨T,L,us,ts,ls,rfl,_⟩:=h;rfl
 obtain⟨T,L,us,ts,ls,rfl,hT,jo,hL,ok,q⟩:=h
 refine⟨_,(ax (bC (i:=2) pQ.nd rfl (aP rfl) vM)
  (ax (bC (i:=3) pQ.nd rfl (aP rfl) vL)
  (ax (gw cy rfl (y4 rfl B.rE (ag (pv 0) aw)) (r6 rfl (gG (cB (i:=4) pQ.nd rfl (aP rfl)) (gG (cB (i:=5) pQ.nd rfl (aP rfl)) pV)))
  (ax (bC (i:=6) pQ.nd rfl (aP rfl) (cj oQ hr (by omega) rfl (ag (pv 5) (ag (pv 1) aw))))
  (aO (dz (A0 (DB (t9 hr) (pv 6) (pv 3)) (by with_unfolding_all rfl)) (ax (CA (t9 hr) (pv 3) (pv 6) lV rfl)
  (aO (gK (j1 bL cx cw f9 (Sv (pv 2) (aZ b9 (pv 1) (pv 4)) (dZ aw) ⟨rfl,rfl,rfl,rfl⟩) (ag (pv 4) aw))))) cJ))))
  (aO (bZ (pv 2)))))),?_⟩
 try dsimp only[eD]
 have qH:=bJ jo
 have jZ:=ok.jZ
 intro F hF
 dsimp only[bH]
 obtain⟨H0,eH,sF,RB⟩:=alloc hF (.dK [])
 rw[eH]
 intro S φ hS zK
 dsimp only[bH]
 have hSH:H S=none:=sF.free hS
 have sS:=sF.trans (aM hS (.ext φ))
 have DO:=aM hS (.ext φ) _ _ RB
 generalize aG H0 S (.ext φ)=H1 at sS DO zK ⊢
 refine⟨_,rfl,T,rfl,⟨us,bo.of (sS _ _ hT)⟩,?_⟩
 refine vZ (xs:=us) (fun i σ H'=>∃ (kvs:List (Key × V)) (zy:List (NK × V)) (x4 x5 x6:Option V), σ = [some (.ref T),some (.ref L),some (.ref F),some (.ref S),x4,x5,x6]∧bz H H'∧H' F=some (.dK kvs)∧j0 H' kvs (jc ls (cV (ts.map (mk ls)) i))∧Own H kvs∧DN P w H' S zy∧sH ts ls i zy)
  ⟨[], [],none,none,none,rfl,sS,DO,.nil,⟨iI,fun kv hm=>by cases hm⟩,zK,OM ts ls⟩ ?_ ?_ ?_
 ·rintro i σ H' _ ⟨kvs,zy,x4,x5,x6,rfl,sm,_⟩
  exact bo.of (sm _ _ hT)
 ·rintro i x a0 σ H' hx ⟨kvs,zy,x4,x5,x6,rfl,sm,Gy,mY,own,dn,sn⟩ Gh
  obtain⟨t,ht,Bj⟩:=j8 jo hx
  have hi:i < ts.length:=(ah.mp ht).1
  have s1:=aM Gh (.tup [.int (i:Int),x])
  have g1:=sm.trans s1
  have BK:=dn.same s1
  have DO:=s1 _ _ Gy
  have L7:=mY.same s1
  refine⟨a0,_,rfl,bY.of ay,rfl,_,_,rfl,_,_,rfl,rfl,?_⟩
  generalize aG H' a0 (.tup [.int (i:Int),x])=H1 at s1 g1 BK DO L7 ⊢
  have hl:=ok.len
  have rg:ls[i]? = some (ls.getD i 0):=getD_at (by omega)
  refine⟨_,rfl,_,rfl,x,t,L,ls,rfl,Bj.same g1,bo.of (g1 _ _ hL),ok.at ht,fun v' H2 s2 hm => ?_⟩
  dsimp only[bH]
  obtain⟨b,rfl,nk⟩:=hm.key
  have g2:=g1.trans s2
  have wR:=BK.same s2
  have BF:=s2 _ _ DO
  have T5:=L7.same s2
  have aaw:=OS ls (cV (ts.map (mk ls)) i)
  have Wu:=oR (ts.map (mk ls)) i
  have Px:=bJ T5
  refine⟨_,rfl,_,rfl,S,b,zy,dv (mk ls t),rfl,rfl,wR,nk,_,rfl,?_⟩
  rcases ON sn ht with⟨hv,Aq⟩ | ⟨hv,Aq⟩
  ·rw[hv]
   refine my ?_
   refine⟨_,rfl,_,rfl,S,b,zy,dv (mk ls t),rfl,rfl,wR,nk,cY (by have:=sn.2.2;omega),fun Lw DS => ?_⟩
   obtain⟨φ0,e0⟩:=wR.ext
   have g3:bz H (aG H2 S (.ext Lw)):=fun c o e=>by rw[aD (fun z=>by rw[z,hSH]at e;cases e)];exact g2 c o e
   have V6:(aG H2 S (.ext Lw)) F=some (.dK kvs):=by rw[aD (cX BF e0 (fun z=>nomatch z))];exact BF
   have QM:j0 (aG H2 S (.ext Lw)) kvs _:=T5.t7 e0 (fun xs z=>nomatch z)
   generalize aG H2 S (.ext Lw)=H3 at g3 V6 QM DS ⊢
   refine⟨_,rfl,F,rfl,.inl ⟨kvs,.inl V6⟩,_,rfl,_,rfl,L,_,_,_,rfl,rfl,bo.of (g3 _ _ hL),jf rg,aS _,fun N hN => ?_⟩
   have s4:=aM hN (.lst [])
   have Gv:=ay (H:=H3) (a:=N) (o := .lst [])
   have Zh:H N=none:=g3.free hN
   have g4:=g3.trans s4
   have yc:=s4 _ _ V6
   have Ff:=QM.same s4
   have Js:=DS.same s4
   have aaE:=own.snoc (k := .inl ((ls.getD i 0:Nat):Int)) QM hN Zh
   generalize aG H3 N (.lst [])=H4 at s4 Gv g4 yc Ff Js ⊢
   have Jq:jc ls (cV (ts.map (mk ls)) (i+1))=nS (jc ls (cV (ts.map (mk ls)) i)) (ls.getD i 0) i:=by
    rw[nD,Aq]
    exact xx ls _ i
   have Yy:=xA ls (cV (ts.map (mk ls)) i)
   have small:=Ku ls (cV (ts.map (mk ls)) i)
   generalize jc ls (cV (ts.map (mk ls)) i)=ps at Ff Jq Yy small aaw Px
   have Yj:=OL (V.bl true) sn ht
   refine⟨kvs,.inl ((ls.getD i 0:Nat):Int),yc,rfl,cY (by omega),fun v KZ => ?_,fun Rc => ?_⟩
   ·rcases Ff.look (ls.getD i 0) with⟨e,_⟩ | ⟨a,zs,e,el,ha⟩
    ·rw[KZ]at e;cases e
    ·have ev:v = .ref a:=aB (KZ.symm.trans e)
     subst ev
     have haH:=own.fresh (R7 KZ)
     have hsz:zs.length<=900:=by have:=small _ (DF el);show zs.length<=900;simp only at this;omega
     refine⟨.inl ⟨rfl,_,bo.of ha⟩,_,rfl,a,_,_,rfl,rfl,ha,cY (by rw[aj];omega),?_⟩
     have ZE:=Ff.grow (zs:=zs ++ [i]) own.1 Yy KZ
     have eL:(zs ++ [i]).map nV=zs.map nV ++ [nV i]:=by rw[cf];rfl
     rw[eL]at ZE
     refine⟨kvs,fw zy (dv (mk ls t)) (.bl true),_,_,_,rfl,?_,?_,?_,own,Sw.DN.t7 (P:=P) (w:=w) Js ha (fun φ z=>nomatch z) (fun ys z=>nomatch z),Yj⟩
     ·exact fun c o e=>by rw[aD (fun z=>by rw[z,haH]at e;cases e)];exact g4 c o e
     ·rw[aD (cX yc ha (fun z=>nomatch z))];exact yc
     ·rw[Jq]
      unfold nS
      rw[el]
      exact ZE
   ·rcases Ff.look (ls.getD i 0) with⟨e,el⟩ | ⟨a,zs,e,el,ha⟩
    ·have Rt:(aG H4 F (.dK (kvs ++ [(.inl ((ls.getD i 0:Nat):Int),.ref N)]))) N=some (.lst []):=by rw[aD (cX Gv yc (fun z=>nomatch z))];exact Gv
     refine⟨.inl ⟨rfl,_,bo.of Rt⟩,_,rfl,N,_,_,rfl,rfl,Rt,cY (aS _),?_⟩
     refine⟨kvs ++ [(.inl ((ls.getD i 0:Nat):Int),.ref N)],fw zy (dv (mk ls t)) (.bl true),_,_,_,rfl,?_,?_,?_,aaE,?_,Yj⟩
     ·exact fun c o e=>by rw[aD (fun z=>by rw[z,Zh]at e;cases e),aD (fun z=>by rw[z,hF]at e;cases e)];exact g4 c o e
     ·rw[aD (cX ay Rt (fun z=>nomatch z)),ay]
     ·rw[Jq]
      unfold nS oJ
      have K6:(ps.any fun p=>decide (p.1=ls.getD i 0))=false:=by rw[<- Ff.any,jT,Rc];rfl
      rw[K6,el]
      have r5:j0 (aG (aG H4 F (.dK (kvs ++ [(.inl ((ls.getD i 0:Nat):Int),.ref N)]))) N (.lst ([] ++ [V.int (i:Int)]))) kvs ps:=(Ff.t7 yc (fun xs z=>nomatch z)).keep fun l xs ⟨kv,hm,e2⟩ e3=>by
       obtain⟨l',e4,Vl⟩:=own.2 kv hm
       rw[e2]at e4
       cases e4
       rw[aD (fun z => ?_)]
       ·exact e3
       ·subst z
        have:∀ {kvs:List (Key × V)}{ps:List Row},j0 H3 kvs ps->(∃ kv∈kvs,kv.2 = .ref l)->False:=by
         intro kvs ps r
         induction r with
         | nil=>rintro⟨kv,hm,_⟩;cases hm
         | @cons kv p kvs ps q t ih =>
          rintro⟨uM,hm,e⟩
          rcases aN.mp hm with rfl | hm
          ·obtain⟨_,l',e2,hl⟩:=q
           rw[e]at e2
           cases e2
           rw[hN]at hl
           cases hl
          ·exact ih ⟨uM,hm,e⟩
        exact this QM ⟨kv,hm,e2⟩
      exact lK r5 ⟨rfl,N,rfl,ay⟩
     ·exact Sw.DN.t7 (P:=P) (w:=w) (Sw.DN.t7 (P:=P) (w:=w) Js yc (fun φ z=>nomatch z) (fun ys z=>nomatch z)) Rt (fun φ z=>nomatch z) (fun ys z=>nomatch z)
    ·rw[Rc]at e;cases e
  ·obtain⟨v,uR⟩:=d6.mp hv
   rw[uR]
   refine iZ ⟨kvs,zy,_,_,_,rfl,g2,BF,?_,own,wR,L3 sn ht hv⟩
   rw[nD,Aq]
   show j0 H2 kvs (jc ls (cV (ts.map (mk ls)) i ++ []))
   rw[cg]
   exact T5
 ·rintro σ H' ⟨kvs,zy,x4,x5,x6,rfl,sm,Gy,mY,own,dn,sn⟩
  rw[qH]at mY
  exact⟨_,rfl,q F kvs H' sm hF Gy mY own⟩
def fe (b:Bd):List (Key × V):=b.map fun p=>((.inr p.1:Key),nV p.2)
theorem p5:∀ (b:Bd) (x:Str),cA (fe b) (.inr x)=(look b x).map nV
 | [],x=>rfl
 | p :: r,x=>by
  rw[look]
  show cA (((.inr p.1:Key),nV p.2) :: fe r) (.inr x)=_
  by_cases e:p.1=x
  ·rw[if_pos e,fq (by rw[e])];rfl
  ·rw[if_neg e,ft (fun z=>e (zO z)),p5 r x]
theorem C2 {b:Bd}{x:Str}{l:Nat} (h:look b x=none):fw (fe b) (.inr x) (nV l)=fe (b ++ [(x,l)]):=by
 rw[vJ _ (by rw[p5,h];rfl)]
 unfold fe
 rw[cf];rfl
def jb (H:Hp) (vs:List V) (ws:List Bd):Prop:=Paired (fun v b=>∃ g,v=V.ref g∧H g=some (.dK (fe b))) vs ws
inductive Oa (vs:List V) (H:Hp) (Q:VK):Prop
 | mk (lead:Nat) (x:Str) (G:Addr) (b:Bd) (z0:vs = [nV lead,.str x,.ref G]) (z1:H G=some (.dK (fe b))) (z2:b.length<=900) (z3:∀ R us H',bz H H'->H R=none->H' R=some (.lst us)->jb H' us (nI lead x b)->Q (.ref R) H'):Oa vs H Q
def EY:Sp:=fun vs H Q _=>Oa vs H Q
theorem Fu (oY:mg "dict" = none) (D:Def K mg "hole_ways" uc ["lead", "hole", "binds"]):dP P w K mg base 1 "hole_ways" ["lead", "hole", "binds"] EY:=by
 refine D.has xr (fun vs H Q E h => ?_) (fun f da A outer s H vs Q E hr h => ?_)
 ·obtain⟨lead,x,G,b,rfl,_⟩:=h;rfl
 obtain⟨lead,x,G,b,rfl,hG,hb,q⟩:=h
 refine⟨_,(ax (dz (A0 (Uo (rC hr) (pv 1) (pv 2)) (by with_unfolding_all rfl)) (aO (bZ (Fn (b8 je (y6 (rC hr) (pv 2) (pv 1) (fun _ _=>rfl)) (pv 0) (cC _)) (dZ (ag (pv 2) aw)) (dZ aw)))) cJ)
  (ax (bC (i:=3) xr.nd rfl (aP rfl) (fy BP rfl oY wk (ag (pv 2) aw)))
  (ax (CC (rC hr) (pv 3) (pv 1) (pv 0) rfl)
  (aO (bZ (dZ (ag (pv 3) aw))))))),?_⟩
 try dsimp only[eD]
 have hg:=nZ.k (k:=(.inr x:Key)) hG
 rw[p5]at hg
 unfold nI at q
 refine⟨_,rfl,_,rfl,G,_,rfl,hg,_,rfl,?_⟩
 cases e:look b x with
 | some l =>
  rw[e]at hg q
  refine my ?_
  dsimp only at q
  refine⟨_,rfl,_,rfl,G,_,rfl,hg,_,rfl,rfl,_,rfl,gy (fun el => ?_) (fun el => ?_)⟩
  ·have RG:l=lead:=by have:=V.int.inj el;omega
   rw[if_pos RG]at q
   refine⟨_,rfl,(show 1<=sizeLine by decide),fun R hR=>q R _ _ (aM hR _) hR ay (.cons ⟨G,rfl,aM hR _ _ _ hG⟩ .nil)⟩
  ·have RG:l≠lead:=fun z=>el (by rw[z])
   rw[if_neg RG]at q
   exact⟨aS _,fun R hR=>q R _ _ (aM hR _) hR ay .nil⟩
 | none =>
  rw[e]at q
  refine iZ ?_
  dsimp only at q
  refine⟨_,rfl,G,_,rfl,hG,fun M hM => ?_⟩
  dsimp only[bH]
  have wQ:(fe b).length=b.length:=by unfold fe;rw[aj]
  refine⟨_,rfl,_,rfl,_,rfl,M,_,rfl,AN.k (k := .inr x) ay (cY (by omega)),?_⟩
  have s1:bz H (aG (aG H M (.dK (fe b))) M (.dK (fw (fe b) (.inr x) (nV lead)))):=fun c o h=>by rw[aD (bM h hM),aD (bM h hM)];exact h
  have V0:=ay (H:=aG H M (.dK (fe b))) (a:=M) (o := .dK (fw (fe b) (.inr x) (nV lead)))
  generalize aG (aG H M (.dK (fe b))) M (.dK (fw (fe b) (.inr x) (nV lead)))=H1 at s1 V0 ⊢
  rw[C2 e]at V0
  refine⟨_,rfl,(show 1<=sizeLine by decide),fun R hR=>q R _ _ (s1.trans (aM hR _)) ?_ ay (.cons ⟨M,rfl,aM hR _ _ _ V0⟩ .nil)⟩
  cases e2:H R with
  | none=>rfl
  | some o=>have:=s1 _ _ e2;rw[hR]at this;cases this
theorem Pd:∀ {ns:List Int}{fs:List Nat},ns.Perm (fs.map fun n:Nat=>(n:Int))->(ns.map oB).Perm fs∧ns.map V.int=(ns.map oB).map nV:=fun {ns fs} h=>by
 refine⟨?_,?_⟩
 ·have:=h.map oB
  rw[dF]at this
  refine this.trans (Cc ((dW fun n _ => ?_).trans (qr _)))
  exact bR n
 ·rw[dF]
  refine dW fun n hn => ?_
  obtain⟨m,_,rfl⟩:=bu.mp (h.mem_iff.mp hn)
  rfl
theorem Sm {r9:List Int}{ms:List Tm}{n:Nat} (so:r9.Pairwise (· <= ·)) (pm:(r9.map oB).Perm (cV ms n)):(r9.map oB).Pairwise (· < ·):=by
 have nd:(r9.map oB).Nodup:=pm.nodup_iff.mpr (GD _ _)
 have le:(r9.map oB).Pairwise (· <= ·):=by
  rw[ij]
  exact so.imp fun {a b} h=>by omega
 exact(bV.and le nd).imp fun {a b} h=>Nat.lt_of_le_of_ne h.1 h.2
inductive N7 (vs:List V) (H:Hp) (Q:VK):Prop
 | mk (T L:Addr) (us:List V) (ts:List Tm) (ls:List Nat) (z0:vs = [.ref T,.ref L]) (z1:H T=some (.lst us)) (z2:mG H us ts) (z3:H L=some (.lst (ls.map nV))) (z4:kT ts ls) (z5:ts.length<=60)
  (z6:∀ (R:Addr) (ns:List Nat) (H':Hp),bz H H'->H R=none->H' R=some (.lst (ns.map nV))->ns.Perm (cV (ts.map (mk ls)) ts.length)->ns.Pairwise (· < ·)->Q (.ref R) H'):N7 vs H Q
def LV:Sp:=fun vs H Q _=>N7 vs H Q
inductive ZV (T L Fd F:Addr) (o:Obj) (H H0:Hp) (kvs:List (Key × V)) (ps:List Row) (i:Nat) (σ : St) (H':Hp):Prop
 | mk (x3:Option V):(σ = [some (.ref T),some (.ref L),some (.ref Fd),x3])->bz H H'->H' F=some (Ext F o)->H' Fd=some (.lst (((ps.take i).flatMap (·.2)).map nV))->j0 H' kvs ps->ZV T L Fd F o H H0 kvs ps i σ H'
theorem A8 (nR:mg "sorted" = none) (rN:dP P w K mg base 2 "nodes" ["terms", "leads"] Ct) (D:Def K mg "node_numbers" pR ["terms", "leads"]):dP P w K mg base 3 "node_numbers" ["terms", "leads"] LV:=by
 refine D.has oG (fun vs H Q E h => ?_) (fun f da A outer s H vs Q E hr h => ?_)
 ·obtain⟨T,L,us,ts,ls,rfl,_⟩:=h;rfl
 obtain⟨T,L,us,ts,ls,rfl,hT,jo,hL,ok,jZ,q⟩:=h
 refine⟨_,(ax (bC (i:=2) oG.nd rfl (aP rfl) (dZ aw))
  (ax (gw cy rfl (Su (cj rN hr (by omega) rfl (ag (pv 0) (ag (pv 1) aw)))) (cB (i:=3) oG.nd rfl (aP rfl))
  (aO (gK (j1 bL mI mH xM (pv 2) (ag (pv 3) aw)))))
  (aO (bZ (bX ym rfl nR yn (ag (pv 2) aw)))))),?_⟩
 try dsimp only[eD]
 refine⟨aS _,fun Fd Je => ?_⟩
 dsimp only[bH]
 obtain⟨H0,eH,s0,RB⟩:=alloc Je (.lst [])
 rw[eH]
 refine⟨_,rfl,_,rfl,T,L,us,ts,ls,rfl,s0 _ _ hT,fu s0 jo,s0 _ _ hL,ok,fun F kvs H1 s1 hF DO L7 own => ?_⟩
 refine⟨F,kvs,rfl,DO,fun o _ => ?_⟩
 have sF:bz H0 (aG H1 F (Ext F o)):=s1.put hF
 have V5:(aG H1 F (Ext F o)) Fd=some (.lst []):=sF _ _ RB
 have QL:j0 (aG H1 F (Ext F o)) kvs _:=L7.t7 DO (fun xs z=>nomatch z)
 have g1:=s0.trans sF
 have Zm:=ay (H:=H1) (a:=F) (o:=Ext F o)
 generalize aG H1 F (Ext F o)=H2 at sF V5 QL g1 Zm ⊢
 have perm:=xy ls (ts.map (mk ls)) ts.length
 have fl:=oR (ts.map (mk ls)) ts.length
 generalize jc ls (cV (ts.map (mk ls)) ts.length)=ps at L7 QL perm
 have Px:=bJ QL
 have tot:=perm.length_eq
 have split:∀ i,((ps.take i).flatMap (·.2)).length+((ps.drop i).flatMap (·.2)).length=(ps.flatMap (·.2)).length:=fun i=>by
  rw[<- au, <- lQ,c6]
 refine P6 (ZV T L Fd F o H H0 kvs ps) ⟨none,rfl,g1,Zm,V5,QL⟩ ?_ ?_ ?_
 ·rintro i σ H' _ ⟨x3,rfl,sm,Gx,_⟩
  exact Gx
 ·rintro i kv σ H' tJ ⟨x3,rfl,sm,Gx,CZ,mY⟩
  obtain⟨p,hp,ek,l,el,hl⟩:=Paired.at mY tJ
  have hm:=aK tJ
  obtain⟨l',RG,Rh⟩:=own.2 kv hm
  have e2:(ps.take (i+1)).flatMap (·.2)=(ps.take i).flatMap (·.2) ++ p.2:=by rw[bQ,hp,lQ];show _ ++ (p.2 ++ [])=_;rw[cg]
  have hb:=split (i+1)
  rw[e2,au]at hb
  have hlF:∀ uM∈kvs,uM.2 ≠ .ref Fd:=fun uM hk z=>by
   obtain⟨l2,e3,h3⟩:=own.2 uM hk
   rw[z]at e3;cases e3
   rw[RB]at h3;cases h3
  refine⟨_,rfl,.inl ⟨rfl,_,bo.of CZ⟩,_,rfl,Fd,l,_,_,rfl,by rw[el],CZ,hl,?_,⟨_,rfl,sm.put Je,?_,?_,mY.keep fun l2 xs ⟨uM,hk,e3⟩ h3 => ?_⟩⟩
  ·rw[aj,aj];exact fA (cY (n:=_+_) (by omega))
  ·rw[aD (cX Gx CZ (fun z=>nomatch z))];exact Gx
  ·rw[ay,e2,cf]
  ·rw[aD (fun z=>hlF uM hk (by rw[e3,z]))];exact h3
 ·rintro σ H' ⟨x3,rfl,sm,Gx,CZ,mY⟩
  rw[Px,bG]at CZ
  have e:(ps.flatMap (·.2)).map nV=((ps.flatMap (·.2)).map fun n:Nat=>(n:Int)).map V.int:=by rw[dF];rfl
  refine⟨_,rfl,Fd,(ps.flatMap (·.2)).map fun n:Nat=>(n:Int),rfl,by rw[<- e];exact bo.of CZ,by rw[aj];omega,fun r9 l pm so hl => ?_⟩
  obtain⟨p1,p2⟩:=Pd pm
  rw[p2]
  exact q l _ _ (sm.trans (aM hl _)) (sm.free hl) ay (p1.trans perm) (Sm so (p1.trans perm))
structure zi (K:ak) (mg:Str->Option Value) (CM:Addr):Prop where
 cM:yS K CM
 Mu:nE K CM "terms"
 Mv:nE K CM "leads"
 FC:nE K CM "table"
 Mw:nE K CM "heads"
structure zj (P:Program) (w:World) (CM:Addr) (H:Hp) (a dx T L S F:Addr) (us:List V) (ts:List Tm) (ls:List Nat) (j9:List (NK × V)) (kvs:List (Key × V)):Prop where
 ins:H a=some (.ins CM dx [("terms",.ref T),("leads",.ref L),("table",.ref S),("heads",.ref F)])
 hT:H T=some (.lst us)
 iz:mG H us ts
 hL:H L=some (.lst (ls.map nV))
 dn:DN P w H S j9
 tab:nJ ts ls ts.length j9
 hF:H F=some (.dK kvs)
 rows:j0 H kvs (jc ls (cV (ts.map (mk ls)) ts.length))
theorem zj.same {H H':Hp}{a dx T L S F:Addr}{us:List V}{ts:List Tm}{ls:List Nat}{j9:List (NK × V)}{kvs:List (Key × V)} (h:zj P w CM H a dx T L S F us ts ls j9 kvs) (sm:bz H H'):zj P w CM H' a dx T L S F us ts ls j9 kvs :=
 ⟨sm _ _ h.ins,sm _ _ h.hT,fu sm h.iz,sm _ _ h.hL,h.dn.same sm,h.tab,sm _ _ h.hF,h.rows.same sm⟩
theorem HQ {ts:List Tm}{ls:List Nat}{j9:List (NK × V)} (h:nJ ts ls ts.length j9) (m:Tm):cA j9 (dv m)=(iu ts ls m).map nV:=by
 unfold iu
 cases q:dH (ts.map (mk ls)) m with
 | none =>
  cases e:cA j9 (dv m) with
  | none=>rfl
  | some v =>
   obtain⟨i,t,hi,ht,ek⟩:=h.2.1 _ _ e
   have:=pM ek
   exact absurd (by rw[this];exact bu.mpr ⟨t,aK ht,rfl⟩) (rZ.mp q)
 | some i =>
  have h1:=oK q
  rw[aH]at h1
  obtain⟨t,ht,em⟩:=bS.mp h1
  rw[<- em,h.1 i t (ah.mp ht).1 ht];rfl
inductive JL (P:Program) (w:World) (CM:Addr) (vs:List V) (H:Hp) (Q:VK):Prop
 | mk (a dx T L:Addr) (us:List V) (ts:List Tm) (ls:List Nat) (z0:vs = [.ref a,.ref T,.ref L]) (z:H a=some (.ins CM dx [])) (z1:H T=some (.lst us)) (z2:mG H us ts) (z3:H L=some (.lst (ls.map nV))) (z4:kT ts ls)
  (z6:∀ H' S F j9 kvs,gm a H H'->zj P w CM H' a dx T L S F us ts ls j9 kvs->Q .df H'):JL P w CM vs H Q
def HZ (P:Program) (w:World) (CM:Addr):Sp:=fun vs H Q _=>JL P w CM vs H Q
theorem O9 (Z:zi K mg CM) (CW:dP P w K mg base 2 "marks" ["terms", "leads"] (Ia P w)) (rN:dP P w K mg base 2 "nodes" ["terms", "leads"] Ct) (D:Lu K mg "Matcher" CM "Matcher.__init__" pS ["self", "terms", "leads"]) :
  Ls P w K mg base 3 "Matcher" CM ["self", "terms", "leads"] (HZ P w CM):=by
 refine D.has OO (fun vs H Q E h => ?_) (fun f da A outer s H vs Q E hr h => ?_)
 ·obtain⟨a,dx,T,L,us,ts,ls,rfl,_⟩:=h;rfl
 obtain⟨a,dx,T,L,us,ts,ls,rfl,ha,hT,jo,hL,ok,q⟩:=h
 refine⟨_,(ax (A3 (pv 0) (pv 1) rfl)
  (ax (A3 (pv 0) (pv 2) rfl)
  (ax (A3 (pv 0) (cj CW hr (by omega) rfl (ag (pv 1) (ag (pv 2) aw))) rfl)
  (aO (A3 (pv 0) (cj rN hr (by omega) rfl (ag (pv 1) (ag (pv 2) aw))) rfl))))),?_⟩
 try dsimp only[eD]
 have bs:∀ {H0:Hp}{o:HO},gm a H H0->gm a H (aG H0 a o):=fun b=>b.put
 have aT:T≠a:=cX hT ha (fun z=>nomatch z)
 have aL:L≠a:=cX hL ha (fun z=>nomatch z)
 have tt:∀ {H0:Hp},gm a H H0->mG H0 us ts:=fun b=>jU (fun c ys e=>b c _ (cX e ha (fun z=>nomatch z)) e) jo
 refine⟨_,rfl,_,rfl,a,CM,dx,_,rfl,ha,Z.cM,Z.Mu,by decide,?_⟩
 have b1:gm a H (aG H a (.ins CM dx (gX "terms" (.ref T) []))):=(gm.refl a H).put
 have i1:=ay (H:=H) (a:=a) (o := .ins CM dx (gX "terms" (.ref T) []))
 refine⟨_,rfl,_,rfl,a,CM,dx, [("terms",.ref T)],rfl,i1,Z.cM,Z.Mv,(show 1 < 1000 by decide),?_⟩
 have b2:gm a H (aG (aG H a (.ins CM dx (gX "terms" (.ref T) []))) a (.ins CM dx (gX "leads" (.ref L) [("terms",.ref T)]))):=bs b1
 have i2:(aG (aG H a (.ins CM dx (gX "terms" (.ref T) []))) a (.ins CM dx (gX "leads" (.ref L) [("terms",.ref T)]))) a=some (.ins CM dx [("terms",.ref T),("leads",.ref L)]):=ay
 generalize aG (aG H a (.ins CM dx (gX "terms" (.ref T) []))) a (.ins CM dx (gX "leads" (.ref L) [("terms",.ref T)]))=H2 at b2 i2 ⊢
 refine⟨_,rfl,_,rfl,T,L,us,ts,ls,rfl,b2 _ _ aT hT,tt b2,b2 _ _ aL hL,ok,fun S j9 H3 s3 hS dn tb => ?_⟩
 have i3:=s3 _ _ i2
 have b3:gm a H H3:=fun c o n e=>s3 _ _ (b2 _ _ n e)
 refine⟨_,rfl,a,CM,dx, [("terms",.ref T),("leads",.ref L)],rfl,i3,Z.cM,Z.FC,(show 2 < 1000 by decide),?_⟩
 have b4:gm a H (aG H3 a (.ins CM dx (gX "table" (.ref S) [("terms",.ref T),("leads",.ref L)]))):=bs b3
 have i4:(aG H3 a (.ins CM dx (gX "table" (.ref S) [("terms",.ref T),("leads",.ref L)]))) a=some (.ins CM dx [("terms",.ref T),("leads",.ref L),("table",.ref S)]):=ay
 have Js:DN P w (aG H3 a (.ins CM dx (gX "table" (.ref S) [("terms",.ref T),("leads",.ref L)]))) S j9:=Sw.DN.t7 (P:=P) (w:=w) dn i3 (fun φ z=>nomatch z) (fun ys z=>nomatch z)
 generalize aG H3 a (.ins CM dx (gX "table" (.ref S) [("terms",.ref T),("leads",.ref L)]))=H4 at b4 i4 Js ⊢
 refine⟨_,rfl,_,rfl,T,L,us,ts,ls,rfl,b4 _ _ aT hT,tt b4,b4 _ _ aL hL,ok,fun F kvs H5 s5 hF Zn rw5 own => ?_⟩
 have i5:=s5 _ _ i4
 have b5:gm a H H5:=fun c o n e=>s5 _ _ (b4 _ _ n e)
 have dn5:=Js.same s5
 refine⟨_,rfl,a,CM,dx, [("terms",.ref T),("leads",.ref L),("table",.ref S)],rfl,i5,Z.cM,Z.Mw,(show 3 < 1000 by decide),?_⟩
 have b6:gm a H (aG H5 a (.ins CM dx (gX "heads" (.ref F) [("terms",.ref T),("leads",.ref L),("table",.ref S)]))):=bs b5
 refine q _ S F j9 kvs b6 ⟨ay,b6 _ _ aT hT,tt b6,b6 _ _ aL hL,Sw.DN.t7 (P:=P) (w:=w) dn5 i5 (fun φ z=>nomatch z) (fun ys z=>nomatch z),tb,?_,rw5.t7 i5 (fun xs z=>nomatch z)⟩
 rw[aD (cX Zn i5 (fun z=>nomatch z))];exact Zn
theorem Ap:∀ (xs ys:List T),T.fX (xs ++ ys)=T.fX xs ++ T.fX ys
 | [],ys=>rfl
 | x :: xs,ys=>by rw[cU,T.fX,T.fX,Ap xs ys,aV]
theorem zb:∀ (xs ys:List T),T.gx (xs ++ ys)=T.gx xs+T.gx ys
 | [],ys=>by rw[dB,T.gx,cO]
 | x :: xs,ys=>by rw[cU,T.gx,T.gx,zb xs ys,gE]
theorem Qi {ps:List T}{p:T}{i:Nat} (h:ps[i]? = some p):(T.fX (ps.take i)).length+p.iq.length<=(T.fX ps).length∧T.gx (ps.take i)+p.kn<=T.gx ps:=by
 have hl:=(ah.mp h).1
 have e:ps=ps.take i ++ (p :: ps.drop (i+1)):=by
  conv=>lhs;rw[<- c6 i ps]
  rw[jj hl,(ah.mp h).2]
 have e1:=congrArg (fun z=>(T.fX z).length) e
 have e2:=congrArg T.gx e
 simp only[Ap,zb,T.fX,T.gx,au]at e1 e2
 exact⟨by omega,by omega⟩
theorem mj {H H':Hp}{vs:List V}{ws:List Bd} (h:jb H vs ws) (sm:bz H H'):jb H' vs ws:=Paired.ug h fun v b ⟨g,e,hg⟩=>⟨g,e,sm _ _ hg⟩
theorem nN {H:Hp}{R:Addr}{us cE:List V}{vs:List V}{ws:List Bd} (h:jb H vs ws) (hR:H R=some (.lst us)):jb (aG H R (.lst cE)) vs ws:=Paired.ug h fun v b ⟨g,e,hg⟩=>⟨g,e,by rw[aD (cX hg hR (fun z=>nomatch z))];exact hg⟩
theorem rD {α β : Type} (f : α -> List β) (l:List α) (i:Nat):((l.take i).flatMap f).length<=(l.flatMap f).length:=by
 have e:((l.take i).flatMap f).length+((l.drop i).flatMap f).length=(l.flatMap f).length:=by rw[<- au, <- lQ,c6]
 omega
theorem mD {α β : Type} (f : α -> List β) {l:List α}{i:Nat}{x : α} (h:l[i]? = some x):(l.take (i+1)).flatMap f=(l.take i).flatMap f ++ f x:=by
 rw[bQ,h,lQ]
 show _ ++ (f x ++ [])=_
 rw[cg]
theorem IA {n:Nat} (h:n<=1000000):n<=sizeLine:=aF h (by decide)
inductive WZ (P:Program) (w:World) (CM:Addr) (n:Nat) (vs:List V) (H:Hp) (Q:VK):Prop
 | mk (a dx Ta L S F:Addr) (us:List V) (ts:List Tm) (ls:List Nat) (j9:List (NK × V)) (kvs:List (Key × V)) (k:Nat) (v:V) (x:Str) (ps:List T) (G:Addr) (b:Bd)
  (z0:vs = [.ref a,nV k,v,.ref G]) (z1:zj P w CM H a dx Ta L S F us ts ls j9 kvs) (z2:kT ts ls) (z3:k < ts.length) (z4:f7 H (.of x ps) v) (z5:T.gn ps<=n) (z6:H G=some (.dK (fe b))) (z7:b.length+(T.fX ps).length<=900)
  (z8:ts.length ^ T.gx ps<=1000000) (z9:∀ R cE H',bz H H'->H R=none->H' R=some (.lst cE)->jb H' cE (qz ts ls k x ps b)->Q (.ref R) H'):WZ P w CM n vs H Q
def OJ (P:Program) (w:World) (CM:Addr) (n:Nat):Sp:=fun vs H Q _=>WZ P w CM n vs H Q
inductive W2 (P:Program) (w:World) (CM:Addr) (n:Nat) (vs:List V) (H:Hp) (Q:VK):Prop
 | mk (a dx Ta L S F:Addr) (us:List V) (ts:List Tm) (ls:List Nat) (j9:List (NK × V)) (kvs:List (Key × V)) (j:Nat) (v:V) (p:T) (G:Addr) (b:Bd)
  (z0:vs = [.ref a,nV (ls.getD j 0),v,.ref G]) (z1:zj P w CM H a dx Ta L S F us ts ls j9 kvs) (z2:kT ts ls) (z3:j < ts.length) (z4:f7 H p v) (z5:p.depth<=n) (z6:H G=some (.dK (fe b))) (z7:b.length+p.iq.length<=900)
  (z8:ts.length ^ p.kn<=1000000) (z9:∀ R cE H',bz H H'->H R=none->H' R=some (.lst cE)->jb H' cE (fz ts ls (lx ts ls) p (ls.getD j 0) b)->Q (.ref R) H'):W2 P w CM n vs H Q
def Ko (P:Program) (w:World) (CM:Addr) (n:Nat):Sp:=fun vs H Q _=>W2 P w CM n vs H Q
inductive CwI (H:Hp) (s0 s1 s2 s3:V) (W:Addr) (f:Nat->List Bd) (zs:List Nat) (i:Nat) (σ : St) (H':Hp):Prop
 | mk (x5:Option V) (us:List V):(σ = [some s0,some s1,some s2,some s3,some (.ref W),x5])->bz H H'->H' W=some (.lst us)->jb H' us ((zs.take i).flatMap f)->CwI H s0 s1 s2 s3 W f zs i σ H'
theorem Ej {n:Nat} (B:nG mg) (Z:zi K mg CM) (lI:dP P w K mg base 1 "hole_ways" ["lead", "hole", "binds"] EY) (nC:yI P w K mg base (2 * n+3) CM "term_ways" ["self", "k", "pattern", "binds"] (OJ P w CM n))
  (D:wC K CM "class_ways" "Matcher.class_ways" oI ["self", "lead", "pattern", "binds"]):yI P w K mg base (2 * n+4) CM "class_ways" ["self", "lead", "pattern", "binds"] (Ko P w CM (n+1)):=by
 have cM:=Z.cM
 refine D.has qY (fun vs H Q E h => ?_) (fun f da A outer s H vs Q E hr h => ?_)
 ·obtain⟨a,dx,Ta,L,S,F,us,ts,ls,j9,kvs,j,v,p,G,b,rfl,_⟩:=h;rfl
 obtain⟨a,dx,Ta,L,S,F,us,ts,ls,j9,kvs,j,v,p,G,b,rfl,hM,ok,hj,hT,hd,hG,hb,hz,q⟩:=h
 refine⟨_,(ax (dz (b8 je (aZ cL (pv 2) az) eF (cC _)) (aO (bZ (cj lI hr (by omega) rfl (ag (pv 1) (ag (aZ cL (pv 2) az) (ag (pv 3) aw)))))) cJ)
  (ax (dz (b8 nH (aZ cL (pv 2) az) eF (cC _)) (aO (bZ (Fn (b8 je (Aj (t9 hr) (A6 (pv 0) rfl) (pv 2) ⟨rfl,rfl,rfl,rfl⟩) (pv 1) (cC _)) (dZ (ag (pv 3) aw)) (dZ aw)))) cJ)
  (ax (bC (i:=4) qY.nd rfl (aP rfl) (dZ aw))
  (ax (gw rA rfl (ki (y6 (rC hr) (A6 (pv 0) rfl) (pv 1) (fun _ _=>rfl))) (cB (i:=5) qY.nd rfl (aP rfl))
  (aO (gK (j1 bL mI mH xM (pv 4) (ag (Ky nC cM hr (by omega) (QU fun _ _ _ z=>z) (pv 0) (ag (pv 5) (ag (pv 2) (ag (pv 3) aw)))) aw)))))
  (aO (bZ (pv 4))))))),?_⟩
 try dsimp only[eD]
 cases p with
 | any x =>
  rw[f7]at hT
  obtain⟨t,rfl,h⟩:=hT
  refine⟨_,rfl,t,_,0,_,rfl,rfl,bY.of h,a7 (j:=0) rfl,rfl,_,rfl,gy (fun _ => ?_) (fun z=>absurd rfl z)⟩
  rw[T.iq,cP]at hb
  refine⟨_,rfl,_,rfl,t,_,1,_,rfl,rfl,bY.of h,a7 (j:=1) rfl,_,rfl,_,x,G,b,rfl,hG,by omega,fun R cE H' sm hR Gu wa=>q R cE H' sm hR Gu (by rw[fz];exact wa)⟩
 | num m =>
  rw[f7]at hT
  obtain⟨t,rfl,h⟩:=hT
  refine⟨_,rfl,t,_,0,_,rfl,rfl,bY.of h,a7 (j:=0) rfl,rfl,_,rfl,gy (fun z=>absurd (V.str.inj z) (by decide)) (fun _ => ?_)⟩
  refine⟨_,rfl,t,_,0,_,rfl,rfl,bY.of h,a7 (j:=0) rfl,rfl,_,rfl,iy (fun _ => ?_) (fun z=>absurd (V.str.inj z) (by decide))⟩
  obtain⟨kb,yi,nk⟩:=i7.key (t := .num m) (v := .ref t) (H:=H) ⟨t,rfl,h⟩
  rw[fz]at q
  refine⟨_,rfl,a,CM,dx,_,_,rfl,hM.ins,Z.cM,Z.FC,rfl,S,rfl,⟨_,hM.dn⟩,_,rfl,kb,_,_,yi,hM.dn,nk,?_⟩
  rw[HQ hM.tab]
  cases e:iu ts ls (.num m) with
  | none =>
   rw[e,if_neg (fun z=>nomatch z)]at q
   exact⟨_,rfl,rfl,_,rfl,gy (fun z=>nomatch z) (fun _=>⟨aS _,fun R hR=>q R _ _ (aM hR _) hR ay .nil⟩)⟩
  | some l =>
   rw[e]at q
   refine⟨_,rfl,rfl,_,rfl,gy (fun el => ?_) (fun el => ?_)⟩
   ·rw[if_pos (congrArg some (by have:=V.int.inj el;omega))]at q
    exact⟨_,rfl,(show 1<=sizeLine by decide),fun R hR=>q R _ _ (aM hR _) hR ay (.cons ⟨G,rfl,aM hR _ _ _ hG⟩ .nil)⟩
   ·rw[if_neg (fun z=>el (by rw[aB z];rfl))]at q
    exact⟨aS _,fun R hR=>q R _ _ (aM hR _) hR ay .nil⟩
 | name m =>
  rw[f7]at hT
  obtain⟨t,rfl,h⟩:=hT
  refine⟨_,rfl,t,_,0,_,rfl,rfl,bY.of h,a7 (j:=0) rfl,rfl,_,rfl,gy (fun z=>absurd (V.str.inj z) (by decide)) (fun _ => ?_)⟩
  refine⟨_,rfl,t,_,0,_,rfl,rfl,bY.of h,a7 (j:=0) rfl,rfl,_,rfl,iy (fun _ => ?_) (fun z=>absurd (V.str.inj z) (by decide))⟩
  obtain⟨kb,yi,nk⟩:=i7.key (t := .name m) (v := .ref t) (H:=H) ⟨t,rfl,h⟩
  rw[fz]at q
  refine⟨_,rfl,a,CM,dx,_,_,rfl,hM.ins,Z.cM,Z.FC,rfl,S,rfl,⟨_,hM.dn⟩,_,rfl,kb,_,_,yi,hM.dn,nk,?_⟩
  rw[HQ hM.tab]
  cases e:iu ts ls (.name m) with
  | none =>
   rw[e,if_neg (fun z=>nomatch z)]at q
   exact⟨_,rfl,rfl,_,rfl,gy (fun z=>nomatch z) (fun _=>⟨aS _,fun R hR=>q R _ _ (aM hR _) hR ay .nil⟩)⟩
  | some l =>
   rw[e]at q
   refine⟨_,rfl,rfl,_,rfl,gy (fun el => ?_) (fun el => ?_)⟩
   ·rw[if_pos (congrArg some (by have:=V.int.inj el;omega))]at q
    exact⟨_,rfl,(show 1<=sizeLine by decide),fun R hR=>q R _ _ (aM hR _) hR ay (.cons ⟨G,rfl,aM hR _ _ _ hG⟩ .nil)⟩
   ·rw[if_neg (fun z=>el (by rw[aB z];rfl))]at q
    exact⟨aS _,fun R hR=>q R _ _ (aM hR _) hR ay .nil⟩
 | of x ps =>
  have BB:=hT
  rw[f7]at hT
  obtain⟨t,c,RP,rfl,h,hc,jo⟩:=hT
  rw[T.depth]at hd
  have hz0:=hz
  rw[T.kn]at hz
  rw[T.iq]at hb
  have hN:1<=ts.length:=by omega
  have Q5:ts.length ^ T.gx ps<=1000000:=aF (ic hN (B8 _ _)) hz
  refine⟨_,rfl,t,_,0,_,rfl,rfl,bY.of h,a7 (j:=0) rfl,rfl,_,rfl,gy (fun z=>absurd (V.str.inj z) (by decide)) (fun _ => ?_)⟩
  refine⟨_,rfl,t,_,0,_,rfl,rfl,bY.of h,a7 (j:=0) rfl,rfl,_,rfl,iy (fun z=>absurd rfl z) (fun _ => ?_)⟩
  refine⟨aS _,fun W hW => ?_⟩
  dsimp only[bH]
  obtain⟨H0,eH,s0,VI⟩:=alloc hW (.lst [])
  rw[eH]
  have Zj:=hM.same s0
  obtain⟨zs,Wx⟩:=S3 ok.len ok.mw (ai hj)
  have ZD:lx ts ls (ls.getD j 0)=zs:=by unfold lx;rw[Wx];rfl
  rcases hM.rows.look (ls.getD j 0) with⟨_,e2⟩ | ⟨l,zs',e1,e2,hl⟩
  ·rw[Wx]at e2;cases e2
  rw[Wx]at e2
  cases e2
  have hg:=nZ.k (k:=(.inl ((ls.getD j 0:Nat):Int):Key)) Zj.hF
  rw[e1]at hg
  have xW:=NN (ts:=ts) (ls:=ls) (hd:=lx ts ls) hN (fun l=>Gb l) (.of x ps) (ls.getD j 0) b
  rw[NP,ZD]at xW q
  refine⟨_,rfl,a,CM,dx,_,_,rfl,Zj.ins,Z.cM,Z.Mw,rfl,_,rfl,F,_,rfl,hg,l,rfl,⟨_,bo.of (s0 _ _ hl)⟩,?_⟩
  refine jX (xs:=zs.map nV) (CwI H (.ref a) (nV (ls.getD j 0)) (.ref t) (.ref G) W (fun k=>qz ts ls k x ps b) zs) ⟨none, [],rfl,s0,VI,.nil⟩ ?_ ?_ ?_
  ·rintro i σ H' _ ⟨x5,cE,rfl,sm,xZ,wa⟩
   exact bo.of (sm _ _ hl)
  ·rintro i y σ H' hy ⟨x5,cE,rfl,sm,xZ,wa⟩
   rw[aH]at hy
   obtain⟨k,hk,rfl⟩:=bS.mp hy
   obtain⟨u,hu,_⟩:=(xU ok.len ok.mw).at_ (ls.getD j 0) k (by rw[ZD];exact aK hk)
   have Rx:=hM.same sm
   refine⟨_,rfl,.inl ⟨rfl,_,bo.of xZ⟩,_,rfl,a,dx,_,rfl,Rx.ins,rfl,_,rfl,_,rfl,_,rfl,a,dx,Ta,L,S,F,us,ts,ls,j9,kvs,k,_,x,ps,G,b,rfl,Rx,ok,(ah.mp hu).1,lC (fun c ys e=>sm _ _ e) BB,by omega,sm _ _ hG,hb,Q5,fun R xh H2 s2 hR VO LH => ?_⟩
   have Gp:=s2 _ _ xZ
   have l1:=bJ wa
   have l2:=bJ LH
   have l3:=rD (fun k=>qz ts ls k x ps b) zs (i+1)
   rw[mD _ hk,au]at l3
   refine⟨W,R,_,_,rfl,rfl,Gp,VO,IA (by omega),⟨_,_,rfl,(sm.trans s2).put hW,ay,?_⟩⟩
   rw[mD _ hk]
   exact oM (nN (mj wa s2) Gp) (nN LH Gp)
  ·rintro σ H' ⟨x5,cE,rfl,sm,xZ,wa⟩
   rw[aj,bG]at wa
   exact⟨_,rfl,q W cE H' sm hW xZ wa⟩
inductive ZP (H:Hp) (s0 s1 s2 s3 s4:V) (ts:List Tm) (ls:List Nat) (ps:List T) (as:List Nat) (b:Bd) (i:Nat) (σ : St) (H':Hp):Prop
 | mk (Wd:Addr) (us:List V) (x6 x7 x8 x9:Option V):(σ = [some s0,some s1,some s2,some s3,some s4,some (.ref Wd),x6,x7,x8,x9])->bz H H'->H Wd=none->H' Wd=some (.lst us)->jb H' us (zM ts ls ps as b i)->ZP H s0 s1 s2 s3 s4 ts ls ps as b i σ H'
inductive ZO (H:Hp) (s0 s1 s2 s3 s4 s6 s7:V) (Wd Lg:Addr) (us:List V) (f:Bd->List Bd) (ws:List Bd) (i:Nat) (σ : St) (H':Hp):Prop
 | mk (cE:List V) (x9:Option V):(σ = [some s0,some s1,some s2,some s3,some s4,some (.ref Wd),some s6,some s7,some (.ref Lg),x9])->bz H H'->H' Wd=some (.lst us)->jb H' us ws->H' Lg=some (.lst cE)->jb H' cE ((ws.take i).flatMap f)->ZO H s0 s1 s2 s3 s4 s6 s7 Wd Lg us f ws i σ H'
theorem xI {n:Nat} (B:nG mg) (wm:mg "zip" = none) (Z:zi K mg CM) (sj:yI P w K mg base (2 * n+2) CM "class_ways" ["self", "lead", "pattern", "binds"] (Ko P w CM n))
  (D:wC K CM "term_ways" "Matcher.term_ways" ql ["self", "k", "pattern", "binds"]):yI P w K mg base (2 * n+3) CM "term_ways" ["self", "k", "pattern", "binds"] (OJ P w CM n):=by
 have cM:=Z.cM
 refine D.has iO (fun vs H Q E h => ?_) (fun f da A outer s H vs Q E hr h => ?_)
 ·obtain⟨a,dx,Ta,L,S,F,us,ts,ls,j9,kvs,k,v,x,ps,G,b,rfl,_⟩:=h;rfl
 obtain⟨a,dx,Ta,L,S,F,us,ts,ls,j9,kvs,k,v,x,ps,G,b,rfl,hM,ok,hk,hT,hd,hG,hb,hz,q⟩:=h
 refine⟨_,(ax (bC (i:=4) iO.nd rfl (aP rfl) (aZ b9 (A6 (pv 0) rfl) (pv 1)))
  (ax (dz (PW.pt (pw_or (b8 nH (aZ cL (pv 4) az) eF (cC _)) (pw_or (b8 nH (aZ cL (pv 4) az) (aZ cL (pv 2) az) (cC _)) (pw_or1 (b8 nH (bX b7 rfl B.gU bD (ag (aZ cL (pv 4) az) aw)) (bX b7 rfl B.gU bD (ag (aZ cL (pv 2) az) aw)) (cC _)))))) (aO (bZ (dZ aw))) cJ)
  (ax (bC (i:=5) iO.nd rfl (aP rfl) (dZ (ag (pv 3) aw)))
  (ax (gw rA rfl (Ss rfl wm (ag (aZ cL (pv 4) az) (ag (aZ cL (pv 2) az) aw))) (r6 rfl (gG (cB (i:=6) iO.nd rfl (aP rfl)) (gG (cB (i:=7) iO.nd rfl (aP rfl)) pV)))
  (ax (bC (i:=8) iO.nd rfl (aP rfl) (dZ aw))
  (ax (gw rA rfl (ki (pv 5)) (cB (i:=9) iO.nd rfl (aP rfl))
  (aO (gK (j1 bL mI mH xM (pv 8) (ag (Ky sj cM hr (by omega) (QU fun _ _ _ z=>z) (pv 0) (ag (aZ b9 (A6 (pv 0) rfl) (pv 6)) (ag (pv 7) (ag (pv 9) aw)))) aw)))))
  (aO (bC (i:=5) iO.nd rfl (aP rfl) (pv 8))))))
  (aO (bZ (pv 5))))))),?_⟩
 try dsimp only[eD]
 rw[f7]at hT
 obtain⟨t,c,RP,rfl,h,hc,jo⟩:=hT
 have F7:=rG jo
 have Q7:=bJ hM.iz
 have hu:us[k]? = some (us[k]'(by omega)):=ai (by omega)
 generalize us[k]'(by omega)=u at hu
 obtain⟨tm,ht,qH⟩:=j8 hM.iz hu
 have hN:1<=ts.length:=by omega
 refine⟨_,rfl,a,CM,dx,_,_,rfl,hM.ins,Z.cM,Z.Mu,rfl,_,rfl,Ta,_,_,u,rfl,rfl,bo.of hM.hT,a7 (j:=k) hu,?_⟩
 dsimp only[bH]
 have Et:qz ts ls k x ps b = []->∀ R cE H',bz H H'->H R=none->H' R=some (.lst cE)->cE = []->Q (.ref R) H':=fun e R cE H' sm hR Gu eu=>q R cE H' sm hR Gu (by rw[e,eu];exact .nil)
 cases tm with
 | num m =>
  obtain⟨ta,rfl,xR⟩:=qH
  refine⟨_,rfl,ta,_,0,_,rfl,rfl,bY.of xR,a7 (j:=0) rfl,rfl,_,rfl,iy (fun _=>my ?_) (fun z=>absurd (V.str.inj z) (by decide))⟩
  exact⟨aS _,fun R hR=>Et (by unfold qz;rw[ht]) R _ _ (aM hR _) hR ay rfl⟩
 | name m =>
  obtain⟨ta,rfl,xR⟩:=qH
  refine⟨_,rfl,ta,_,0,_,rfl,rfl,bY.of xR,a7 (j:=0) rfl,rfl,_,rfl,iy (fun _=>my ?_) (fun z=>absurd (V.str.inj z) (by decide))⟩
  exact⟨aS _,fun R hR=>Et (by unfold qz;rw[ht]) R _ _ (aM hR _) hR ay rfl⟩
 | of y as =>
  obtain⟨ta,tb,rfl,xR,Bl⟩:=qH
  have et:qz ts ls k x ps b=if y=x∧as.length=ps.length then iC ts ls (lx ts ls) ps as [b] else []:=by unfold qz;rw[ht]
  refine⟨_,rfl,ta,_,0,_,rfl,rfl,bY.of xR,a7 (j:=0) rfl,rfl,_,rfl,iy (fun z=>absurd rfl z) (fun _ => ?_)⟩
  refine⟨_,rfl,ta,_,1,_,rfl,rfl,bY.of xR,a7 (j:=1) rfl,_,rfl,t,_,1,_,rfl,rfl,bY.of h,a7 (j:=1) rfl,rfl,_,rfl,iy (fun ex=>my ?_) (fun ex => ?_)⟩
  ·exact⟨aS _,fun R hR=>Et (by rw[et,if_neg (fun z=>ex (by rw[z.1]))]) R _ _ (aM hR _) hR ay rfl⟩
  have ex:=V.str.inj ex
  refine⟨_,rfl,ta,_,2,_,rfl,rfl,bY.of xR,a7 (j:=2) rfl,tb,_,rfl,.inr (bY.of Bl),_,rfl,t,_,2,_,rfl,rfl,bY.of h,a7 (j:=2) rfl,c,_,rfl,.inr (bY.of hc),rfl,_,rfl,iy (fun el => ?_) (fun el => ?_)⟩
  ·refine⟨aS _,fun R hR=>Et ?_ R _ _ (aM hR _) hR ay rfl⟩
   rw[et,if_neg (fun z=>el ?_)]
   rw[aj,z.2,F7]
  have el:as.length=ps.length:=by
   have:=V.int.inj el
   rw[aj]at this
   omega
  rw[et,if_pos ⟨ex,el⟩]at q
  refine⟨_,rfl,(show 1<=sizeLine by decide),fun Wd Nk => ?_⟩
  dsimp only[bH]
  obtain⟨H0,eH,s0,VI⟩:=alloc Nk (.lst [.ref G])
  rw[eH]
  refine⟨_,rfl,ta,_,2,_,rfl,rfl,bY.of (s0 _ _ xR),a7 (j:=2) rfl,_,rfl,t,_,2,_,rfl,rfl,bY.of (s0 _ _ h),a7 (j:=2) rfl,tb,c,_,_,rfl,bY.of (s0 _ _ Bl),bY.of (s0 _ _ hc),?_⟩
  refine P5 (xs:=as.map nV) (ys:=RP) (by rw[aj];omega) (ZP H (.ref a) (nV k) (.ref t) (.ref G) (.ref ta) ts ls ps as b) ⟨Wd,_,none,none,none,none,rfl,s0,Nk,VI,?_⟩ ?_ ?_ ?_
  ·unfold zM
   rw[fM,iC]
   exact .cons ⟨G,rfl,s0 _ _ hG⟩ .nil
  ·rintro i σ H' _ ⟨Wd,cE,x6,x7,x8,x9,rfl,sm,_⟩
   exact⟨bY.of (sm _ _ Bl),bY.of (sm _ _ hc)⟩
  ·rintro i vx vy p0 σ H' hx hy ⟨Wd,cE,x6,x7,x8,x9,rfl,sm,Nk,xZ,wa⟩ Ve
   rw[aH]at hx
   obtain⟨m,hm,rfl⟩:=bS.mp hx
   obtain⟨p,hp,Va⟩:=EI jo hy
   have s1:=aM Ve (.tup [nV m,vy])
   have g1:=sm.trans s1
   have Rq:=s1 _ _ xZ
   have Yc:=mj wa s1
   refine⟨p0,_,rfl,bY.of ay,rfl,_,_,rfl,_,_,rfl,rfl,?_⟩
   generalize aG H' p0 (.tup [nV m,vy])=H1 at s1 g1 Rq Yc ⊢
   refine⟨aS _,fun Lg V2 => ?_⟩
   dsimp only[bH]
   have V1:H Lg=none:=g1.free V2
   have s2:=aM V2 (.lst [])
   have BE:=ay (H:=H1) (a:=Lg) (o := .lst [])
   have g2:=g1.trans s2
   have Gp:=s2 _ _ Rq
   have LH:=mj Yc s2
   have nWL:Wd≠Lg:=fun z=>by rw[z,V2]at Rq;cases Rq
   generalize aG H1 Lg (.lst [])=H2 at s2 BE g2 Gp LH ⊢
   have hml:m < ts.length:=by have:=(ok.at ht y as rfl).2 m (aK hm);have:=ok.len;omega
   obtain⟨hh,hkn⟩:=Qi hp
   have hzp:ts.length ^ p.kn<=1000000:=aF (ic hN (by omega)) hz
   have Ra:=Qm (ts:=ts) (ls:=ls) (b:=b) hp hm
   have dI:(zM ts ls ps as b (i+1)).length<=1000000:=by
    unfold zM
    refine aF (BR hN (fun l=>Gb l) _ _ _) ?_
    rw[cP,zR,bQ,hp,zb]
    refine aF (ic hN ?_) hz
    show _+(p.kn+0)<=_
    omega
   rw[Ra]at dI
   refine⟨_,rfl,Wd,rfl,⟨_,bo.of Gp⟩,?_⟩
   refine jX (xs:=cE) (ZO H (.ref a) (nV k) (.ref t) (.ref G) (.ref ta) (nV m) vy Wd Lg cE (fun v=>fz ts ls (lx ts ls) p (ls.getD m 0) v) (zM ts ls ps as b i)) ⟨[],_,rfl,g2,Gp,LH,BE,.nil⟩ ?_ ?_ ?_
   ·rintro j σ H' _ ⟨xh,x9,rfl,sm,xZ,_⟩
    exact bo.of xZ
   ·rintro j vw σ H3 hj ⟨xh,x9,rfl,tw,Y9,Dq,BD,LF⟩
    obtain⟨bj,I9,g,rfl,hg⟩:=Paired.at Dq hj
    have Rw:=hM.same tw
    obtain⟨b0,Gg,hsz⟩:=Dd (ts:=ts) (ls:=ls) (hd:=lx ts ls) (ps.take i) (as:=as) (ws := [b]) (w:=bj) (aK I9)
    rw[av.mp Gg]at hsz
    have rg:ls[m]? = some (ls.getD m 0):=getD_at (by have:=ok.len;omega)
    refine⟨_,rfl,.inl ⟨rfl,_,bo.of BD⟩,_,rfl,a,dx,_,rfl,Rw.ins,rfl,_,rfl,a,CM,dx,_,_,rfl,Rw.ins,Z.cM,Z.Mv,rfl,_,rfl,L,_,_,_,rfl,rfl,bo.of Rw.hL,jf rg,_,rfl,_,rfl,
     a,dx,Ta,L,S,F,us,ts,ls,j9,kvs,m,vy,p,g,bj,rfl,Rw,ok,hml,lC (fun c ys e=>tw _ _ e) Va,aF (BL (aK hp)) hd,hg,by omega,hzp,fun R us4 H4 s4 hR hR4 Yb => ?_⟩
    have Gw:=s4 _ _ BD
    have l1:=bJ LF
    have l2:=bJ Yb
    have l3:=rD (fun v=>fz ts ls (lx ts ls) p (ls.getD m 0) v) (zM ts ls ps as b i) (j+1)
    rw[mD _ I9,au]at l3
    refine⟨Lg,R,_,_,rfl,rfl,Gw,hR4,IA (by omega),⟨_,_,rfl,(tw.trans s4).put V1,?_,nN (mj Dq s4) Gw,ay,?_⟩⟩
    ·rw[aD nWL];exact s4 _ _ Y9
    ·rw[mD _ I9]
     exact oM (nN (mj LF s4) Gw) (nN Yb Gw)
   ·rintro σ H3 ⟨xh,x9,rfl,tw,Y9,Dq,BD,LF⟩
    have e3:=bJ Dq
    rw[e3,bG, <- Ra]at LF
    exact⟨_,rfl,Lg,xh,_,_,_,_,rfl,tw,V1,BD,LF⟩
  ·rintro σ H' ⟨Wd,cE,x6,x7,x8,x9,rfl,sm,Nk,xZ,wa⟩
   unfold zM at wa
   rw[aj,el,bG]at wa
   exact⟨_,rfl,q Wd cE H' sm Nk xZ wa⟩
theorem Io (B:nG mg) (wm:mg "zip" = none) (Z:zi K mg CM) (lI:dP P w K mg base 1 "hole_ways" ["lead", "hole", "binds"] EY) (Dc:wC K CM "class_ways" "Matcher.class_ways" oI ["self", "lead", "pattern", "binds"])
  (Dt:wC K CM "term_ways" "Matcher.term_ways" ql ["self", "k", "pattern", "binds"]):∀ n,yI P w K mg base (2 * n+2) CM "class_ways" ["self", "lead", "pattern", "binds"] (Ko P w CM n)
 | 0=>by
  obtain⟨fa,fd,F,hm,hb⟩:=Dc.ex
  have no:∀ vs H Q E, ¬ Ko P w CM 0 vs H Q E:=fun vs H Q E h=>by
   obtain⟨a,dx,Ta,L,S,F,us,ts,ls,j9,kvs,j,v,p,G,b,_,_,_,_,_,z,_⟩:=h
   have:=DT p
   omega
  exact⟨fa,fd,⟨fun vs H Q E h=>absurd h (no vs H Q E),fun A outer s H args us vs Q E _ _ _ _ h=>absurd h (no vs H Q E)⟩,hm,hb⟩
 | n+1=>Ej B Z lI (xI B wm Z (Io B wm Z lI Dc Dt n) Dt) Dc
def abD (H:Hp) (u:V) (r:Nat × Bd):Prop := ∃ p g,u = .ref p∧H p=some (.tup [nV r.1,.ref g])∧H g=some (.dK (fe r.2))
abbrev wt (H:Hp):List V->List (Nat × Bd)->Prop:=Paired (abD H)
theorem vI {H H':Hp}{us:List V}{rs:List (Nat × Bd)} (h:wt H us rs) (sm:bz H H'):wt H' us rs:=Paired.ug h fun _ _ ⟨p,g,e,h1,h2⟩=>⟨p,g,e,sm _ _ h1,sm _ _ h2⟩
theorem Ma {H:Hp}{R:Addr}{vs nt:List V}{us:List V}{rs:List (Nat × Bd)} (h:wt H us rs) (hR:H R=some (.lst vs)):wt (aG H R (.lst nt)) us rs:=Paired.ug h fun _ _ ⟨p,g,e,h1,h2⟩ =>
 ⟨p,g,e,by rw[aD (cX h1 hR (fun z=>nomatch z))];exact h1,by rw[aD (cX h2 hR (fun z=>nomatch z))];exact h2⟩
def sd (ts:List Tm) (ls:List Nat) (x:Str) (ps:List T) (k:Nat):List (Nat × Bd):=(qz ts ls k x ps []).map fun v=>(k,v)
theorem TF {ts:List Tm}{ls:List Nat} (hN:1<=ts.length) (x:Str) (ps:List T) (k:Nat) (b:Bd):(qz ts ls k x ps b).length<=ts.length ^ T.gx ps:=by
 unfold qz
 split
 ·split
  ·refine aF (BR hN (fun l=>Gb l) _ _ _) ?_
   rw[cP,zR];exact ao _
  ·exact aS _
 ·exact aS _
inductive D9 (vs:List V) (H:Hp) (Q:VK):Prop
 | mk (Ta L:Addr) (us:List V) (ts:List Tm) (ls:List Nat) (v:V) (x:Str) (ps:List T) (z0:vs = [.ref Ta,.ref L,v]) (z1:H Ta=some (.lst us)) (z2:mG H us ts) (z3:H L=some (.lst (ls.map nV))) (z4:kT ts ls) (z5:ts.length<=60) (z6:1<=ts.length)
  (z7:f7 H (.of x ps) v) (z8:T.gn ps<=3) (z9:(T.fX ps).length<=900) (HH:ts.length ^ (1+T.gx ps)<=1000000)
  (HG:∀ (R:Addr) (cE:List V) (ns:List Nat) (H':Hp),bz H H'->H R=none->H' R=some (.lst cE)->ns.Perm (cV (ts.map (mk ls)) ts.length)->ns.Pairwise (· < ·)->wt H' cE (ns.flatMap (sd ts ls x ps))->Q (.ref R) H'):D9 vs H Q
def Dv:Sp:=fun vs H Q _=>D9 vs H Q
inductive ZX (H1:Hp) (s0 s1 s2 s3:V) (Fd N:Addr) (f:Nat->List (Nat × Bd)) (ns:List Nat) (i:Nat) (σ : St) (H':Hp):Prop
 | mk (us:List V) (x5 x6:Option V):(σ = [some s0,some s1,some s2,some s3,some (.ref Fd),x5,x6])->bz H1 H'->H' N=some (.lst (ns.map nV))->H' Fd=some (.lst us)->wt H' us ((ns.take i).flatMap f)->ZX H1 s0 s1 s2 s3 Fd N f ns i σ H'
inductive ZW (H1:Hp) (s0 s1 s2 s3:V) (k:Nat) (Fd N R:Addr) (ns:List Nat) (rs:List (Nat × Bd)) (xh:List V) (ws:List Bd) (i:Nat) (σ : St) (H':Hp):Prop
 | mk (us:List V) (x6:Option V):(σ = [some s0,some s1,some s2,some s3,some (.ref Fd),some (nV k),x6])->bz H1 H'->H' N=some (.lst (ns.map nV))->H' R=some (.lst xh)->jb H' xh ws->H' Fd=some (.lst us)->wt H' us (rs ++ (ws.take i).map fun v=>(k,v)) ->
   ZW H1 s0 s1 s2 s3 k Fd N R ns rs xh ws i σ H'
theorem KD (Z:zi K mg CM) (Gn:Ls P w K mg base 3 "Matcher" CM ["self", "terms", "leads"] (HZ P w CM)) (pX:dP P w K mg base 3 "node_numbers" ["terms", "leads"] LV) (nC:yI P w K mg base 9 CM "term_ways" ["self", "k", "pattern", "binds"] (OJ P w CM 3))
  (D:Def K mg "matches" xu ["terms", "leads", "left"]):dP P w K mg base 10 "matches" ["terms", "leads", "left"] Dv:=by
 have cM:=Z.cM
 refine D.has oH (fun vs H Q E h => ?_) (fun f da A outer s H vs Q E hr h => ?_)
 ·obtain⟨Ta,L,us,ts,ls,v,x,ps,rfl,_⟩:=h;rfl
 obtain⟨Ta,L,us,ts,ls,v,x,ps,rfl,hT,jo,hL,ok,h60,hN,hP,hdp,hho,hz,q⟩:=h
 refine⟨_,(ax (bC (i:=3) oH.nd rfl (aP rfl) (O2 Gn hr (by omega) Mm rfl (ag (pv 0) (ag (pv 1) aw))))
  (ax (bC (i:=4) oH.nd rfl (aP rfl) (dZ aw))
  (ax (gw cy rfl (ki (cj pX hr (by omega) rfl (ag (pv 0) (ag (pv 1) aw)))) (cB (i:=5) oH.nd rfl (aP rfl))
  (aO (gw cy rfl (ki (Ky nC cM hr (by omega) Mm (pv 3) (ag (pv 5) (ag (pv 2) (ag vM aw))))) (cB (i:=6) oH.nd rfl (aP rfl))
  (aO (gK (j1 bL cx cw f9 (pv 4) (ag (gL (ag (pv 5) (ag (pv 6) aw))) aw)))))))
  (aO (bZ (pv 4)))))),?_⟩
 try dsimp only[eD]
 have Q5:ts.length ^ T.gx ps<=1000000:=aF (ic hN (B8 _ _)) hz
 refine⟨_,rfl,_,rfl,fun a dx Gh aa8 nz => ?_⟩
 have nn:∀ c o,H c=some o->c≠a∧c≠dx:=fun c o e=>⟨bM e Gh,bM e aa8⟩
 have up:bz H (aG (aG H dx (.own a)) a (.ins CM dx [])):=fun c o e=>by rw[aD (nn c o e).1,aD (nn c o e).2];exact e
 refine⟨a,dx,Ta,L,us,ts,ls,rfl,ay,up _ _ hT,fu up jo,up _ _ hL,ok,fun H1 S F j9 kvs bt hM=>⟨rfl,?_⟩⟩
 dsimp only[bH]
 have s1:bz H H1:=fun c o e=>bt c o (nn c o e).1 (up c o e)
 clear up nn bt
 refine⟨aS _,fun Fd Je => ?_⟩
 dsimp only[bH]
 obtain⟨H2,eH,s2,BF⟩:=alloc Je (.lst [])
 rw[eH]
 have g2:=s1.trans s2
 refine⟨_,rfl,_,rfl,Ta,L,us,ts,ls,rfl,g2 _ _ hT,fu g2 jo,g2 _ _ hL,ok,h60,fun N ns H3 s3 Jb Zi pm asc => ?_⟩
 have nNF:N≠Fd:=fun z=>by rw[z,BF]at Jb;cases Jb
 have aeO:H1 N=none:=s2.free Jb
 have dI:(ns.flatMap (sd ts ls x ps)).length<=1000000:=by
  refine aF (pZ (n:=ts.length ^ T.gx ps) fun k _ => ?_) ?_
  ·unfold sd;rw[aj];exact TF hN x ps k []
  ·refine aF (eM _ ?_) (by rw[zQ,Nat.pow_one]at hz;exact hz)
   rw[pm.length_eq];exact oR _ _
 refine⟨N,rfl,⟨_,bo.of Zi⟩,?_⟩
 refine jX (xs:=ns.map nV) (ZX H1 (.ref Ta) (.ref L) v (.ref a) Fd N (sd ts ls x ps) ns) ⟨[],none,none,rfl,s2.trans s3,Zi,s3 _ _ BF,.nil⟩ ?_ ?_ ?_
 ·rintro i σ H' _ ⟨cE,x5,x6,rfl,sm,Nn,_⟩
  exact bo.of Nn
 ·rintro i y σ H' hy ⟨cE,x5,x6,rfl,sm,Nn,Gy,rm⟩
  rw[aH]at hy
  obtain⟨k,hk,rfl⟩:=bS.mp hy
  have IU:k < ts.length:=NB (pm.mem_iff.mp (aK hk))
  have Rx:=hM.same sm
  dsimp only[bH]
  refine⟨_,rfl,a,dx,_,rfl,Rx.ins,rfl,_,rfl,_,rfl,fun G hG => ?_⟩
  have s4:=aM hG (.dK [])
  have Zl:=ay (H:=H') (a:=G) (o := .dK [])
  have g4:=sm.trans s4
  have Gv:=s4 _ _ Nn
  have yc:=s4 _ _ Gy
  have Ys:=vI rm s4
  generalize aG H' G (.dK [])=H4 at s4 Zl g4 Gv yc Ys ⊢
  refine⟨a,dx,Ta,L,S,F,us,ts,ls,j9,kvs,k,v,x,ps,G, [],rfl,hM.same g4,ok,IU,lC (fun c ys e=>g4 _ _ (s1 _ _ e)) hP,hdp,Zl,by rw[jP];omega,Q5,fun R xh H5 s5 hR Zd HJ => ?_⟩
  have l1:=rD (sd ts ls x ps) ns (i+1)
  rw[mD _ hk,au]at l1
  have hRF:R≠Fd:=fun z=>by rw[z,yc]at hR;cases hR
  have hRN:N≠R:=fun z=>by rw[<- z,Gv]at hR;cases hR
  have yh:(sd ts ls x ps k).length=(qz ts ls k x ps []).length:=by unfold sd;rw[aj]
  refine⟨R,rfl,⟨_,bo.of Zd⟩,?_⟩
  refine jX (xs:=xh) (ZW H1 (.ref Ta) (.ref L) v (.ref a) k Fd N R ns ((ns.take i).flatMap (sd ts ls x ps)) xh (qz ts ls k x ps [])) ⟨cE,_,rfl,g4.trans s5,s5 _ _ Gv,Zd,HJ,s5 _ _ yc,?_⟩ ?_ ?_ ?_
  ·rw[fM,du,cg]
   exact vI Ys s5
  ·rintro j σ H' _ ⟨Tx,x6,rfl,sm,Nn,Gu,_⟩
   exact bo.of Gu
  ·rintro j vw σ H6 hj ⟨Tx,x6,rfl,Dw,VW,Zc,zx,RA,Mc⟩
   obtain⟨bj,I9,g,rfl,hg⟩:=Paired.at zx hj
   have jl:=(ah.mp I9).1
   have l2:=bJ Mc
   rw[au,aj,bA,dj (fA jl)]at l2
   dsimp only[bH]
   refine⟨_,rfl,.inl ⟨rfl,_,bo.of RA⟩,_,rfl,_,rfl,(show 2<=sizeLine by decide),fun p hp => ?_⟩
   have s7:=aM hp (.tup [nV k,.ref g])
   have IL:=ay (H:=H6) (a:=p) (o := .tup [nV k,.ref g])
   have yb:=s7 _ _ RA
   have Vt:=s7 _ _ hg
   have Yr:=vI Mc s7
   generalize aG H6 p (.tup [nV k,.ref g])=H7 at s7 IL yb Vt Yr ⊢
   refine⟨Fd,_,_,rfl,rfl,yb,bK (m:=1000000) (by omega) (by decide),⟨_,_,rfl,(Dw.trans s7).put Je,?_,?_,nN (mj zx s7) yb,ay,?_⟩⟩
   ·rw[aD nNF];exact s7 _ _ VW
   ·rw[aD hRF];exact s7 _ _ Zc
   ·rw[bQ,I9,cf, <- aV]
    refine oM (Ma Yr yb) (.cons ⟨p,g,rfl,?_,?_⟩ .nil)
    ·rw[aD (cX IL yb (fun z=>nomatch z))];exact IL
    ·rw[aD (cX Vt yb (fun z=>nomatch z))];exact Vt
  ·rintro σ H6 ⟨Tx,x6,rfl,Dw,VW,Zc,zx,RA,Mc⟩
   have e3:=bJ zx
   rw[e3,bG]at Mc
   refine⟨Tx,_,_,rfl,Dw,VW,RA,?_⟩
   rw[mD _ hk]
   exact Mc
 ·rintro σ H' ⟨cE,x5,x6,rfl,sm,Nn,Gy,rm⟩
  rw[aj,bG]at rm
  exact⟨_,rfl,q Fd cE ns H' (s1.trans sm) (s1.free Je) Gy pm asc rm⟩
def hw (z:Str) (at_:Nat) (i:Int):Str:=cN z none (some ((at_:Nat):Int)) ++ sg i ++ cN z (some ((at_:Nat):Int)) none
theorem gH:∀ {b:Bd}{x:Str},(look b x).isSome=true↔x∈b.map (·.1)
 | [],x=>by rw[look];exact⟨(fun z=>nomatch z),(fun z=>nomatch z)⟩
 | p :: r,x=>by
  rw[look,aJ,aN]
  by_cases e:p.1=x
  ·rw[if_pos e];exact⟨fun _ => .inl e.symm,fun _=>rfl⟩
  ·rw[if_neg e,gH];exact⟨.inr,fun z=>z.elim (fun z=>absurd z.symm e) id⟩
theorem Ud (b:Bd) (x:Str) (l:Nat):∃ b':Bd,fw (fe b) (.inr x) (nV l)=fe b'∧b'.length<=b.length+1∧(∀ z,look b' z=if x=z then some l else look b z)∧((b.map (·.1)).Nodup->(b'.map (·.1)).Nodup):=by
 cases e:look b x with
 | none =>
  refine⟨_,C2 e,by rw[au];exact ao _,fun z => ?_,fun hn => ?_⟩
  ·rw[jv]
   cases q:look b z with
   | none=>rfl
   | some v =>
    show some v=if x=z then some l else some v
    rw[if_neg (fun ez=>by rw[<- ez,e]at q;cases q)]
  ·rw[cf]
   refine fZ.mpr ⟨hn,dO.mpr ⟨jB,iI⟩,fun a ha c hc z => ?_⟩
   have hc:c=x:=av.mp hc
   have:=gH.mpr (by rw[z,hc]at ha;exact ha)
   rw[e]at this;cases this
 | some v =>
  refine⟨b.map fun p=>if p.1=x then (p.1,l) else p,?_,by rw[aj];omega,fun z => ?_,fun hn => ?_⟩
  ·unfold fw
   rw[if_pos]
   ·unfold fe
    rw[dF,dF]
    refine dW fun p _ => ?_
    show (if (ig p.1:Key)=ig x then _ else _)=_
    by_cases ep:p.1=x
    ·rw[if_pos (by rw[ep])]
     show _=((ig (if p.1=x then (p.1,l) else p).1:Key),nV (if p.1=x then (p.1,l) else p).2)
     rw[if_pos ep]
    ·rw[if_neg (fun q=>ep (zO q))]
     show _=((ig (if p.1=x then (p.1,l) else p).1:Key),nV (if p.1=x then (p.1,l) else p).2)
     rw[if_neg ep]
   ·have h:=p5 b x
    rw[e]at h
    cases q:(fe b).any fun kv=>decide (kv.1 = .inr x) with
    | true=>rfl
    | false =>
     rw[jT]at q
     rw[h]at q
     cases q
  ·have hs:(look b x).isSome=true:=by rw[e];rfl
   clear e
   induction b with
   | nil=>cases hs
   | cons p r ih =>
    rw[aJ,look,look]
    by_cases ep:p.1=x
    ·rw[if_pos ep]
     by_cases ez:x=z
     ·rw[if_pos (ep.trans ez),if_pos ez]
     ·rw[if_neg (fun q=>ez (ep.symm.trans q)),if_neg (fun q=>ez (ep.symm.trans q)),if_neg ez]
      by_cases hr:(look r x).isSome=true
      ·rw[ih hr,if_neg ez]
      ·congr 1
       have lN:∀ p∈r,p.1≠x:=by
        clear ih hs
        induction r with
        | nil=>intro p hp;cases hp
        | cons q r MZ =>
         rw[look]at hr
         by_cases eq:q.1=x
         ·rw[if_pos eq]at hr;exact absurd rfl hr
         ·rw[if_neg eq]at hr
          intro p hp
          rcases aN.mp hp with rfl | hp
          ·exact eq
          ·exact MZ hr p hp
       refine(dW fun p hp => ?_).trans (qr _)
       rw[if_neg (lN p hp)];rfl
    ·rw[if_neg ep]
     rw[look,if_neg ep]at hs
     by_cases ez:p.1=z
     ·rw[if_pos ez,if_pos ez,if_neg (fun q=>ep (ez.trans q.symm))]
     ·rw[if_neg ez,if_neg ez];exact ih hs
  ·rw[dF]
   refine(dW fun p _ => ?_) ▸ hn
   show p.1=(if p.1=x then (p.1,l) else p).1
   split <;> rfl
def hI (bN lead iF:Nat):Nat:=if bN=0 then lead else if bN=1 then iF else iF % 2
inductive W0 (vs:List V) (H:Hp) (Q:VK):Prop
 | mk (z:Str) (at_ bN iF lead:Nat) (z0:vs = [.str z,nV at_,nV bN,nV iF,nV lead]) (z1:z.length<=8) (z2:at_<=z.length) (z3:bN < 3) (z4:iF < 26) (z5:lead < 26) (z6:∀ H',bz H H'->Q (.str (hw z at_ (hI bN lead iF))) H'):W0 vs H Q
def TY:Sp:=fun vs H Q _=>W0 vs H Q
theorem SM (D:Def K mg "_law_hole" Fe ["_law_base", "_law_at", "_law_turn_by", "_law_many", "_law_lead"]):dP P w K mg base 1 "_law_hole" ["_law_base", "_law_at", "_law_turn_by", "_law_many", "_law_lead"] TY:=by
 refine D.has Ig (fun vs H Q E h => ?_) (fun f da A outer s H vs Q E hr h => ?_)
 ·obtain⟨z,at_,bN,iF,lead,rfl,_⟩:=h;rfl
 obtain⟨z,at_,bN,iF,lead,rfl,h8,sh,hm,hn,hl,q⟩:=h
 refine⟨_,(ax (bC (i:=5) Ig.nd rfl (aP rfl) (aZ uO eF (aZ b9 (dZ (ag (pv 4) (ag (pv 3) (ag (bb cK (pv 3) az) aw)))) (pv 2))))
  (aO (bZ (bb kN (bb kN (jV qB (pv 0) lF (lE (pv 1))) (pv 5)) (jV qB (pv 0) (lE (pv 1)) lF))))),?_⟩
 try dsimp only[eD]
 refine⟨_,rfl,_,rfl,_,rfl,_,_,rfl,rfl,eI,(show 3<=sizeLine by decide),fun L hL => ?_⟩
 have s0:=aM hL (.lst [nV lead,nV iF,.int ((iF:Int) % 2)])
 have tM:=ay (H:=H) (a:=L) (o := .lst [nV lead,nV iF,.int ((iF:Int) % 2)])
 have q:=q _ s0
 generalize aG H L (.lst [nV lead,nV iF,.int ((iF:Int) % 2)])=H0 at s0 tM q ⊢
 have ei:ou [nV lead,nV iF,.int ((iF:Int) % 2)] ((bN:Nat):Int)=some (nV (hI bN lead iF)):=by
  rcases(by omega:bN=0∨bN=1∨bN=2) with rfl | rfl | rfl
  ·exact a7 (j:=0) rfl
  ·exact a7 (j:=1) rfl
  ·refine a7 (j:=2) ?_
   show some (V.int ((iF:Int) % 2))=some (V.int (((iF % 2:Nat)):Int))
   rw[Int.natCast_emod];rfl
 have hi:hI bN lead iF < 26:=by unfold hI;split;assumption;split;assumption;omega
 generalize hI bN lead iF=i at ei hi q
 have hz:z.length<=sizeLine:=aF h8 (by decide)
 refine⟨_,rfl,L,_,_,_,rfl,rfl,bo.of tM,ei,_,_,_,rfl,rfl,by decide,yo (by omega) (by omega),?_⟩
 dsimp only[bH]
 have Yl:=hV z none (some ((at_:Nat):Int))
 have wJ:=hV z (some ((at_:Nat):Int)) none
 refine⟨_,rfl,_,rfl,_,rfl,z,rfl,hz,_,rfl,_,_,rfl,rfl,?_,?_⟩
 ·show (cN z none (some ((at_:Nat):Int))).length+(sg ((i:Nat):Int)).length<=sizeLine
  rw[oF]
  exact aF (by omega:_<=1000) (by decide)
 refine⟨_,rfl,_,rfl,_,rfl,z,rfl,hz,_,_,rfl,rfl,?_,q⟩
 show (cN z none (some ((at_:Nat):Int)) ++ sg ((i:Nat):Int)).length+(cN z (some ((at_:Nat):Int)) none).length<=sizeLine
 rw[j3,oF]
 exact aF (by omega:_<=1000) (by decide)
def fR:Nat->Nat
 | 0=>0
 | r+1=>fR r+(r+3)
structure BV (z:Str) (at_ bN:Nat) (b:Bd) (np:Nat):Prop where
 nk:(b.map (·.1)).Nodup
 two:bN=2->∀ x,(look b x).isSome=true->x=hw z at_ (0:Nat)∨x=hw z at_ (1:Nat)
theorem BV.less {z:Str}{at_ bN:Nat}{b:Bd}{n m:Nat} (h:BV z at_ bN b n) (hm:m<=n):BV z at_ bN b m:=⟨h.nk,h.two⟩
def Hg (b b':Bd) (hs:List Str):Prop := ∀ y,(look b' y).isSome=true↔(look b y).isSome=true∨y∈hs
theorem GO (b:Bd):Hg b b []:=fun y=>⟨.inl,fun h=>h.elim id fun h=>nomatch h⟩
theorem Hg.then {b w v:Bd}{hs gs:List Str} (h:Hg b w hs) (g:Hg w v gs):Hg b v (hs ++ gs):=fun y=>by
 rw[g y,h y,bg,or_assoc]
structure Gen (ts:List Tm) (ls:List Nat) (z:Str) (at_ bN:Nat) (as:List Nat) (b b':Bd) (np xJ r r':Nat) (ps:List T):Prop where
 oS:Hg b b' (T.fX ps)
 wH:BV z at_ bN b' xJ
 use:np+fR r'<=xJ+as.length+fR r
 Yt:r'<=r
 deep:T.gn ps<=1+r
 gx:T.gx ps+r'<=r
 iq:(T.fX ps).length+xJ<=np
 len:b'.length+xJ<=b.length+np
 pl:ps.length=as.length
 lZ:T.lZ ps+xJ<=np
structure Ho (ts:List Tm) (ls:List Nat) (z:Str) (at_ bN lead:Nat) (b b':Bd) (np xJ r r':Nat) (p:T):Prop where
 oS:Hg b b' p.iq
 wH:BV z at_ bN b' xJ
 use:np+fR r'<=xJ+1+fR r
 Yt:r'<=r
 deep:p.depth<=1+r
 kn:p.kn+r'<=r
 iq:p.iq.length+xJ<=np
 len:b'.length+xJ<=b.length+np
 ar:p.ar+xJ<=np
theorem DW {p:T}{n:Nat} (h:p.depth<=n):∀ {ps:List T},T.gn ps<=n->T.gn (ps ++ [p])<=n
 | [],_=>by rw[dB,T.gn,T.gn];omega
 | q :: ps,e=>by
  rw[T.gn]at e
  have:=DW h (ps:=ps) (by omega)
  rw[cU,T.gn];omega
theorem S9 {ts:List Tm}{ls:List Nat}{z:Str}{at_ bN:Nat}{b:Bd}{np r:Nat} (h:BV z at_ bN b np):Gen ts ls z at_ bN [] b b np np r r [] :=
 ⟨by rw[T.fX];exact GO b,h,ao _,ao _,by rw[T.gn];omega,by rw[T.gx];omega,by rw[T.fX];exact dt (cO _),ao _,rfl,by rw[T.lZ];omega⟩
theorem P4 {ts:List Tm}{ls:List Nat}{z:Str}{at_ bN:Nat}{as:List Nat}{a i:Nat}{b b1 b2:Bd}{np n1 n2 r r1 r2:Nat}{ps:List T}{p:T} (h:Gen ts ls z at_ bN (as.take i) b b1 np n1 r r1 ps) (ha:as[i]? = some a)
  (g:Ho ts ls z at_ bN (ls.getD a 0) b1 b2 n1 n2 r1 r2 p):Gen ts ls z at_ bN (as.take (i+1)) b b2 np n2 r r2 (ps ++ [p]):=by
 have e:as.take (i+1)=as.take i ++ [a]:=by rw[bQ,ha];rfl
 have eh:T.fX (ps ++ [p])=T.fX ps ++ p.iq:=by rw[Ap,T.fX,T.fX,cg]
 have ek:T.gx (ps ++ [p])=T.gx ps+p.kn:=by rw[zb,T.gx,T.gx,mN]
 obtain⟨h2,h3,h4,h5,h6,h7,h8,h9,h10,Jh⟩:=h
 obtain⟨g2,g3,g4,g5,g6,g7,g8,g9,g10⟩:=g
 refine⟨by rw[eh];exact h2.then g2,g3,?_,aF g5 h5,DW (by omega) h6,by omega,by rw[eh,au];omega,by omega,?_,by rw[JE,T.lZ,T.lZ];omega⟩
 ·rw[e,au,cP];omega
 ·rw[e,au,au,h10];rfl
theorem TH {ts:List Tm}{ls:List Nat} (ok:kT ts ls) {j:Nat}{u:Tm} (h:ts[j]? = some u):iu ts ls (mk ls u)=some (ls.getD j 0):=by
 cases q:iu ts ls (mk ls u) with
 | none=>exact absurd rfl (EN q j u h)
 | some l =>
  obtain⟨i,u',hi,em,hl⟩:=EM ok.len q
  have:=ok.mw i j u' u hi h em
  rw[br, <- this,hl];rfl
theorem Ql {ts:List Tm}{ls:List Nat}{z:Str}{at_ bN lead:Nat} {b b':Bd}{np r:Nat} (h:BV z at_ bN b (np+1)) (dI:b'.length<=b.length+1) (hnk:(b.map (·.1)).Nodup->(b'.map (·.1)).Nodup)
  (hb:∀ y,look b' y=if hw z at_ (hI bN lead np)=y then some lead else look b y):Ho ts ls z at_ bN lead b b' (np+1) np r r (.any (hw z at_ (hI bN lead np))):=by
 refine⟨fun y => ?_,⟨hnk h.nk,fun e2 y hy => ?_⟩,ao _,ao _,by rw[T.depth];omega,by rw[T.kn];omega,by rw[T.iq,cP];omega,by omega,by rw[T.ar];omega⟩
 ·rw[hb,T.iq,av]
  by_cases ey:hw z at_ (hI bN lead np)=y
  ·rw[if_pos ey];exact⟨fun _ => .inr ey.symm,fun _=>rfl⟩
  ·rw[if_neg ey];exact⟨.inl,fun z=>z.elim id fun z=>absurd z.symm ey⟩
 ·rw[hb]at hy
  by_cases ey:hw z at_ (hI bN lead np)=y
  ·have e3:hI bN lead np=np % 2:=by unfold hI;rw[if_neg (by omega),if_neg (by omega)]
   rw[e3]at ey
   rcases(by omega:np % 2=0∨np % 2=1) with e4 | e4
   ·rw[e4]at ey;exact .inl ey.symm
   ·rw[e4]at ey;exact .inr ey.symm
  ·rw[if_neg ey]at hy;exact h.two e2 y hy
theorem Qj {ts:List Tm}{ls:List Nat}{z:Str}{at_ bN lead:Nat}{b:Bd}{np r:Nat}{p:T} (h:BV z at_ bN b (np+1)) (hh:p.iq = []) (hd:p.depth=1) (hk:p.kn=0) (ha:p.ar=1):Ho ts ls z at_ bN lead b b (np+1) np r r p :=
 ⟨by rw[hh];exact GO b,h.less (lL _),ao _,ao _,by omega,by omega,by rw[hh,jP];omega,by omega,by omega⟩
theorem Qk {ts:List Tm}{ls:List Nat}{z:Str}{at_ bN j:Nat} {b b':Bd} {np n' r r':Nat}{y:Str}{as:List Nat}{ps:List T} (Nj:as.length < 3+(r+1)) (h:Gen ts ls z at_ bN as b b' np n' r r' ps) :
  Ho ts ls z at_ bN (ls.getD j 0) b b' (np+1) n' (r+1) r' (.of y ps):=by
 obtain⟨h2,h3,h4,h5,h6,h7,h8,h9,_,Jh⟩:=h
 refine⟨by rw[T.iq];exact h2,h3,?_,by omega,by rw[T.depth];omega,by rw[T.kn];omega,by rw[T.iq];omega,by omega,by rw[T.ar];omega⟩
 rw[fR];omega
def l6 (a b c:Addr) (H H':Hp):Prop := ∀ d o,d≠a->d≠b->d≠c->H d=some o->H' d=some o
theorem l6.trans {a b c:Addr}{H H1 H2:Hp} (x:l6 a b c H H1) (y:l6 a b c H1 H2):l6 a b c H H2:=fun d o n1 n2 n3 h=>y d o n1 n2 n3 (x d o n1 n2 n3 h)
theorem l6.same {a b c:Addr}{H H1 H2:Hp} (x:l6 a b c H H1) (y:bz H1 H2):l6 a b c H H2:=fun d o n1 n2 n3 h=>y d o (x d o n1 n2 n3 h)
theorem HN {H:Hp}{t:Tm}{v:V} (h:i7 H t v):∃ q k vs,v = .ref q∧H q=some (.tup (.str k :: vs))∧(k = "of" -> ∃ y as c,t = .of y as∧vs = [.str y,.ref c]∧H c=some (.tup (as.map nV)))∧(k ≠ "of" -> ∃ p:T,f7 H p v∧p.iq = []∧p.depth=1∧p.kn=0∧p.ar=1∧∀ ts ls m,d5 ts ls m p=iu ts ls (mk ls t)):=by
 cases t with
 | num n=>obtain⟨q,rfl,h⟩:=h;exact⟨q,_,_,rfl,h,fun z=>absurd z (by decide),fun _=>⟨.num n,by rw[f7];exact⟨q,rfl,h⟩,by rw[T.iq],by rw[T.depth],by rw[T.kn],by rw[T.ar],fun ts ls m=>by rw[d5];rfl⟩⟩
 | name n=>obtain⟨q,rfl,h⟩:=h;exact⟨q,_,_,rfl,h,fun z=>absurd z (by decide),fun _=>⟨.name n,by rw[f7];exact⟨q,rfl,h⟩,by rw[T.iq],by rw[T.depth],by rw[T.kn],by rw[T.ar],fun ts ls m=>by rw[d5];rfl⟩⟩
 | of y as=>obtain⟨q,c,rfl,h,hc⟩:=h;exact⟨q,_,_,rfl,h,fun _=>⟨y,as,c,rfl,rfl,hc⟩,fun z=>absurd rfl z⟩
structure sU (K:ak) (H:Hp) (Ta L Pk Db Ro Ba:Addr) (us:List V) (ts:List Tm) (ls:List Nat) (pk:List Int) (b:Bd) (r:Nat) (z:Str) (at_ bN:Nat):Prop where
 uX:H Ta=some (.lst us)
 iz:mG H us ts
 hL:H L=some (.lst (ls.map nV))
 rl:H Pk=some (.lst (pk.map V.int))
 oq:H Db=some (.dK (fe b))
 oo:H Ro=some (.lst (aX r (.int 0)))
 sk:H Ba=some (.tup [.str z,nV at_])
 wH:BV z at_ bN b pk.length
 Fm:pk.length < 26
 C8:b.length+pk.length<=800
structure abE (Ta L Pk Ro:Addr) (ts:List Tm) (ls:List Nat) (z:Str) (at_ bN:Nat):Prop where
 ok:kT ts ls
 jZ:ts.length<=24
 lt:∀ a,ls.getD a 0 < 26
 n1:Ta≠Pk
 n2:Ta≠Ro
 n3:L≠Pk
 n4:L≠Ro
 n5:Pk≠Ro
 z8:z.length<=8
 sh:at_<=z.length
 hm:bN < 3
inductive RS (K:ak) (n:Nat) (vs:List V) (H:Hp) (Q:VK):Prop
 | mk (Ta L Pk Db Ro Ba:Addr) (us:List V) (ts:List Tm) (ls:List Nat) (t:Nat) (pk:List Int) (b:Bd) (r:Nat) (z:Str) (at_ bN:Nat) (x:Str) (as:List Nat) (z0:vs = [.ref Ta,.ref L,nV t,.ref Pk,.ref Db,.ref Ro,.ref Ba,nV bN])
  (z1:sU K H Ta L Pk Db Ro Ba us ts ls pk b r z at_ bN) (z2:abE Ta L Pk Ro ts ls z at_ bN) (z3:ts[t]? = some (.of x as)) (z4:r < n) (z5:as.length+fR r<=pk.length)
  (z6:∀ (v:V) (ps:List T) (b':Bd) (xF:List Int) (r':Nat) (H':Hp),l6 Pk Db Ro H H'->sU K H' Ta L Pk Db Ro Ba us ts ls xF b' r' z at_ bN->f7 H' (.of x ps) v->Gen ts ls z at_ bN as b b' pk.length xF.length r r' ps->Q v H'):RS K n vs H Q
def Kn (K:ak) (n:Nat):Sp:=fun vs H Q _=>RS K n vs H Q
theorem sU.same {H H':Hp}{Ta L Pk Db Ro Ba:Addr}{us:List V}{ts:List Tm}{ls:List Nat}{pk:List Int}{b:Bd}{r:Nat}{z:Str}{at_ bN:Nat} (h:sU K H Ta L Pk Db Ro Ba us ts ls pk b r z at_ bN) (sm:bz H H'):sU K H' Ta L Pk Db Ro Ba us ts ls pk b r z at_ bN :=
 ⟨sm _ _ h.uX,fu sm h.iz,sm _ _ h.hL,sm _ _ h.rl,sm _ _ h.oq,sm _ _ h.oo,sm _ _ h.sk,h.wH,h.Fm,h.C8⟩
theorem sU.aag {H:Hp}{Ta L Pk Db Ro Ba A:Addr}{us:List V}{ts:List Tm}{ls:List Nat}{pk:List Int}{b:Bd}{r:Nat}{z:Str}{at_ bN:Nat}{vs nt:List V} (h:sU K H Ta L Pk Db Ro Ba us ts ls pk b r z at_ bN) (hA:H A=some (.lst vs)) (n1:Ta≠A) (n2:L≠A) (n3:Pk≠A) (n4:Ro≠A) :
  sU K (aG H A (.lst nt)) Ta L Pk Db Ro Ba us ts ls pk b r z at_ bN :=
 ⟨by rw[aD n1];exact h.uX,jU (fun c ys e=>by rw[aD (cX e hA (fun z=>nomatch z))];exact e) h.iz,by rw[aD n2];exact h.hL,by rw[aD n3];exact h.rl,by rw[aD (cX h.oq hA (fun z=>nomatch z))];exact h.oq,by rw[aD n4];exact h.oo,by rw[aD (cX h.sk hA (fun z=>nomatch z))];exact h.sk,h.wH,h.Fm,h.C8⟩
theorem sU.rest {H H':Hp}{Ta L Pk Db Ro Ba:Addr}{us:List V}{ts:List Tm}{ls:List Nat}{pk:List Int}{b:Bd}{r:Nat}{z:Str}{at_ bN:Nat} (h:sU K H Ta L Pk Db Ro Ba us ts ls pk b r z at_ bN) (bt:l6 Pk Db Ro H H'):∀ c ys,H c=some (.tup ys)->H' c=some (.tup ys) :=
 fun c ys e=>bt c _ (cX e h.rl (fun z=>nomatch z)) (cX e h.oq (fun z=>nomatch z)) (cX e h.oo (fun z=>nomatch z)) e
inductive Xg (K:ak) (H:Hp) (Ta L Pk Db Ro Ba Ar:Addr) (t:Nat) (us:List V) (ts:List Tm) (ls:List Nat) (np:Nat) (b:Bd) (r:Nat) (z:Str) (at_ bN:Nat) (as:List Nat) (i:Nat) (σ : St) (H':Hp):Prop
 | mk (x9 uC qv qu EF:Option V) (vs:List V) (ps:List T) (b':Bd) (xF:List Int) (r':Nat):(σ = [some (.ref Ta),some (.ref L),some (nV t),some (.ref Pk),some (.ref Db),some (.ref Ro),some (.ref Ba),some (nV bN),some (.ref Ar),x9,uC,qv,qu,EF])->l6 Pk Db Ro H H' ->
   sU K H' Ta L Pk Db Ro Ba us ts ls xF b' r' z at_ bN->H' Ar=some (.lst vs)->gS H' ps vs->ps.length=i->Gen ts ls z at_ bN (as.take i) b b' np xF.length r r' ps->Xg K H Ta L Pk Db Ro Ba Ar t us ts ls np b r z at_ bN as i σ H'
theorem EH {H:Hp}{t:T}{v:V}:∀ {ts:List T}{vs:List V},gS H ts vs->f7 H t v->gS H (ts ++ [t]) (vs ++ [v])
 | [],vs,h,q=>by
  rw[gS]at h
  subst h
  rw[dB,dB,gS]
  exact⟨v, [],rfl,q,by rw[gS]⟩
 | p :: ps,vs,h,q=>by
  rw[gS]at h
  obtain⟨u,r,rfl,h1,h2⟩:=h
  rw[cU,cU,gS]
  exact⟨u,_,rfl,h1,EH h2 q⟩
theorem C0 {H H':Hp}{Ta L Pk Db Ro Ba Ar:Addr}{t:Nat}{us:List V}{ts:List Tm}{ls:List Nat}{np:Nat}{b:Bd}{r:Nat}{z:Str}{at_ bN:Nat}{as:List Nat}{i a n1 r1:Nat}{b1 b2:Bd}{QQ:List Int}{r2:Nat}{vs:List V}{ps:List T}{p:T}{v:V}{x9 uC qv qu EF:Option V}{σ : St}
  (Ww : σ = [some (.ref Ta),some (.ref L),some (nV t),some (.ref Pk),some (.ref Db),some (.ref Ro),some (.ref Ba),some (nV bN),some (.ref Ar),x9,uC,qv,qu,EF]) (bt:l6 Pk Db Ro H H') (g:sU K H' Ta L Pk Db Ro Ba us ts ls QQ b2 r2 z at_ bN) (Wk:H Ar=none) (BB:H Ta≠none) (tM:H L≠none) (Ja:H Pk≠none) (Gs:H Ro≠none)
  (hA:H' Ar=some (.lst vs)) (M7:gS H' ps vs) (hv:f7 H' p v) (hi:ps.length=i) (ge:Gen ts ls z at_ bN (as.take i) b b1 np n1 r r1 ps) (ha:as[i]? = some a) (arm:Ho ts ls z at_ bN (ls.getD a 0) b1 b2 n1 QQ.length r1 r2 p) :
  Xg K H Ta L Pk Db Ro Ba Ar t us ts ls np b r z at_ bN as (i+1) σ (aG H' Ar (.lst (vs ++ [v]))):=by
 have nA:∀ c,H c≠none->c≠Ar:=fun c h z=>h (by rw[z];exact Wk)
 have kp:∀ c ys,H' c=some (.tup ys)->(aG H' Ar (.lst (vs ++ [v]))) c=some (.tup ys):=fun c ys e=>by rw[aD (cX e hA (fun z=>nomatch z))];exact e
 refine⟨x9,uC,qv,qu,EF,vs ++ [v],ps ++ [p],b2,QQ,r2,Ww,fun c o m1 m2 m3 h => ?_,g.aag hA (nA _ BB) (nA _ tM) (nA _ Ja) (nA _ Gs),ay,EH (iY kp M7) (lC kp hv),by rw[au,hi];rfl,P4 ge ha arm⟩
 rw[aD (nA c (fun z=>by rw[z]at h;cases h))]
 exact bt c o m1 m2 m3 h
theorem Bb (B:nG mg) (BA:dP P w K mg base 1 "_law_hole" ["_law_base", "_law_at", "_law_turn_by", "_law_many", "_law_lead"] TY)
  (D:Def K mg "_law_general" tD ["_law_terms_here", "_law_leads", "_law_t", "_law_picks", "_law_binds", "_law_room", "_law_base", "_law_mode"]) :
  ∀ n,dP P w K mg base (n+1) "_law_general" ["_law_terms_here", "_law_leads", "_law_t", "_law_picks", "_law_binds", "_law_room", "_law_base", "_law_mode"] (Kn K n)
 | 0=>by
  obtain⟨fa,fd,F,hm,hb⟩:=D.ex
  have no:∀ vs H Q E, ¬ Kn K 0 vs H Q E:=fun vs H Q E h=>by
   obtain⟨Ta,L,Pk,Db,Ro,Ba,us,ts,ls,t,pk,b,r,z,at_,bN,x,as,_,_,_,_,z4,_⟩:=h
   omega
  exact⟨fa,fd,⟨fun vs H Q E h=>absurd h (no vs H Q E),fun A outer s H args us vs Q E _ _ _ _ h=>absurd h (no vs H Q E)⟩,hm,F.kp,hb⟩
 | n+1=>by
  have qJ:=Bb B BA D n
  refine D.has kM (fun vs H Q E h => ?_) (fun f da A outer s H vs Q E hr h => ?_)
  ·obtain⟨Ta,L,Pk,Db,Ro,Ba,us,ts,ls,t,pk,b,r,z,at_,bN,x,as,rfl,_⟩:=h;rfl
  obtain⟨Ta,L,Pk,Db,Ro,Ba,us,ts,ls,t,pk,b,r,z,at_,bN,x,as,rfl,gi,fx,ht,hrn,hpk,q⟩:=h
  refine⟨_,(ax (bC (i:=8) kM.nd rfl (aP rfl) (dZ aw))
  (ax (gw cy rfl (A5 (aZ cL (aZ b9 (pv 0) (pv 2)) az)) (cB (i:=9) kM.nd rfl (Or.inr rfl))
  (ax (bC (i:=10) kM.nd rfl (aP rfl) (Mj bL vh vg Mx (pv 3)))
  (ax (zz (i:=11) kM.nd rfl rfl (te:=_) (ct:=(yY (pE _ (pE (xE K) _ _) (pE (xE K) _ _)))) (own := ["_law_j"]) (caps := [("_law_leads",1),("_law_place",9)]) (kR (a6 tD) ["_law_terms_here", "_law_leads", "_law_t", "_law_picks", "_law_binds", "_law_room", "_law_base", "_law_mode", "_law_arms", "_law_place", "_law_m", "_law_some", "_law_j", "_law_word_here"] rfl rfl rfl (by decide +kernel)) (og rfl B.qC (ag (bX b7 rfl B.gU bD (ag (pv 0) aw)) aw)) rfl (fun _ _ _=>cB (i:=0) (show (["_law_j", "_law_leads", "_law_place"]:List Str).Nodup by decide +kernel) rfl (aP rfl)) (fun _ _ _=>(b8 je (aZ b9 (pv 1) (pv 0)) (aZ b9 (pv 1) (pv 2)) (cC _))) (fun _ _ _=>(pv 0)) rfl)
  (ax (bC (i:=12) kM.nd rfl (aP rfl) (aZ b9 (pv 11) (bb cK (bb dR (pv 10) az) (bX b7 rfl B.gU bD (ag (pv 11) aw)))))
  (aO (dz (PW.pt (pw_and (b8 vN (bb cK (pv 10) az) az (cC _)) (pw_and (b8 je (aZ cL (aZ b9 (pv 0) (pv 12)) az) eF (cC _)) (pw_and (b8 Xz (bX b7 rfl B.gU bD (ag (pv 5) aw)) az (cC _)) (pw_and1 (b8 vN (bX b7 rfl B.gU bD (ag (aZ cL (aZ b9 (pv 0) (pv 12)) az) aw)) (bb jJ az (bX b7 rfl B.gU bD (ag (pv 5) aw))) (cC _))))))) (ax (gK (Mj bL vh vg Mx (pv 5)))
  (aO (gK (j1 bL cx cw f9 (pv 8) (ag (cj qJ hr (by omega) rfl (ag (pv 0) (ag (pv 1) (ag (pv 12) (ag (pv 3) (ag (pv 4) (ag (pv 5) (ag (pv 6) (ag (pv 7) aw))))))))) aw))))) (aO (dz (PW.pt (pw_and (b8 vN (bb cK (pv 10) az) az (cC _)) (pw_and1 (b8 nH (aZ cL (aZ b9 (pv 0) (pv 12)) az) eF (cC _))))) (aO (gK (j1 bL cx cw f9 (pv 8) (ag (aZ b9 (pv 0) (pv 12)) aw)))) (ax (bC (i:=13) kM.nd rfl (aP rfl) (cj BA hr (by omega) rfl (ag (aZ cL (pv 6) az) (ag (aZ cL (pv 6) az) (ag (pv 7) (ag (bX b7 rfl B.gU bD (ag (pv 3) aw)) (ag (aZ b9 (pv 1) (pv 9)) aw)))))))
  (ax (CC (rC hr) (pv 4) (pv 13) (aZ b9 (pv 1) (pv 9)) rfl)
  (aO (gK (j1 bL cx cw f9 (pv 8) (ag (gL (ag eF (ag (pv 13) aw))) aw))))))))))))))
  (aO (bZ (gL (ag eF (ag (aZ cL (aZ b9 (pv 0) (pv 2)) az) (ag (fy lA rfl B.uE lJ (ag (pv 8) aw)) aw)))))))),?_⟩
  try dsimp only[eD]
  have Q7:=bJ gi.iz
  have Q9:=(ah.mp ht).1
  have hu:us[t]? = some (us[t]'(by omega)):=ai (by omega)
  generalize us[t]'(by omega)=u at hu
  obtain⟨tm,uS,qH⟩:=j8 gi.iz hu
  rw[ht]at uS
  cases uS
  obtain⟨ta,tb,rfl,xR,Bl⟩:=qH
  refine⟨aS _,fun Ar Jf => ?_⟩
  dsimp only[bH]
  have BB:H Ta≠none:=fun z=>by rw[gi.uX]at z;cases z
  have tM:H L≠none:=fun z=>by rw[gi.hL]at z;cases z
  have Ja:H Pk≠none:=fun z=>by rw[gi.rl]at z;cases z
  have Gs:H Ro≠none:=fun z=>by rw[gi.oo]at z;cases z
  obtain⟨H0,eH,s0,Wk⟩:=alloc Jf (.lst [])
  rw[eH]
  have g0:=gi.same s0
  have cS:∀ a∈as,a < ts.length:=fun a ha=>by have:=(fx.ok.at ht x as rfl).2 a ha;have:=fx.ok.len;omega
  have hls:=fx.ok.len
  refine⟨_,rfl,_,rfl,Ta,_,_,_,rfl,rfl,bo.of g0.uX,a7 hu,ta,_,2,_,rfl,rfl,bY.of (s0 _ _ xR),a7 (j:=2) rfl,tb,rfl,⟨_,bY.of (s0 _ _ Bl)⟩,?_⟩
  refine Jk (xs:=as.map nV) (Xg K H Ta L Pk Db Ro Ba Ar t us ts ls pk.length b r z at_ bN as) ⟨none,none,none,none,none, [], [],b,pk,r,rfl,fun c o _ _ _ h=>s0 c o h,g0,Wk,by rw[gS],rfl,by rw[fM];exact S9 gi.wH⟩ ?_ ?_ ?_
  ·rintro i σ H' _ ⟨x9,uC,qv,qu,EF,vs,ps,b',xF,r',rfl,bt,g1,_⟩
   exact bY.of (gi.rest bt _ _ Bl)
  ·rintro i y σ H' hy ⟨x9,uC,qv,qu,EF,vs,ps,b',xF,r',rfl,bt,g1,Nv,M7,lu,ge⟩
   rw[aH]at hy
   obtain⟨a,ha,rfl⟩:=bS.mp hy
   have DK:=(ah.mp ha).1
   have Nj:=cS a (aK ha)
   have II:=ge.use
   rw[bA,dj (fA DK)]at II
   have aeM:=ge.Yt
   dsimp only[bH]
   rcases List.eq_nil_or_concat xF with rfl | ⟨pF,m,rfl⟩
   ·rw[jP]at II;omega
   rw[List.concat_eq_append]at *
   have Zz:(pF ++ [m]).map V.int=pF.map V.int ++ [V.int m]:=by rw[cf];rfl
   rw[au,cP]at II
   refine⟨_,rfl,.inl ⟨rfl,_,bo.of g1.rl⟩,Pk,_,V.int m,rfl,rfl,g1.rl,by rw[Zz,au,cP,yu,kJ],?_⟩
   dsimp only[bH]
   rw[Zz,wA]
   have vd:l6 Pk Db Ro H (aG H' Pk (.lst (pF.map V.int))):=fun c o n1 n2 n3 h=>by rw[aD n1];exact bt c o n1 n2 n3 h
   have g2:sU K (aG H' Pk (.lst (pF.map V.int))) Ta L Pk Db Ro Ba us ts ls pF b' r' z at_ bN:=by
    have QV:=g1.Fm
    have bl:=g1.C8
    rw[au,cP]at QV bl
    refine⟨by rw[aD fx.n1];exact g1.uX,jU (fun c ys e=>by rw[aD (cX e g1.rl (fun z=>nomatch z))];exact e) g1.iz,by rw[aD fx.n3];exact g1.hL,ay,by rw[aD (cX g1.oq g1.rl (fun z=>nomatch z))];exact g1.oq,by rw[aD (dh fx.n5)];exact g1.oo,
     by rw[aD (cX g1.sk g1.rl (fun z=>nomatch z))];exact g1.sk,g1.wH.less (by rw[au];exact fB _ _),by omega,by omega⟩
   have YC:Ar≠Pk:=fun e=>Ja (by rw[<- e];exact Jf)
   have RD:(aG H' Pk (.lst (pF.map V.int))) Ar=some (.lst vs):=by rw[aD YC];exact Nv
   have U4:gS (aG H' Pk (.lst (pF.map V.int))) ps vs:=iY (fun c ys e=>by rw[aD (cX e g1.rl (fun z=>nomatch z))];exact e) M7
   have Oz:=ge.wH
   have yh:(pF ++ [m]).length=pF.length+1:=by rw[au];rfl
   rw[yh]at Oz
   generalize aG H' Pk (.lst (pF.map V.int))=H2 at vd g2 RD U4 ⊢
   refine⟨_,rfl,Ta,_,rfl,.inl (bo.of g2.uX),_,rfl,by have:=fx.jZ;omega,by have:=fx.jZ;omega,?_⟩
   rw[bR,Q7]
   refine um (lo:=0) (fun i=>if decide (ls.getD i.toNat 0=ls.getD a 0)=true then some (nV i.toNat) else none) (by have:=fx.jZ;omega) (fun i hi H' sm R q' => ?_) (fun i v hi e H' sm Q' q' => ?_) (fun D1 DP => ?_)
   ·have e1:ls[i]? = some (ls.getD i 0):=getD_at (by omega)
    have e2:ls[a]? = some (ls.getD a 0):=getD_at (by omega)
    have ei:(0+(i:Int))=((i:Nat):Int):=by omega
    rw[ei]at q' ⊢
    refine⟨_,rfl,_,rfl,L,_,_,_,rfl,rfl,bo.of (sm _ _ g2.hL),jf e1,_,rfl,_,rfl,L,_,_,_,rfl,rfl,bo.of (sm _ _ g2.hL),jf e2,rfl,_,rfl,?_⟩
    rw[bR]at q'
    have e3:decide (nV (ls.getD i 0)=nV (ls.getD a 0))=decide (ls.getD i 0=ls.getD a 0):=decide_eq_decide.mpr ⟨fun z=>by have:=V.int.inj z;omega,fun z=>by rw[z]⟩
    rw[e3]
    cases hd:decide (ls.getD i 0=ls.getD a 0) with
    | true=>rw[hd]at q';exact q'
    | false=>rw[hd]at q';exact q'
   ·have ei:(0+(i:Int))=((i:Nat):Int):=by omega
    rw[ei]at e ⊢
    rw[bR]at e
    split at e
    ·have:=aB e
     subst this
     exact⟨_,rfl,q'⟩
    ·cases e
   dsimp only[bH]
   have lN:∀ v∈((cu ts.length).filterMap fun i:Nat=>if decide (ls.getD (0+(i:Int)).toNat 0=ls.getD a 0)=true then some (nV (0+(i:Int)).toNat) else none),∃ j:Nat,v=nV j∧j < ts.length∧ls.getD j 0=ls.getD a 0:=fun v hv=>by
    obtain⟨i,hi,e⟩:=fC.mp hv
    have ei:(0+(i:Int)).toNat=i:=by omega
    rw[ei]at e
    split at e
    ·rename_i hd
     exact⟨i,(aB e).symm,iJ.mp hi,of_decide_eq_true hd⟩
    ·cases e
   have mB:0 < ((cu ts.length).filterMap fun i:Nat=>if decide (ls.getD (0+(i:Int)).toNat 0=ls.getD a 0)=true then some (nV (0+(i:Int)).toNat) else none).length:=by
    refine uw (a:=nV a) (fC.mpr ⟨a,iJ.mpr Nj,?_⟩)
    have ei:(0+(a:Int)).toNat=a:=by omega
    rw[ei,decide_eq_true rfl];rfl
   generalize ((cu ts.length).filterMap fun i:Nat=>if decide (ls.getD (0+(i:Int)).toNat 0=ls.getD a 0)=true then some (nV (0+(i:Int)).toNat) else none)=zs at lN mB ⊢
   have s3:=aM DP (.lst zs)
   have Nr:=ay (H:=H2) (a:=D1) (o := .lst zs)
   have g3:=g2.same s3
   have G0:=vd.same s3
   have Jg:=s3 _ _ RD
   have FY:=iY (fun c ys e=>s3 _ _ e) U4
   generalize aG H2 D1 (.lst zs)=H3 at s3 Nr g3 G0 Jg FY ⊢
   have k0:0<=m / 7 % ((zs.length:Nat):Int):=bI _ (by omega)
   have k1:m / 7 % ((zs.length:Nat):Int) < ((zs.length:Nat):Int):=bp _ (by omega)
   obtain⟨v,hv,U0⟩:=G2 k0 k1
   obtain⟨j,rfl,hj,F6⟩:=lN v U0
   refine⟨_,rfl,_,rfl,_,_,rfl,rfl,ji,_,rfl,D1,_,rfl,.inl (bo.of Nr),_,_,rfl,rfl,by omega,D1,_,_,_,rfl,rfl,bo.of Nr,hv,?_⟩
   dsimp only[bH]
   have IJ:us[j]? = some (us[j]'(by omega)):=ai (by omega)
   generalize us[j]'(by omega)=uj at IJ
   obtain⟨tj,htj,aaS⟩:=j8 g3.iz IJ
   obtain⟨qj,kj,vj,rfl,U9,Yx,lfj⟩:=HN aaS
   have QV:=g3.Fm
   have Wn:Gen ts ls z at_ bN (as.take i) b b' pk.length (pF.length+1) r r' ps:=by rw[<- yh];exact ge
   refine Fi (fun c Hc=>Hc=H3∧(c=true->kj = "of" ∧ 0 < r'∧∀ y G3 c',tj = .of y G3->vj = [.str y,.ref c']->H3 c'=some (.tup (G3.map nV))->G3.length < 3+r')) (fun Qc qc => ?_) ?_ ?_
   ·refine⟨_,rfl,_,_,rfl,rfl,eI,_,_,rfl,rfl,_,rfl,gy (fun _ => ?_) (fun _=>qc false _ ⟨rfl,fun z=>nomatch z⟩)⟩
    refine⟨_,rfl,_,rfl,Ta,_,_,_,rfl,rfl,bo.of g3.uX,a7 IJ,qj,_,0,_,rfl,rfl,bY.of U9,a7 (j:=0) rfl,rfl,_,rfl,gy (fun ek => ?_) (fun _=>qc false _ ⟨rfl,fun z=>nomatch z⟩)⟩
    have ek:=V.str.inj ek
    obtain⟨y,G3,c',e1,e2,gN⟩:=Yx ek
    subst e1 e2
    refine⟨_,rfl,Ro,_,rfl,.inl (bo.of g3.oo),_,_,rfl,rfl,_,rfl,gy (fun Bm => ?_) (fun _=>qc false _ ⟨rfl,fun z=>nomatch z⟩)⟩
    rw[fk]at Bm
    refine⟨_,rfl,_,rfl,Ta,_,_,_,rfl,rfl,bo.of g3.uX,a7 IJ,qj,_,2,_,rfl,rfl,bY.of U9,a7 (j:=2) rfl,c',_,rfl,.inr (bY.of gN),_,rfl,Ro,_,rfl,.inl (bo.of g3.oo),_,_,rfl,rfl,_,_,rfl,rfl,_,rfl,qc _ _ ⟨rfl,fun z=>⟨ek,by omega,fun y2 as2 c2 f1 f2 f3 => ?_⟩⟩⟩
    cases f1
    have:=of_decide_eq_true z
    rw[aj,fk]at this
    omega
   ·rintro H3 ⟨rfl,hc⟩
    obtain⟨ek,Bm,dI⟩:=hc rfl
    obtain⟨y,G3,c',e1,e2,gN⟩:=Yx ek
    have abh:=dI y G3 c' e1 e2 gN
    subst e1 e2
    obtain⟨r1,rfl⟩:∃ r1,r'=r1+1:=⟨r' - 1,by omega⟩
    have Wz:aX (r1+1) (V.int 0)=aX r1 (.int 0) ++ [.int 0]:=List.replicate_succ'
    refine⟨_,rfl,.inl ⟨rfl,_,bo.of g3.oo⟩,Ro,_,V.int 0,rfl,rfl,g3.oo,by rw[Wz,au,cP,yu,kJ],?_⟩
    rw[Wz,wA]
    have RM:l6 Pk Db Ro H (aG H3 Ro (.lst (aX r1 (.int 0)))):=fun c o n1 n2 n3 h=>by rw[aD n3];exact G0 c o n1 n2 n3 h
    have g4:sU K (aG H3 Ro (.lst (aX r1 (.int 0)))) Ta L Pk Db Ro Ba us ts ls pF b' r1 z at_ bN :=
     ⟨by rw[aD fx.n2];exact g3.uX,jU (fun c ys e=>by rw[aD (cX e g3.oo (fun z=>nomatch z))];exact e) g3.iz,by rw[aD fx.n4];exact g3.hL,by rw[aD fx.n5];exact g3.rl,by rw[aD (cX g3.oq g3.oo (fun z=>nomatch z))];exact g3.oq,ay,
      by rw[aD (cX g3.sk g3.oo (fun z=>nomatch z))];exact g3.sk,g3.wH,g3.Fm,g3.C8⟩
    have YB:Ar≠Ro:=fun e=>Gs (by rw[<- e];exact Jf)
    have Gz:(aG H3 Ro (.lst (aX r1 (.int 0)))) Ar=some (.lst vs):=by rw[aD YB];exact Jg
    have FX:gS (aG H3 Ro (.lst (aX r1 (.int 0)))) ps vs:=iY (fun c ys e=>by rw[aD (cX e g3.oo (fun z=>nomatch z))];exact e) FY
    generalize aG H3 Ro (.lst (aX r1 (.int 0)))=H4 at RM g4 Gz FX ⊢
    rw[fR]at II
    refine⟨_,rfl,.inl ⟨rfl,_,bo.of Gz⟩,_,rfl,_,rfl,_,rfl,_,rfl,_,rfl,_,rfl,_,rfl,_,rfl,Ta,L,Pk,Db,Ro,Ba,us,ts,ls,j,pF,b',r1,z,at_,bN,y,G3,rfl,g4,fx,htj,by omega,by omega,fun v ps' b2 QQ r2 H5 JC g5 hv5 ge5 => ?_⟩
    have nDA:Ar≠Db:=fun e=>by rw[e,g4.oq]at Gz;cases Gz
    have zJ:=JC _ _ YC nDA YB Gz
    refine⟨Ar,_,v,rfl,rfl,zJ,cY ?_,C0 rfl (RM.trans JC) g5 Jf BB tM Ja Gs zJ (iY (g4.rest JC) FX) hv5 lu Wn ha ?_⟩
    ·have:=rG FX;have:=fx.ok.small _ _ _ ht;omega
    ·rw[<- F6]
     exact Qk abh ge5
   ·rintro H3 ⟨rfl,_⟩
    refine Fi (fun c Hc=>Hc=H3∧(c=true->kj ≠ "of")) (fun Qc qc => ?_) ?_ ?_
    ·refine⟨_,rfl,_,_,rfl,rfl,eI,_,_,rfl,rfl,_,rfl,gy (fun _ => ?_) (fun _=>qc false _ ⟨rfl,fun z=>nomatch z⟩)⟩
     refine⟨_,rfl,_,rfl,Ta,_,_,_,rfl,rfl,bo.of g3.uX,a7 IJ,qj,_,0,_,rfl,rfl,bY.of U9,a7 (j:=0) rfl,rfl,_,rfl,qc _ _ ⟨rfl,fun z e => ?_⟩⟩
     rw[e]at z
     exact absurd z (by decide)
    ·rintro H3 ⟨rfl,hk⟩
     obtain⟨p,Bk,ph,pd,pn,pa,pc⟩:=lfj (hk rfl)
     refine⟨_,rfl,.inl ⟨rfl,_,bo.of Jg⟩,_,rfl,_,rfl,Ta,_,_,_,rfl,rfl,bo.of g3.uX,a7 IJ,Ar,_,_,rfl,rfl,Jg,cY ?_,C0 rfl G0 g3 Jf BB tM Ja Gs Jg FY Bk lu Wn ha (Qj Oz ph pd pn pa)⟩
     have:=rG FY;have:=fx.ok.small _ _ _ ht;omega
    ·rintro H3 ⟨rfl,_⟩
     have e2:ls[a]? = some (ls.getD a 0):=getD_at (by omega)
     refine⟨_,rfl,Ba,_,0,_,rfl,rfl,bY.of g3.sk,a7 (j:=0) rfl,_,rfl,Ba,_,1,_,rfl,rfl,bY.of g3.sk,a7 (j:=1) rfl,_,rfl,_,rfl,Pk,_,rfl,.inl (bo.of g3.rl),_,rfl,_,rfl,L,_,_,_,rfl,rfl,bo.of g3.hL,jf e2,z,at_,bN,pF.length,ls.getD a 0,by rw[aj];rfl,fx.z8,fx.sh,fx.hm,QV,fx.lt a,fun H4 s4 => ?_⟩
     dsimp only[bH]
     have g4:=g3.same s4
     have RM:=G0.same s4
     have Gz:=s4 _ _ Jg
     have FX:=iY (fun c ys e=>s4 _ _ e) FY
     have wQ:(fe b').length=b'.length:=by unfold fe;rw[aj]
     have bl:=g4.C8
     obtain⟨b2,eb2,lb2,kb2,nb2⟩:=Ud b' (hw z at_ (hI bN (ls.getD a 0) pF.length)) (ls.getD a 0)
     refine⟨_,rfl,_,rfl,L,_,_,_,rfl,rfl,bo.of g4.hL,jf e2,_,rfl,_,rfl,Db,_,rfl,AN.k (k := .inr (hw z at_ (hI bN (ls.getD a 0) pF.length))) g4.oq (cY (by omega)),?_⟩
     rw[eb2]
     have arm:=Ql (ts:=ts) (ls:=ls) (r:=r') Oz lb2 nb2 kb2
     have JC:l6 Pk Db Ro H (aG H4 Db (.dK (fe b2))):=fun c o n1 n2 n3 h=>by rw[aD n2];exact RM c o n1 n2 n3 h
     have kp:∀ c o,H4 c=some o->(∀ kvs,o ≠ .dK kvs)->(aG H4 Db (.dK (fe b2))) c=some o:=fun c o e n=>by rw[aD (fun z=>by rw[z,g4.oq]at e;exact n _ (aB e).symm)];exact e
     have g5:sU K (aG H4 Db (.dK (fe b2))) Ta L Pk Db Ro Ba us ts ls pF b2 r' z at_ bN :=
      ⟨kp _ _ g4.uX (fun _ z=>nomatch z),jU (fun c ys e=>kp _ _ e (fun _ z=>nomatch z)) g4.iz,kp _ _ g4.hL (fun _ z=>nomatch z),kp _ _ g4.rl (fun _ z=>nomatch z),ay,kp _ _ g4.oo (fun _ z=>nomatch z),kp _ _ g4.sk (fun _ z=>nomatch z),arm.wH,QV,by
       have bl0:=gi.C8;have h9:=ge.len;have a9:=arm.len;rw[yh]at h9;omega⟩
     have zJ:=kp _ _ Gz (fun _ z=>nomatch z)
     have PH:=iY (fun c ys e=>kp _ _ e (fun _ z=>nomatch z)) FX
     generalize aG H4 Db (.dK (fe b2))=H5 at JC g5 zJ PH ⊢
     refine⟨_,rfl,.inl ⟨rfl,_,bo.of zJ⟩,_,rfl,(show 2<=sizeLine by decide),fun p hp => ?_⟩
     obtain⟨H6,eH,s6,h6⟩:=alloc hp (.tup [.str "any",.str (hw z at_ (hI bN (ls.getD a 0) pF.length))])
     rw[eH]
     refine⟨Ar,_,_,rfl,rfl,s6 _ _ zJ,cY ?_,C0 rfl (JC.same s6) (g5.same s6) Jf BB tM Ja Gs (s6 _ _ zJ) (iY (fun c ys e=>s6 _ _ e) PH) (by rw[f7];exact⟨p,rfl,h6⟩) lu Wn ha arm⟩
     have:=rG PH;have:=fx.ok.small _ _ _ ht;omega
  ·rintro σ H' ⟨x9,uC,qv,qu,EF,vs,ps,b',xF,r',rfl,bt,g1,Nv,M7,lu,ge⟩
   rw[aj]at ge lu
   rw[bG]at ge
   refine⟨_,rfl,_,rfl,Ta,_,_,_,rfl,rfl,bo.of g1.uX,a7 hu,ta,_,1,_,rfl,rfl,bY.of (gi.rest bt _ _ xR),a7 (j:=1) rfl,_,rfl,Ar,_,rfl,.inl ⟨bo.of Nv,fun tl Q9 => ?_⟩⟩
   have s1:=aM Q9 (.tup vs)
   have h1:=ay (H:=H') (a:=tl) (o := .tup vs)
   generalize aG H' tl (.tup vs)=H1 at s1 h1 ⊢
   refine⟨(show 3<=sizeLine by decide),fun tp Bk => ?_⟩
   obtain⟨H2,eH,s2,h2⟩:=alloc Bk (.tup [.str "of",.str x,.ref tl])
   rw[eH]
   have s3:=s1.trans s2
   refine q (.ref tp) ps b' xF r' H2 (bt.same s3) (g1.same s3) ?_ ge
   rw[f7]
   exact⟨tp,tl,vs,rfl,h2,s2 _ _ h1,iY (fun c ys e=>s3 _ _ e) M7⟩
theorem HA {n:Nat}{te:TE}{σ : St}{caps:List (Str × Nat)}{H:Hp}{Q:VK}{lo:Int} (Rv:V->Prop) (hz:n<=1000) (wQ:∀ i:Nat,i < n->∀ H',bz H H'->∀ Q':VK,(∀ v,Rv v->Q' v H')->te (some (.int (lo+i)) :: jy σ caps) H' Q')
  (hq:∀ D ys,H D=none->ys.length=n->(∀ v∈ys,Rv v)->Q (.ref D) (aG H D (.lst ys))):AO (Cj lo n) (bH 0) te (aX 1 none ++ jy σ caps) H Q:=by
 intro D hD
 refine⟨fun i m τ ys H'=>m=n - i∧i<=n∧(∃ o, τ = o :: jy σ caps)∧ys.length=i∧(∀ v∈ys,Rv v)∧H'=aG H D (.lst ys),⟨n,by simp,aS _,⟨none,rfl⟩,rfl,(fun v hv=>nomatch hv),rfl⟩,?_⟩
 rintro i m τ ys H' ⟨rfl,hi,⟨o,rfl⟩,hl,lN,rfl⟩
 refine⟨ay,?_⟩
 by_cases cS:i < n
 ·refine .inr ⟨cS,cY (by omega),fun x pJ y => ?_⟩
  obtain⟨e,y⟩:=y
  subst e y
  show te (some (.int (lo+i)) :: jy σ caps) _ _
  refine wQ i cS _ (aM hD _) _ fun v hv=>⟨ay,n - (i+1),by omega,rfl,cS,⟨_,rfl⟩,by rw[au,hl];rfl,fun v' uR => ?_,by rw[Cr]⟩
  rcases bg.mp uR with h | h
  ·exact lN v' h
  ·rw[av.mp h];exact hv
 ·have e:i=n:=by omega
  subst e
  exact .inl ⟨ao _,hq D ys hD hl lN⟩
theorem Al:∀ {ys:List V},(∀ v∈ys,∃ m:Int,v = .int m)->∃ ns:List Int,ys=ns.map V.int
 | [],_=>⟨[],rfl⟩
 | y :: ys,h=>by
  obtain⟨m,rfl⟩:=h y aU
  obtain⟨ns,rfl⟩:=Al fun v hv=>h v (aI _ hv)
  exact⟨m :: ns,rfl⟩
def FR:Option Tm->Bool
 | some (.of _ _)=>true
 | _=>false
structure Xc (bN:Nat) (as:List Nat) (b:Bd) (ps:List T):Prop where
 oS:∀ y,(look b y).isSome=true↔y∈T.fX ps
 deep:T.gn ps<=3
 gx:T.gx ps<=2
 iq:(T.fX ps).length<=12
 nk:(b.map (·.1)).Nodup
 two:bN=2->b.length<=2
 pl:ps.length=as.length
 lZ:T.lZ ps<=12
theorem R9 {b:Bd}{u v:Str} (hn:(b.map (·.1)).Nodup) (h:∀ x,(look b x).isSome=true->x=u∨x=v):b.length<=2:=by
 have:=tG (U := [u,v]) hn fun x hx=>by
  rcases h x (gH.mpr hx) with e | e
  ·rw[e];exact aU
  ·rw[e];exact aI _ aU
 rw[aj]at this
 exact this
inductive Hd (K:ak) (vs:List V) (H:Hp) (Q:VK):Prop
 | mk (S Ta L Po:Addr) (ns:List Int) (us:List V) (ts:List Tm) (ls:List Nat) (ws:List Str) (bN:Nat) (z0:vs = [.ref S,.ref Ta,.ref L,.ref Po,nV bN]) (z1:bo K H S (ns.map V.int)) (z2:H Ta=some (.lst us)) (z3:mG H us ts) (z4:H L=some (.lst (ls.map nV))) (z5:kT ts ls) (z6:ts.length<=24)
  (z7:∀ a,ls.getD a 0 < 26) (z8:EB ts) (z9:qP H Po ws) (HH:bN < 3) (HG:∀ (i:Nat) x as,ts[i]? = some (.of x as)->as.length<=4)
  (Qt:∀ (p Db:Addr) (t:Nat) (x:Str) (as:List Nat) (v:V) (ps:List T) (b:Bd) (H':Hp),bz H H'->ts[t]? = some (.of x as)->H' p=some (.tup [nV t,v,.ref Db])->f7 H' (.of x ps) v->H' Db=some (.dK (fe b))->Xc bN as b ps->Q (.ref p) H'):Hd K vs H Q
def LW (K:ak):Sp:=fun vs H Q _=>Hd K vs H Q
theorem SK (B:nG mg) (kI:dP P w K mg base 1 "_law_cell_at" ["_law_script", "_law_k"] (E2 K)) (lH:dP P w K mg base 1 "_law_mixed" ["_law_cell", "_law_k"] yZ)
  (qJ:dP P w K mg base 4 "_law_general" ["_law_terms_here", "_law_leads", "_law_t", "_law_picks", "_law_binds", "_law_room", "_law_base", "_law_mode"] (Kn K 3))
  (D:Def K mg "_law_left" xv ["_law_script", "_law_terms_here", "_law_leads", "_law_pool_here", "_law_mode"]):dP P w K mg base 5 "_law_left" ["_law_script", "_law_terms_here", "_law_leads", "_law_pool_here", "_law_mode"] (LW K):=by
 refine D.has n9 (fun vs H Q E h => ?_) (fun f da A outer s H vs Q E hr h => ?_)
 ·obtain⟨S,Ta,L,Po,ns,us,ts,ls,ws,bN,rfl,_⟩:=h;rfl
 obtain⟨S,Ta,L,Po,ns,us,ts,ls,ws,bN,rfl,hS,hT,jo,hL,ok,jZ,lt,Na,hp,hm,h4,q⟩:=h
 refine⟨_,(ax (bC (i:=5) n9.nd rfl (aP rfl) (cj lH hr (by omega) rfl (ag (cj kI hr (by omega) rfl (ag (pv 0) (ag az aw))) (ag az aw))))
  (ax (zz (i:=6) n9.nd rfl rfl (te:=_) (ct:=(yY (pE _ (pE (OV K) (pE (xE K) _ _) _) _))) (own := ["_law_t"]) (caps := [("_law_terms_here",1)]) (kR (a6 xv) ["_law_script", "_law_terms_here", "_law_leads", "_law_pool_here", "_law_mode", "_law_m", "_law_some", "_law_t", "_law_picks", "_law_word_here", "_law_binds", "_law_left_here"] rfl rfl rfl (by decide +kernel)) (og rfl B.qC (ag (bX b7 rfl B.gU bD (ag (pv 1) aw)) aw)) rfl (fun _ _ _=>cB (i:=0) (show (["_law_t", "_law_terms_here"]:List Str).Nodup by decide +kernel) rfl (aP rfl)) (fun _ _ _=>(b8 je (aZ cL (aZ b9 (pv 1) (pv 0)) az) eF (cC _))) (fun _ _ _=>(pv 0)) rfl)
  (ax (bC (i:=7) n9.nd rfl (aP rfl) (aZ b9 (pv 6) (bb cK (cj kI hr (by omega) rfl (ag (pv 0) (ag az aw))) (bX b7 rfl B.gU bD (ag (pv 6) aw)))))
  (ax (Kx (i:=8) n9.nd rfl rfl (te:=(Er _ _ _ (qk (Er _ _ _ (qk _ (qk (pE _ _ _) xm))) (qk (pE _ _ _) xm)))) (own := ["_law_k"]) (caps := [("_law_script",0)]) (kR (a6 xv) ["_law_script", "_law_terms_here", "_law_leads", "_law_pool_here", "_law_mode", "_law_m", "_law_some", "_law_t", "_law_picks", "_law_word_here", "_law_binds", "_law_left_here"] rfl rfl rfl (by decide +kernel)) (og rfl B.qC (ag az aw)) rfl (fun _ _ _=>cB (i:=0) (show (["_law_k", "_law_script"]:List Str).Nodup by decide +kernel) rfl (aP rfl)) (fun _ _ _=>(cj lH hr (by omega) rfl (ag (cj kI hr (by omega) rfl (ag (pv 1) (ag (bb jJ az (pv 0)) aw))) (ag (bb jJ az (pv 0)) aw)))) rfl)
  (ax (bC (i:=9) n9.nd rfl (aP rfl) (jV qB (aZ b9 (pv 3) az) lF (lE az)))
  (ax (bC (i:=10) n9.nd rfl (aP rfl) vM)
  (ax (bC (i:=11) n9.nd rfl (aP rfl) (cj qJ hr (by omega) rfl (ag (pv 1) (ag (pv 2) (ag (pv 7) (ag (pv 8) (ag (pv 10) (ag (bb Up (dZ (ag az aw)) (bb cK (pv 5) az)) (ag (gL (ag (pv 9) (ag (bb cK (bb dR (pv 5) az) (bb jJ (bX sG rfl B.gU bD (ag (pv 9) aw)) az)) aw))) (ag (pv 4) aw))))))))))
  (aO (bZ (gL (ag (pv 7) (ag (pv 11) (ag (pv 10) aw))))))))))))),?_⟩
 try dsimp only[eD]
 have Q7:=bJ jo
 refine⟨_,rfl,S,ns,0,rfl,hS,gW _,fun c=>⟨c,99,rfl,by decide,by decide,fun m m0 m1 => ?_⟩⟩
 dsimp only[bH]
 refine⟨_,rfl,Ta,_,rfl,.inl (bo.of hT),_,rfl,by omega,by omega,?_⟩
 rw[bR,Q7]
 refine um (lo:=0) (fun i=>if FR ts[i.toNat]? = true then some (nV i.toNat) else none) (by omega) (fun i hi H' sm R r => ?_) (fun i v hi e H' sm Q' q' => ?_) (fun D1 DP => ?_)
 ·have ei:(0+(i:Int))=((i:Nat):Int):=by omega
  rw[ei,bR]at r
  rw[ei]
  have hu:us[i]? = some (us[i]'(by omega)):=ai (by omega)
  generalize us[i]'(by omega)=u at hu
  obtain⟨t,ht,Q8⟩:=j8 jo hu
  obtain⟨b,k,vs,rfl,hb,h1,h2⟩:=HN Q8
  refine⟨_,rfl,_,rfl,Ta,_,_,_,rfl,rfl,bo.of (sm _ _ hT),a7 hu,b,_,0,_,rfl,rfl,bY.of (sm _ _ hb),a7 (j:=0) rfl,rfl,_,rfl,?_⟩
  by_cases hk:k = "of"
  ·obtain⟨y,as,c',e1,_⟩:=h1 hk
   rw[ht,e1]at r
   rw[decide_eq_true (by rw[hk])]
   exact r
  ·have:FR (some t)=false:=by
    cases t with
    | num n=>rfl
    | name n=>rfl
    | of y as =>
     obtain⟨a',c',e1,e2,_⟩:=Q8
     cases e1
     rw[hb]at e2
     cases e2
     exact absurd rfl hk
   rw[ht,this]at r
   rw[decide_eq_false fun z=>hk (V.str.inj z)]
   exact r
 ·have ei:(0+(i:Int))=((i:Nat):Int):=by omega
  rw[ei]at e ⊢
  rw[bR]at e
  split at e
  ·have:=aB e
   subst this
   exact⟨_,rfl,q'⟩
  ·cases e
 dsimp only[bH]
 have lN:∀ v∈((cu ts.length).filterMap fun i:Nat=>if FR ts[(0+(i:Int)).toNat]? = true then some (nV (0+(i:Int)).toNat) else none),∃ (j:Nat) (x:Str) (as:List Nat),v=nV j∧ts[j]? = some (.of x as):=fun v hv=>by
  obtain⟨i,hi,e⟩:=fC.mp hv
  have ei:(0+(i:Int)).toNat=i:=by omega
  rw[ei]at e
  split at e
  ·rename_i hd
   cases et:ts[i]? with
   | none=>rw[et]at hd;cases hd
   | some t =>
    cases t with
    | num n=>rw[et]at hd;cases hd
    | name n=>rw[et]at hd;cases hd
    | of x as=>exact⟨i,x,as,(aB e).symm,et⟩
  ·cases e
 have mB:0 < ((cu ts.length).filterMap fun i:Nat=>if FR ts[(0+(i:Int)).toNat]? = true then some (nV (0+(i:Int)).toNat) else none).length:=by
  obtain⟨i,x,as,hi⟩:=Na
  refine uw (a:=nV i) (fC.mpr ⟨i,iJ.mpr (ah.mp hi).1,?_⟩)
  have ei:(0+(i:Int)).toNat=i:=by omega
  rw[ei,hi];rfl
 generalize ((cu ts.length).filterMap fun i:Nat=>if FR ts[(0+(i:Int)).toNat]? = true then some (nV (0+(i:Int)).toNat) else none)=zs at lN mB ⊢
 obtain⟨H1,eH,s1,Zq⟩:=alloc DP (.lst zs)
 rw[eH]
 refine⟨_,rfl,_,rfl,S,ns,1,rfl,s1.seq hS,by decide,fun c2 => ?_⟩
 have k0:0<=c2 % ((zs.length:Nat):Int):=bI _ (by omega)
 have k1:c2 % ((zs.length:Nat):Int) < ((zs.length:Nat):Int):=bp _ (by omega)
 obtain⟨v,hv,U0⟩:=G2 k0 k1
 obtain⟨t,x,as,rfl,ht⟩:=lN v U0
 refine⟨_,rfl,D1,_,rfl,.inl (bo.of Zq),_,_,rfl,rfl,by omega,D1,_,_,_,rfl,rfl,bo.of Zq,hv,?_⟩
 dsimp only[bH]
 refine⟨12,rfl,by decide,by decide,HA (lo:=0) (fun v=>∃ m:Int,v = .int m) (by decide) (fun i hi H' sm Q' q' => ?_) fun Pk ys rl Q6 hya => ?_⟩
 ·refine⟨_,rfl,_,rfl,_,_,rfl,rfl,S,ns,_,rfl,sm.seq (s1.seq hS),by omega,fun c3 => ?_⟩
  refine⟨_,rfl,_,_,rfl,rfl,c3,_,rfl,by omega,by omega,fun m' _ _=>q' _ ⟨m',rfl⟩⟩
 obtain⟨pk,rfl⟩:=Al hya
 rw[aj]at Q6
 have Q6:pk.length=12:=Q6
 dsimp only[bH]
 have s2:=s1.trans (aM rl (.lst (pk.map V.int)))
 have VV:=ay (H:=H1) (a:=Pk) (o := .lst (pk.map V.int))
 have P0:H Pk=none:=s1.free rl
 generalize aG H1 Pk (.lst (pk.map V.int))=H2 at s2 VV ⊢
 obtain⟨z,hz,sh⟩:=rM hp (i:=2) (by decide) (by decide)
 have IH:=hp.2.2 z hz
 have hzl:z.length<=sizeLine:=aF IH.2.1 (by decide)
 refine⟨_,rfl,Po,_,_,_,rfl,rfl,bo.of (s2 _ _ hp.1),sh,_,rfl,z,rfl,hzl,?_⟩
 dsimp only[bH]
 have UZ:=IE IH
 generalize cN z none (some 7)=wd at UZ ⊢
 have M4:wd.length<=sizeLine:=aF UZ.2.1 (by decide)
 intro Db oq
 dsimp only[bH]
 have s3:=s2.trans (aM oq (.dK []))
 have Wb:=ay (H:=H2) (a:=Db) (o := .dK [])
 have VU:=aM oq (.dK []) _ _ VV
 have abl:H Db=none:=s2.free oq
 generalize aG H2 Db (.dK [])=H3 at s3 Wb VU ⊢
 refine⟨_,rfl,_,rfl,_,rfl,_,rfl,_,rfl,(show 1<=sizeLine by decide),fun l0 Rh => ?_⟩
 have s4:=s3.trans (aM Rh (.lst [.int 0]))
 have Vl:=ay (H:=H3) (a:=l0) (o := .lst [.int 0])
 have Wa:=aM Rh (.lst [.int 0]) _ _ Wb
 have K7:=aM Rh (.lst [.int 0]) _ _ VU
 generalize aG H3 l0 (.lst [.int 0])=H4 at s4 Vl Wa K7 ⊢
 have r0:0<=m % 3:=bI _ (by decide)
 have r1:m % 3 < 3:=bp _ (by decide)
 refine⟨_,rfl,_,_,rfl,rfl,eI,l0,_,_,rfl,rfl,Vl,by omega,by omega,aF (show 1 * (m % 3).toNat<=1000 by omega) (by decide),fun Ro oo => ?_⟩
 rw[List.flatten_replicate_singleton]
 have YV:(m % 3).toNat < 3:=by omega
 generalize (m % 3).toNat=r at YV ⊢
 have s5:=s4.trans (aM oo (.lst (aX r (.int 0))))
 have VM:=ay (H:=H4) (a:=Ro) (o := .lst (aX r (.int 0)))
 have V9:=aM oo (.lst (aX r (.int 0))) _ _ Wa
 have VT:=aM oo (.lst (aX r (.int 0))) _ _ K7
 have PZ:H Ro=none:=s4.free oo
 have nPR:Pk≠Ro:=fun e=>by rw[e,oo]at K7;cases K7
 generalize aG H4 Ro (.lst (aX r (.int 0)))=H5 at s5 VM V9 VT ⊢
 have a0:0<=m / 3 % ((wd.length:Int)+1):=bI _ (by omega)
 have a1:m / 3 % ((wd.length:Int)+1) < (wd.length:Int)+1:=bp _ (by omega)
 obtain⟨at_,RH⟩:∃ k:Nat,m / 3 % ((wd.length:Int)+1)=(k:Int):=⟨_,(iE a0).symm⟩
 refine⟨_,rfl,_,rfl,_,_,rfl,rfl,ji,_,rfl,wd,rfl,M4,_,_,rfl,rfl,_,_,rfl,rfl,by omega,(show 2<=sizeLine by decide),fun Ba sk => ?_⟩
 rw[RH]at a1 ⊢
 have s6:=s5.trans (aM sk (.tup [.str wd,nV at_]))
 have Wj:=ay (H:=H5) (a:=Ba) (o := .tup [.str wd,nV at_])
 have VL:=aM sk (.tup [.str wd,nV at_]) _ _ VM
 have V8:=aM sk (.tup [.str wd,nV at_]) _ _ V9
 have VS:=aM sk (.tup [.str wd,nV at_]) _ _ VT
 show qk _ _ _ _ _
 generalize aG H5 Ba (.tup [.str wd,nV at_])=H6 at s6 Wj VL V8 VS ⊢
 have nT:∀ c o d,H c=some o->H d=none->c≠d:=fun c o d e h=>bM e h
 have IY:fR r<=7:=by
  rcases(by omega:r=0∨r=1∨r=2) with rfl | rfl | rfl <;> decide
 have h4':=h4 t x as ht
 refine⟨_,rfl,Ta,L,Pk,Db,Ro,Ba,us,ts,ls,t,pk, [],r,wd,at_,bN,x,as,rfl,⟨s6 _ _ hT,fu s6 jo,s6 _ _ hL,VS,V8,VL,Wj,⟨iI,fun _ y e=>nomatch e⟩,by omega,by rw[Q6];decide⟩,
  ⟨ok,jZ,lt,nT _ _ _ hT P0,nT _ _ _ hT PZ,nT _ _ _ hL P0,nT _ _ _ hL PZ,nPR,UZ.2.1,by omega,hm⟩,ht,YV,by omega,fun v ps b' xF r' H7 bt7 g7 M6 BH => ?_⟩
 dsimp only[bH]
 have s7:bz H H7:=fun c o e=>bt7 c o (nT _ _ _ e P0) (nT _ _ _ e abl) (nT _ _ _ e PZ) (s6 _ _ e)
 refine⟨_,rfl,_,rfl,_,rfl,(show 3<=sizeLine by decide),fun p hp => ?_⟩
 obtain⟨H8,eH,s8,h8⟩:=alloc hp (.tup [nV t,v,.ref Db])
 rw[eH]
 refine q p Db t x as v ps b' H8 (s7.trans s8) ht h8 (lC (fun c ys e=>s8 _ _ e) M6) (s8 _ _ g7.oq) ⟨fun y => ?_,by have:=BH.deep;omega,by have:=BH.gx;omega,by have:=BH.iq;omega,BH.wH.nk,fun e=>R9 BH.wH.nk (BH.wH.two e),BH.pl,by have:=BH.lZ;omega⟩
 rw[BH.oS y]
 exact⟨fun z=>z.elim (fun z=>nomatch z) id,.inr⟩
theorem Pb (B:nG mg) (D:Def K mg "_law_mark" y3 ["_law_term_here", "_law_leads"]):dP P w K mg base 1 "_law_mark" ["_law_term_here", "_law_leads"] (uF K):=by
 refine D.has OP (fun vs H Q E h => ?_) (fun f da A outer s H vs Q E hr h => ?_)
 ·obtain⟨v,t,L,ls,rfl,_⟩:=h;rfl
 obtain⟨v,t,L,ls,rfl,hT,hL,hb,q⟩:=h
 refine⟨_,(ax (dz (b8 nH (aZ cL (pv 0) az) eF (cC _)) (aO (bZ (pv 0))) cJ)
  (aO (bZ (gL (ag eF (ag (aZ cL (pv 0) az) (ag (fy lA rfl B.uE lJ (ag (Im (te:=(pE (xE K) _ _)) (own := ["_law_place"]) (caps := [("_law_leads",1)]) (kR (a6 y3) ["_law_term_here", "_law_leads"] rfl rfl rfl (by decide +kernel)) (A5 (aZ cL (pv 0) az)) rfl (fun _ _ _=>cB (i:=0) (show (["_law_place", "_law_leads"]:List Str).Nodup by decide +kernel) rfl (aP rfl)) (fun _ _ _=>(aZ b9 (pv 1) (pv 0)))) aw)) aw))))))),?_⟩
 try dsimp only[eD]
 cases t with
 | num n =>
  obtain⟨a,rfl,h⟩:=id hT
  refine⟨_,rfl,a,_,0,_,rfl,rfl,bY.of h,a7 (j:=0) rfl,rfl,_,rfl,iy (fun _=>⟨_,rfl,q _ _ (bz.refl _) hT⟩) (fun z=>absurd (V.str.inj z) (by decide))⟩
 | name n =>
  obtain⟨a,rfl,h⟩:=id hT
  refine⟨_,rfl,a,_,0,_,rfl,rfl,bY.of h,a7 (j:=0) rfl,rfl,_,rfl,iy (fun _=>⟨_,rfl,q _ _ (bz.refl _) hT⟩) (fun z=>absurd (V.str.inj z) (by decide))⟩
 | of x as =>
  obtain⟨a,b,rfl,h,h2⟩:=id hT
  obtain⟨hl,cS⟩:=hb x as rfl
  refine⟨_,rfl,a,_,0,_,rfl,rfl,bY.of h,a7 (j:=0) rfl,rfl,_,rfl,iy (fun z=>absurd rfl z) (fun _ => ?_)⟩
  refine⟨_,rfl,a,_,1,_,rfl,rfl,bY.of h,a7 (j:=1) rfl,?_⟩
  refine⟨_,rfl,a,_,2,_,rfl,rfl,bY.of h,a7 (j:=2) rfl,b,rfl,⟨_,bY.of h2⟩,?_⟩
  refine DY (ys:=(as.map fun a=>ls.getD a 0).map nV) (bY.of h2) (by rw[aj];exact hl) (by simp) (fun i y z hy hz H' sm Q' q' => ?_) (fun D1 H' DP sm hD => ?_)
  ·rw[aH]at hy
   rw[aH,aH]at hz
   cases e:as[i]? with
   | none=>rw[e]at hy;cases hy
   | some k =>
    rw[e]at hy hz
    have e1:nV k=y:=aB hy
    have e2:nV (ls.getD k 0)=z:=aB hz
    subst e1 e2
    have hk:=cS k (aK e)
    have e3:ls[k]? = some (ls.getD k 0):=by rw[br,ai hk];rfl
    exact⟨_,rfl,_,rfl,L,_,_,_,rfl,rfl,sm.seq hL,jf e3,q' _ (bz.refl _)⟩
  ·refine⟨D1,_,rfl,.inl ⟨bo.of hD,fun l DJ => ?_⟩⟩
   refine⟨(show 3<=sizeLine by decide),fun t ht => ?_⟩
   refine q _ _ (sm.trans ((aM DJ _).trans (aM ht _))) ⟨t,l,rfl,ay,?_⟩
   rw[aD (bM ay ht),ay]
inductive JI (P:Program) (w:World) (vs:List V) (H:Hp) (Q:VK):Prop
 | mk (T L:Addr) (us:List V) (ts:List Tm) (ls:List Nat) (z0:vs = [.ref T,.ref L]) (z1:H T=some (.lst us)) (z2:mG H us ts) (z3:H L=some (.lst (ls.map nV))) (z4:kT ts ls)
  (z5:∀ p kvs H',bz H H'->DN P w H' p kvs->(∀ m,cA kvs (dv m)=(dH (ts.map (mk ls)) m).map nV)->Q (.ref p) H'):JI P w vs H Q
def HY (P:Program) (w:World):Sp:=fun vs H Q _=>JI P w vs H Q
inductive ZQ (P:Program) (w:World) (H:Hp) (T L p:Addr) (ts:List Tm) (ls:List Nat) (i:Nat) (σ : St) (H':Hp):Prop
 | mk (kvs:List (NK × V)) (x3 x4:Option V):(σ = [some (.ref T),some (.ref L),some (.ref p),x3,x4])->bz H H'->DN P w H' p kvs->kvs.length<=i->(∀ m,cA kvs (dv m)=(dH ((ts.take i).map (mk ls)) m).map nV)->ZQ P w H T L p ts ls i σ H'
theorem O6 (B:nG mg) (CY:dP P w K mg base 1 "_law_mark" ["_law_term_here", "_law_leads"] (uF K)) (D:Def K mg "_law_table" Cv ["_law_terms_here", "_law_leads"]):dP P w K mg base 2 "_law_table" ["_law_terms_here", "_law_leads"] (HY P w):=by
 refine D.has vE (fun vs H Q E h => ?_) (fun f da A outer s H vs Q E hr h => ?_)
 ·obtain⟨T,L,us,ts,ls,rfl,_⟩:=h;rfl
 obtain⟨T,L,us,ts,ls,rfl,hT,jo,hL,ok,q⟩:=h
 refine⟨_,(ax (bC (i:=2) vE.nd rfl (aP rfl) vL)
  (ax (gw cy rfl (og rfl B.qC (ag (bX b7 rfl B.gU bD (ag (pv 0) aw)) aw)) (cB (i:=3) vE.nd rfl (aP rfl))
  (ax (bC (i:=4) vE.nd rfl (aP rfl) (cj CY hr (by omega) rfl (ag (aZ b9 (pv 0) (pv 3)) (ag (pv 1) aw))))
  (aO (dz (A0 (DB (t9 hr) (pv 4) (pv 2)) (by with_unfolding_all rfl)) (aO (CA (t9 hr) (pv 2) (pv 4) (pv 3) rfl)) cJ))))
  (aO (bZ (pv 2))))),?_⟩
 try dsimp only[eD]
 have qH:=bJ jo
 have jZ:=ok.jZ
 intro p φ hp zK
 dsimp only[bH]
 have rV:=aM hp (.ext φ)
 generalize aG H p (.ext φ)=H0 at rV zK ⊢
 refine⟨_,rfl,T,_,rfl,.inl (bo.of (rV _ _ hT)),_,rfl,by omega,by omega,?_⟩
 rw[bR,qH]
 refine yf (lo:=0) (ZQ P w H T L p ts ls) ⟨[],none,none,rfl,rV,zK,ao _,fun m=>by rw[fM,du,dH];rfl⟩ ?_ ?_
 ·rintro i σ H' hi ⟨kvs,x3,x4,rfl,sm,dn,IU,hv⟩
  have ei:(0:Int)+(i:Int)=((i:Nat):Int):=by omega
  rw[ei]
  dsimp only[bH]
  have hu:us[i]? = some (us[i]'(by omega)):=ai (by omega)
  generalize us[i]'(by omega)=u at hu
  obtain⟨t,ht,Q8⟩:=j8 jo hu
  have et:(ts.take (i+1)).map (mk ls)=(ts.take i).map (mk ls) ++ [mk ls t]:=by rw[bQ,ht,cf];rfl
  have el:((ts.take i).map (mk ls)).length=i:=by rw[aj,bA];omega
  refine⟨_,rfl,_,rfl,T,_,_,_,rfl,rfl,bo.of (sm _ _ hT),a7 hu,_,rfl,u,t,L,ls,rfl,Q8.same sm,bo.of (sm _ _ hL),ok.at ht,fun v' H2 s2 hm => ?_⟩
  dsimp only[bH]
  obtain⟨b,rfl,nk⟩:=hm.key
  have g2:=sm.trans s2
  have wR:=dn.same s2
  have FW:=hv (mk ls t)
  refine⟨_,rfl,_,rfl,p,b,kvs,dv (mk ls t),rfl,rfl,wR,nk,_,rfl,?_⟩
  cases e:dH ((ts.take i).map (mk ls)) (mk ls t) with
  | none =>
   rw[e]at FW
   rw[FW]
   refine my ⟨_,rfl,_,rfl,_,rfl,p,b,kvs,dv (mk ls t),rfl,rfl,wR,nk,cY (by omega),fun Lw DS=>⟨_,_,_,rfl,g2.put hp,DS,?_,fun m => ?_⟩⟩
   ·rw[vJ _ FW,au,cP];omega
   ·rw[rP,hv,et,CD,el]
    by_cases em:dv m=dv (mk ls t)
    ·have:=pM em
     subst this
     rw[if_pos rfl,e]
     dsimp only
     rw[if_pos rfl];rfl
    ·rw[if_neg em]
     cases dH ((ts.take i).map (mk ls)) m with
     | some j=>rfl
     | none=>dsimp only;rw[if_neg (fun z=>em (by rw[rH z]))]
  | some j =>
   rw[e]at FW
   rw[FW]
   refine iZ ⟨kvs,_,_,rfl,g2,wR,by omega,fun m => ?_⟩
   rw[hv,et,CD]
   cases e2:dH ((ts.take i).map (mk ls)) m with
   | some j=>rfl
   | none =>
    dsimp only
    rw[if_neg (fun z=>by rw[rH z,e2]at e;cases e)]
 ·rintro σ H' ⟨kvs,x3,x4,rfl,sm,dn,IU,hv⟩
  rw[bG]at hv
  exact⟨_,rfl,q p kvs H' sm dn hv⟩
def opV:Option Nat->V
 | some l=>nV l
 | none => .df
structure JN (P:Program) (w:World) (H:Hp) (Tb L G Ch:Addr) (ts:List Tm) (ls:List Nat) (kvs:List (NK × V)) (b:Bd) (cs:List Nat):Prop where
 dn:DN P w H Tb kvs
 tab:∀ m,cA kvs (dv m)=(dH (ts.map (mk ls)) m).map nV
 hL:H L=some (.lst (ls.map nV))
 ok:kT ts ls
 hG:H G=some (.dK (fe b))
 rn:H Ch=some (.lst (cs.map nV))
 nL:L≠Ch
theorem JN.but {H H':Hp}{Tb L G Ch:Addr}{ts:List Tm}{ls:List Nat}{kvs:List (NK × V)}{b:Bd}{cs DX:List Nat} (h:JN P w H Tb L G Ch ts ls kvs b cs) (bt:gm Ch H H') (hC:H' Ch=some (.lst (DX.map nV))):JN P w H' Tb L G Ch ts ls kvs b DX :=
 ⟨h.dn.keep (fun φ e=>bt _ _ (cX e h.rn (fun z=>nomatch z)) e) (fun c ys e=>bt _ _ (cX e h.rn (fun z=>nomatch z)) e),h.tab,bt _ _ h.nL h.hL,h.ok,bt _ _ (cX h.hG h.rn (fun z=>nomatch z)) h.hG,hC,h.nL⟩
theorem JN.qX {H H':Hp}{Tb L G Ch:Addr}{ts:List Tm}{ls:List Nat}{kvs:List (NK × V)}{b:Bd}{cs:List Nat} (h:JN P w H Tb L G Ch ts ls kvs b cs) (bt:gm Ch H H'):∀ c ys,H c=some (.tup ys)->H' c=some (.tup ys):=fun c ys e=>bt _ _ (cX e h.rn (fun z=>nomatch z)) e
inductive N5 (P:Program) (w:World) (n:Nat) (vs:List V) (H:Hp) (Q:VK):Prop
 | mk (Tb L G Ch:Addr) (v:V) (p:T) (ts:List Tm) (ls:List Nat) (kvs:List (NK × V)) (b:Bd) (cs:List Nat) (z0:vs = [.ref Tb,.ref L,v,.ref G,.ref Ch]) (z1:JN P w H Tb L G Ch ts ls kvs b cs) (z2:f7 H p v) (z3:p.depth<=n) (z4:∀ y∈p.iq,(look b y).isSome=true) (z5:cs.length+p.ar<=900)
  (z6:∀ DX H',gm Ch H H'->H' Ch=some (.lst (DX.map nV))->(∀ l,d5 ts ls (look b) p=some l->DX=cs ++ fF ts ls (look b) p)->Q (opV (d5 ts ls (look b) p)) H'):N5 P w n vs H Q
def EV (P:Program) (w:World) (n:Nat):Sp:=fun vs H Q _=>N5 P w n vs H Q
theorem GU {ts:List Tm}{ls:List Nat}{m:Str->Option Nat}:∀ {ps:List T}{i:Nat}{p:T},ps[i]? = some p->d5 ts ls m p=none->dJ ts ls m ps=none
 | [],i,p,h,_=>nomatch h
 | q :: ps,0,p,h,e=>by cases h;rw[dJ,e];rfl
 | q :: ps,i+1,p,h,e=>by
  rw[dJ,GU (ps:=ps) (i:=i) h e]
  cases d5 ts ls m q <;> rfl
theorem F4:∀ {ps:List T}{i:Nat}{p:T},ps[i]? = some p->∀ y∈p.iq,y∈T.fX ps
 | [],i,p,h=>nomatch h
 | q :: ps,0,p,h=>fun y hy=>by cases h;rw[T.fX];exact bg.mpr (.inl hy)
 | q :: ps,i+1,p,h=>fun y hy=>by rw[T.fX];exact bg.mpr (.inr (F4 (ps:=ps) (i:=i) h y hy))
theorem Jt:∀ {ps:List T}{i:Nat}{p:T}{n:Nat},ps[i]? = some p->T.gn ps<=n->p.depth<=n
 | [],i,p,n,h,_=>nomatch h
 | q :: ps,0,p,n,h,e=>by cases h;rw[T.gn]at e;omega
 | q :: ps,i+1,p,n,h,e=>by rw[T.gn]at e;exact Jt (ps:=ps) (i:=i) h (by omega)
theorem N1:∀ {ps:List T}{i:Nat}{p:T},ps[i]? = some p->T.gx (ps.take i)+p.ar<=T.lZ ps
 | [],i,p,h=>nomatch h
 | q :: ps,0,p,h=>by cases h;rw[fM,T.gx,T.lZ];omega
 | q :: ps,i+1,p,h=>by
  rw[w5,T.gx,T.lZ]
  have:=N1 (ps:=ps) (i:=i) h
  have:=Q4 q
  omega
inductive ZR (H:Hp) (Tb L G Ch Cl t:Addr) (at_:Nat) (ts:List Tm) (ls:List Nat) (ps:List T) (b:Bd) (cs:List Nat) (i:Nat) (σ : St) (H':Hp):Prop
 | mk (x5 x8 x9:Option V) (ns:List Nat):(σ = [some (.ref Tb),some (.ref L),some (.ref t),some (.ref G),some (.ref Ch),x5,some (nV at_),some (.ref Cl),x8,x9])->gm Ch H H'->H' Cl=some (.lst (ns.map nV))->dJ ts ls (look b) (ps.take i)=some ns->H' Ch=some (.lst ((cs ++ 0 :: dN ts ls (look b) (ps.take i)).map nV)) ->
   ZR H Tb L G Ch Cl t at_ ts ls ps b cs i σ H'
theorem take_snoc {α : Type}{l:List α}{i:Nat}{a : α} (h:l[i]? = some a):l.take (i+1)=l.take i ++ [a]:=by rw[bQ,h];rfl
theorem FK {ts:List Tm}{ls:List Nat} (ok:kT ts ls) {k:Nat}{m:Tm} (h:dH (ts.map (mk ls)) m=some k):iu ts ls m=some (ls.getD k 0)∧ls[k]? = some (ls.getD k 0):=by
 refine⟨by unfold iu;rw[h];rfl,?_⟩
 have:=Ug h
 rw[aj]at this
 have:=ok.len
 rw[br,ai (by omega)];rfl
theorem Ip (B:nG mg) (D:Def K mg "_law_spot" Fb ["_law_table_here", "_law_leads", "_law_pattern", "_law_binds", "_law_chosen"]) :
  ∀ n,dP P w K mg base (n+1) "_law_spot" ["_law_table_here", "_law_leads", "_law_pattern", "_law_binds", "_law_chosen"] (EV P w n)
 | 0=>by
  obtain⟨fa,fd,F,hm,hb⟩:=D.ex
  have no:∀ vs H Q E, ¬ EV P w 0 vs H Q E:=fun vs H Q E h=>by
   obtain⟨Tb,L,G,Ch,v,p,ts,ls,kvs,b,cs,_,_,_,z3,_⟩:=h
   have:=DT p
   omega
  exact⟨fa,fd,⟨fun vs H Q E h=>absurd h (no vs H Q E),fun A outer s H args us vs Q E _ _ _ _ h=>absurd h (no vs H Q E)⟩,hm,F.kp,hb⟩
 | n+1=>by
  have xX:=Ip B D n
  refine D.has pP (fun vs H Q E h => ?_) (fun f da A outer s H vs Q E hr h => ?_)
  ·obtain⟨Tb,L,G,Ch,v,p,ts,ls,kvs,b,cs,rfl,_⟩:=h;rfl
  obtain⟨Tb,L,G,Ch,v,p,ts,ls,kvs,b,cs,rfl,si,hT,hd,hh,hz,q⟩:=h
  refine⟨_,(ax (dz (b8 je (aZ cL (pv 2) az) eF (cC _)) (aO (bZ (y6 (rC hr) (pv 3) (aZ cL (pv 2) az) (fun _ _=>rfl)))) cJ)
  (ax (dz (b8 nH (aZ cL (pv 2) az) eF (cC _)) (ax (bC (i:=5) pP.nd rfl (aP rfl) (Aj (t9 hr) (pv 0) (pv 2) ⟨rfl,rfl,rfl,rfl⟩))
  (ax (dz (b8 Fs (pv 5) r8 (cC _)) (aO (bZ r8)) cJ)
  (aO (bZ (aZ b9 (pv 1) (pv 5)))))) cJ)
  (ax (bC (i:=6) pP.nd rfl (aP rfl) (bX b7 rfl B.gU bD (ag (pv 4) aw)))
  (ax (gK (j1 bL cx cw f9 (pv 4) (ag az aw)))
  (ax (bC (i:=7) pP.nd rfl (aP rfl) (dZ aw))
  (ax (gw cy rfl (A5 (aZ cL (pv 2) az)) (cB (i:=8) pP.nd rfl (aP rfl))
  (ax (bC (i:=9) pP.nd rfl (aP rfl) (cj xX hr (by omega) rfl (ag (pv 0) (ag (pv 1) (ag (pv 8) (ag (pv 3) (ag (pv 4) aw)))))))
  (ax (dz (b8 Fs (pv 9) r8 (cC _)) (aO (bZ r8)) cJ)
  (aO (gK (j1 bL cx cw f9 (pv 7) (ag (pv 9) aw)))))))
  (ax (bC (i:=5) pP.nd rfl (aP rfl) (Aj (t9 hr) (pv 0) (gL (ag eF (ag (aZ cL (pv 2) az) (ag (fy lA rfl B.uE lJ (ag (pv 7) aw)) aw)))) ⟨rfl,rfl,rfl,rfl⟩))
  (ax (dz (b8 Fs (pv 5) r8 (cC _)) (aO (bZ r8)) cJ)
  (ax (A4 (pv 5) (Mi (pv 4) (pv 6) E5))
  (aO (bZ (aZ b9 (pv 1) (pv 5))))))))))))),?_⟩
  try dsimp only[eD]
  have Pu:∀ (t:Addr) (m:Tm),i7 H m (.ref t)->d5 ts ls (look b) p=iu ts ls m->fF ts ls (look b) p = []->∃ kb,V.ref t=V.ref kb∧mO H (dv m) kb∧((dH (ts.map (mk ls)) m=none∧Q .df H)∨∃ k,dH (ts.map (mk ls)) m=some k∧ls[k]? = some (ls.getD k 0)∧Q (nV (ls.getD k 0)) H):=fun t m hm ec eh=>by
   obtain⟨kb,yi,nk⟩:=i7.key hm
   refine⟨kb,yi,nk,?_⟩
   have q:=q cs H (gm.refl _ _) si.rn (fun l _=>by rw[eh,cg])
   rw[ec]at q
   cases e:dH (ts.map (mk ls)) m with
   | none=>rw[show iu ts ls m=none by unfold iu;rw[e];rfl]at q;exact .inl ⟨rfl,q⟩
   | some k =>
    obtain⟨e1,e2⟩:=FK si.ok e
    rw[e1]at q
    exact .inr ⟨k,rfl,e2,q⟩
  cases p with
  | any x =>
   rw[f7]at hT
   obtain⟨t,rfl,h⟩:=hT
   refine⟨_,rfl,t,_,0,_,rfl,rfl,bY.of h,a7 (j:=0) rfl,rfl,_,rfl,gy (fun _ => ?_) (fun z=>absurd rfl z)⟩
   have hx:=hh x (by rw[T.iq];exact dq _)
   have q:=q cs H (gm.refl _ _) si.rn (fun l _=>by rw[fF,cg])
   rw[d5]at q
   cases e:look b x with
   | none=>rw[e]at hx;cases hx
   | some l =>
    rw[e]at q
    have hg:nZ H G (.str x) (some (nV l)):=by
     have:=nZ.k (k:=(.inr x:Key)) si.hG
     rw[p5,e]at this
     exact this
    exact⟨_,rfl,_,rfl,t,_,1,_,rfl,rfl,bY.of h,a7 (j:=1) rfl,G,_,rfl,hg,q⟩
  | num m =>
   rw[f7]at hT
   obtain⟨t,rfl,h⟩:=hT
   refine⟨_,rfl,t,_,0,_,rfl,rfl,bY.of h,a7 (j:=0) rfl,rfl,_,rfl,gy (fun z=>absurd (V.str.inj z) (by decide)) (fun _ => ?_)⟩
   refine⟨_,rfl,t,_,0,_,rfl,rfl,bY.of h,a7 (j:=0) rfl,rfl,_,rfl,iy (fun _ => ?_) (fun z=>absurd (V.str.inj z) (by decide))⟩
   obtain⟨kb,yi,nk,hv⟩:=Pu t (.num m) ⟨t,rfl,h⟩ (by rw[d5]) (by rw[fF])
   refine⟨_,rfl,Tb,rfl,⟨_,si.dn⟩,_,rfl,kb,_,_,yi,si.dn,nk,?_⟩
   rw[si.tab]
   dsimp only[bH]
   rcases hv with⟨e,q⟩ | ⟨k,e,e2,q⟩
   ·rw[e]
    exact⟨_,rfl,rfl,_,rfl,my q⟩
   ·rw[e]
    exact⟨_,rfl,rfl,_,rfl,iZ ⟨_,rfl,_,rfl,L,_,_,_,rfl,rfl,bo.of si.hL,jf e2,q⟩⟩
  | name m =>
   rw[f7]at hT
   obtain⟨t,rfl,h⟩:=hT
   refine⟨_,rfl,t,_,0,_,rfl,rfl,bY.of h,a7 (j:=0) rfl,rfl,_,rfl,gy (fun z=>absurd (V.str.inj z) (by decide)) (fun _ => ?_)⟩
   refine⟨_,rfl,t,_,0,_,rfl,rfl,bY.of h,a7 (j:=0) rfl,rfl,_,rfl,iy (fun _ => ?_) (fun z=>absurd (V.str.inj z) (by decide))⟩
   obtain⟨kb,yi,nk,hv⟩:=Pu t (.name m) ⟨t,rfl,h⟩ (by rw[d5]) (by rw[fF])
   refine⟨_,rfl,Tb,rfl,⟨_,si.dn⟩,_,rfl,kb,_,_,yi,si.dn,nk,?_⟩
   rw[si.tab]
   dsimp only[bH]
   rcases hv with⟨e,q⟩ | ⟨k,e,e2,q⟩
   ·rw[e]
    exact⟨_,rfl,rfl,_,rfl,my q⟩
   ·rw[e]
    exact⟨_,rfl,rfl,_,rfl,iZ ⟨_,rfl,_,rfl,L,_,_,_,rfl,rfl,bo.of si.hL,jf e2,q⟩⟩
  | of x ps =>
   clear Pu
   rw[f7]at hT
   obtain⟨t,c,RP,rfl,h,hc,jo⟩:=hT
   rw[T.depth]at hd
   rw[T.ar]at hz
   rw[T.iq]at hh
   have lu:=JD ps
   have M8:=rG jo
   refine⟨_,rfl,t,_,0,_,rfl,rfl,bY.of h,a7 (j:=0) rfl,rfl,_,rfl,gy (fun z=>absurd (V.str.inj z) (by decide)) (fun _ => ?_)⟩
   refine⟨_,rfl,t,_,0,_,rfl,rfl,bY.of h,a7 (j:=0) rfl,rfl,_,rfl,iy (fun z=>absurd rfl z) (fun _ => ?_)⟩
   refine⟨_,rfl,Ch,_,rfl,.inl (bo.of si.rn),?_⟩
   dsimp only[bH]
   rw[aj]
   refine⟨_,rfl,.inl ⟨rfl,_,bo.of si.rn⟩,Ch,_,_,rfl,rfl,si.rn,cY (by rw[aj];omega),?_⟩
   have WR:gm Ch H (aG H Ch (.lst (cs.map nV ++ [.int 0]))):=fun c o n e=>by rw[aD n];exact e
   have Wi:(aG H Ch (.lst (cs.map nV ++ [.int 0]))) Ch=some (.lst ((cs ++ [0]).map nV)):=by rw[ay,cf];rfl
   generalize aG H Ch (.lst (cs.map nV ++ [.int 0]))=H0 at WR Wi ⊢
   refine⟨aS _,fun Cl Wg => ?_⟩
   dsimp only[bH]
   have s1:=aM Wg (.lst [])
   have Wf:=ay (H:=H0) (a:=Cl) (o := .lst [])
   have D3:gm Ch H (aG H0 Cl (.lst [])):=fun c o n e=>s1 _ _ (WR c o n e)
   have Zr:=s1 _ _ Wi
   have Uz:Ch≠Cl:=bM Wi Wg
   have abn:H Cl=none:=by
    cases e:H Cl with
    | none=>rfl
    | some o=>have:=WR Cl o (dh Uz) e;rw[Wg]at this;cases this
   generalize aG H0 Cl (.lst [])=H1 at D3 Wf Zr ⊢
   have tk:=fun {H':Hp} (bt:gm Ch H H')=>si.qX bt
   refine⟨_,rfl,t,_,2,_,rfl,rfl,bY.of (tk D3 _ _ h),a7 (j:=2) rfl,c,rfl,⟨_,bY.of (tk D3 _ _ hc)⟩,?_⟩
   refine Jk (xs:=RP) (ZR H Tb L G Ch Cl t cs.length ts ls ps b cs) ⟨none,none,none, [],rfl,D3,Wf,by rw[fM,dJ],by rw[fM,dN];exact Zr⟩ ?_ ?_ ?_
   ·rintro i σ H' _ ⟨x5,x8,x9,ns,rfl,bt,_⟩
    exact bY.of (tk bt _ _ hc)
   ·rintro i y σ H' hy ⟨x5,x8,x9,ns,rfl,bt,P1,xW,Nu⟩
    obtain⟨p,hp,Va⟩:=EI jo hy
    have DK:=(ah.mp hp).1
    have ha:=N1 hp
    have hln:=Ay xW
    rw[bA,dj (fA DK)]at hln
    dsimp only[bH]
    refine⟨_,rfl,_,rfl,_,rfl,_,rfl,_,rfl,Tb,L,G,Ch,y,p,ts,ls,kvs,b,_,rfl,si.but bt Nu,lC (tk bt) Va,Jt hp (by omega),fun z hz=>hh z (F4 hp z hz),?_,fun DX H2 vd Nt he => ?_⟩
    ·rw[au,bB,u7];omega
    dsimp only[bH]
    have G0:=bt.trans vd
    have aaL:Cl≠Ch:=dh Uz
    cases e:d5 ts ls (look b) p with
    | none =>
     refine⟨_,rfl,rfl,_,rfl,my ?_⟩
     have ec:d5 ts ls (look b) (.of x ps)=none:=by rw[d5,GU hp e];rfl
     have q:=q DX H2 G0 Nt (fun l z=>by rw[ec]at z;cases z)
     rw[ec]at q
     exact q
    | some l =>
     refine⟨_,rfl,rfl,_,rfl,iZ ?_⟩
     have We:=vd _ _ aaL P1
     have cq:=he l e
     refine⟨_,rfl,.inl ⟨rfl,_,bo.of We⟩,_,rfl,Cl,_,_,rfl,rfl,We,cY (by rw[aj];omega),?_⟩
     refine⟨_,_,_,ns ++ [l],rfl,fun c o n z => ?_,?_,?_,?_⟩
     ·rw[aD (bM z abn)];exact G0 c o n z
     ·rw[ay,cf];rfl
     ·rw[take_snoc hp]
      exact C5 xW (by rw[dJ,e,dJ];rfl)
     ·rw[aD Uz,Nt,cq,take_snoc hp,C6,Jy,aV,cU]
   ·rintro σ H' ⟨x5,x8,x9,ns,rfl,bt,P1,xW,Nu⟩
    rw[<- M8,bG]at xW Nu
    have Ym:=si.but bt Nu
    refine⟨_,rfl,Tb,rfl,⟨_,Ym.dn⟩,_,rfl,t,_,1,_,rfl,rfl,bY.of (tk bt _ _ h),a7 (j:=1) rfl,_,rfl,Cl,_,rfl,.inl ⟨bo.of P1,fun tl Q9 => ?_⟩⟩
    have s1:=aM Q9 (.tup (ns.map nV))
    have h1:=ay (H:=H') (a:=tl) (o := .tup (ns.map nV))
    generalize aG H' tl (.tup (ns.map nV))=H1 at s1 h1 ⊢
    refine⟨(show 3<=sizeLine by decide),fun tp Bk => ?_⟩
    obtain⟨H2,eH,s2,h2⟩:=alloc Bk (.tup [.str "of",.str x,.ref tl])
    rw[eH]
    have s3:=s1.trans s2
    obtain⟨kb,yi,nk⟩:=i7.key (t := .of x ns) (v := .ref tp) (H:=H2) ⟨tp,tl,rfl,h2,s2 _ _ h1⟩
    refine⟨kb,kvs,_,yi,Ym.dn.same s3,nk,?_⟩
    rw[si.tab]
    dsimp only[bH]
    have vd:gm Ch H H2:=fun c o n e=>s3 _ _ (bt c o n e)
    have Nt:=s3 _ _ Nu
    have ec:d5 ts ls (look b) (.of x ps)=iu ts ls (.of x ns):=by rw[d5,xW];rfl
    cases e:dH (ts.map (mk ls)) (.of x ns) with
    | none =>
     have et:iu ts ls (.of x ns)=none:=by unfold iu;rw[e];rfl
     rw[et]at ec
     have q:=q _ H2 vd Nt (fun l z=>by rw[ec]at z;cases z)
     rw[ec]at q
     exact⟨_,rfl,rfl,_,rfl,my q⟩
    | some k =>
     obtain⟨e1,e2⟩:=FK si.ok e
     rw[e1]at ec
     refine⟨_,rfl,rfl,_,rfl,iZ ?_⟩
     refine⟨_,rfl,_,rfl,_,rfl,Ch,_,_,cs.length,rfl,rfl,Nt,?_,?_⟩
     ·unfold Bh
      rw[if_pos (by omega),if_pos (by rw[aj,au,bB];omega)]
      rw[bR]
     have ech:fF ts ls (look b) (.of x ps)=k :: dN ts ls (look b) ps:=by rw[fF,xW];show (dH (ts.map (mk ls)) (.of x ns)).getD 0 :: _=_;rw[e];rfl
     have es:((cs ++ 0 :: dN ts ls (look b) ps).map nV).set cs.length (nV k)=(cs ++ fF ts ls (look b) (.of x ps)).map nV:=by
      rw[ech,cf,cf,vk _ _ (by rw[aj];exact ao _),aj,yt];rfl
     rw[show (Option.map nV (some k)).getD V.df=nV k from rfl,es]
     refine⟨_,rfl,_,rfl,L,_,_,_,rfl,rfl,bo.of (by rw[aD si.nL];exact vd _ _ si.nL si.hL),jf e2,?_⟩
     have q:=q _ (aG H2 Ch (.lst ((cs ++ fF ts ls (look b) (.of x ps)).map nV))) (fun c o n z=>by rw[aD n];exact vd c o n z) ay (fun l _=>rfl)
     rw[ec]at q
     exact q
theorem MP {K:ak}:jt K (.type "int") (.type "int")=some true:=by rfl
theorem MQ {K:ak}:jt K (.type "int") (.type "bool")=some false:=by rfl
theorem UI {K:ak}:jt K (.type "list") (.type "list")=some true:=by rfl
theorem UH {K:ak}:jt K (.type "tuple") (.type "tuple")=some true:=by rfl
theorem UJ {K:ak}:jt K (.type "dict") (.type "dict")=some true:=by rfl
structure MIn (H:Hp) (p W L g:Addr) (k:Nat) (v:Bd) (ws:List Str) (ls:List Nat):Prop where
 hp:H p=some (.tup [nV k,.ref g])
 hg:H g=some (.dK (fe v))
 hW:H W=some (.lst (ws.map V.str))
 hL:H L=some (.lst (ls.map nV))
 len:v.length=ws.length
 at_:∀ y∈ws,∃ l,look v y=some l∧ls[l]? = some l
inductive RR (vs:List V) (H:Hp) (Q:VK):Prop
 | mk (p W L g:Addr) (k:Nat) (v:Bd) (ws:List Str) (ls:List Nat) (z0:vs = [.ref p,.ref W,.ref L]) (z1:MIn H p W L g k v ws ls) (z2:Q (.bl true) H):RR vs H Q
def QC:Sp:=fun vs H Q _=>RR vs H Q
inductive Z2 (p W L:Addr) (H:Hp) (i:Nat) (σ : St) (H':Hp):Prop
 | mk (x3 x4:Option V):(σ = [some (.ref p),some (.ref W),some (.ref L),x3,x4])->H'=H->Z2 p W L H i σ H'
theorem Hv (B:nG mg) (oY:mg "dict" = none) (D:Def K mg "_law_is_match" vG ["_law_row", "_law_words", "_law_leads"]):dP P w K mg base 1 "_law_is_match" ["_law_row", "_law_words", "_law_leads"] QC:=by
 refine D.has ua (fun vs H Q E h => ?_) (fun f da A outer s H vs Q E hr h => ?_)
 ·obtain⟨p,W,L,g,k,v,ws,ls,rfl,_⟩:=h;rfl
 obtain⟨p,W,L,g,k,v,ws,ls,rfl,mi,q⟩:=h
 refine⟨_,(ax (dz (PW.pt (pw_or (rX (nv (bX nQ rfl B.jW gI (ag (pv 0) (ag (pW (v := .ty "tuple") rfl B.uE lJ rfl) aw))))) (pw_or (b8 nH (bX b7 rfl B.gU bD (ag (pv 0) aw)) az (cC _)) (pw_or (rX (nv (bX nQ rfl B.jW gI (ag (aZ cL (pv 0) az) (ag (pW (v := .ty "int") rfl B.UR D4 rfl) aw))))) (pw_or1 (nv (bX nQ rfl B.jW gI (ag (aZ cL (pv 0) az) (ag (pW (v := .ty "bool") rfl B.RO BQ rfl) aw))))))))) (aO (bZ lV)) cJ)
  (ax (dz (PW.pt (pw_or (rX (nv (bX nQ rfl B.jW gI (ag (aZ cL (pv 0) az) (ag (pW (v := .ty "dict") rfl oY wk rfl) aw))))) (pw_or1 (b8 nH (bX NU rfl B.gU bD (ag (aZ cL (pv 0) az) aw)) (bX b7 rfl B.gU bD (ag (pv 1) aw)) (cC _))))) (aO (bZ lV)) cJ)
  (ax (gw cy rfl (ki (pv 1)) (cB (i:=3) ua.nd rfl (aP rfl))
  (ax (dz (A0 (Ml (rC hr) (pv 3) (aZ cL (pv 0) az)) (by with_unfolding_all rfl)) (aO (bZ lV)) cJ)
  (ax (bC (i:=4) ua.nd rfl (aP rfl) (y6 (rC hr) (aZ cL (pv 0) az) (pv 3) (fun _ _=>rfl)))
  (ax (dz (PW.pt (pw_or (rX (nv (bX nQ rfl B.jW gI (ag (pv 4) (ag (pW (v := .ty "int") rfl B.UR D4 rfl) aw))))) (pw_or (nv (bX nQ rfl B.jW gI (ag (pv 4) (ag (pW (v := .ty "bool") rfl B.RO BQ rfl) aw)))) (pw_or1 (rX (OZ Xy vN az (pv 4) (bX b7 rfl B.gU bD (ag (pv 2) aw)))))))) (aO (bZ lV)) cJ)
  (aO (dz (b8 nH (aZ b9 (pv 2) (pv 4)) (pv 4) (cC _)) (aO (bZ lV)) cJ))))))
  (aO (bZ lV))))),?_⟩
 try dsimp only[eD]
 have h1:=mi.hp
 have h2:=mi.hg
 refine⟨_,rfl,_, "tuple",_,true,rfl,.tup h1,UH,_,rfl,iZ ?_⟩
 refine⟨_,rfl,p,_,rfl,.inr (bY.of h1),rfl,_,rfl,iy (fun z=>absurd rfl z) (fun _ => ?_)⟩
 refine⟨_,rfl,p,_,0,_,rfl,rfl,bY.of h1,a7 (j:=0) rfl,_, "int",_,true,rfl,.int _,MP,_,rfl,iZ ?_⟩
 refine⟨_,rfl,p,_,0,_,rfl,rfl,bY.of h1,a7 (j:=0) rfl,_, "bool",_,false,rfl,.int _,MQ,_,rfl,iZ ?_⟩
 refine⟨_,rfl,p,_,1,_,rfl,rfl,bY.of h1,a7 (j:=1) rfl,_, "dict",_,true,rfl,.dK h2,UJ,_,rfl,iZ ?_⟩
 have el:(fe v).length=(ws.map V.str).length:=by unfold fe;rw[aj,aj,mi.len]
 refine⟨_,rfl,p,_,1,_,rfl,rfl,bY.of h1,a7 (j:=1) rfl,g,_,rfl,h2,_,rfl,W,_,rfl,.inl (bo.of mi.hW),rfl,_,rfl,iy (fun z=>absurd (by rw[el]) z) (fun _ => ?_)⟩
 refine⟨_,rfl,W,rfl,⟨_,bo.of mi.hW⟩,?_⟩
 refine jX (xs:=ws.map V.str) (Z2 p W L H) ⟨none,none,rfl,rfl⟩ ?_ ?_ ?_
 ·rintro i σ H' _ ⟨x3,x4,rfl,rfl⟩
  exact bo.of mi.hW
 ·rintro i yv σ H' YM ⟨x3,x4,rfl,rfl⟩
  rw[aH]at YM
  obtain⟨y,hy,rfl⟩:=bS.mp YM
  obtain⟨l,hl,Vk⟩:=mi.at_ y (aK hy)
  have hg:nZ H' g (.str y) (some (nV l)):=by
   have:=nZ.k (k:=(.inr y:Key)) h2
   rw[p5,hl]at this
   exact this
  have cS:=(ah.mp Vk).1
  dsimp only[bH]
  refine⟨_,rfl,_,rfl,p,_,1,_,rfl,rfl,bY.of h1,a7 (j:=1) rfl,g,_,rfl,hg,_,rfl,iZ ?_⟩
  refine⟨_,rfl,p,_,1,_,rfl,rfl,bY.of h1,a7 (j:=1) rfl,_,rfl,g,_,rfl,hg,?_⟩
  dsimp only[bH]
  refine⟨_,rfl,_, "int",_,true,rfl,.int _,MP,_,rfl,iZ ?_⟩
  refine⟨_,rfl,_, "bool",_,false,rfl,.int _,MQ,_,rfl,iZ ?_⟩
  refine⟨_,rfl,_,_,rfl,rfl,_,rfl,gy (fun _ => ?_) (fun z=>absurd (Int.natCast_nonneg l) z)⟩
  refine⟨_,rfl,L,_,rfl,.inl (bo.of mi.hL),_,_,rfl,rfl,_,rfl,iy (fun z=>absurd (by rw[aj];omega) z) (fun _ => ?_)⟩
  refine⟨_,rfl,_,rfl,L,_,_,_,rfl,rfl,bo.of mi.hL,jf Vk,_,rfl,rfl,_,rfl,iy (fun z=>absurd rfl z) (fun _=>⟨_,_,rfl,rfl⟩)⟩
 ·rintro σ H' ⟨x3,x4,rfl,rfl⟩
  exact q
theorem Iz:∀ {b:Bd}{x:Str}{l:Nat},look b x=some l->(x,l)∈b
 | [],x,l,h=>nomatch h
 | p :: r,x,l,h=>by
  rw[look]at h
  by_cases e:p.1=x
  ·rw[if_pos e]at h
   cases h
   rw[<- e];exact aU
  ·rw[if_neg e]at h;exact aI _ (Iz h)
theorem Iy:∀ {b:Bd}{p:Str × Nat},(b.map (·.1)).Nodup->p∈b->look b p.1=some p.2
 | [],p,_,h=>nomatch h
 | q :: r,p,hn,h=>by
  rw[aJ,dO]at hn
  rw[look]
  rcases aN.mp h with rfl | h
  ·rw[if_pos rfl]
  ·rw[if_neg (fun e=>hn.1 (by rw[e];exact bu.mpr ⟨p,h,rfl⟩))]
   exact Iy hn.2 h
section
variable {ts:List Tm}{ls:List Nat}{hd:Nat->List Nat}
mutual
theorem X1:∀ (p:T) {lead:Nat}{b v:Bd},v∈fz ts ls hd p lead b->(b.map (·.1)).Nodup->(v.map (·.1)).Nodup
 | .any x,lead,b,v,h,hn=>by
  rw[fz]at h
  unfold nI at h
  split at h
  ·split at h
   ·rw[av.mp h];exact hn
   ·cases h
  ·rename_i e
   rw[av.mp h,cf]
   refine fZ.mpr ⟨hn,dO.mpr ⟨jB,iI⟩,fun a ha c hc z => ?_⟩
   have hc:c=x:=av.mp hc
   have:=gH.mpr (by rw[z,hc]at ha;exact ha)
   rw[e]at this;cases this
 | .num n,lead,b,v,h,hn=>by
  rw[fz]at h
  split at h
  ·rw[av.mp h];exact hn
  ·cases h
 | .name n,lead,b,v,h,hn=>by
  rw[fz]at h
  split at h
  ·rw[av.mp h];exact hn
  ·cases h
 | .of x ps,lead,b,v,h,hn=>by
  rw[fz]at h
  obtain⟨k,_,hw⟩:=cH.mp h
  split at hw
  ·split at hw
   ·exact Lp ps hw fun b' m6=>by rw[av.mp m6];exact hn
   ·cases hw
  ·cases hw
theorem Lp:∀ (ps:List T) {as:List Nat}{ws:List Bd}{v:Bd},v∈iC ts ls hd ps as ws->(∀ b∈ws,(b.map (·.1)).Nodup)->(v.map (·.1)).Nodup
 | [],as,ws,v,h,hn=>by rw[iC]at h;exact hn v h
 | p :: ps,as,ws,v,h,hn=>by
  rw[iC]at h
  refine Lp ps h fun b1 Gf => ?_
  obtain⟨b,hb,h2⟩:=cH.mp Gf
  exact X1 p h2 (hn b hb)
end
end
end
section
section
variable {ts:List Tm}{ls:List Nat}{hd:Nat->List Nat}{Pr:Nat->Prop}
mutual
theorem X0 (hl:∀ a,Pr (ls.getD a 0)):∀ (p:T) {lead:Nat}{b v:Bd},Pr lead->v∈fz ts ls hd p lead b->(∀ y l,look b y=some l->Pr l)->∀ y l,look v y=some l->Pr l
 | .any x,lead,b,v,h0,h,hb=>by
  rw[fz]at h
  unfold nI at h
  split at h
  ·split at h
   ·rw[av.mp h];exact hb
   ·cases h
  ·rw[av.mp h]
   intro y l e
   rw[jv]at e
   cases q:look b y with
   | some l'=>rw[q]at e;cases e;exact hb y l q
   | none =>
    rw[q]at e
    dsimp only at e
    split at e
    ·cases e;exact h0
    ·cases e
 | .num n,lead,b,v,_,h,hb=>by
  rw[fz]at h
  split at h
  ·rw[av.mp h];exact hb
  ·cases h
 | .name n,lead,b,v,_,h,hb=>by
  rw[fz]at h
  split at h
  ·rw[av.mp h];exact hb
  ·cases h
 | .of x ps,lead,b,v,_,h,hb=>by
  rw[fz]at h
  obtain⟨k,_,hw⟩:=cH.mp h
  split at hw
  ·split at hw
   ·exact Lo hl ps hw fun b' m6=>by rw[av.mp m6];exact hb
   ·cases hw
  ·cases hw
theorem Lo (hl:∀ a,Pr (ls.getD a 0)):∀ (ps:List T) {as:List Nat}{ws:List Bd}{v:Bd},v∈iC ts ls hd ps as ws->(∀ b∈ws,∀ y l,look b y=some l->Pr l)->∀ y l,look v y=some l->Pr l
 | [],as,ws,v,h,hn=>by rw[iC]at h;exact hn v h
 | p :: ps,as,ws,v,h,hn=>by
  rw[iC]at h
  refine Lo hl ps h fun b1 Gf => ?_
  obtain⟨b,hb,h2⟩:=cH.mp Gf
  exact X0 hl p (hl _) h2 (hn b hb)
end
end
theorem ML {ls:List Nat} (g:j7 ls) (h:0 < ls.length) (a:Nat):ls[ls.getD a 0]? = some (ls.getD a 0):=by
 rw[br]
 cases e:ls[a]? with
 | none =>
  have e0:ls[0]? = some ls[0]:=ai h
  have:=(g 0 _ e0).1
  show ls[0]? = some 0
  rw[e0];congr 1;omega
 | some v=>exact(g a v e).2
structure W4 (ts:List Tm) (ls:List Nat) (x:Str) (ps:List T) (k:Nat) (v:Bd):Prop where
 cl:d5 ts ls (look v) (.of x ps)=some (ls.getD k 0)
 ch:fF ts ls (look v) (.of x ps)=k :: dN ts ls (look v) ps
 oS:∀ y,(look v y).isSome=true↔y∈T.fX ps
 nk:(v.map (·.1)).Nodup
 pr:∀ y l,look v y=some l->ls[l]? = some l
theorem Mb {ts:List Tm}{ls:List Nat} (ok:kT ts ls) (g:j7 ls) (pos:0 < ts.length) {x:Str}{ps:List T}{ns:List Nat} (pm:ns.Perm (cV (ts.map (mk ls)) ts.length)) {r:Nat × Bd} (h:r∈ns.flatMap (sd ts ls x ps)):W4 ts ls x ps r.1 r.2:=by
 obtain⟨k,hk,h⟩:=cH.mp h
 obtain⟨v,hv,rfl⟩:=bu.mp h
 dsimp only
 obtain⟨u,hu,hp⟩:=qK.mp (pm.mem_iff.mp hk)
 unfold qz at hv
 split at hv
 ·rename_i y as e
  split at hv
  ·rename_i c
   obtain⟨rfl,el⟩:=c
   rw[e]at hu
   cases hu
   have Rm:=xU ok.len ok.mw
   obtain⟨b0,Gg,fr,hc⟩:=wo Rm ps as el hv
   rw[av.mp Gg]at fr
   have mB:0 < ls.length:=by rw[ok.len];exact pos
   refine⟨?_,JA Rm hp el hv,fun y => ?_,Lp ps hv fun b' m6=>by rw[av.mp m6];exact iI,Lo (Pr:=fun l=>ls[l]? = some l) (ML g mB) ps hv fun b' m6 y l z=>by rw[av.mp m6]at z;cases z⟩
   ·rw[d5,hc,AF, <- KI (k:=0)];exact TH ok e
   ·rw[fr.oS y]
    exact⟨fun z=>z.elim (fun z=>nomatch z) id,.inr⟩
  ·cases hv
 ·cases hv
theorem OR {ts:List Tm}{ls:List Nat} (ok:kT ts ls) {x:Str}{ps:List T}{ns:List Nat} (asc:ns.Pairwise (· < ·)):(ns.flatMap (sd ts ls x ps)).Pairwise fun r r'=>tU (r.1 :: dN ts ls (look r.2) ps) (r'.1 :: dN ts ls (look r'.2) ps):=by
 have Rm:=xU ok.len ok.mw
 have Zu:∀ {k':Nat}{r:Nat × Bd},r∈sd ts ls x ps k'->r.1=k':=fun h=>by obtain⟨v,_,rfl⟩:=bu.mp h;rfl
 rw[kE]
 refine⟨fun k _ => ?_,asc.imp fun {k k'} cS r hr r' mZ => ?_⟩
 ·unfold sd
  rw[ij]
  exact(TC Rm Vy k x ps).imp fun h=>za h
 ·rw[Zu hr,Zu mZ];exact CL cS
theorem E7 {v b:Bd} (hv:(v.map (·.1)).Nodup) (hb:(b.map (·.1)).Nodup) (h:∀ z,(look v z).isSome=true↔(look b z).isSome=true):v.length=b.length:=by
 rw[<- aj (f:=(·.1)), <- aj (as:=b) (f:=(·.1))]
 refine Nat.le_antisymm (tG hv fun x hx => ?_) (tG hb fun x hx => ?_)
 ·rw[<- gH, <- h];exact gH.mpr hx
 ·rw[<- gH,h];exact gH.mpr hx
theorem GK (b:Bd):((fe b).map fun kv=>kV kv.1)=(b.map (·.1)).map V.str:=by unfold fe;rw[dF,dF];rfl
end
section
variable {P:Program}{w:World}{K:ak}{mg:Str->Option Value}{base:Heap}{CB CF CH CS CN CE CM tB:Addr}
def m7 (cs:List Nat) (ws:List Str):List Bd:=ws.foldl (fun rows x=>rows.flatMap fun b=>cs.map fun l=>b ++ [(x,l)]) [[]]
def yg (cs:List Nat) (x:Str) (b:Bd):List Bd:=cs.map fun l=>b ++ [(x,l)]
theorem sv (cs:List Nat) (ws:List Str) (x:Str):m7 cs (ws ++ [x])=(m7 cs ws).flatMap (yg cs x):=by
 unfold m7
 rw[zt];rfl
theorem p4 {cs:List Nat}{ws:List Str}:∀ n,n<=ws.length->∀ b∈m7 cs (ws.take n),b.map (·.1)=ws.take n∧(∀ p∈b,p.2∈cs)
 | 0,_,b,h=>by
  rw[fM]at h ⊢
  rw[av.mp h]
  exact⟨rfl,fun p hp=>nomatch hp⟩
 | n+1,hn,b,h=>by
  have e:ws.take (n+1)=ws.take n ++ [ws[n]]:=by rw[bQ,ai hn];rfl
  rw[e,sv]at h
  obtain⟨c,hc,h⟩:=cH.mp h
  obtain⟨l,hl,rfl⟩:=bu.mp h
  obtain⟨h1,h2⟩:=p4 n (by omega) c hc
  refine⟨by rw[e,cf,h1];rfl,fun p hp => ?_⟩
  rcases bg.mp hp with z | z
  ·exact h2 p z
  ·rw[av.mp z];exact hl
theorem C1 {cs:List Nat}{ws:List Str}:∀ n,n<=ws.length->(m7 cs (ws.take n)).length<=cs.length ^ n
 | 0,_=>ao _
 | n+1,hn=>by
  have e:ws.take (n+1)=ws.take n ++ [ws[n]]:=by rw[bQ,ai hn];rfl
  rw[e,sv,Nat.pow_succ]
  exact aF (pZ (n:=cs.length) fun b _=>by unfold yg;rw[aj];exact ao _) (eM _ (C1 n (by omega)))
inductive RT (vs:List V) (H:Hp) (Q:VK):Prop
 | mk (W C:Addr) (ws:List Str) (cs:List Nat) (z0:vs = [.ref W,.ref C]) (z1:H W=some (.lst (ws.map V.str))) (z2:H C=some (.lst (cs.map nV))) (z3:ws.Nodup) (z4:ws.length<=2) (z5:cs.length<=30)
  (z6:∀ R us H',bz H H'->H R=none->H' R=some (.lst us)->jb H' us (m7 cs ws)->Q (.ref R) H'):RT vs H Q
def QD:Sp:=fun vs H Q _=>RT vs H Q
inductive Z7 (H:Hp) (W C:Addr) (cs:List Nat) (ws:List Str) (i:Nat) (σ : St) (H':Hp):Prop
 | mk (R:Addr) (us:List V) (x3 x4 x5 x6 x7:Option V):(σ = [some (.ref W),some (.ref C),some (.ref R),x3,x4,x5,x6,x7])->bz H H'->H R=none->H' R=some (.lst us)->jb H' us (m7 cs (ws.take i))->Z7 H W C cs ws i σ H'
inductive Z8 (H:Hp) (τ : St) (M:Addr) (f:Bd->List Bd) (rs:List Bd) (j:Nat) (σ : St) (H':Hp):Prop
 | mk (vs:List V) (x5 x6 x7:Option V):(σ = τ ++ [x5,x6,x7])->bz H H'->H' M=some (.lst vs)->jb H' vs ((rs.take j).flatMap f)->Z8 H τ M f rs j σ H'
inductive Z9 (H:Hp) (τ : St) (M:Addr) (pre:List Bd) (f:Nat->Bd) (cs:List Nat) (k:Nat) (σ : St) (H':Hp):Prop
 | mk (vs:List V) (x6 x7:Option V):(σ = τ ++ [x6,x7])->bz H H'->H' M=some (.lst vs)->jb H' vs (pre ++ (cs.take k).map f)->Z9 H τ M pre f cs k σ H'
theorem Hw (oY:mg "dict" = none) (D:Def K mg "_law_fillings" vH ["_law_words", "_law_classes"]):dP P w K mg base 1 "_law_fillings" ["_law_words", "_law_classes"] QD:=by
 refine D.has jm (fun vs H Q E h => ?_) (fun f da A outer s H vs Q E hr h => ?_)
 ·obtain⟨W,C,ws,cs,rfl,_⟩:=h;rfl
 obtain⟨W,C,ws,cs,rfl,hW,hC,hn,h2,Zs,q⟩:=h
 refine⟨_,(ax (bC (i:=2) jm.nd rfl (aP rfl) (dZ (ag vM aw)))
  (ax (gw cy rfl (ki (pv 0)) (cB (i:=3) jm.nd rfl (aP rfl))
  (ax (bC (i:=4) jm.nd rfl (aP rfl) (dZ aw))
  (ax (gw cy rfl (ki (pv 2)) (cB (i:=5) jm.nd rfl (aP rfl))
  (aO (gw cy rfl (ki (pv 1)) (cB (i:=6) jm.nd rfl (aP rfl))
  (ax (bC (i:=7) jm.nd rfl (aP rfl) (fy BP rfl oY wk (ag (pv 5) aw)))
  (ax (CC (rC hr) (pv 7) (pv 3) (pv 6) rfl)
  (aO (gK (j1 bL cx cw f9 (pv 4) (ag (pv 7) aw)))))))))
  (aO (bC (i:=2) jm.nd rfl (aP rfl) (pv 4))))))
  (aO (bZ (pv 2))))),?_⟩
 try dsimp only[eD]
 refine fun G hG => ?_
 obtain⟨H1,eH,s1,hG1⟩:=alloc hG (.dK [])
 rw[eH]
 refine⟨(show 1<=sizeLine by decide),fun R hR => ?_⟩
 dsimp only[bH]
 obtain⟨H2,eH,s2,VO⟩:=alloc hR (.lst [.ref G])
 rw[eH]
 have g2:=s1.trans s2
 refine⟨_,rfl,W,rfl,⟨_,bo.of (g2 _ _ hW)⟩,?_⟩
 refine jX (xs:=ws.map V.str) (Z7 H W C cs ws) ⟨R,_,none,none,none,none,none,rfl,g2,s1.free hR,VO,.cons ⟨G,rfl,s2 _ _ hG1⟩ .nil⟩ ?_ ?_ ?_
 ·rintro i σ H' _ ⟨R,us,x3,x4,x5,x6,x7,rfl,sm,_⟩
  exact bo.of (sm _ _ hW)
 ·rintro i v σ H3 hv ⟨R,us,x3,x4,x5,x6,x7,rfl,tw,Nm,VN,Dq⟩
  rw[aH]at hv
  obtain⟨x,hx,rfl⟩:=bS.mp hv
  have hi:=(ah.mp hx).1
  have Zy:ws.take (i+1)=ws.take i ++ [x]:=by rw[bQ,hx];rfl
  have keys:=p4 (cs:=cs) (ws:=ws) i (by omega)
  have jZ:=C1 (cs:=cs) i (by omega:i<=ws.length)
  have abx:(m7 cs (ws.take i)).length * cs.length<=900:=by
   refine aF (Nat.mul_le_mul jZ Zs) ?_
   refine aF (eM _ (pI Zs i)) ?_
   rcases(by omega:i=0∨i=1) with rfl | rfl <;> decide
  dsimp only[bH]
  refine⟨aS _,fun M hM => ?_⟩
  dsimp only[bH]
  obtain⟨H4,eH,s4,hM4⟩:=alloc hM (.lst [])
  rw[eH]
  have nRM:R≠M:=bM VN hM
  generalize XW:m7 cs (ws.take i)=rows at Dq keys abx
  refine⟨_,rfl,R,rfl,⟨_,bo.of (s4 _ _ VN)⟩,?_⟩
  refine jX (xs:=us) (Z8 H3 [some (.ref W),some (.ref C),some (.ref R),some (.str x),some (.ref M)] M (yg cs x) rows) ⟨[],_,_,_,rfl,s4,hM4,.nil⟩ ?_ ?_ ?_
  ·rintro j σ H' _ ⟨vs,x5,x6,x7,rfl,sm,_⟩
   exact bo.of (sm _ _ VN)
  ·rintro j v σ H5 hv ⟨vs,x5,x6,x7,rfl,QE,VZ,HJ⟩
   obtain⟨b,hb,g,rfl,hg⟩:=Paired.at Dq hv
   obtain⟨kb,_⟩:=keys b (aK hb)
   have jl:=(ah.mp hb).1
   have xb:look b x=none:=by
    cases e:look b x with
    | none=>rfl
    | some l =>
     have z:=gH.mp (show (look b x).isSome=true by rw[e];rfl)
     rw[kb]at z
     have z2:(ws.take i ++ [x]).Nodup:=by rw[<- Zy];exact kF (ng _ _) hn
     exact absurd rfl ((fZ.mp z2).2.2 x z x (dq _))
   have bl:b.length<=2:=by
    have:=congrArg jq kb
    rw[aj,bA]at this
    omega
   dsimp only[bH]
   refine⟨_,rfl,C,rfl,⟨_,bo.of ((tw.trans QE) _ _ hC)⟩,?_⟩
   refine jX (xs:=cs.map nV) (Z9 H3 [some (.ref W),some (.ref C),some (.ref R),some (.str x),some (.ref M),some (.ref g)] M ((rows.take j).flatMap (yg cs x)) (fun l=>b ++ [(x,l)]) cs) ⟨vs,_,_,rfl,QE,VZ,by rw[fM,du,cg];exact HJ⟩ ?_ ?_ ?_
   ·rintro k σ H' _ ⟨vs,x6,x7,rfl,sm,_⟩
    exact bo.of ((tw.trans sm) _ _ hC)
   ·rintro k v σ H6 hv ⟨vs,x6,x7,rfl,Dw,VY,zx⟩
    rw[aH]at hv
    obtain⟨l,hl,rfl⟩:=bS.mp hv
    have kl:=(ah.mp hl).1
    have len:=bJ zx
    rw[au,aj,bA]at len
    have aeL:((rows.take j).flatMap (yg cs x)).length<=rows.length * cs.length:=aF (rD (yg cs x) rows j) (pZ fun b _=>by unfold yg;rw[aj];exact ao _)
    dsimp only[bH]
    refine⟨_,rfl,g,_,rfl,Dw _ _ hg,fun F hF => ?_⟩
    dsimp only[bH]
    refine⟨_,rfl,_,rfl,_,rfl,F,_,rfl,AN.k (k := .inr x) ay (cY (by unfold fe;rw[aj];omega)),?_⟩
    have s7:bz H6 (aG (aG H6 F (.dK (fe b))) F (.dK (fw (fe b) (.inr x) (nV l)))):=fun c o h=>by rw[aD (bM h hF),aD (bM h hF)];exact h
    have yb:=ay (H:=aG H6 F (.dK (fe b))) (a:=F) (o := .dK (fw (fe b) (.inr x) (nV l)))
    generalize aG (aG H6 F (.dK (fe b))) F (.dK (fw (fe b) (.inr x) (nV l)))=H7 at s7 yb ⊢
    rw[C2 xb]at yb
    have Ru:=s7 _ _ VY
    refine⟨_,rfl,.inl ⟨rfl,_,bo.of Ru⟩,_,rfl,M,_,_,rfl,rfl,Ru,cY (by omega),⟨_,_,_,rfl,(Dw.trans s7).put hM,ay,?_⟩⟩
    rw[bQ,hl,cf, <- aV]
    refine oM (nN (mj zx s7) Ru) (.cons ⟨F,rfl,?_⟩ .nil)
    rw[aD (cX yb Ru (fun z=>nomatch z))];exact yb
   ·rintro σ H6 ⟨vs,x6,x7,rfl,Dw,VY,zx⟩
    rw[aj,bG]at zx
    refine⟨vs,_,_,_,rfl,Dw,VY,?_⟩
    rw[mD _ hb]
    exact zx
  ·rintro σ H5 ⟨vs,x5,x6,x7,rfl,QE,VZ,HJ⟩
   rw[bJ Dq,bG, <- XW, <- sv, <- Zy]at HJ
   exact⟨_,rfl,⟨M,vs,_,_,_,_,_,rfl,tw.trans QE,tw.free hM,VZ,HJ⟩⟩
 ·rintro σ H' ⟨R,us,x3,x4,x5,x6,x7,rfl,sm,Nm,hR,wa⟩
  rw[aj,bG]at wa
  exact⟨_,rfl,q R us H' sm Nm hR wa⟩
end
section
variable {ts:List Tm}{ls:List Nat}
mutual
theorem NQ (m:Str->Option Nat):∀ (p:T),∀ n∈fF ts ls m p,n<=ts.length
 | .any _,n,h=>by rw[fF]at h;cases h
 | .num _,n,h=>by rw[fF]at h;cases h
 | .name _,n,h=>by rw[fF]at h;cases h
 | .of w as,n,h=>by
  rw[fF]at h
  rcases aN.mp h with rfl | h
  ·cases e:(dJ ts ls m as).bind fun ns=>dH (ts.map (mk ls)) (.of w ns) with
   | none=>exact aS _
   | some k =>
    obtain⟨ns,_,hk⟩:=Option.bind_eq_some_iff.mp e
    have:=(ah.mp (oK hk)).1
    rw[aj]at this
    show k<=_
    omega
  ·exact Jz m as n h
theorem Jz (m:Str->Option Nat):∀ (ps:List T),∀ n∈dN ts ls m ps,n<=ts.length
 | [],n,h=>by rw[dN]at h;cases h
 | p :: ps,n,h=>by
  rw[dN]at h
  rcases bg.mp h with z | z
  ·exact NQ m p n z
  ·exact Jz m ps n z
end
theorem NZ:∀ {a b:List Nat},a.Pairwise (· < ·)->b.Pairwise (· < ·)->(∀ n,n∈a↔n∈b)->a=b
 | [], [],_,_,_=>rfl
 | [],y :: b,_,_,h=>nomatch (h y).mpr aU
 | x :: a, [],_,_,h=>nomatch (h x).mp aU
 | x :: a,y :: b,ha,hb,h=>by
  rw[mP]at ha hb
  have e:x=y:=by
   rcases aN.mp ((h x).mp aU) with z | z
   ·exact z
   ·rcases aN.mp ((h y).mpr aU) with z2 | z2
    ·exact z2.symm
    ·have:=ha.1 y z2
     have:=hb.1 x z
     omega
  subst e
  rw[NZ ha.2 hb.2 fun n => ?_]
  have hx:=h n
  rw[aN,aN]at hx
  constructor
  ·intro z
   rcases hx.mp (.inr z) with z2 | z2
   ·have:=ha.1 n z;omega
   ·exact z2
  ·intro z
   rcases hx.mpr (.inr z) with z2 | z2
   ·have:=hb.1 n z;omega
   ·exact z2
theorem pw_inj {α : Type}{f : α -> Nat}:∀ {l:List α},l.Pairwise (fun a b=>f a < f b)->∀ {a b : α},a∈l->b∈l->f a=f b->a=b
 | [],_,_,_,h,_,_=>nomatch h
 | x :: l,h,a,b,ha,hb,e=>by
  rw[mP]at h
  rcases aN.mp ha with e1 | h1 <;> rcases aN.mp hb with e2 | h2
  ·rw[e1,e2]
  ·have:=h.1 b h2;rw[e1]at e;omega
  ·have:=h.1 a h1;rw[e2]at e;omega
  ·exact pw_inj h.2 h1 h2 e
theorem GF {cs:List Nat}{m:Str->Option Nat}{ws:List Str} (h:∀ y∈ws,∃ l∈cs,m y=some l):∀ n,n<=ws.length->∃ f∈m7 cs (ws.take n),∀ p∈f,m p.1=some p.2
 | 0,_=>⟨[],dq _,fun p hp=>nomatch hp⟩
 | n+1,hn=>by
  have e:ws.take (n+1)=ws.take n ++ [ws[n]]:=by rw[bQ,ai hn];rfl
  obtain⟨f,hf,hp⟩:=GF h n (by omega)
  obtain⟨l,hl,hm⟩:=h ws[n] (k4 hn)
  refine⟨f ++ [(ws[n],l)],?_,fun p Bo => ?_⟩
  ·rw[e,sv]
   exact cH.mpr ⟨f,hf,bu.mpr ⟨l,hl,rfl⟩⟩
  ·rcases bg.mp Bo with z | z
   ·exact hp p z
   ·rw[av.mp z];exact hm
theorem Jl {cs:List Nat}{ws:List Str} (hc:cs.Nodup) (hn:ws.Nodup):∀ n,n<=ws.length->(m7 cs (ws.take n)).Pairwise Unl
 | 0,_=>fV _ _
 | n+1,hl=>by
  have e:ws.take (n+1)=ws.take n ++ [ws[n]]:=by rw[bQ,ai hl];rfl
  have nd:(ws.take n ++ [ws[n]]).Nodup:=by rw[<- e];exact kF (ng _ _) hn
  have fresh:∀ b∈m7 cs (ws.take n),look b ws[n]=none:=fun b hb=>by
   cases e2:look b ws[n] with
   | none=>rfl
   | some l =>
    have z:=gH.mp (show (look b ws[n]).isSome=true by rw[e2];rfl)
    rw[(p4 n (by omega) b hb).1]at z
    exact absurd rfl ((fZ.mp nd).2.2 _ z _ (dq _))
  rw[e,sv,kE]
  refine⟨fun b hb => ?_,d8 ?_ (Jl hc hn n (by omega))⟩
  ·unfold yg
   rw[ij]
   refine bV.imp ?_ hc
   intro l l' nz z
   have z:=z ws[n]
   rw[jv,jv,fresh b hb]at z
   dsimp only at z
   rw[if_pos rfl,if_pos rfl]at z
   exact nz (aB z)
  ·intro b b' hb m6 hu v hv v' uR z
   obtain⟨l,_,rfl⟩:=bu.mp hv
   obtain⟨l',_,rfl⟩:=bu.mp uR
   refine hu fun y => ?_
   have z:=z y
   rw[jv,jv]at z
   by_cases ey:ws[n]=y
   ·rw[<- ey,fresh b hb,fresh b' m6]
   ·rw[if_neg ey,if_neg ey]at z
    cases e1:look b y <;> cases e2:look b' y <;> rw[e1,e2]at z <;> exact z
structure Due (ts:List Tm) (ls:List Nat) (x:Str) (ps:List T) (cs:List Nat) (ws:List Str) (F:List (Nat × Bd)):Prop where
 tells:∀ r∈F,W4 ts ls x ps r.1 r.2
 ord:F.Pairwise fun r r'=>tU (r.1 :: dN ts ls (look r.2) ps) (r'.1 :: dN ts ls (look r'.2) ps)
 full:∀ (m:Str->Option Nat) l,d5 ts ls m (.of x ps)=some l->∃ r∈F,Within (look r.2) m
 oS:∀ y,y∈ws↔y∈T.fX ps
 cl:∀ l,l∈cs↔ls[l]? = some l
 cn:cs.Nodup
 wn:ws.Nodup
 jZ:ts.length < 900
theorem WH (ok:kT ts ls) {x:Str}{ps:List T}{ns:List Nat} (pm:ns.Perm (cV (ts.map (mk ls)) ts.length)) (m:Str->Option Nat) (l:Nat) (h:d5 ts ls m (.of x ps)=some l):∃ r∈ns.flatMap (sd ts ls x ps),Within (look r.2) m:=by
 obtain⟨v,hv,hw⟩:=NO (xU ok.len ok.mw) ok.len (.of x ps) (b := []) (m:=m) (fun z v e=>nomatch e) h
 rw[NP]at hv
 obtain⟨k,hk,hv⟩:=cH.mp hv
 exact⟨(k,v),cH.mpr ⟨k,pm.mem_iff.mpr (By.mp hk).1,bu.mpr ⟨v,hv,rfl⟩⟩,hw⟩
variable {x:Str}{ps:List T}{cs:List Nat}{ws:List Str}{F:List (Nat × Bd)}
theorem E4 {m m':Str->Option Nat} (h:Within m m') (hd:∀ y,(m' y).isSome=true->(m y).isSome=true):m=m':=by
 funext y
 cases e:m y with
 | some v=>exact(h y v e).symm
 | none =>
  cases e':m' y with
  | none=>rfl
  | some v=>have:=hd y (by rw[e'];rfl);rw[e]at this;cases this
theorem Jm {f:Bd} (hf:f∈m7 cs ws) (y:Str):(look f y).isSome=true↔y∈ws:=by
 have k:=(p4 (cs:=cs) (ws:=ws) ws.length (ao _) f (by rw[bG];exact hf)).1
 rw[bG]at k
 rw[gH,k]
theorem zf (d:Due ts ls x ps cs ws F) {f:Bd} (hf:f∈m7 cs ws) (h:(d5 ts ls (look f) (.of x ps)).isSome=true):∃ r∈F,look r.2=look f:=by
 obtain⟨l,hl⟩:=d6.mp h
 obtain⟨r,hr,hw⟩:=d.full _ l hl
 exact⟨r,hr,E4 hw fun y hy=>((d.tells r hr).oS y).mpr ((d.oS y).mp ((Jm hf y).mp hy))⟩
theorem Sl (d:Due ts ls x ps cs ws F) {r:Nat × Bd} (hr:r∈F):∃ f∈m7 cs ws,look f=look r.2:=by
 have t:=d.tells r hr
 obtain⟨f,hf,hp⟩:=GF (cs:=cs) (m:=look r.2) (ws:=ws) (fun y hy=>by
  have:=(t.oS y).mpr ((d.oS y).mp hy)
  obtain⟨l,hl⟩:=d6.mp this
  exact⟨l,(d.cl l).mpr (t.pr y l hl),hl⟩) ws.length (ao _)
 rw[bG]at hf
 refine⟨f,hf,E4 (fun y v e=>hp (y,v) (Iz e)) fun y hy => ?_⟩
 rw[Jm hf,d.oS, <- t.oS]
 exact hy
def qM (ts:List Tm) (ls:List Nat) (x:Str) (ps:List T) (b:Bd):Nat:=m8 (fF ts ls (look b) (.of x ps))
theorem C7 (hf:ts.length < 900) (m:Str->Option Nat) (p:T):∀ n∈fF ts ls m p,n < 1000:=fun n hn=>by
 have:=NQ m p n hn
 omega
theorem OT (d:Due ts ls x ps cs ws F):F.Pairwise fun r r'=>qM ts ls x ps r.2 < qM ts ls x ps r'.2:=by
 refine d8 ?_ d.ord
 intro r r' hr mZ h
 rw[<- (d.tells r hr).ch, <- (d.tells r' mZ).ch]at h
 have e:=FJ (l:=fF ts ls (look r.2) (.of x ps)) (m:=fF ts ls (look r'.2) (.of x ps)) (by rw[BO,BO]) (C7 d.jZ _ _) (C7 d.jZ _ _)
 have h:HT.lexLt (rQ (fF ts ls (look r.2) (.of x ps))) (rQ (fF ts ls (look r'.2) (.of x ps)))=true:=h
 rw[e]at h
 exact of_decide_eq_true h
theorem WI (d:Due ts ls x ps cs ws F) {S:List Bd} (pm:S.Perm ((m7 cs ws).filter fun f=>(d5 ts ls (look f) (.of x ps)).isSome)) (so:S.Pairwise fun f f'=>qM ts ls x ps f<=qM ts ls x ps f') :
  F.length=S.length∧∀ (k:Nat) r f,F[k]? = some r->S[k]? = some f->look r.2=look f:=by
 have mem:∀ f∈S,f∈m7 cs ws∧(d5 ts ls (look f) (.of x ps)).isSome=true:=fun f hf=>eg.mp (pm.mem_iff.mp hf)
 have asc:=OT d
 have NR:∀ {b b':Bd},look b=look b'->qM ts ls x ps b=qM ts ls x ps b':=fun e=>by unfold qM;rw[e]
 have ne:S.Pairwise fun f f'=>qM ts ls x ps f≠qM ts ls x ps f':=by
  refine(pm.pairwise_iff (fun h=>h.symm)).mpr ?_
  have u:=Jl d.cn d.wn ws.length (ao _)
  rw[bG]at u
  refine d8 ?_ (u.filter fun f=>(d5 ts ls (look f) (.of x ps)).isSome)
  intro f f' hf hf' hu e
  obtain⟨h1,h2⟩:=eg.mp hf
  obtain⟨GB,GA⟩:=eg.mp hf'
  obtain⟨r,hr,er⟩:=zf d h1 h2
  obtain⟨r',mZ,NC⟩:=zf d GB GA
  have:=pw_inj (f:=fun r:Nat × Bd=>qM ts ls x ps r.2) asc hr mZ ((NR er).trans (e.trans (NR NC).symm))
  subst this
  exact hu fun y=>by rw[<- er, <- NC]
 have aau:S.Pairwise fun f f'=>qM ts ls x ps f < qM ts ls x ps f':=(so.and ne).imp fun h=>by omega
 have e:F.map (fun r=>qM ts ls x ps r.2)=S.map (qM ts ls x ps):=by
  refine NZ (ij.mpr asc) (ij.mpr aau) fun n=>⟨fun h => ?_,fun h => ?_⟩
  ·obtain⟨r,hr,rfl⟩:=bu.mp h
   obtain⟨f,hf,ef⟩:=Sl d hr
   refine bu.mpr ⟨f,pm.mem_iff.mpr (eg.mpr ⟨hf,?_⟩),NR ef⟩
   rw[ef,(d.tells r hr).cl];rfl
  ·obtain⟨f,hf,rfl⟩:=bu.mp h
   obtain⟨h1,h2⟩:=mem f hf
   obtain⟨r,hr,er⟩:=zf d h1 h2
   exact bu.mpr ⟨r,hr,NR er⟩
 have el:=congrArg jq e
 rw[aj,aj]at el
 refine⟨el,fun k r f hr hf => ?_⟩
 have ek:=congrArg (·[k]?) e
 simp only[aH,hr,hf,l7]at ek
 obtain⟨h1,h2⟩:=mem f (aK hf)
 obtain⟨r',mZ,NC⟩:=zf d h1 h2
 have:=pw_inj (f:=fun r:Nat × Bd=>qM ts ls x ps r.2) asc (aK hr) mZ ((aB ek).trans (NR NC).symm)
 subst this
 exact NC
end
section
variable {P:Program}{w:World}{K:ak}{mg:Str->Option Value}{base:Heap}{CB CF CH CS CN CE CM tB:Addr}
theorem lD {t rest:TS}{D:Ends}{σ : St}{H:Hp} (h:∀ N:St->Hp->Prop,N=rest D->t { D with nx:=N } σ H):OH t rest D σ H:=h _ rfl
inductive RQ (Pt:Addr) (K:ak) (vs:List V) (H:Hp) (Q:VK):Prop
 | mk (a:Addr) (ns:List Int) (z0:vs = [.ref a]) (z1:bo K H a (ns.map V.int)) (z2:ns.length<=63) (z3:H Pt=some (.nu #[])) (z4:∀ H',Q (.bl true) H'):RQ Pt K vs H Q
def Es (Pt:Addr) (K:ak):Sp:=fun vs H Q _=>RQ Pt K vs H Q
theorem Qb (ns:List Int):∃ zs:List Int,wj (ns.map V.int) none (some 80)=zs.map V.int∧zs.length<=ns.length:=by
 have h1:∀ x∈wj (ns.map V.int) none (some 80),∃ c:Int,x = .int c:=fun x hx=>by
  obtain⟨c,_,rfl⟩:=bu.mp (GR hx)
  exact⟨c,rfl⟩
 have h2:=uk (ns.map V.int) none (some 80)
 rw[aj]at h2
 obtain⟨zs,e⟩:=Al h1
 rw[e,aj]at h2
 exact⟨zs,e,h2⟩
theorem S2 {ls:List Nat} (g:j7 ls) (h:ls.length<=24) (a:Nat):ls.getD a 0 < 26:=by
 rw[br]
 cases e:ls[a]? with
 | none=>exact(by decide:0 < 26)
 | some v =>
  have:=(g a v e).1
  have:=(ah.mp e).1
  show v < 26
  omega
structure Eb (H:Hp) (Ta L Db:Addr) (v:V) (us:List V) (ts:List Tm) (ls:List Nat) (x:Str) (ps:List T) (b:Bd):Prop where
 hT:H Ta=some (.lst us)
 iz:mG H us ts
 hL:H L=some (.lst (ls.map nV))
 hv:f7 H (.of x ps) v
 oq:H Db=some (.dK (fe b))
section
variable {H H':Hp}{Ta L Db:Addr}{v:V}{us:List V}{ts:List Tm}{ls:List Nat}{x:Str}{ps:List T}{b:Bd}
theorem Eb.keep (h:Eb H Ta L Db v us ts ls x ps b) (k:∀ c o,(∀ qs,o ≠ .nu qs)->H c=some o->H' c=some o):Eb H' Ta L Db v us ts ls x ps b :=
 ⟨k _ _ (fun _ z=>nomatch z) h.hT,jU (fun c ys e=>k _ _ (fun _ z=>nomatch z) e) h.iz,k _ _ (fun _ z=>nomatch z) h.hL,lC (fun c ys e=>k _ _ (fun _ z=>nomatch z) e) h.hv,k _ _ (fun _ z=>nomatch z) h.oq⟩
theorem Eb.same (h:Eb H Ta L Db v us ts ls x ps b) (s:bz H H'):Eb H' Ta L Db v us ts ls x ps b:=h.keep fun c o _ e=>s _ _ e
end
theorem CK (cs:List Nat):cs.map nV=(rQ cs).map V.int:=by rw[dF];rfl
structure wB (H:Hp) (Du:Addr) (ts:List Tm) (ls:List Nat) (p:T) (q:sI × Bd):Prop where
 hp:H q.1.p=some (.tup [.ref q.1.c,q.1.z])
 hc:H q.1.c=some (.lst ((rQ q.1.ns).map V.int))
 hz:∃ g,q.1.z = .ref g∧H g=some (.dK (fe q.2))
 ch:q.1.ns=fF ts ls (look q.2) p
 ne:q.1.c≠Du
theorem wB.keep {H H':Hp}{Du:Addr}{ts:List Tm}{ls:List Nat}{p:T}{q:sI × Bd} (h:wB H Du ts ls p q) (k:∀ c o,c≠Du->(∀ qs,o ≠ .nu qs)->H c=some o->H' c=some o) (hD:∃ us,H Du=some (.lst us)):wB H' Du ts ls p q:=by
 obtain⟨us,hD⟩:=hD
 obtain⟨g,e,hg⟩:=h.hz
 exact⟨k _ _ (cX h.hp hD (fun z=>nomatch z)) (fun _ z=>nomatch z) h.hp,k _ _ h.ne (fun _ z=>nomatch z) h.hc,⟨g,e,k _ _ (cX hg hD (fun z=>nomatch z)) (fun _ z=>nomatch z) hg⟩,h.ch,h.ne⟩
inductive DuI (H:Hp) (τ : St) (Du:Addr) (ts:List Tm) (ls:List Nat) (p:T) (rs:List Bd) (i:Nat) (σ : St) (H':Hp):Prop
 | mk (qs:List (sI × Bd)) (qv qu:Option V):(σ = τ ++ [qv,qu,none,none])->gm Du H H'->H' Du=some (.lst (qs.map fun q=>V.ref q.1.p))->(∀ q∈qs,wB H' Du ts ls p q)->(qs.map (·.2)=(rs.take i).filter fun f=>(d5 ts ls (look f) p).isSome)->DuI H τ Du ts ls p rs i σ H'
inductive ZY (H:Hp) (τ X5:St) (Ta L Db:Addr) (us:List V) (ts:List Tm) (ls:List Nat) (ps:List T) (b:Bd) (σ : St) (H':Hp):Prop
 | mk (v:V) (x:Str):(σ = τ ++ some v :: X5)->bz H H'->Eb H' Ta L Db v us ts ls x ps b->ZY H τ X5 Ta L Db us ts ls ps b σ H'
theorem Uu {c Pt:Addr} (TB:TabAt base mg c Pt) (B:nG mg) (nR:mg "sorted" = none) (kI:dP P w K mg base 1 "_law_cell_at" ["_law_script", "_law_k"] (E2 K)) (lH:dP P w K mg base 1 "_law_mixed" ["_law_cell", "_law_k"] yZ) (Gk:dP P w K mg base 2 "_law_pool" ["_law_m"] LU) (CU:dP P w K mg base 3 "_law_terms" ["_law_cells", "_law_pool_here", "_law_most", "_law_ties"] HW) (Au:dP P w K mg base 3 "closed" ["terms", "edges"] (EZ K))
  (Gm:dP P w K mg base 5 "_law_left" ["_law_script", "_law_terms_here", "_law_leads", "_law_pool_here", "_law_mode"] (LW K)) (CV:dP P w K mg base 2 "_law_table" ["_law_terms_here", "_law_leads"] (HY P w)) (vY:dP P w K mg base 1 "_law_fillings" ["_law_words", "_law_classes"] QD) (xY:dP P w K mg base 10 "matches" ["terms", "leads", "left"] Dv)
  (xX:dP P w K mg base 5 "_law_spot" ["_law_table_here", "_law_leads", "_law_pattern", "_law_binds", "_law_chosen"] (EV P w 4)) (vX:dP P w K mg base 1 "_law_is_match" ["_law_row", "_law_words", "_law_leads"] QC)
  {f:Addr}{oc kV doc pm ct:Value}{od an:Option Addr}{uI:Array (Option Value)} (lk:K.lookup f=some ⟨oc,od,.func (dr "law" "law" (iG lT) (eY lT) (a6 lT) .none kV doc pm an (.ref c) ct),uI⟩) (ly:gP K (.ref c) "law" = true) :
  mS P w K mg base yU 11 f (dr "law" "law" (iG lT) (eY lT) (a6 lT) .none kV doc pm an (.ref c) ct) ["_law_script"] (Es Pt K):=by
 refine Td lk ly iP (fun vs H Q E h => ?_) (fun A outer s H vs Q E hr h => ?_)
 ·obtain⟨a,ns,rfl,_⟩:=h;rfl
 obtain⟨a,ns,rfl,hS,h63,hPt,q⟩:=h
 refine⟨_,(ax (bC (i:=1) iP.nd rfl (aP rfl) (cj lH hr (by omega) rfl (ag (cj kI hr (by omega) rfl (ag (pv 0) (ag az aw))) (ag az aw))))
  (ax (bC (i:=2) iP.nd rfl (aP rfl) (cj Gk hr (by omega) rfl (ag (bb dR (pv 1) az) aw)))
  (ax (A4 (cj CU hr (by omega) rfl (ag (jV Ic (pv 0) lF (lE az)) (ag (pv 2) (ag az (ag (bb cK (pv 1) az) aw))))) (r6 rfl (gG (cB (i:=3) iP.nd rfl (aP rfl)) (gG (cB (i:=4) iP.nd rfl (aP rfl)) pV))))
  (ax (bC (i:=5) iP.nd rfl (Or.inr rfl) (cj Au hr (by omega) rfl (ag (fy oX rfl B.tH jM (ag (pv 3) aw)) (ag (fy oX rfl B.tH jM (ag (pv 4) aw)) aw))))
  (ax (A4 (cj Gm hr (by omega) rfl (ag (pv 0) (ag (pv 3) (ag (pv 5) (ag (pv 2) (ag az aw)))))) (r6 rfl (gG (cB (i:=6) iP.nd rfl (aP rfl)) (gG (cB (i:=7) iP.nd rfl (aP rfl)) (gG (cB (i:=8) iP.nd rfl (aP rfl)) pV)))))
  (ax (dz (b8 je (bb cK (bb dR (pv 1) az) az) az (cC _)) (aO (bC (i:=7) iP.nd rfl (aP rfl) (gL (ag eF (ag (aZ b9 (pv 2) (bb cK (bb dR (pv 1) az) az)) (ag (aZ cL (pv 7) az) aw)))))) cJ)
  (ax (bC (i:=9) iP.nd rfl (aP rfl) (cj CV hr (by omega) rfl (ag (pv 3) (ag (pv 5) aw))))
  (ax (bC (i:=10) iP.nd rfl (aP rfl) (dZ aw))
  (ax (gw cy rfl (ki (cj vY hr (by omega) rfl (ag (fy (u9 rfl) rfl B.tH jM (ag (pv 8) aw)) (ag (bX ym rfl nR yn (ag (Fo (te:=_) (ct:=(yY (pE _ (pE (xE K) _ _) _))) (own := ["_law_k"]) (caps := [("_law_leads",5)]) (kR (a6 lT) ["_law_script", "_law_first", "_law_pool_here", "_law_terms_here", "_law_edges", "_law_leads", "_law_t", "_law_left_here", "_law_binds", "_law_table_here", "_law_due", "_law_some", "_law_chosen", "_law_found", "_law_k"] rfl rfl rfl (by decide +kernel)) (og rfl B.qC (ag (bX b7 rfl B.gU bD (ag (pv 5) aw)) aw)) rfl (fun _ _ _=>cB (i:=0) (show (["_law_k", "_law_leads"]:List Str).Nodup by decide +kernel) rfl (aP rfl)) (fun _ _ _=>(b8 je (aZ b9 (pv 1) (pv 0)) (pv 0) (cC _))) (fun _ _ _=>(pv 0))) aw)) aw)))) (cB (i:=11) iP.nd rfl (aP rfl))
  (ax (bC (i:=12) iP.nd rfl (aP rfl) (dZ aw))
  (aO (dz (b8 SE (cj xX hr (by omega) rfl (ag (pv 9) (ag (pv 5) (ag (pv 7) (ag (pv 11) (ag (pv 12) aw)))))) r8 (cC _)) (aO (gK (j1 bL cx cw f9 (pv 10) (ag (gL (ag (pv 12) (ag (pv 11) aw))) aw)))) cJ))))
  (ax (bC (i:=10) iP.nd rfl (aP rfl) (O1 TB hr.depth (t9 hr) rfl nR rfl rfl (pv 10) rfl (fun _ _ _ _ _=>rfl) rfl rfl rfl (by decide +kernel) rfl))
  (ax (bC (i:=13) iP.nd rfl (aP rfl) (cj xY hr (by omega) rfl (ag (fy oX rfl B.tH jM (ag (pv 3) aw)) (ag (fy oX rfl B.tH jM (ag (pv 5) aw)) (ag (pv 7) aw)))))
  (ax (dz (PW.pt (pw_or (rX (nv (bX nQ rfl B.jW gI (ag (pv 13) (ag (pW (v := .ty "list") rfl B.tH jM rfl) aw))))) (pw_or1 (b8 nH (bX b7 rfl B.gU bD (ag (pv 13) aw)) (bX b7 rfl B.gU bD (ag (pv 10) aw)) (cC _))))) (aO (bZ lV)) cJ)
  (ax (gw cy rfl (og rfl B.qC (ag (bX b7 rfl B.gU bD (ag (pv 10) aw)) aw)) (cB (i:=14) iP.nd rfl (aP rfl))
  (aO (dz (PW.pt (pw_or (rX (nv (cj vX hr (by omega) rfl (ag (aZ b9 (pv 13) (pv 14)) (ag (fy (u9 rfl) rfl B.tH jM (ag (pv 8) aw)) (ag (pv 5) aw)))))) (pw_or1 (b8 (SF (Qu hr)) (aZ b9 (pv 13) (pv 14)) (gL (ag (aZ b9 (aZ cL (aZ b9 (pv 10) (pv 14)) az) az) (ag (aZ cL (aZ b9 (pv 10) (pv 14)) az) aw))) (cC _))))) (aO (bZ lV)) cJ)))
  (aO (bZ lV))))))))))))))),?_⟩
 try dsimp only[eD]
 refine lD fun N eN => ?_
 refine⟨_,rfl,a,ns,0,rfl,hS,by decide,fun c=>⟨c,102,rfl,by decide,by decide,fun m m0 m1 => ?_⟩⟩
 subst eN
 dsimp only[bH]
 refine lD fun N eN => ?_
 refine⟨_,rfl,_,_,rfl,rfl,ji,_,rfl,fun l ws H1 s1 F3 => ?_⟩
 subst eN
 dsimp only[bH]
 refine lD fun N eN => ?_
 refine⟨_,rfl,_,rfl,a,_,rfl,s1.seq hS,fun sl hsl => ?_⟩
 obtain⟨zs,ez,lz⟩:=Qb ns
 rw[ez]
 obtain⟨H2,eH,T3,U8⟩:=alloc hsl (.lst (zs.map V.int))
 rw[eH]
 have s2:=s1.trans T3
 have Bn:=F3.same T3
 refine⟨_,rfl,_,rfl,_,_,rfl,rfl,eI,sl,l,zs,ws,11,_,rfl,U8,by omega,Bn,by decide,fun p Ta E us iU ts es H3 mo hp mB Na IZ => ?_⟩
 refine⟨p,_,rfl,bY.of hp,rfl,_,_,rfl,_,_,rfl,rfl,?_⟩
 subst eN
 dsimp only[bH]
 obtain⟨DL,Nj,hnd⟩:=id mo.ok
 have qH:=bJ mo.iz
 have jZ:=mo.jZ
 refine lD fun N eN => ?_
 refine⟨_,rfl,Ta,us,rfl,.inl (bo.of mo.hT),fun A1 Nv => ?_⟩
 obtain⟨H4,eH,s4,hA⟩:=alloc Nv (.lst us)
 rw[eH]
 refine⟨_,rfl,E,iU,rfl,.inl (bo.of (s4 _ _ mo.hE)),fun A2 RD => ?_⟩
 obtain⟨H5,eH,s5,zJ⟩:=alloc RD (.lst iU)
 rw[eH]
 have QG:=s4.trans s5
 have QF:∀ (i:Nat) x as,ts[i]? = some (.of x as)->as.length<=1000:=fun i x as e=>aF (Nj i x as e).1 (by decide)
 refine⟨A1,A2,us,iU,ts,es,rfl,s5 _ _ hA,fu QG mo.iz,bo.of zJ,hJ (fun b ys=>QG _ _) mo.u4,DL,by omega,QF,mo.lt,fun L ls H6 s6 tM hL hc => ?_⟩
 subst eN
 dsimp only[bH]
 have Jj:bz H3 H6:=QG.trans s6
 have Vk:=hc.1
 have Wq:bz H2 H6:=mo.same.trans Jj
 have g6:bz H H6:=s2.trans Wq
 have tl:kT ts ls:=⟨DL,hc.1,by omega,QF,SY DL hc⟩
 have llt:=S2 hc.2.1 (by omega)
 -- EL pattern
 refine lD fun N eN => ?_
 refine⟨_,rfl,_,rfl,_,rfl,_,rfl,?_⟩
 show Hd K [.ref a,.ref Ta,.ref L,.ref l,nV 2] H6 _
 refine⟨a,Ta,L,l,ns,us,ts,ls,ws,2,rfl,g6.seq hS,Jj _ _ mo.hT,fu Jj mo.iz,hL,tl,jZ,llt,Na,Bn.same Wq,by omega,fun i x as e=>(Nj i x as e).1,fun p7 Db t x as v ps b H7 s7 ht IL M6 V7 lo => ?_⟩
 refine⟨p7,_,rfl,bY.of IL,rfl,_,_,rfl,_,_,rfl,_,_,rfl,rfl,?_⟩
 subst eN
 dsimp only[bH]
 have two:b.length<=2:=lo.two rfl
 have UB:Eb H7 Ta L Db v us ts ls x ps b:=⟨s7 _ _ (Jj _ _ mo.hT),fu (Jj.trans s7) mo.iz,s7 _ _ hL,M6,V7⟩
 have VR:=(g6.trans s7) _ _ hPt
 have PL:=Bn.same (Wq.trans s7)
 clear IL ht s1 s2 T3 s4 s5 s6 QG Jj hA zJ hL tM U8 F3 Bn
 refine xD (ZY H7 [some (.ref a),some (.int m),some (.ref l),some (.ref Ta),some (.ref E),some (.ref L),some (nV t)] [some (.ref Db),none,none,none,none,none,none] Ta L Db us ts ls ps b) ?_ (fun key => ?_)
 rotate_left
 ·refine⟨_,rfl,_,_,rfl,rfl,ji,_,_,rfl,rfl,eI,rfl,_,rfl,gy (fun _ => ?_) (fun _ => ?_)⟩
  ·obtain⟨z,hz,sh⟩:=rM PL (i:=m / 54 % 3) (bI _ (by decide)) (bp _ (by decide))
   have hv:=M6
   rw[f7]at hv
   obtain⟨va,vb,vvs,rfl,h1,h2,h3⟩:=hv
   refine⟨_,rfl,_,rfl,_,_,rfl,rfl,ji,_,_,rfl,rfl,eI,l,_,_,_,rfl,rfl,bo.of PL.1,sh,_,rfl,va,_,2,_,rfl,rfl,bY.of h1,a7 (j:=2) rfl,(show 3<=sizeLine by decide),fun Nw hNw => ?_⟩
   dsimp only[bH]
   obtain⟨H8,eH,s8,hN8⟩:=alloc hNw (.tup [.str "of",.str z,.ref vb])
   rw[eH]
   refine key _ _ ⟨.ref Nw,z,rfl,s8, { UB.same s8 with hv:=?_ }⟩
   rw[f7]
   exact⟨Nw,vb,vvs,rfl,hN8,s8 _ _ h2,iY (fun c ys e=>s8 _ _ e) h3⟩
  ·exact key _ _ ⟨v,x,rfl,bz.refl _,UB⟩
 rintro _ H8 ⟨v,x,rfl,s8,zD⟩
 have VQ:=s8 _ _ VR
 clear M6 UB PL VR s8 s7 V7
 -- EL table
 refine lD fun N eN => ?_
 refine⟨_,rfl,_,rfl,Ta,L,us,ts,ls,rfl,zD.hT,zD.iz,zD.hL,tl,fun Tb kvs H9 s9 ZG YO => ?_⟩
 subst eN
 dsimp only[bH]
 refine lD fun N eN => ?_
 refine⟨aS _,fun Du RC => ?_⟩
 subst eN
 dsimp only[bH]
 obtain⟨H10,eH,QK,Lb⟩:=alloc RC (.lst [])
 rw[eH]
 -- EL abw
 refine xD (fun cc H'=>∃ (qs:List (sI × Bd)) (qv qu:Option V) (cs:List Nat),(cc = [some (.ref a),some (.int m),some (.ref l),some (.ref Ta),some (.ref E),some (.ref L),some (nV t),some v,some (.ref Db),some (.ref Tb),some (.ref Du),qv,qu,none,none])∧bz H9 H'∧H' Du=some (.lst (qs.map fun q=>V.ref q.1.p))∧(∀ q∈qs,wB H' Du ts ls (.of x ps) q)∧(qs.map (·.2)=(m7 cs (b.map (·.1))).filter fun f=>(d5 ts ls (look f) (.of x ps)).isSome)∧cs.Nodup∧(∀ l,l∈cs↔ls[l]? = some l)∧qs.length<=900) ?_ (fun key => ?_)
 rotate_left
 ·refine⟨_,rfl,Db,_,rfl,.inl ((s9.trans QK) _ _ zD.oq),fun W hW => ?_⟩
  rw[GK]
  obtain⟨H11,eH,QJ,abj⟩:=alloc hW (.lst ((b.map (·.1)).map V.str))
  rw[eH]
  have Zt:=s9.trans (QK.trans QJ)
  refine⟨_,rfl,L,_,rfl,.inl (bo.of (Zt _ _ zD.hL)),_,rfl,by omega,by rw[aj];omega,?_⟩
  rw[bR,aj]
  refine um (lo:=0) (fun i=>if ls[i.toNat]? = some i.toNat then some (nV i.toNat) else none) (by omega) (fun i hi H' sm R r => ?_) (fun i v hi e H' sm Q' q' => ?_) (fun D1 DP => ?_)
  ·have ei:(0+(i:Int))=((i:Nat):Int):=by omega
   rw[ei,bR]at r
   rw[ei]
   have rg:ls[i]? = some ls[i]:=ai hi
   refine⟨_,rfl,_,rfl,L,_,_,_,rfl,rfl,bo.of (sm _ _ (Zt _ _ zD.hL)),jf rg,_,rfl,rfl,_,rfl,?_⟩
   rw[rg]at r
   by_cases hk:ls[i]=i
   ·rw[if_pos (by rw[hk])]at r
    rw[decide_eq_true (by rw[hk])]
    exact r
   ·rw[if_neg (fun z=>hk (aB z))]at r
    rw[decide_eq_false (fun z=>hk (by have:=V.int.inj z;omega))]
    exact r
  ·have ei:(0+(i:Int))=((i:Nat):Int):=by omega
   rw[ei]at e ⊢
   rw[bR]at e
   split at e
   ·have:=aB e
    subst this
    exact⟨_,rfl,q'⟩
   ·cases e
  have efm:((cu ls.length).filterMap fun i:Nat=>if ls[(0+(i:Int)).toNat]? = some (0+(i:Int)).toNat then some (nV (0+(i:Int)).toNat) else none)=((cu ls.length).filter fun i=>decide (ls[i]? = some i)).map nV:=by
   rw[<- List.filterMap_eq_map,List.filterMap_filter]
   congr 1
   funext i
   have ei:(0+(i:Int)).toNat=i:=by omega
   rw[ei]
   by_cases hk:ls[i]? = some i
   ·rw[if_pos hk,decide_eq_true hk];rfl
   ·rw[if_neg hk,decide_eq_false hk];rfl
  rw[efm,CK]
  obtain⟨H12,eH,QI,abm⟩:=alloc DP (.lst ((rQ ((cu ls.length).filter fun i=>decide (ls[i]? = some i))).map V.int))
  rw[eH]
  have lf:((cu ls.length).filter fun i=>decide (ls[i]? = some i)).length<=ls.length:=aF (iW _ _) (by rw[fb];exact ao _)
  refine⟨D1,_,rfl,bo.of abm,by rw[aj];omega,fun r9 Cs pmC _ hCs => ?_⟩
  obtain⟨cs,Um,rfl⟩:=Ai pmC rfl
  obtain⟨H13,eH,QH,abp⟩:=alloc hCs (.lst ((rQ cs).map V.int))
  rw[eH]
  have cn:cs.Nodup:=(Um.pairwise_iff (fun h=>h.symm)).mpr (jk _ AI)
  have cm:∀ l,l∈cs↔ls[l]? = some l:=fun l=>by
   rw[Um.mem_iff,eg,decide_eq_true_iff,iJ]
   exact⟨fun h=>h.2,fun h=>⟨(ah.mp h).1,h⟩⟩
  have cl:=Um.length_eq
  have g13:bz H9 H13:=QK.trans (QJ.trans (QI.trans QH))
  have wn:=lo.nk
  refine⟨W,Cs,b.map (·.1),cs,rfl,(QI.trans QH) _ _ abj,by rw[CK];exact abp,lo.nk,by rw[aj];exact two,by omega,fun R usR R4 Yq Nm VP OB => ?_⟩
  refine⟨R,rfl,⟨_,bo.of VP⟩,?_⟩
  have Ws:=g13.trans Yq
  have Ey:=(QJ.trans (QI.trans (QH.trans Yq))) _ _ Lb
  have Zx:∀ f∈m7 cs (b.map (·.1)),f.map (·.1)=b.map (·.1):=fun f hf=>by
   have:=(p4 (cs:=cs) (ws:=b.map (·.1)) _ (ao _) f (by rw[bG];exact hf)).1
   rw[bG]at this
   exact this
  have Wu:(m7 cs (b.map (·.1))).length<=900:=by
   have:=C1 (cs:=cs) (ws:=b.map (·.1)) _ (ao _)
   rw[bG,aj]at this
   refine aF this (aF (pI (show cs.length<=30 by omega) _) ?_)
   exact aF (ic (by decide) two) (by decide)
  generalize Jq:m7 cs (b.map (·.1))=fs at OB Zx Wu
  have nRD:R≠Du:=fun z=>by rw[z,(QJ.trans (QI.trans QH)) _ _ Lb]at Nm;cases Nm
  have UE:=zD.same (s9.trans Ws)
  have aby:=ZG.same Ws
  have nLD:L≠Du:=bM (s9 _ _ zD.hL) RC
  refine jX (xs:=usR) (DuI R4 [some (.ref a),some (.int m),some (.ref l),some (.ref Ta),some (.ref E),some (.ref L),some (nV t),some v,some (.ref Db),some (.ref Tb),some (.ref Du)] Du ts ls (.of x ps) fs) ⟨[],none,none,rfl,fun _ _ _ e=>e,Ey,(fun q hq=>nomatch hq),rfl⟩ ?_ ?_ ?_
  ·rintro i σ H' _ ⟨qs,qv,qu,rfl,bt,_⟩
   exact bo.of (bt _ _ nRD VP)
  ·rintro i vv σ H15 FV ⟨qs,qv,qu,rfl,bt,BG,GN,em⟩
   obtain⟨f,hf,g,rfl,hg⟩:=Paired.at OB FV
   have fi:=(ah.mp hf).1
   have kf:=Zx f (aK hf)
   have PU:=bt _ _ (cX hg Ey (fun z=>nomatch z)) hg
   have lq:qs.length<=900:=by
    have:=congrArg jq em
    rw[aj]at this
    have:=iW (fun f=>(d5 ts ls (look f) (T.of x ps)).isSome) (fs.take i)
    rw[bA]at this
    omega
   dsimp only[bH]
   refine⟨aS _,fun Ch rn => ?_⟩
   dsimp only[bH]
   obtain⟨Z6,eH,Ih,XT⟩:=alloc rn (.lst [])
   rw[eH]
   have Qg:gm Du R4 Z6:=fun c o n e=>Ih _ _ (bt c o n e)
   have kt:∀ c ys,R4 c=some (.tup ys)->Z6 c=some (.tup ys):=fun c ys e=>Qg _ _ (cX e Ey (fun z=>nomatch z)) e
   have YD:Ch≠Du:=(bM BG rn).symm
   have V3:=bt _ _ nLD UE.hL
   refine⟨_,rfl,_,rfl,_,rfl,_,rfl,_,rfl,Tb,L,g,Ch,v,.of x ps,ts,ls,kvs,f, [],rfl,⟨aby.keep (fun φ e=>Qg _ _ (cX e Ey (fun z=>nomatch z)) e) kt,YO,Ih _ _ V3,tl,Ih _ _ PU,XT,bM V3 rn⟩,lC kt UE.hv,?_,fun y hy => ?_,?_,fun DX Z5 Ln abo hcs => ?_⟩
   ·rw[T.depth];have:=lo.deep;omega
   ·rw[gH,kf, <- gH,lo.oS]
    rw[T.iq]at hy;exact hy
   ·rw[T.ar,jP];have:=lo.lZ;omega
   have RN:gm Du R4 Z5:=fun c o n e=>Ln c o (bM (bt c o n e) rn) (Qg c o n e)
   have Ex:=Ln _ _ YD.symm (Ih _ _ BG)
   have RJ:∀ q∈qs,wB Z5 Du ts ls (.of x ps) q:=fun q hq=>(GN q hq).keep (fun c o n _ e=>Ln c o (bM e rn) (Ih _ _ e)) ⟨_,BG⟩
   have aa3:=Ln _ _ (bM PU rn) (Ih _ _ PU)
   cases WE:d5 ts ls (look f) (.of x ps) with
   | none =>
    refine⟨rfl,_,rfl,iZ ?_⟩
    refine⟨qs,_,_,rfl,RN,Ex,RJ,?_⟩
    rw[em,bQ,hf,mQ]
    show _=_ ++ List.filter _ [f]
    rw[nX,WE]
    simp
   | some lc =>
    have ZF:=hcs _ WE
    rw[dB]at ZF
    subst ZF
    refine⟨rfl,_,rfl,my ?_⟩
    refine⟨_,rfl,.inl ⟨rfl,_,bo.of Ex⟩,_,rfl,_,rfl,(show 2<=sizeLine by decide),fun pr hpr => ?_⟩
    obtain⟨Xf,eH,L6,aaV⟩:=alloc hpr (.tup [.ref Ch,.ref g])
    rw[eH]
    have La:=L6 _ _ Ex
    refine⟨Du,_,_,rfl,rfl,La,cY (by rw[aj];omega),⟨qs ++ [(⟨pr,Ch,.ref g,fF ts ls (look f) (.of x ps)⟩,f)],_,_,rfl,fun c o n e => ?_,?_,fun q hq => ?_,?_⟩⟩
    ·rw[aD n];exact L6 _ _ (RN c o n e)
    ·rw[ay,cf];rfl
    ·have up:∀ c o,c≠Du->(∀ qs,o≠HO.nu qs)->Xf c=some o->(aG Xf Du (.lst ((qs.map fun q=>V.ref q.1.p) ++ [V.ref pr]))) c=some o:=fun c o n _ e=>by rw[aD n];exact e
     rcases bg.mp hq with z | z
     ·exact((RJ q z).keep (fun c o n _ e=>L6 _ _ e) ⟨_,Ex⟩).keep up ⟨_,La⟩
     ·rw[av.mp z]
      exact wB.keep (H:=Xf) ⟨aaV,by rw[<- CK];exact L6 _ _ abo,⟨g,rfl,L6 _ _ aa3⟩,rfl,YD⟩ up ⟨_,La⟩
    ·rw[cf,em,bQ,hf,mQ]
     show _=_ ++ List.filter _ [f]
     rw[nX,WE]
     simp
  ·rintro σ H15 ⟨qs,qv,qu,rfl,bt,BG,GN,em⟩
   rw[bJ OB,bG, <- Jq]at em
   refine key _ _ ⟨qs,qv,qu,cs,rfl,fun c o e=>bt _ _ (bM e RC) (Ws _ _ e),BG,GN,em,cn,cm,?_⟩
   have h1:=congrArg jq em
   rw[aj,Jq]at h1
   have h2:=iW (fun f=>(d5 ts ls (look f) (T.of x ps)).isSome) fs
   omega
 rintro _ H19 ⟨qs,qv,qu,cs,rfl,Yp,K9,GN,em,cn,cm,lq⟩
 have UD:=zD.same (s9.trans Yp)
 have Rr:=(s9.trans Yp) _ _ VQ
 clear zD VQ QK Lb RC ZG YO
 -- sorted
 refine lD fun N0 eN => ?_
 refine⟨_,rfl,Du,qs.map (·.1),(T.of x ps).kn,rfl,by rw[dF];exact K9,fun r mZ => ?_,by rw[aj];omega,.inl Rr,fun N Z4 out kb tb hN abk Yv so => ?_⟩
 ·obtain⟨q',zF,rfl⟩:=bu.mp mZ
  have d:=GN q' zF
  exact⟨d.hp,d.hc,by rw[d.ch,BO],by rw[d.ch];exact C7 (by omega) _ _⟩
 subst eN
 dsimp only[bH]
 obtain⟨AZ,pq,rfl⟩:=Ai Yv rfl
 have kp:∀ c o,(∀ qs,o≠HO.nu qs)->H19 c=some o->Z4 c=some o:=fun c o n e=>kb _ _ (fun z=>by rw[z,Rr]at e;cases e;exact n _ rfl) e
 have FG:=UD.keep kp
 have Lj:∀ q∈AZ,wB Z4 Du ts ls (.of x ps) q:=fun q hq=>(GN q (pq.mem_iff.mp hq)).keep (fun c o _ n e=>kp c o n e) ⟨_,K9⟩
 have Yi:(AZ.map (·.2)).Perm ((m7 cs (b.map (·.1))).filter fun f=>(d5 ts ls (look f) (.of x ps)).isSome):=by rw[<- em];exact pq.map _
 have sso:(AZ.map (·.2)).Pairwise fun f f'=>qM ts ls x ps f<=qM ts ls x ps f':=by
  rw[ij]at so ⊢
  refine d8 ?_ so
  intro q1 q2 m1 m2 z
  rw[(Lj q1 m1).ch,(Lj q2 m2).ch]at z
  exact z
 have lq':=pq.length_eq
 clear UD GN K9 kb tb hN Yv so pq
 -- aaf is aeG
 have hpw:ts.length ^ (1+T.gx ps)<=1000000:=aF (pI jZ _) (aF (ic (by decide) (show _<=3 by have:=lo.gx;omega)) (by decide))
 have hho:=lo.iq
 refine lD fun N0 eN => ?_
 refine⟨_,rfl,Ta,us,rfl,.inl (bo.of FG.hT),fun B1 hB1 => ?_⟩
 obtain⟨H21,eH,Yo,abr⟩:=alloc hB1 (.lst us)
 rw[eH]
 refine⟨_,rfl,L,_,rfl,.inl (bo.of (Yo _ _ FG.hL)),fun B2 hB2 => ?_⟩
 obtain⟨H22,eH,Yn,abq⟩:=alloc hB2 (.lst (ls.map nV))
 rw[eH]
 have Wr:=Yo.trans Yn
 refine⟨_,rfl,B1,B2,us,ts,ls,v,x,ps,rfl,Yn _ _ abr,fu Wr FG.iz,abq,tl,by omega,by omega,lC (fun c ys e=>Wr _ _ e) FG.hv,lo.deep,by omega,hpw,fun R Yd nn Z3 s23 Gs hR pm asc rm => ?_⟩
 subst eN
 dsimp only[bH]
 have Ny:=Wr.trans s23
 have UC:=FG.same Ny
 have XX:∀ q∈AZ,wB Z3 Du ts ls (.of x ps) q:=fun q hq=>by
  have d:=Lj q hq
  obtain⟨g,e,hg⟩:=d.hz
  exact⟨Ny _ _ d.hp,Ny _ _ d.hc,⟨g,e,Ny _ _ hg⟩,d.ch,d.ne⟩
 have K8:=Ny _ _ abk
 have d:Due ts ls x ps cs (b.map (·.1)) (nn.flatMap (sd ts ls x ps)):=⟨fun r mZ=>Mb tl hc.2.1 mB pm mZ,OR tl asc,fun m' l' h'=>WH tl pm m' l' h',fun y=>by rw[<- gH,lo.oS],cm,cn,lo.nk,by omega⟩
 obtain⟨yh,RH⟩:=WI d Yi sso
 have tells:=d.tells
 have aas:∀ q∈AZ,q.2.map (·.1)=b.map (·.1):=fun q hq=>by
  have:=(eg.mp (Yi.mem_iff.mp (bu.mpr ⟨q,hq,rfl⟩))).1
  have:=(p4 (cs:=cs) (ws:=b.map (·.1)) _ (ao _) q.2 (by rw[bG];exact this)).1
  rw[bG]at this
  exact this
 generalize nn.flatMap (sd ts ls x ps)=rs at rm yh RH tells
 have lrm:=bJ rm
 rw[aj]at yh
 refine lD fun N0 eN => ?_
 refine⟨_,rfl,_, "list",_,true,rfl,.lst hR,UI,_,rfl,iZ ?_⟩
 refine⟨_,rfl,R,_,rfl,.inl (bo.of hR),_,rfl,N,_,rfl,.inl (bo.of K8),rfl,_,rfl,iy (fun z=>absurd ?_ z) (fun _ => ?_)⟩
 ·rw[aj,aj,lrm,yh]
 subst eN
 dsimp only[Kj]
 -- row by row
 refine⟨_,rfl,N,_,rfl,.inl (bo.of K8),_,rfl,by omega,by rw[aj,aj];omega,?_⟩
 rw[bR,aj,aj]
 refine yf (lo:=0) (fun _ σ H'=>∃ Tv:Option V, σ = [some (.ref a),some (.int m),some (.ref l),some (.ref Ta),some (.ref E),some (.ref L),some (nV t),some v,some (.ref Db),some (.ref Tb),some (.ref N),qv,qu,some (.ref R),Tv]∧bz Z3 H') ⟨none,rfl,bz.refl _⟩ ?_ ?_
 ·rintro i σ H24 hi ⟨Tv,rfl,sm⟩
  have ei:(0:Int)+(i:Int)=((i:Nat):Int):=by omega
  rw[ei]
  dsimp only[bH]
  have hq:AZ[i]? = some AZ[i]:=ai hi
  generalize AZ[i]=qi at hq
  have di:=XX qi (aK hq)
  have kq:=aas qi (aK hq)
  obtain⟨r0,Bm⟩:∃ r0,rs[i]? = some r0:=⟨_,ai (by omega)⟩
  obtain⟨uv,YQ⟩:∃ uv,Yd[i]? = some uv:=⟨_,ai (by omega)⟩
  obtain⟨rw_,YT,pr,g,rfl,h1,h2⟩:=Paired.at rm YQ
  rw[Bm]at YT
  cases YT
  obtain⟨kr,vr⟩:=r0
  have rt:=tells _ (aK Bm)
  have Q2:=RH i _ _ Bm (by rw[aH,hq];rfl)
  dsimp only at h1 h2 rt Q2
  obtain⟨gq,ez',hgq⟩:=di.hz
  have Y2:∀ z,(look vr z).isSome=true↔(look b z).isSome=true:=fun z=>by rw[rt.oS,lo.oS]
  have Gu:=sm _ _ hR
  have ZM:ou Yd ((i:Nat):Int)=some (.ref pr):=a7 YQ
  have ZL:ou ((AZ.map (·.1)).map fun r=>V.ref r.p) ((i:Nat):Int)=some (.ref qi.1.p):=a7 (by rw[aH,aH,hq];rfl)
  refine⟨_,rfl,_,rfl,R,_,_,_,rfl,rfl,bo.of Gu,ZM,_,rfl,Db,_,rfl,.inl (sm _ _ UC.oq),fun W hW => ?_⟩
  rw[GK]
  obtain⟨H25,eH,s25,abi⟩:=alloc hW (.lst ((b.map (·.1)).map V.str))
  rw[eH]
  have BI:=sm.trans s25
  refine⟨_,rfl,pr,W,L,g,kr,vr,b.map (·.1),ls,rfl,⟨BI _ _ h1,BI _ _ h2,abi,BI _ _ UC.hL,by rw[aj];exact E7 rt.nk lo.nk Y2,fun y hy => ?_⟩,_,rfl,iZ ?_⟩
  ·have:=(Y2 y).mpr (gH.mpr hy)
   cases e:look vr y with
   | none=>rw[e]at this;cases this
   | some l=>exact⟨l,rfl,rt.pr y l e⟩
  have hc0:ou ((rQ qi.1.ns).map V.int) 0=some (nV kr):=a7 (j:=0) (by rw[di.ch, <- Q2,rt.ch];rfl)
  have Vd:=BI _ _ di.hp
  refine⟨_,rfl,_,rfl,R,_,_,_,rfl,rfl,bo.of (BI _ _ hR),ZM,_,rfl,_,rfl,N,_,_,_,rfl,rfl,bo.of (BI _ _ K8),ZL,qi.1.p,_,0,_,rfl,rfl,bY.of Vd,a7 (j:=0) rfl,qi.1.c,_,_,_,rfl,rfl,bo.of (BI _ _ di.hc),hc0,_,rfl,_,rfl,N,_,_,_,rfl,rfl,bo.of (BI _ _ K8),ZL,qi.1.p,_,1,_,rfl,rfl,bY.of Vd,a7 (j:=1) rfl,(show 2<=sizeLine by decide),fun tp Bk => ?_⟩
  rw[ez']
  obtain⟨H26,eH,s26,aaU⟩:=alloc Bk (.tup [nV kr,.ref gq])
  rw[eH]
  have Le:=BI.trans s26
  have FQ:∀ (d:Bd),∀ kv∈fe d,∃ n,kv.2=V.int n:=fun d kv tJ=>by
   obtain⟨p,_,rfl⟩:=bu.mp tJ
   exact⟨_,rfl⟩
  have XD:(qi.2.map (·.1)).Nodup:=by rw[kq];exact lo.nk
  refine⟨pr,tp,g,gq,_,fe vr,fe qi.2,rfl,rfl,Le _ _ h1,aaU,Le _ _ h2,Le _ _ hgq,FQ _,FQ _,⟨?_,fun kv tJ => ?_⟩,_,rfl,iZ ?_⟩
  ·unfold fe
   rw[aj,aj]
   exact E7 rt.nk XD fun z=>by rw[Q2]
  ·obtain⟨p,hp,rfl⟩:=bu.mp tJ
   rw[p5, <- Q2,Iy rt.nk hp];rfl
  exact⟨_,rfl,Le⟩
 ·rintro σ H24 ⟨Tv,rfl,_⟩
  exact q _
end
end aY
namespace aY
open PySem L2
theorem gY {n:Nat}{us:List Value} (h:us.length=n+1):∃ v vs,us=v :: vs∧vs.length=n:=by cases us with | nil=>cases h | cons v vs=>exact⟨v,vs,rfl,mJ h⟩
theorem gj {fd:FuncData}{ps:List Str} (h:∀ v0:Value,bindArgs fd ⟨[v0], []⟩=pure (ps.zip [v0])):∀ us:List Value,us.length=1->bindArgs fd ⟨us, []⟩=pure (ps.zip us):=fun us h0=>by obtain⟨v0,us,rfl,h1⟩:=gY h0;obtain rfl:=dU h1;exact h v0
open PySem L2 Sw
theorem gh {fd:FuncData}{ps:List Str} (h:∀ v0 v1:Value,bindArgs fd ⟨[v0,v1], []⟩=pure (ps.zip [v0,v1])):∀ us:List Value,us.length=2->bindArgs fd ⟨us, []⟩=pure (ps.zip us):=fun us h0=>by obtain⟨v0,us,rfl,h1⟩:=gY h0;obtain⟨v1,us,rfl,h2⟩:=gY h1;obtain rfl:=dU h2;exact h v0 v1
open PySem L2 Sw
theorem fH {fd:FuncData}{ps:List Str} (h:∀ v0 v1 v2:Value,bindArgs fd ⟨[v0,v1,v2], []⟩=pure (ps.zip [v0,v1,v2])):∀ us:List Value,us.length=3->bindArgs fd ⟨us, []⟩=pure (ps.zip us):=fun us h0=>by obtain⟨v0,us,rfl,h1⟩:=gY h0;obtain⟨v1,us,rfl,h2⟩:=gY h1;obtain⟨v2,us,rfl,h3⟩:=gY h2;obtain rfl:=dU h3;exact h v0 v1 v2
open PySem L2 Sw
theorem gg {fd:FuncData}{ps:List Str} (h:∀ v0 v1 v2 v3:Value,bindArgs fd ⟨[v0,v1,v2,v3], []⟩=pure (ps.zip [v0,v1,v2,v3])):∀ us:List Value,us.length=4->bindArgs fd ⟨us, []⟩=pure (ps.zip us):=fun us h0=>by obtain⟨v0,us,rfl,h1⟩:=gY h0;obtain⟨v1,us,rfl,h2⟩:=gY h1;obtain⟨v2,us,rfl,h3⟩:=gY h2;obtain⟨v3,us,rfl,h4⟩:=gY h3;obtain rfl:=dU h4;exact h v0 v1 v2 v3
open PySem L2 Sw
theorem gf {fd:FuncData}{ps:List Str} (h:∀ v0 v1 v2 v3 v4:Value,bindArgs fd ⟨[v0,v1,v2,v3,v4], []⟩=pure (ps.zip [v0,v1,v2,v3,v4])):∀ us:List Value,us.length=5->bindArgs fd ⟨us, []⟩=pure (ps.zip us):=fun us h0=>by obtain⟨v0,us,rfl,h1⟩:=gY h0;obtain⟨v1,us,rfl,h2⟩:=gY h1;obtain⟨v2,us,rfl,h3⟩:=gY h2;obtain⟨v3,us,rfl,h4⟩:=gY h3;obtain⟨v4,us,rfl,h5⟩:=gY h4;obtain rfl:=dU h5;exact h v0 v1 v2 v3 v4
open PySem L2 Sw
theorem gb {fd:FuncData}{ps:List Str} (h:∀ v0 v1 v2 v3 v4 v5 v6 v7:Value,bindArgs fd ⟨[v0,v1,v2,v3,v4,v5,v6,v7], []⟩=pure (ps.zip [v0,v1,v2,v3,v4,v5,v6,v7])):∀ us:List Value,us.length=8->bindArgs fd ⟨us, []⟩=pure (ps.zip us):=fun us h0=>by obtain⟨v0,us,rfl,h1⟩:=gY h0;obtain⟨v1,us,rfl,h2⟩:=gY h1;obtain⟨v2,us,rfl,h3⟩:=gY h2;obtain⟨v3,us,rfl,h4⟩:=gY h3;obtain⟨v4,us,rfl,h5⟩:=gY h4;obtain⟨v5,us,rfl,h6⟩:=gY h5;obtain⟨v6,us,rfl,h7⟩:=gY h6;obtain⟨v7,us,rfl,h8⟩:=gY h7;obtain rfl:=dU h8;exact h v0 v1 v2 v3 v4 v5 v6 v7
open PySem L2 Sw
theorem dm {K:ak}{x:Str}{st:Stmt}{ps:List Str}{f:Addr}{oc kV dc pm cd ct:Value}{od an:Option Addr}{sl:Array (Option Value)}{h:Heap}{mg:Str->Option Value} (X:K.In h) (G:h.Ns mainGlobals mg) (a:de K mainGlobals x=some (some (.ref f))) (l:K.lookup f=some ⟨oc,od,.func (dr x x (iG st) (eY st) (a6 st) .none kV dc pm an cd ct),sl⟩) (c:gP K cd x=true) (k:eZ K (.ref f)=true) (b:∀ (kV dc pm:Value) (an:Option Addr) (cd ct:Value) (us:List Value),us.length=ps.length->bindArgs (dr x x (iG st) (eY st) (a6 st) .none kV dc pm an cd ct) ⟨us, []⟩=pure (ps.zip us)):Def K mg x st ps:=⟨_,_,yd l c k,wX X G a,(yd l c k).binds b⟩
theorem ZH {K:ak}{x:Str}{st:Stmt}{ps:List Str}{f:Addr}{oc kV dc pm cd ct:Value}{od an:Option Addr}{sl:Array (Option Value)}{m:Str}{C:Addr} (a:cW K (.ref C) m=some (some (.ref f))) (l:K.lookup f=some ⟨oc,od,.func (dr m x (iG st) (eY st) (a6 st) .none kV dc pm an cd ct),sl⟩) (c:gP K cd x=true) (k:eZ K (.ref f)=true) (n:o7 K (.ref f)=true) (b:∀ (kV dc pm:Value) (an:Option Addr) (cd ct:Value) (us:List Value),us.length=ps.length->bindArgs (dr m x (iG st) (eY st) (a6 st) .none kV dc pm an cd ct) ⟨us, []⟩=pure (ps.zip us)):wC K C m x st ps:=⟨_,_,yd l c k,⟨a,n,k⟩,(yd l c k).binds b⟩
theorem all_mk {l:B6}{w:World}{K:ak}{h:Heap}{mg:Str->Option Value}{fa CM f8 Wv  : Addr} (X:K.In h) (G:h.Ns mainGlobals mg) (hfa:mg "law" = some (.ref fa))
  {od8 an8 aaF WU:Option Addr}{sl8 aat:Array (Option Value)}{oc8 kV8 dc8 pm8 ct8 ZI aaG UO WJ Ui WK:Value}
  {cT PT:Addr}
  (aC:de K mainGlobals "Matcher" = some (some (.ref CM)))
  (Hl:Def K mg "mark" AX ["term", "leads"])
  (qh:Def K mg "join_classes" pT ["leads", "a", "b"])
  (uz:Def K mg "join_like" ub ["terms", "leads"])
  (AM:Def K mg "closed" Ad ["terms", "edges"])
  (Dl:Def K mg "marks" Cz ["terms", "leads"])
  (Dj:Def K mg "nodes" Cw ["terms", "leads"])
  (yN:Def K mg "matches" xu ["terms", "leads", "left"])
  (qg:Def K mg "node_numbers" pR ["terms", "leads"])
  (a8:cW K (.ref CM) "__init__" = some (some (.ref f8)))
  (l8:K.lookup f8=some ⟨oc8,od8,.func (dr "__init__" "Matcher.__init__" (iG pS) (eY pS) (a6 pS) .none kV8 dc8 pm8 an8 ZI ct8),sl8⟩)
  (c8:gP K ZI "Matcher.__init__" = true)
  (k8:eZ K (.ref f8)=true)
  (n8:o7 K (.ref f8)=true)
  (qt:wC K CM "term_ways" "Matcher.term_ways" ql ["self", "k", "pattern", "binds"])
  (sV:wC K CM "class_ways" "Matcher.class_ways" oI ["self", "lead", "pattern", "binds"])
  (uA:Def K mg "hole_ways" uc ["lead", "hole", "binds"])
  (yP:Def K mg "_law_cell_at" xw ["_law_script", "_law_k"])
  (Dk:Def K mg "_law_mixed" Cy ["_law_cell", "_law_k"])
  (Hh:Def K mg "_law_word" E8 ["_law_m"])
  (AL:Def K mg "_law_number" Ac ["_law_cell", "_law_m"])
  (Hk:Def K mg "_law_pool" Fc ["_law_m"])
  (Hi:Def K mg "_law_term" E9 ["_law_cell", "_law_m", "_law_terms_here", "_law_pool_here"])
  (Dh:Def K mg "_law_terms" y1 ["_law_cells", "_law_pool_here", "_law_most", "_law_ties"])
  (Hn:Def K mg "_law_hole" Fe ["_law_base", "_law_at", "_law_turn_by", "_law_many", "_law_lead"])
  (yO:Def K mg "_law_general" tD ["_law_terms_here", "_law_leads", "_law_t", "_law_picks", "_law_binds", "_law_room", "_law_base", "_law_mode"])
  (Hm:Def K mg "_law_left" xv ["_law_script", "_law_terms_here", "_law_leads", "_law_pool_here", "_law_mode"])
  (Dm:Def K mg "_law_mark" y3 ["_law_term_here", "_law_leads"])
  (Di:Def K mg "_law_table" Cv ["_law_terms_here", "_law_leads"])
  (Hj:Def K mg "_law_spot" Fb ["_law_table_here", "_law_leads", "_law_pattern", "_law_binds", "_law_chosen"])
  (wD:Def K mg "_law_is_match" vG ["_law_row", "_law_words", "_law_leads"])
  (wF:Def K mg "_law_fillings" vH ["_law_words", "_law_classes"])
  (WV:de K mainGlobals "law" = some (some (.ref Wv)))
  (UG:K.lookup Wv=some ⟨aaG,aaF,.func (dr "law" "law" (iG lT) (eY lT) (a6 lT) .none UO WJ Ui WU (.ref cT) WK),aat⟩)
  (WQ:gP K (.ref cT) "law" = true)
  (YI:eZ K (.ref Wv)=true)
  (Ua:tT K CM=true)
  (Ub:eZ K (.ref CM)=true)
  (T9:kW K CM Str.empty=true)
  (Uc:nc K CM=true)
  (T8:rp K CM=true)
  (T7:cW K (.ref CM) "__setattr__" = some (some (.builtin "object.__setattr__")))
  (Ae:cW K (.ref CM) "terms" = some none)
  (Ag:cW K (.ref CM) "leads" = some none)
  (Af:cW K (.ref CM) "table" = some none)
  (Ah:cW K (.ref CM) "heads" = some none)
  (z0:de K mainGlobals "len" = some none)
  (z1:de K mainGlobals "min" = some none)
  (z2:de K mainGlobals "max" = some none)
  (z3:de K mainGlobals "sum" = some none)
  (z4:de K mainGlobals "range" = some none)
  (z5:de K mainGlobals "enumerate" = some none)
  (z6:de K mainGlobals "isinstance" = some none)
  (z7:de K mainGlobals "tuple" = some none)
  (z8:de K mainGlobals "int" = some none)
  (z9:de K mainGlobals "bool" = some none)
  (HH:de K mainGlobals "str" = some none)
  (HG:de K mainGlobals "list" = some none)
  (Qt:de K mainGlobals "dict" = some none)
  (Tu:de K mainGlobals "zip" = some none)
  (Tt:de K mainGlobals "sorted" = some none) :
  ∃ fd:FuncData,(∀ (s:Shared) (v:Value),BindsTo s fd ⟨[v], []⟩ [("_law_script",v)])∧∀ base:Heap,K.In base->base.Ns mainGlobals mg->TabAt base mg cT PT->mS l.prog w K mg base yU 11 fa fd ["_law_script"] (Es PT K):=by
 have e:=hfa.symm.trans (wX X G WV)
 cases e
 have B:nG mg:=⟨cD X G z0,cD X G z1,cD X G z2,cD X G z3,cD X G z4,cD X G z5,cD X G z6,cD X G z7,cD X G z8,cD X G z9,cD X G HH,cD X G HG⟩
 have oY:=cD X G Qt
 have wm:=cD X G Tu
 have nR:=cD X G Tt
 have Z:zi K mg CM:=⟨⟨T9,Uc,T8,T7⟩,Ae,Ag,Af,Ah⟩
 have Ke:=yd (st:=pS) l8 c8 k8
 have Tq:Lu K mg "Matcher" CM "Matcher.__init__" pS ["self", "terms", "leads"]:=⟨_,_,Ke,wX X G aC,⟨Ua,a8,n8,Ub⟩,Ke.binds fun _ _ _ _ _ _ us hl=>fH (fun _ _ _=>rfl) us hl⟩
 refine⟨dr "law" "law" (iG lT) (eY lT) (a6 lT) .none UO WJ Ui WU (.ref cT) WK,fun s v => .of_eq rfl,fun base _ _ TB => ?_⟩
 have oQ:=SJ (P:=l.prog) (w:=w) (base:=base) B Hl
 have jr:=A9 (P:=l.prog) (w:=w) (base:=base) B qh
 have uh:=Ft B oQ jr uz
 have Au:=Mp B jr uh AM
 have CW:=Pa B oQ Dl
 have rN:=O7 B oQ Dj
 have pX:=A8 nR rN qg
 have Gn:=O9 Z CW rN Tq
 have lI:=Fu (P:=l.prog) (w:=w) (base:=base) oY uA
 have sj:=Io B wm Z lI sV qt 3
 have nC:=xI (n:=3) B wm Z sj qt
 have xY:=KD Z Gn pX nC yN
 have kI:=KG (P:=l.prog) (w:=w) (base:=base) B yP
 have lH:=O8 (P:=l.prog) (w:=w) (base:=base) Dk
 have Gi:=SH (P:=l.prog) (w:=w) (base:=base) Hh
 have As:=Mo (P:=l.prog) (w:=w) (base:=base) AL
 have Gk:=SI B Gi Hk
 have Gj:=O5 B As Hi
 have CU:=O4 B lH Gj Dh
 have BA:=SM (P:=l.prog) (w:=w) (base:=base) Hn
 have qJ:=Bb B BA yO 3
 have Gm:=SK B kI lH qJ Hm
 have CY:=Pb (P:=l.prog) (w:=w) (base:=base) B Dm
 have CV:=O6 B CY Di
 have xX:=Ip (P:=l.prog) (w:=w) (base:=base) B Hj 4
 have vX:=Hv (P:=l.prog) (w:=w) (base:=base) B oY wD
 have vY:=Hw (P:=l.prog) (w:=w) (base:=base) oY wF
 exact Uu TB B nR kI lH Gk CU Au Gm CV vY xY xX vX UG WQ
theorem walk {l:B6}{q:Program}{loose:List Str}{XP:(Str->Option Value)->Heap->Prop}{YP:World->Heap->Prop}{d dC:DefRec}{K:Params->ak}{c P:Addr} (hn:l.most=some 63) (VB:d.params.defaults = [])
  (hY:∀ (w:World) (h:Heap),YP w h->(K w.params).In h)
  (Gr:(PyProof.Rows.recsOf q).find? (fun e=>e.name == ("law" : Str))=some dC) (Gq:∀ w:World,PySem.W.tabIn (K w.params) "law" = some (c,P)) (zG:∀ w:World,PySem.W.noTabs (K w.params)=true)
  (F:∀ (w:World) (mg:Str->Option Value) (fa:Addr) (h:Heap),(K w.params).In h->h.Ns mainGlobals mg->mg d.name=some (.ref fa) ->
   ∃ fd:FuncData,(∀ (s:Shared) (u:Value),BindsTo s fd ⟨[u], []⟩ [("_law_script",u)])∧∀ base:Heap,(K w.params).In base->base.Ns mainGlobals mg->TabAt base mg c P->mS l.prog w (K w.params) mg base yU 11 fa fd ["_law_script"] (Es P (K w.params))) :
  PySem.W.WalkO q loose XP YP l.row.toRowW d [] (fun f vs=>PySem.call f vs) :=
 L2.OA (n:=63) (k:=11) (x := "_law_script") (xT := "law") (CX:=fun _=>yU) (sp:=fun w=>Es P (K w.params)) hn (by decide) VB ⟨rfl,by decide,by decide⟩ hY Gr Gq zG F (fun _ _ a ns hl hb hS hP=>⟨a,ns,rfl,hS,hl,hP,fun _=>rfl⟩) fun _ _ _ _ _ z=>z
end aY
end
open PySem PySem.W PyProof.Rows
set_option maxRecDepth 100000 in
set_option maxHeartbeats 0 in
theorem PySem.Challenge.cw_samewise_k46_whole_matches_holds : PySem.Challenge.rw_samewise_k46_whole_matches.Holds := by
 refine ZZ.top ?_
 k_fill
 refine' aY.walk (l:=PySem.Challenge.rw_samewise_k46_whole_matches) (c:=211) (P:=209) rfl rfl (fun w h Y=>PySem.W.km_in_of Y) ?Gr ?Gq ?hNo ?F
 case Gr=>exact rfl
 case Gq=>intro w;kernel_rfl
 case hNo=>intro w;kernel_rfl
 case F =>
  intro w mg fa h KX G Br
  refine' aY.all_mk KX G Br ?aC ?Hl ?qh ?uz ?AM ?Dl ?Dj ?yN ?qg ?a8 ?l8 ?c8 ?k8 ?n8 ?qt ?sV ?uA ?yP ?Dk ?Hh ?AL ?Hk ?Hi ?Dh ?Hn ?yO ?Hm ?Dm ?Di ?Hj ?wD ?wF ?WV ?UG ?WQ ?YI ?Ua ?Ub ?T9 ?Uc ?T8 ?T7 ?Ae ?Ag ?Af ?Ah ?z0 ?z1 ?z2 ?z3 ?z4 ?z5 ?z6 ?z7 ?z8 ?z9 ?HH ?HG ?Qt ?Tu ?Tt
  (case aC=>k_is)
  (case Hl=>(refine' aY.dm KX G ?a ?l ?c ?k ?b; (case a=>k_is); (case l=>k_is); (case c=>k_is); (case k=>k_is); (case b=>(intro _ _ _ _ _ _ us hl;first | exact aY.gj (fun _=>rfl) us hl | exact aY.gh (fun _ _=>rfl) us hl | exact aY.fH (fun _ _ _=>rfl) us hl | exact aY.gg (fun _ _ _ _=>rfl) us hl | exact aY.gf (fun _ _ _ _ _=>rfl) us hl | exact aY.gb (fun _ _ _ _ _ _ _ _=>rfl) us hl))))
  (case qh=>(refine' aY.dm KX G ?a ?l ?c ?k ?b; (case a=>k_is); (case l=>k_is); (case c=>k_is); (case k=>k_is); (case b=>(intro _ _ _ _ _ _ us hl;first | exact aY.gj (fun _=>rfl) us hl | exact aY.gh (fun _ _=>rfl) us hl | exact aY.fH (fun _ _ _=>rfl) us hl | exact aY.gg (fun _ _ _ _=>rfl) us hl | exact aY.gf (fun _ _ _ _ _=>rfl) us hl | exact aY.gb (fun _ _ _ _ _ _ _ _=>rfl) us hl))))
  (case uz=>(refine' aY.dm KX G ?a ?l ?c ?k ?b; (case a=>k_is); (case l=>k_is); (case c=>k_is); (case k=>k_is); (case b=>(intro _ _ _ _ _ _ us hl;first | exact aY.gj (fun _=>rfl) us hl | exact aY.gh (fun _ _=>rfl) us hl | exact aY.fH (fun _ _ _=>rfl) us hl | exact aY.gg (fun _ _ _ _=>rfl) us hl | exact aY.gf (fun _ _ _ _ _=>rfl) us hl | exact aY.gb (fun _ _ _ _ _ _ _ _=>rfl) us hl))))
  (case AM=>(refine' aY.dm KX G ?a ?l ?c ?k ?b; (case a=>k_is); (case l=>k_is); (case c=>k_is); (case k=>k_is); (case b=>(intro _ _ _ _ _ _ us hl;first | exact aY.gj (fun _=>rfl) us hl | exact aY.gh (fun _ _=>rfl) us hl | exact aY.fH (fun _ _ _=>rfl) us hl | exact aY.gg (fun _ _ _ _=>rfl) us hl | exact aY.gf (fun _ _ _ _ _=>rfl) us hl | exact aY.gb (fun _ _ _ _ _ _ _ _=>rfl) us hl))))
  (case Dl=>(refine' aY.dm KX G ?a ?l ?c ?k ?b; (case a=>k_is); (case l=>k_is); (case c=>k_is); (case k=>k_is); (case b=>(intro _ _ _ _ _ _ us hl;first | exact aY.gj (fun _=>rfl) us hl | exact aY.gh (fun _ _=>rfl) us hl | exact aY.fH (fun _ _ _=>rfl) us hl | exact aY.gg (fun _ _ _ _=>rfl) us hl | exact aY.gf (fun _ _ _ _ _=>rfl) us hl | exact aY.gb (fun _ _ _ _ _ _ _ _=>rfl) us hl))))
  (case Dj=>(refine' aY.dm KX G ?a ?l ?c ?k ?b; (case a=>k_is); (case l=>k_is); (case c=>k_is); (case k=>k_is); (case b=>(intro _ _ _ _ _ _ us hl;first | exact aY.gj (fun _=>rfl) us hl | exact aY.gh (fun _ _=>rfl) us hl | exact aY.fH (fun _ _ _=>rfl) us hl | exact aY.gg (fun _ _ _ _=>rfl) us hl | exact aY.gf (fun _ _ _ _ _=>rfl) us hl | exact aY.gb (fun _ _ _ _ _ _ _ _=>rfl) us hl))))
  (case yN=>(refine' aY.dm KX G ?a ?l ?c ?k ?b; (case a=>k_is); (case l=>k_is); (case c=>k_is); (case k=>k_is); (case b=>(intro _ _ _ _ _ _ us hl;first | exact aY.gj (fun _=>rfl) us hl | exact aY.gh (fun _ _=>rfl) us hl | exact aY.fH (fun _ _ _=>rfl) us hl | exact aY.gg (fun _ _ _ _=>rfl) us hl | exact aY.gf (fun _ _ _ _ _=>rfl) us hl | exact aY.gb (fun _ _ _ _ _ _ _ _=>rfl) us hl))))
  (case qg=>(refine' aY.dm KX G ?a ?l ?c ?k ?b; (case a=>k_is); (case l=>k_is); (case c=>k_is); (case k=>k_is); (case b=>(intro _ _ _ _ _ _ us hl;first | exact aY.gj (fun _=>rfl) us hl | exact aY.gh (fun _ _=>rfl) us hl | exact aY.fH (fun _ _ _=>rfl) us hl | exact aY.gg (fun _ _ _ _=>rfl) us hl | exact aY.gf (fun _ _ _ _ _=>rfl) us hl | exact aY.gb (fun _ _ _ _ _ _ _ _=>rfl) us hl))))
  (case a8=>k_is)
  (case l8=>k_is)
  (case c8=>k_is)
  (case k8=>k_is)
  (case n8=>k_is)
  (case qt=>(refine' aY.ZH ?a ?l ?c ?k ?n ?b; (case a=>k_is); (case l=>k_is); (case c=>k_is); (case k=>k_is); (case n=>k_is); (case b=>(intro _ _ _ _ _ _ us hl;first | exact aY.gj (fun _=>rfl) us hl | exact aY.gh (fun _ _=>rfl) us hl | exact aY.fH (fun _ _ _=>rfl) us hl | exact aY.gg (fun _ _ _ _=>rfl) us hl | exact aY.gf (fun _ _ _ _ _=>rfl) us hl | exact aY.gb (fun _ _ _ _ _ _ _ _=>rfl) us hl))))
  (case sV=>(refine' aY.ZH ?a ?l ?c ?k ?n ?b; (case a=>k_is); (case l=>k_is); (case c=>k_is); (case k=>k_is); (case n=>k_is); (case b=>(intro _ _ _ _ _ _ us hl;first | exact aY.gj (fun _=>rfl) us hl | exact aY.gh (fun _ _=>rfl) us hl | exact aY.fH (fun _ _ _=>rfl) us hl | exact aY.gg (fun _ _ _ _=>rfl) us hl | exact aY.gf (fun _ _ _ _ _=>rfl) us hl | exact aY.gb (fun _ _ _ _ _ _ _ _=>rfl) us hl))))
  (case uA=>(refine' aY.dm KX G ?a ?l ?c ?k ?b; (case a=>k_is); (case l=>k_is); (case c=>k_is); (case k=>k_is); (case b=>(intro _ _ _ _ _ _ us hl;first | exact aY.gj (fun _=>rfl) us hl | exact aY.gh (fun _ _=>rfl) us hl | exact aY.fH (fun _ _ _=>rfl) us hl | exact aY.gg (fun _ _ _ _=>rfl) us hl | exact aY.gf (fun _ _ _ _ _=>rfl) us hl | exact aY.gb (fun _ _ _ _ _ _ _ _=>rfl) us hl))))
  (case yP=>(refine' aY.dm KX G ?a ?l ?c ?k ?b; (case a=>k_is); (case l=>k_is); (case c=>k_is); (case k=>k_is); (case b=>(intro _ _ _ _ _ _ us hl;first | exact aY.gj (fun _=>rfl) us hl | exact aY.gh (fun _ _=>rfl) us hl | exact aY.fH (fun _ _ _=>rfl) us hl | exact aY.gg (fun _ _ _ _=>rfl) us hl | exact aY.gf (fun _ _ _ _ _=>rfl) us hl | exact aY.gb (fun _ _ _ _ _ _ _ _=>rfl) us hl))))
  (case Dk=>(refine' aY.dm KX G ?a ?l ?c ?k ?b; (case a=>k_is); (case l=>k_is); (case c=>k_is); (case k=>k_is); (case b=>(intro _ _ _ _ _ _ us hl;first | exact aY.gj (fun _=>rfl) us hl | exact aY.gh (fun _ _=>rfl) us hl | exact aY.fH (fun _ _ _=>rfl) us hl | exact aY.gg (fun _ _ _ _=>rfl) us hl | exact aY.gf (fun _ _ _ _ _=>rfl) us hl | exact aY.gb (fun _ _ _ _ _ _ _ _=>rfl) us hl))))
  (case Hh=>(refine' aY.dm KX G ?a ?l ?c ?k ?b; (case a=>k_is); (case l=>k_is); (case c=>k_is); (case k=>k_is); (case b=>(intro _ _ _ _ _ _ us hl;first | exact aY.gj (fun _=>rfl) us hl | exact aY.gh (fun _ _=>rfl) us hl | exact aY.fH (fun _ _ _=>rfl) us hl | exact aY.gg (fun _ _ _ _=>rfl) us hl | exact aY.gf (fun _ _ _ _ _=>rfl) us hl | exact aY.gb (fun _ _ _ _ _ _ _ _=>rfl) us hl))))
  (case AL=>(refine' aY.dm KX G ?a ?l ?c ?k ?b; (case a=>k_is); (case l=>k_is); (case c=>k_is); (case k=>k_is); (case b=>(intro _ _ _ _ _ _ us hl;first | exact aY.gj (fun _=>rfl) us hl | exact aY.gh (fun _ _=>rfl) us hl | exact aY.fH (fun _ _ _=>rfl) us hl | exact aY.gg (fun _ _ _ _=>rfl) us hl | exact aY.gf (fun _ _ _ _ _=>rfl) us hl | exact aY.gb (fun _ _ _ _ _ _ _ _=>rfl) us hl))))
  (case Hk=>(refine' aY.dm KX G ?a ?l ?c ?k ?b; (case a=>k_is); (case l=>k_is); (case c=>k_is); (case k=>k_is); (case b=>(intro _ _ _ _ _ _ us hl;first | exact aY.gj (fun _=>rfl) us hl | exact aY.gh (fun _ _=>rfl) us hl | exact aY.fH (fun _ _ _=>rfl) us hl | exact aY.gg (fun _ _ _ _=>rfl) us hl | exact aY.gf (fun _ _ _ _ _=>rfl) us hl | exact aY.gb (fun _ _ _ _ _ _ _ _=>rfl) us hl))))
  (case Hi=>(refine' aY.dm KX G ?a ?l ?c ?k ?b; (case a=>k_is); (case l=>k_is); (case c=>k_is); (case k=>k_is); (case b=>(intro _ _ _ _ _ _ us hl;first | exact aY.gj (fun _=>rfl) us hl | exact aY.gh (fun _ _=>rfl) us hl | exact aY.fH (fun _ _ _=>rfl) us hl | exact aY.gg (fun _ _ _ _=>rfl) us hl | exact aY.gf (fun _ _ _ _ _=>rfl) us hl | exact aY.gb (fun _ _ _ _ _ _ _ _=>rfl) us hl))))
  (case Dh=>(refine' aY.dm KX G ?a ?l ?c ?k ?b; (case a=>k_is); (case l=>k_is); (case c=>k_is); (case k=>k_is); (case b=>(intro _ _ _ _ _ _ us hl;first | exact aY.gj (fun _=>rfl) us hl | exact aY.gh (fun _ _=>rfl) us hl | exact aY.fH (fun _ _ _=>rfl) us hl | exact aY.gg (fun _ _ _ _=>rfl) us hl | exact aY.gf (fun _ _ _ _ _=>rfl) us hl | exact aY.gb (fun _ _ _ _ _ _ _ _=>rfl) us hl))))
  (case Hn=>(refine' aY.dm KX G ?a ?l ?c ?k ?b; (case a=>k_is); (case l=>k_is); (case c=>k_is); (case k=>k_is); (case b=>(intro _ _ _ _ _ _ us hl;first | exact aY.gj (fun _=>rfl) us hl | exact aY.gh (fun _ _=>rfl) us hl | exact aY.fH (fun _ _ _=>rfl) us hl | exact aY.gg (fun _ _ _ _=>rfl) us hl | exact aY.gf (fun _ _ _ _ _=>rfl) us hl | exact aY.gb (fun _ _ _ _ _ _ _ _=>rfl) us hl))))
  (case yO=>(refine' aY.dm KX G ?a ?l ?c ?k ?b; (case a=>k_is); (case l=>k_is); (case c=>k_is); (case k=>k_is); (case b=>(intro _ _ _ _ _ _ us hl;first | exact aY.gj (fun _=>rfl) us hl | exact aY.gh (fun _ _=>rfl) us hl | exact aY.fH (fun _ _ _=>rfl) us hl | exact aY.gg (fun _ _ _ _=>rfl) us hl | exact aY.gf (fun _ _ _ _ _=>rfl) us hl | exact aY.gb (fun _ _ _ _ _ _ _ _=>rfl) us hl))))
  (case Hm=>(refine' aY.dm KX G ?a ?l ?c ?k ?b; (case a=>k_is); (case l=>k_is); (case c=>k_is); (case k=>k_is); (case b=>(intro _ _ _ _ _ _ us hl;first | exact aY.gj (fun _=>rfl) us hl | exact aY.gh (fun _ _=>rfl) us hl | exact aY.fH (fun _ _ _=>rfl) us hl | exact aY.gg (fun _ _ _ _=>rfl) us hl | exact aY.gf (fun _ _ _ _ _=>rfl) us hl | exact aY.gb (fun _ _ _ _ _ _ _ _=>rfl) us hl))))
  (case Dm=>(refine' aY.dm KX G ?a ?l ?c ?k ?b; (case a=>k_is); (case l=>k_is); (case c=>k_is); (case k=>k_is); (case b=>(intro _ _ _ _ _ _ us hl;first | exact aY.gj (fun _=>rfl) us hl | exact aY.gh (fun _ _=>rfl) us hl | exact aY.fH (fun _ _ _=>rfl) us hl | exact aY.gg (fun _ _ _ _=>rfl) us hl | exact aY.gf (fun _ _ _ _ _=>rfl) us hl | exact aY.gb (fun _ _ _ _ _ _ _ _=>rfl) us hl))))
  (case Di=>(refine' aY.dm KX G ?a ?l ?c ?k ?b; (case a=>k_is); (case l=>k_is); (case c=>k_is); (case k=>k_is); (case b=>(intro _ _ _ _ _ _ us hl;first | exact aY.gj (fun _=>rfl) us hl | exact aY.gh (fun _ _=>rfl) us hl | exact aY.fH (fun _ _ _=>rfl) us hl | exact aY.gg (fun _ _ _ _=>rfl) us hl | exact aY.gf (fun _ _ _ _ _=>rfl) us hl | exact aY.gb (fun _ _ _ _ _ _ _ _=>rfl) us hl))))
  (case Hj=>(refine' aY.dm KX G ?a ?l ?c ?k ?b; (case a=>k_is); (case l=>k_is); (case c=>k_is); (case k=>k_is); (case b=>(intro _ _ _ _ _ _ us hl;first | exact aY.gj (fun _=>rfl) us hl | exact aY.gh (fun _ _=>rfl) us hl | exact aY.fH (fun _ _ _=>rfl) us hl | exact aY.gg (fun _ _ _ _=>rfl) us hl | exact aY.gf (fun _ _ _ _ _=>rfl) us hl | exact aY.gb (fun _ _ _ _ _ _ _ _=>rfl) us hl))))
  (case wD=>(refine' aY.dm KX G ?a ?l ?c ?k ?b; (case a=>k_is); (case l=>k_is); (case c=>k_is); (case k=>k_is); (case b=>(intro _ _ _ _ _ _ us hl;first | exact aY.gj (fun _=>rfl) us hl | exact aY.gh (fun _ _=>rfl) us hl | exact aY.fH (fun _ _ _=>rfl) us hl | exact aY.gg (fun _ _ _ _=>rfl) us hl | exact aY.gf (fun _ _ _ _ _=>rfl) us hl | exact aY.gb (fun _ _ _ _ _ _ _ _=>rfl) us hl))))
  (case wF=>(refine' aY.dm KX G ?a ?l ?c ?k ?b; (case a=>k_is); (case l=>k_is); (case c=>k_is); (case k=>k_is); (case b=>(intro _ _ _ _ _ _ us hl;first | exact aY.gj (fun _=>rfl) us hl | exact aY.gh (fun _ _=>rfl) us hl | exact aY.fH (fun _ _ _=>rfl) us hl | exact aY.gg (fun _ _ _ _=>rfl) us hl | exact aY.gf (fun _ _ _ _ _=>rfl) us hl | exact aY.gb (fun _ _ _ _ _ _ _ _=>rfl) us hl))))
  (case WV=>k_is)
  (case UG=>k_is)
  (case WQ=>k_is)
  (case YI=>k_is)
  (case Ua=>k_is)
  (case Ub=>k_is)
  (case T9=>k_is)
  (case Uc=>k_is)
  (case T8=>k_is)
  (case T7=>k_is)
  (case Ae=>k_is)
  (case Ag=>k_is)
  (case Af=>k_is)
  (case Ah=>k_is)
  (case z0=>k_is)
  (case z1=>k_is)
  (case z2=>k_is)
  (case z3=>k_is)
  (case z4=>k_is)
  (case z5=>k_is)
  (case z6=>k_is)
  (case z7=>k_is)
  (case z8=>k_is)
  (case z9=>k_is)
  (case HH=>k_is)
  (case HG=>k_is)
  (case Qt=>k_is)
  (case Tu=>k_is)
  (case Tt=>k_is)
#print axioms PySem.Challenge.cw_samewise_k46_whole_matches_holds
