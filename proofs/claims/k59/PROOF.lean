import PyProof.Rows.All
import Wide.All
import OpenK.AllK
import Wide.FinOn
import Lean
import PyProof.EqAt
import PyProof.EqKinds
import PyProof.TupleCall
import KE.KTryMore
import KE.KIntText
import KE.RegKTryMore
import PySem.Challenge.RW_samewise_k59_sums_known
set_option Elab.async false
set_option linter.all false
open Array renaming length_toList → a8, toList_push → dr, toList_append → dw, toList_extract → gB, mk → jt, extract_eq_empty_of_le → ju, perm_iff_toList_perm → jL, getElem?_eq_some_iff → jM, toList_reverse → nv, getElem?_setIfInBounds_ne → qC, eq_empty_of_size_eq_zero → rB, forIn_toList → uq, toList_setIfInBounds → uA, getElem?_toList → yO, append_empty → B1, append_assoc → B6, toList_inj → EE
open Array.Perm renaming refl → Gy
open Bool renaming false_ne_true → bW, false_eq_true → ft, and_eq_true → fA, and_eq_true_iff → gA, false_and → j3, eq_iff_iff → lp, not_true → nN, true_and → uz, eq_false_iff → uJ, and_false → yN, and_self → Ah, true_or → B0, or_eq_true → Gx
open Classical renaming propDecidable → pG
open False renaming elim → eW
open ForInStep renaming yield → oA
open Int renaming toNat_natCast → b6, le_refl → gP, le_trans → iO, emod_lt_of_pos → jC, emod_nonneg → lh, toNat → IY
open List renaming getElem?_eq_getElem → ah, getElem?_eq_some_iff → ai, length_map → aq, getElem?_map → aD, length_append → aG, mem_cons_of_mem → aK, map_cons → aL, getD_eq_getElem?_getD → aN, mem_of_getElem? → aP, mem_cons_self → aT, size_toArray → aX, append_assoc → aZ, mem_append_right → bg, mem_cons → bo, mem_singleton → bq, replicate → bz, range → bB, length_take → bO, mem_append → bX, getElem?_eq_none → b5, length_cons → b8, mem_map → cM, mem_append_left → cO, length_range → da, mem_range → di, getElem?_append_right → dk, take_append_drop → dv, take_add_one → dD, mem_map_of_mem → dJ, map_congr_left → dM, filterMap_cons → dN, ext_getElem? → dP, nodup_cons → dW, map_append → dX, take_length → d0, mem_singleton_self → d6, mem_filterMap → eC, append_nil → eJ, mem_filter → eU, map_nil → eV, getElem?_append_left → eZ, eq_nil_of_length_eq_zero → e9, find?_cons → fj, take_of_length_le → fH, getElem?_range → fO, mem_of_mem_take → gy, lookup_cons → gX, cons_append → gY, filterMap_append → hV, length → ie, length_filterMap_le → iM, filterMap_cons_none → iN, flatten_cons → iQ, sum_cons → iR, length_eq_zero_iff → iW, replicate_succ → ja, prefix_refl → jr, map_map → jB, nil_append → jF, length_replicate → jG, getElem?_of_mem → jX, length_drop → ke, getElem?_take_of_lt → kf, filterMap_cons_some → kg, any_cons → kF, nodup_append → lO, take_zero → mq, nodup_nil → mv, mem_of_mem_head? → mw, mem_iff_getElem? → my, length_singleton → mz, getElem_mem → nh, any_eq_true → nj, all_eq_true → nq, lookup → nW, reverse_append → n5, range_succ → ou, pairwise_iff_getElem → ow, mem_of_find?_eq_some → ox, getElem?_replicate → pD, eraseIdx_cons_succ → pF, foldl_append → pK, flatMap_cons → pM, mem_reverse → qp, perm_append_comm → qB, mem_of_mem_drop → rh, extract → rj, countP_eq_length_filter → tE, getElem?_drop → ug, take_sublist → uG, drop_eq_getElem_cons → uU, nodup_range → wz, pairwise_singleton → wH, of_mem_zip → xm, getElem?_set_self → xR, drop_eq_nil_of_le → xS, length_filter_le → yz, countP_le_length → yA, pairwise_append → zK, getElem?_set_ne → zL, flatMap_append → Ai, pairwise_cons → BQ, getElem?_take → BR, filter_append → BS, filterMap_nil → BU, reverse_cons → CQ, getElem_take → CT, getElem?_set → CU, map_id → Dq, perm_middle → Ex, isEmpty_iff → Ey, getElem_inj → Ez, countP_cons → EA, length_nil → Gg, idxOf_cons → Gh, foldl_cons → Gi, foldl → Gj, drop_zero → Hx
open List.Pairwise renaming filter → rk, nil → uH, sublist → yB
open List.Perm renaming append_left → gf, append_right → lD, trans → oy, refl → tF, of_eq → Gk
open List.cons renaming injEq → kZ
open Nat renaming le_refl → aA, zero_le → bD, lt_of_lt_of_le → cm, le_trans → cA, ne_of_lt → cU, zero_add → eO, le_of_eq → eP, lt_irrefl → eT, not_lt_zero → iL, add_assoc → jJ, lt_succ_of_lt → jP, min_eq_right → kc, lt_succ_self → kd, add_sub_cancel_left → ky, testBit_and → kX, min_eq_left → kY, le_succ → lC, le_total → mj, max_eq_right → ng, max_eq_left → oq, lt_succ_iff_lt_or_eq → oU, lt_of_le_of_lt → oW, ne_of_gt → qZ, lt_or_ge → q8, le_of_lt → rb, add_zero → rf, eq_zero_or_pos → uf, le_succ_of_le → uF, succ_le_succ → wo, sub_zero → wq, sub_self → wu, pow_le_pow_right → zI, eq_of_testBit_eq → zJ, lt_trichotomy → CP, two_pow_pos → Gf
open Ne renaming symm → bV
open Option renaming map_eq_some_iff → b7, isSome_iff_exists → gi, isSome_map → lM, map_some → qY, isNone → Ad, getD_none → Et
open Option.some renaming inj → aE
open Or renaming inl → aQ
open Prod.mk renaming injEq → Jo
open PyProof.Rows renaming K → aj, callWith_type1 → jA
open PyProof.Rows.SortSt renaming mk' → fV
open PySem renaming boot_len → bC, mem_of_lookup → ki, Within → wk
open PySem.Around renaming under → B7
open PySem.Builtin renaming bitNot → dY, bitAnd → fJ, bitOr → p4
open PySem.Builtin.Builtins renaming bindParams → um
open PySem.Builtin.Int renaming intBits → rR
open PySem.Builtin.List renaming listTooLong → kh
open PySem.Builtin.Range renaming rangeSize → wI
open PySem.Builtin.Str renaming strSliceIndices → uk
open PySem.Builtin.Tuple renaming tupleHashOf → fW
open PySem.Calls renaming spliced_cons → fq, callWith_builtin → gQ, spliced_nil → jQ, evalArgs_plain → jY, Name_function_global → uy
open PySem.Challenge renaming rw_samewise_k59_sums_known → ay, pw_samewise_k59_sums_known → mi
open PySem.Code renaming isFrame → BZ
open PySem.EntryCells renaming newEntry → Aj
open PySem.F renaming plainAttrs_list → cj, type_list_append → cR, slot_list_append → cT, plainAttrs_dict → iV, slot_dict_setdefault → jq, slot_dict_get → jE, type_list_extend → oR, slot_list_extend → oS, slot_tuple_hash → pN, entry_dict_get → pS, args_dict_setdefault_3 → qX, entry_dict_setdefault → rD, type_dict_setdefault → tD, slot_dict_getitem → uT, slot_dict_values → wm, args_dict_get_3 → wG, type_dict_get → yw
open PySem.Heap renaming get?_push_of_some → aU, lt_size → br, get?_push_size → bZ, SameBut → fF, get?_update_other → fI, get?_update_self → mB, get?_none_of_le → nu, FlyingW → rn, size_push → tG
open PySem.Heap.SameBut renaming update → rQ
open PySem.NameKind renaming free → fD
open PySem.Obj renaming mapSeq → iK, data_mapFields → kW, mapFields → pZ, isFreed_of_fields → yx, data_mapDictKeys → zH
open PySem.Paired renaming length → bj, snoc → gn
open PySem.PassesOwn renaming never → cG, leaving → lL
open PySem.SeqAt renaming RcNeAt → BN, EqAt → F9
open PySem.Str renaming empty → qy
open PySem.Txt renaming slice → hU, slice_le → we
open PySem.Value renaming ref → bA, none → fT, bool → iH, int → mJ, type → qW, str → ud, float → Dm, isStrOf → Jn
open PySem.Value.type renaming inj → tf
open PySem.W renaming Frag → ak, keepIn → aB, findIn → aH, codeIn → aI, nsIn → aM, fnOf → aO, mg_of → aW, mg_none_of → df, isFn → du, kia_one → fi, plainGet → fx, hasDictIn → fK, emptyDict → fN, plainOver → gE, makesIn → iI, instObj → iJ, callWith_K → kT, binds_K → kU, methodCall_KW → qA, plainGet_of → rO, lookIn → tu, kitOne → tw, specialIn → uD, methodObj → uE, takerIn → xk, cellsFrom_some → xQ, kitx_list → CL, kitx_dict → CO, handedIn → Es, readsIn → Ga, findCls → Gb, OpenLaw → Ge
open PySem.W.RowW renaming records → wj
open PySem.W.SharedT renaming abs → MT
open PySem.W.WData renaming int → xi, weight → BK, weightAll → FX, list → FY
open Sum renaming inr → gx, inl → iP
open Sum.inl renaming inj → xP, injEq → Ac
open Sum.inr renaming injEq → Ab, inj → Dn
open True renaming intro → fU
noncomputable section
namespace KHd
open PySem PySem.W PySem.Calls PyProof.Rows
theorem SN {p q:Program}{loose:List Str}{Xt:Shared->Bool}{α : Type}{Yf:Shared -> α}{Ya:World -> α}{N:Nat} (e:opening p=plainProg p.main.scope.names) (hN:Nat.ble 600 N=true) (f:∀ s,fenceModules? p s=some s)
  (h:∀ (w:World) (os:OsState),(topFrom treeTable p w N ⟨boot_heap w.params,jt [],boot_drawn,boot_toks,os⟩).map (fun s=>(openSeen q loose (importedModules p.main.body) Xt true s,Yf s))=some (openGood q loose,Ya w)):LeftO p q loose Xt Yf Ya N:=fun w=>by
 obtain⟨⟨hp,gs,d,k,os⟩,e1,e2⟩:=b7.mp (boot_open e hN f w)
 have e3:hp=boot_heap w.params∧gs=jt []∧d=boot_drawn∧k=boot_toks:=by simpa only [Jo] using e2
 obtain⟨z1,z2,z3,z4⟩:=e3
 subst z1 z2 z3 z4
 unfold openEnds
 rw[e1]
 exact h w os
def ahA {α : Type} (l:List α) (is:List Nat):List α := is.filterMap fun i=>l[i]?
def prg:Program:=mi
def view:Program := { prg with main := { prg.main with body:=ahA prg.main.body [0,2,3,5,7,8,9,10,11,12,14,16,17,19,20,21,22,23,24,25,26,27,28,29,30,31,32,33,34,36,37,38,40,41,42,43,44,46,47,49,50,51,52,53,54,55,58,59,60,61,62,63,64] } }
theorem mW {α β γ : Type}{x:Option α}{f : α -> β}{g : α -> γ}{a : β}{b : γ} (h1:x.map f=some a) (h2:x.map g=some b):x.map (fun s=>(f s,g s))=some (a,b):=by
 cases x with
 | none=>cases h1
 | some s=>cases h1;cases h2;rfl
theorem Ck {α β γ : Type}{x:Option α}{f : α -> β}{g : α -> γ}{a : β}{b : γ} (h:x.map (fun s=>(f s,g s))=some (a,b)):x.map f=some a:=by
 cases x with
 | none=>cases h
 | some s=>cases h;rfl
theorem nR {α β γ : Type}{x:Option α}{f : α -> β}{g : α -> γ}{a : β}{b : γ} (h:x.map (fun s=>(f s,g s))=some (a,b)):x.map g=some b:=by
 cases x with
 | none=>cases h
 | some s=>cases h;rfl
theorem Zo {α : Type}{x:Option α}{a b c d e f g : α -> Bool} (h1:x.map a=some true) (h2:x.map (fun s=>b s && c s && d s && e s && f s && g s)=some true):x.map (fun s=>a s && b s && c s && d s && e s && f s && g s)=some true:=by
 cases x with
 | none=>cases h1
 | some s =>
  have e1:a s=true:=aE h1
  have e2:(b s && c s && d s && e s && f s && g s)=true:=aE h2
  simp only[fA]at e2
  show some (a s && b s && c s && d s && e s && f s && g s)=some true
  simp only[e1,e2,Ah]
def T0 (P:Params):BT:=(((((((((((BT.nil.ins 0 (boot_o_0 P)).ins 1 (boot_o_1 P)).ins 2 (boot_o_2 P)).ins 3 (boot_o_3 P)).ins 4 (boot_o_4 P)).ins 5 (boot_o_5 P)).ins 6 (boot_o_6 P)).ins 7 (boot_o_7 P)).ins 8 (boot_o_8 P)).ins 9 (boot_o_9 P)).ins 10 (boot_o_10 P))
theorem aah (P:Params):absHeap (T0 P) 11 (boot_heap P).life=boot_heap P:=by kernel_rfl
theorem YF (P:Params):((boot_heap P).isNs mainGlobals,(boot_heap P).objs.size,(boot_heap P).nsMap mainGlobals "__annotations__")=(true,11,some (.ref 6)):=by kernel_rfl
def PN (tb:String->Option Builtin) (p:Program) (w:World) (zb : Nat) (FW:Option Value) (N:Nat):SharedT->Thread->Option SharedT :=
 Nat.rec (motive:=fun _=>SharedT->Thread->Option SharedT) (fun _ _=>none) (fun _ ih s t=>match through t with
  | true=>some s
  | false=>match stepOk zb FW t with
   | false=>none
   | true=>match stepT (denote tb) p w s t with
    | some (s',t')=>ih s' t'
    | none=>none) N
theorem RX {tb:String->Option Builtin}{p:Program}{w:World}{zb : Nat}{FW:Option Value}{n:Nat}{s:SharedT}{t:Thread}:PN tb p w zb FW (n+1) s t=(match through t with
  | true=>some s
  | false=>match stepOk zb FW t with
   | false=>none
   | true=>match stepT (denote tb) p w s t with
    | some (s',t')=>PN tb p w zb FW n s' t'
    | none=>none):=rfl
theorem NA {tb:String->Option Builtin}{p:Program}{w:World}{zb : Nat}{FW:Option Value}:∀ {n:Nat} {s s':SharedT}{t:Thread},PN tb p w zb FW n s t=some s'->topRun tb p w zb FW n s.abs t=some s'.abs
 | 0,_,_,_,h=>by cases h
 | n+1,s,s',t,h=>by
  rw[RX]at h
  unfold topRun
  cases he:through t with
  | true=>rw[he]at h;cases h;rfl
  | false =>
   rw[he]at h
   cases hk:stepOk zb FW t with
   | false=>rw[hk]at h;cases h
   | true =>
    rw[hk]at h
    cases hs:stepT (denote tb) p w s t with
    | none=>rw[hs]at h;cases h
    | some r=>obtain⟨p6,avo⟩:=r;rw[hs]at h;rw[stepT_spec hs];exact NA h
def xv (p:Program) (w:World) (N:Nat) (os:OsState):Option SharedT:=PN treeTable p w 11 (some (.ref 6)) N ⟨T0 w.params,11,(boot_heap w.params).life,jt [],boot_drawn,boot_toks,os⟩ (topStub p)
theorem v8 {p:Program}{w:World}{N:Nat}{os:OsState}{α : Type}{F:Shared -> α}{G : α} (hc:(xv p w N os).map (fun s=>staticsOk (importedModules p.main.body) (boot_heap w.params) s.abs.heap && namesBound p s.abs.heap && gensDone s.abs && laidKept (boot_heap w.params) s.abs.heap)=some true) (h:(xv p w N os).map (fun s=>F s.abs)=some G) :
  (topFrom treeTable p w N ⟨boot_heap w.params,jt [],boot_drawn,boot_toks,os⟩).map F=some G:=by
 cases hr:xv p w N os with
 | none=>rw[hr]at h;cases h
 | some s =>
  rw[hr]at h hc
  have e1:F s.abs=G:=aE h
  have e2:(staticsOk (importedModules p.main.body) (boot_heap w.params) s.abs.heap && namesBound p s.abs.heap && gensDone s.abs && laidKept (boot_heap w.params) s.abs.heap)=true:=aE hc
  have r:=NA hr
  have ea:(MT ⟨T0 w.params,11,(boot_heap w.params).life,jt [],boot_drawn,boot_toks,os⟩)=⟨boot_heap w.params,jt [],boot_drawn,boot_toks,os⟩:=by
   unfold MT
   dsimp only
   rw[aah]
  rw[ea]at r
  obtain⟨z1,z2,z3⟩:_∧_∧_:=by simpa only [Jo] using YF w.params
  have t:topFrom treeTable p w N ⟨boot_heap w.params,jt [],boot_drawn,boot_toks,os⟩=some s.abs:=by
   unfold topFrom
   dsimp only
   rw[z1,z2,z3,r]
   show (match staticsOk (importedModules p.main.body) (boot_heap w.params) s.abs.heap && namesBound p s.abs.heap && gensDone s.abs && laidKept (boot_heap w.params) s.abs.heap with | true=>_ | false=>_)=_
   rw[e2]
  rw[t]
  exact congrArg some e1
set_option maxRecDepth 100000 in
set_option maxHeartbeats 0 in
theorem LN (w:World) (os:OsState):(xv ay.prog w 8360 os).map (fun s=>staticsOk (importedModules ay.prog.main.body) (boot_heap w.params) s.abs.heap && namesBound ay.prog s.abs.heap && gensDone s.abs && laidKept (boot_heap w.params) s.abs.heap)=some true:=by kernel_rfl
set_option maxRecDepth 100000 in
set_option maxHeartbeats 0 in
theorem q0T (w:World) (os:OsState):(xv ay.prog w 8360 os).map (fun s=>seen ((recsOf view).map (·.name)) (ownsOf view) [] { s.abs with gens := #[] })=some (expectedOf view):=by kernel_rfl
set_option maxRecDepth 100000 in
set_option maxHeartbeats 0 in
theorem qaT (w:World) (os:OsState):(xv ay.prog w 8360 os).map (fun s=>(s.abs.heap.bltView,s.abs.heap.accountedOkI (importedModules ay.prog.main.body) && s.abs.heap.isNs mainGlobals && s.abs.heap.isNs builtinsNs && tablesOk view s.abs.heap && (xlAt view [] s.abs && recOk (wj ay.row.toRowW) s.abs) && (if true then s.abs.gens.size == 0 else !leftWithCleanup s.abs.gens),pinSeenD view (drecsOf view) s.abs,plainSeenD view ["class_of", "grow"] s.abs,clsSeenW view ["class_of", "grow"] s.abs))=some ((bltViewBooted,true,pinGoodD (drecsOf view),plainGoodD view ["class_of", "grow"],clsGoodW view ["class_of", "grow"])):=by kernel_rfl
set_option maxRecDepth 100000 in
set_option maxHeartbeats 0 in
theorem q2T (w:World) (os:OsState):(xv ay.prog w 8360 os).map (fun s=>s.abs.heap.keysOk (looseW view ["class_of", "grow"]) ((recsOf view).map (·.name)) ((litsOf view).map (·.1)) ((clssOf view (looseW view ["class_of", "grow"])).map (·.name)))=some (true):=by kernel_rfl
set_option maxRecDepth 100000 in
set_option maxHeartbeats 0 in
theorem q3T (w:World) (os:OsState):(xv ay.prog w 8360 os).map (fun s=>tabsOk view s.abs)=some (true):=by kernel_rfl
set_option maxRecDepth 100000 in
set_option maxHeartbeats 0 in
theorem q5T (w:World) (os:OsState):(xv ay.prog w 8360 os).map (fun s=>plainSeenE view (looseW view ["class_of", "grow"]) s.abs)=some (plainGoodE view (looseW view ["class_of", "grow"])):=by kernel_rfl
set_option maxRecDepth 100000 in
set_option maxHeartbeats 0 in
theorem q7T (w:World) (os:OsState):(xv ay.prog w 8360 os).map (fun s=>wideSeen view s.abs)=some (wideGood view):=by kernel_rfl
theorem q0 (w:World) (os:OsState):(topFrom treeTable ay.prog w 8360 ⟨boot_heap w.params,jt [],boot_drawn,boot_toks,os⟩).map (fun s=>seen ((recsOf view).map (·.name)) (ownsOf view) [] { s with gens := #[] })=some (expectedOf view):=v8 (LN w os) (q0T w os)
theorem qa (w:World) (os:OsState):(topFrom treeTable ay.prog w 8360 ⟨boot_heap w.params,jt [],boot_drawn,boot_toks,os⟩).map (fun s=>(s.heap.bltView,s.heap.accountedOkI (importedModules ay.prog.main.body) && s.heap.isNs mainGlobals && s.heap.isNs builtinsNs && tablesOk view s.heap && (xlAt view [] s && recOk (wj ay.row.toRowW) s) && (if true then s.gens.size == 0 else !leftWithCleanup s.gens),pinSeenD view (drecsOf view) s,plainSeenD view ["class_of", "grow"] s,clsSeenW view ["class_of", "grow"] s))=some ((bltViewBooted,true,pinGoodD (drecsOf view),plainGoodD view ["class_of", "grow"],clsGoodW view ["class_of", "grow"])):=v8 (LN w os) (qaT w os)
theorem q2 (w:World) (os:OsState):(topFrom treeTable ay.prog w 8360 ⟨boot_heap w.params,jt [],boot_drawn,boot_toks,os⟩).map (fun s=>s.heap.keysOk (looseW view ["class_of", "grow"]) ((recsOf view).map (·.name)) ((litsOf view).map (·.1)) ((clssOf view (looseW view ["class_of", "grow"])).map (·.name)))=some (true):=v8 (LN w os) (q2T w os)
theorem q3 (w:World) (os:OsState):(topFrom treeTable ay.prog w 8360 ⟨boot_heap w.params,jt [],boot_drawn,boot_toks,os⟩).map (fun s=>tabsOk view s)=some (true):=v8 (LN w os) (q3T w os)
theorem q5 (w:World) (os:OsState):(topFrom treeTable ay.prog w 8360 ⟨boot_heap w.params,jt [],boot_drawn,boot_toks,os⟩).map (fun s=>plainSeenE view (looseW view ["class_of", "grow"]) s)=some (plainGoodE view (looseW view ["class_of", "grow"])):=v8 (LN w os) (q5T w os)
theorem q7 (w:World) (os:OsState):(topFrom treeTable ay.prog w 8360 ⟨boot_heap w.params,jt [],boot_drawn,boot_toks,os⟩).map (fun s=>wideSeen view s)=some (wideGood view):=v8 (LN w os) (q7T w os)
theorem aan (w:World) (os:OsState):(topFrom treeTable ay.prog w 8360 ⟨boot_heap w.params,jt [],boot_drawn,boot_toks,os⟩).map (fun s=>openSeen view ["class_of", "grow"] (importedModules ay.prog.main.body) (fun s=>xlAt view [] s && recOk (wj ay.row.toRowW) s) true s)=some (openGood view ["class_of", "grow"]) :=
 mW (q0 w os) (mW (Ck (qa w os)) (mW (Zo (q2 w os) (Ck (nR (qa w os)))) (mW (q3 w os) (mW (Ck (nR (nR (qa w os)))) (mW (q5 w os) (mW (Ck (nR (nR (nR (qa w os))))) (mW (q7 w os) (nR (nR (nR (nR (qa w os))))))))))))
local macro_rules | `(tactic| o_head $H) => `(tactic| (refine holds_open (q:=view) (loose := ["class_of", "grow"]) (Xt:=fun s=>xlAt view [] s && recOk (wj ay.row.toRowW) s) (XP:=XL view []) (Yf:=Hook.obs $H) (Ya:=Hook.val $H) (YP:=Hook.says $H) (N:=8360) ?hl (Hook.of $H) (Hook.keeps $H) (fun s e=>xl_of s (gA.mp e).1) XL.keeps (by rfl) (by rfl) (by rfl) (fun s e=>recFacts_of (gA.mp e).2) (by rfl) (by first | assumption | decide +kernel) (by decide +kernel) ⟨rfl,rfl,rfl,rfl,rfl,by decide +kernel⟩ ?hw ?hc;case hl=>(refine SN (by rfl) (by decide) (fun s=>by rfl) ?_;intro w os;refine mW (aan w os) (v8 (LN w os) ?_);kernel_rfl)))
set_option maxRecDepth 100000 in
set_option maxHeartbeats 0 in
open_top top for ay
end KHd
set_option Elab.async false
set_option linter.all false
set_option maxRecDepth 100000
set_option maxHeartbeats 4000000
namespace L2
open PySem PySem.Spec PyProof.Rows
abbrev Key:=Sum Int Str
def Cn:Key->Value->Bool
 | .inl k,v=>Value.isInt k v
 | .inr x,v=>Jn x v
def ans (w:World):Key->Int
 | .inl k=>hashInt k
 | .inr x=>hashStr w x
theorem gm:∀ {k:Key}{v:Value},Cn k v=true->(∃ i t,k=iP i∧v=mJ i t)∨(∃ x t,k=gx x∧v=ud x t)
 | .inl i,v,h=>by
  obtain⟨t,e⟩:=Value.isInt_shape (k:=i) (v:=v) h
  exact .inl ⟨i,t,rfl,e⟩
 | .inr x,v,h=>by
  obtain⟨t,e⟩:=Value.isStrOf_shape (x:=x) (v:=v) h
  exact .inr ⟨x,t,rfl,e⟩
theorem SR (i:Int) (t:Tok):Cn (.inl i) (.int i t)=true:=by simp[Cn,Value.isInt]
theorem SQ (x:Str) (t:Tok):Cn (.inr x) (.str x t)=true:=by simp[Cn,Jn]
theorem ab2 (a b:Int):decide ((iP a:Key)=iP b)=(a == b):=by
 by_cases e:a=b
 ·subst e;simp
 ·have h:¬ (iP a:Key)=iP b:=fun q=>e (xP q)
  rw[decide_eq_false h]
  exact(beq_eq_false_iff_ne.mpr e).symm
theorem abZ (a b:Str):decide ((gx a:Key)=gx b)=decide (a=b):=by
 by_cases e:a=b
 ·subst e;simp
 ·have h:¬ (gx a:Key)=gx b:=fun q=>e (Dn q)
  rw[decide_eq_false h,decide_eq_false e]
theorem ab1 (a:Int) (b:Str):decide ((iP a:Key)=gx b)=false:=decide_eq_false (fun q=>nomatch q)
theorem ab0 (a:Str) (b:Int):decide ((gx a:Key)=iP b)=false:=decide_eq_false (fun q=>nomatch q)
def dO (prog:Program) (w:World):PySem.KeyKind prog w Key where
 is:=Cn
 hash:=ans w
 inj:=fun v a b ha hb=>by
  rcases gm ha with⟨i,t,rfl,rfl⟩ | ⟨x,t,rfl,rfl⟩
  ·rcases gm hb with⟨j,u,rfl,e⟩ | ⟨y,u,rfl,e⟩
   ·injection e with e1 _;rw[e1]
   ·exact nomatch e
  ·rcases gm hb with⟨j,u,rfl,e⟩ | ⟨y,u,rfl,e⟩
   ·exact nomatch e
   ·injection e with e1 _;rw[e1]
 byValue:=fun k v h=>by
   rcases gm h with⟨i,t,rfl,rfl⟩ | ⟨x,t,rfl,rfl⟩ <;> rfl
 pyHash:=fun hv h=>by
  rcases gm hv with⟨i,t,rfl,rfl⟩ | ⟨x,t,rfl,rfl⟩
  ·exact wpAny_pyHash_int h
  ·exact wpAny_pyHash_str h
 eqBool:=fun hu hv h=>by
  rcases gm hu with⟨i,t,rfl,rfl⟩ | ⟨x,t,rfl,rfl⟩
  ·rcases gm hv with⟨j,u,rfl,rfl⟩ | ⟨y,u,rfl,rfl⟩
   ·rw[ab2]at h;exact wpAny_eqBool_int h
   ·rw[ab1]at h;exact F9.int_str i t y u _ _ _ _ h
  ·rcases gm hv with⟨j,u,rfl,rfl⟩ | ⟨y,u,rfl,rfl⟩
   ·rw[ab0]at h;exact F9.str_int x t j u _ _ _ _ h
   ·rw[abZ]at h;exact wpAny_eqBool_str h
 «strs» := fun k x t v h=>by
  rcases gm h with⟨i,u,rfl,e⟩ | ⟨y,u,rfl,e⟩
  ·exact nomatch e
  ·injection e with e1 _
   subst e1
   cases v <;> rfl
theorem ML (prog:Program) (w:World) (i:Int) (t:Tok):(dO prog w).is (.inl i) (.int i t)=true:=SR i t
theorem MK (prog:Program) (w:World) (x:Str) (t:Tok):(dO prog w).is (.inr x) (.str x t)=true:=SQ x t
inductive V where
 | cQ | bl (b:Bool) | int (i:Int) | str (x:Str) | xg (b:Array UInt8) | LC (b:UInt64) | ref (a:Addr) | ty (n:String)
 deriving DecidableEq
def RelV:V->Value->Prop
 | .cQ,u=>u=fT
 | .bl b,u=>u=iH b
 | .int i,u=>∃ t,u=mJ i t
 | .str x,u=>∃ t,u=ud x t
 | .xg b,u=>∃ t,u=Value.bytes b t
 | .LC b,u=>∃ t,u=Dm b t
 | .ref a,u=>u=bA a
 | .ty n,u=>u=qW n
abbrev Vals:List V->List Value->Prop:=Paired RelV
theorem Vals.length {xs:List V}{us:List Value} (r:Vals xs us):xs.length=us.length:=bj r
theorem Vals.get:∀ {xs:List V}{us:List Value}{i:Nat}{x:V},Vals xs us->xs[i]? = some x->∃ u,us[i]? = some u∧RelV x u
 | _,_,_,_,.nil,e=>by simp at e
 | _,_,0,_,.cons r _,e=>by simp at e;subst e;exact⟨_,rfl,r⟩
 | _,_,i+1,x,.cons _ t,e=>by
  obtain⟨u,h1,h2⟩:=Vals.get (i:=i) (x:=x) t (by simpa using e)
  exact⟨u,by simpa using h1,h2⟩
theorem Vals.set {x:V}{u:Value} (r:RelV x u):∀ {xs:List V}{us:List Value} (i:Nat),Vals xs us->Vals (xs.set i x) (us.set i u)
 | _,_,_,.nil => .nil
 | _,_,0,.cons _ t => .cons r t
 | _,_,i+1,.cons q t => .cons q (Vals.set r i t)
theorem Vals.append:∀ {xs ys:List V}{us ws:List Value},Vals xs us->Vals ys ws->Vals (xs ++ ys) (us ++ ws)
 | _,_,_,_,.nil,s=>s
 | _,_,_,_,.cons r t,s => .cons r (Vals.append t s)
theorem Vals.take:∀ {xs:List V}{us:List Value} (n:Nat),Vals xs us->Vals (xs.take n) (us.take n)
 | _,_,0,_ => .nil
 | _,_,_+1,.nil => .nil
 | _,_,n+1,.cons r t => .cons r (Vals.take n t)
theorem Vals.drop:∀ {xs:List V}{us:List Value} (n:Nat),Vals xs us->Vals (xs.drop n) (us.drop n)
 | _,_,0,r=>r
 | _,_,_+1,.nil => .nil
 | _,_,n+1,.cons _ t=>Vals.drop n t
def mh:Option V->Option Value->Prop
 | some v,some u=>RelV v u
 | none,none=>True
 | _,_=>False
def KV {κ : Type}:List (κ × V)->List (κ × Value)->Prop:=Paired fun (p : κ × V) (q : κ × Value)=>p.1=q.1∧RelV p.2 q.2
def kV:Key->V
 | .inl i => .int i
 | .inr x => .str x
inductive HO where
  | lst (xs:List V)
  | tup (xs:List V)
  | dK (kvs:List (Key × V)) | dT (kvs:List (List Key × V))
  | set (S:Int->Bool) (n:Nat)
  | ins (C dx:Addr) (fs:List (Str × V))
  | own (x:Addr)
  | xd (fs:List (Str × V))
  | met (f x:Addr)
  | CZ (lo hi:Int)
  | xc (o:Obj) (u:HO)
  | JK (ps:Array Value)
  | ext (φ : Heap->Prop)
abbrev Hp:=Addr->Option HO
def aJ (H:Hp) (a:Addr) (o:HO):Hp:=fun b=>if b=a then some o else H b
theorem au {H:Hp}{a:Addr}{o:HO}:aJ H a o a=some o:=by unfold aJ;rw[if_pos rfl]
theorem ax {H:Hp}{a b:Addr}{o:HO} (h:b≠a):aJ H a o b=H b:=by unfold aJ;rw[if_neg h]
theorem GA {H:Hp}{a:Addr}{o u:HO}:aJ (aJ H a o) a u=aJ H a u:=by
 funext b;unfold aJ;split <;> rfl
theorem dq {H:Hp}{a b:Addr}{o u:HO} (h:H a=some o) (h':H b=some u) (d:o≠u):a≠b:=by
 intro e;subst e;rw[h]at h';exact d (aE h')
theorem fS {H:Hp}{a b:Addr}{o:HO} (h:H a=some o) (h':H b=none):a≠b:=by
 intro e;subst e;rw[h]at h';cases h'
def yH (h:Heap) (a:Addr) (items:Array Value):Prop := ∃ o,h.get? a=some o∧o.cls = .type "tuple" ∧ ∃ n,o.data = .seq items n∧o.dict=none
theorem yH.tup {h:Heap}{a:Addr}{items:Array Value} (x:yH h a items):IsTup h a items:=let ⟨o,e,c,n,d,_⟩:=x; ⟨o,e,c,n,d⟩
theorem yH.new (h:Heap) (items:Array Value):yH (h.push { cls := .type "tuple",data := .seq items }) h.objs.size items:=⟨_,bZ _ rfl,rfl,_,rfl,rfl⟩
section
variable (P:Program) (w:World)
def d8 (H:Hp) (h:Heap) (a:Addr):HO->Prop
 | .lst xs=>xs.length<=sizeLine∧∃ (its:List Value) (n:Nat),Vals xs its∧h.get? a=some { cls := .type "list",data := .seq its.toArray n }
 | .tup xs=>xs.length<=sizeLine∧∃ its:List Value,Vals xs its∧yH h a its.toArray
 | .dK kvs=>kvs.length<=sizeLine∧(a == sysModules)=false∧∃ vs,KV kvs vs∧h.DictOf (dO P w) a vs
 | .dT kvs=>kvs.length<=sizeLine∧(a == sysModules)=false∧∃ xs:List (List Key × Addr × Value),
   Paired (fun (p:List Key × V) (q:List Key × Addr × Value)=>p.1=q.1∧H q.2.1=some (.tup (p.1.map kV))∧RelV p.2 q.2.2) kvs xs ∧
   ∃ o es ep,h.get? a=some o∧o.ExactDict∧o.data = .dict es ep∧es.toList=xs.map (entryOfKey (tupleKind (dO P w)))∧(xs.map (·.1)).Nodup
 | .set S n=>h.SetOf (intKind P w) a S n
 | .ins C dx fs=>H dx=some (.own a)∧fs.length<=1000∧dx≠a∧h.get? a=some (iJ C dx) ∧
   ∃ mA,h.Ns1 dx mA∧(∀ f,mh (fs.lookup f) (mA f))∧wk mA (fs.map (·.1))
 | .own _=>∃ o,h.get? a=some o
 | .xd fs=>∃ mA,h.Ns1 a mA∧∀ f,mh (fs.lookup f) (mA f)
 | .CZ lo hi=>∃ t u v,h.get? a=some { cls := .type "range",data := .fields #[.int lo t,.int hi u,.int 1 v] }
 | .xc o u=>h.get? a=some o∧d8 H h a u
 | .JK ps=>h.get? a=some { cls := .none,data := .fields ps }
 | .met f x=>h.get? a=some (uE (.ref f) (.ref x))
 | .ext φ => φ h∧(∃ o,h.get? a=some o)∧∀ h1 h2:Heap, φ h1->(∀ o,h1.get? a=some o->h2.get? a=some o) -> φ h2
def jb (H:Hp) (h:Heap):Prop := ∀ a o,H a=some o->d8 P w H h a o
end
section
variable {P:Program}{w:World} {H H':Hp} {h h':Heap}{a:Addr}{o:HO}
theorem d8.lt (x:d8 P w H h a o):a < h.objs.size:=by
 cases o with
 | lst xs=>obtain⟨_,_,_,_,e⟩:=x;exact br e
 | tup xs=>obtain⟨_,_,_,p⟩:=x;exact p.tup.lt
 | dK kvs=>obtain⟨_,_,_,_,o,_,_,e,_⟩:=x;exact br e
 | dT kvs=>obtain⟨_,_,_,_,o,_,_,e,_⟩:=x;exact br e
 | set S n=>obtain⟨o,_,_,_,e,_⟩:=x;exact br e
 | ins C dx fs=>obtain⟨_,_,_,e,_⟩:=x;exact br e
 | own y=>obtain⟨_,e⟩:=x;exact br e
 | xd fs=>obtain⟨_,⟨_,_,_,e,_⟩,_⟩:=x;exact br e
 | CZ lo hi=>obtain⟨_,_,_,e⟩:=x;exact br e
 | xc ob u=>obtain⟨e,_⟩:=x;exact br e
 | JK ps=>exact br (show h.get? a=some _ from x)
 | met f y=>exact br (show h.get? a=some _ from x)
 | ext φ => obtain⟨_,⟨_,e⟩,_⟩:=x;exact br e
theorem Paired.pJ {α β : Type}{F G : α -> β -> Prop}:∀ {KO : List α}{KL : List β},Paired F KO KL -> (∀ a b,F a b->G a b)->Paired G KO KL
 | _,_,.nil,_ => .nil
 | _,_,.cons r t,f => .cons (f _ _ r) (Paired.pJ t f)
theorem d8.Au (x:d8 P w H h a o) (k:∀ b u,(b=a∨H b=some (.own a))->h.get? b=some u->h'.get? b=some u)
  (ho:∀ b,H b=some (.own a)->H' b=some (.own a)) (ht:∀ b xs,H b=some (.tup xs)->H' b=some (.tup xs)):d8 P w H' h' a o:=by
 induction o with
 | lst xs=>obtain⟨z,its,n,r,e⟩:=x;exact⟨z,its,n,r,k _ _ (.inl rfl) e⟩
 | tup xs=>obtain⟨z,its,r,ob,e,c⟩:=x;exact⟨z,its,r,ob,k _ _ (.inl rfl) e,c⟩
 | dK kvs=>obtain⟨z,y,vs,r,ob,es,ep,e,c⟩:=x;exact⟨z,y,vs,r,ob,es,ep,k _ _ (.inl rfl) e,c⟩
 | dT kvs =>
  obtain⟨z,y,xs,r,ob,es,ep,e,c⟩:=x
  exact⟨z,y,xs,Paired.pJ r fun p q z=>⟨z.1,ht _ _ z.2.1,z.2.2⟩,ob,es,ep,k _ _ (.inl rfl) e,c⟩
 | set S n=>obtain⟨ob,es,ep,t,e,c⟩:=x;exact⟨ob,es,ep,t,k _ _ (.inl rfl) e,c⟩
 | ins C dx fs =>
  obtain⟨d,z,ne,e,mA,⟨od,es,ep,e2,c⟩,r⟩:=x
  exact⟨ho _ d,z,ne,k _ _ (.inl rfl) e,mA,⟨od,es,ep,k _ _ (.inr d) e2,c⟩,r⟩
 | own y=>obtain⟨ob,e⟩:=x;exact⟨ob,k _ _ (.inl rfl) e⟩
 | xd fs=>obtain⟨mA,⟨od,es,ep,e,c⟩,r⟩:=x;exact⟨mA,⟨od,es,ep,k _ _ (.inl rfl) e,c⟩,r⟩
 | CZ lo hi=>obtain⟨t,u,v,e⟩:=x;exact⟨t,u,v,k _ _ (.inl rfl) e⟩
 | xc ob u ih=>obtain⟨e,q⟩:=x;exact⟨k _ _ (.inl rfl) e,ih q⟩
 | JK ps =>
  have e:h.get? a=some { cls := .none,data := .fields ps }:=x
  show h'.get? a=some { cls := .none,data := .fields ps }
  exact k a _ (.inl rfl) e
 | met f y =>
  have e:h.get? a=some (uE (.ref f) (.ref y)):=x
  show h'.get? a=some (uE (.ref f) (.ref y))
  exact k a _ (.inl rfl) e
 | ext φ => obtain⟨p,⟨o,e⟩,st⟩:=x;exact⟨st _ _ p fun o q=>k _ _ (.inl rfl) q,⟨o,k _ _ (.inl rfl) e⟩,st⟩
theorem jb.lt (x:jb P w H h) (e:H a=some o):a < h.objs.size:=(x a o e).lt
theorem jb.fresh (x:jb P w H h) (e:h.objs.size<=a):H a=none:=by
 cases q:H a with
 | none=>rfl
 | some u=>exact absurd (cm (x.lt q) e) (eT _)
theorem jb.kept (x:jb P w H h) (k:∀ b u,h.get? b=some u->h'.get? b=some u):jb P w H h':=fun a o e =>
 (x a o e).Au (fun b u _ q=>k b u q) (fun _ q=>q) fun _ _ q=>q
theorem jb.laid (x:jb P w H h) (k:∀ b u,h.get? b=some u->h'.get? b=some u) (hp:h.objs.size<=a) (new:d8 P w (aJ H a o) h' a o):jb P w (aJ H a o) h':=fun b u e=>by
 have hn:=x.fresh hp
 by_cases hb:b=a
 ·subst hb;rw[au]at e;cases e;exact new
 ·rw[ax hb]at e
  exact(x b u e).Au (fun c v _ q=>k c v q) (fun c q=>by rw[ax (fS q hn)];exact q) fun c xs q=>by rw[ax (fS q hn)];exact q
end
def Rd (H:Hp) (a:Addr) (u:HO):Prop:=H a=some u∨∃ o,H a=some (.xc o u)
theorem Rd.ok {P:Program}{w:World}{H:Hp}{h:Heap}{a:Addr}{u:HO} (r:Rd H a u) (x:jb P w H h):d8 P w H h a u:=by
 rcases r with r | ⟨o,r⟩
 ·exact x a u r
 ·obtain⟨_,q⟩:=x a _ r
  exact q
def Uo:Option HO->Prop
 | some (.lst _)=>True
 | some (.dK _)=>True
 | some (.dT _)=>True
 | some (.set _ _)=>True
 | some (.ins _ _ _)=>True
 | some (.ext _)=>True
 | _=>False
section
variable {P:Program}{w:World}{H:Hp} {h h':Heap}{x e:Addr} {o':HO}
theorem jb.write (ok:jb P w H h) (mu:Uo (H x)) (he:e=x∨H e=some (.own x)) (k:∀ b u,b≠e->h.get? b=some u->h'.get? b=some u) (Oc:∃ u,h'.get? e=some u)
  (new:d8 P w (aJ H x o') h' x o'):jb P w (aJ H x o') h':=fun b u q=>by
 have aaO:∀ c y,H c=some (.own y)->c≠x:=fun c y r z=>by subst z;rw[r]at mu;exact mu
 have anj:∀ c xs,H c=some (.tup xs)->c≠x:=fun c xs r z=>by subst z;rw[r]at mu;exact mu
 by_cases hb:b=x
 ·subst hb;rw[au]at q;cases q;exact new
 ·rw[ax hb]at q
  by_cases Lj:b=e
  ·have q':H b=some (.own x):=by
    rcases he with z | z
    ·exact absurd (Lj.trans z) hb
    ·rw[Lj];exact z
   rw[q]at q';cases q'
   obtain⟨v,hv⟩:=Oc
   exact⟨v,by rw[Lj];exact hv⟩
  ·refine(ok b u q).Au (fun c v hc r=>k c v ?_ r) (fun c r=>by rw[ax (aaO c b r)];exact r) fun c xs r=>by rw[ax (anj c xs r)];exact r
   rcases hc with rfl | hc
   ·exact Lj
   ·rintro rfl
    rcases he with z | z
    ·exact aaO c b hc z
    ·rw[hc]at z;cases z;exact hb rfl
end
structure Un (fs ex:List Addr) (H H':Hp) (h h':Heap):Prop where
 keep:∀ b o,h.get? b=some o->H b=none->b ∉ fs->b ∉ ex->h'.get? b=some o
 slot:∀ b o,h.get? b=some o->H b=none->b∈fs->b ∉ ex->∃ sl,h'.get? b=some { o with slots:=sl }
 free:∀ b o,h.get? b=some o->H b=none->b ∉ ex->H' b=none
 there:∀ b o,h.get? b=some o->b ∉ ex->∃ o',h'.get? b=some o'
 xr:∀ b xs,H b=some (.tup xs)->H' b=some (.tup xs)
 v7:∀ b o u,H b=some (.xc o u)->H' b=some (.xc o u)
 xt:∀ b ps,H b=some (.JK ps)->∃ more,H' b=some (.JK (ps ++ more))
section
variable {fs fs' ex ex':List Addr}{H H1 H2:Hp} {h h1 h2 h':Heap}{a x e:Addr}{o:HO}
theorem Un.any (u:Un fs ex H H1 h h1) {b:Addr}{ob:Obj} (q:h.get? b=some ob) (n:H b=none) (hx:b ∉ ex):∃ sl,h1.get? b=some { ob with slots:=sl }:=by
 by_cases hb:b∈fs
 ·exact u.slot b ob q n hb hx
 ·exact⟨ob.slots,u.keep b ob q n hb hx⟩
theorem Un.kept (k:∀ b u,h.get? b=some u->h'.get? b=some u):Un fs ex H H h h' :=
 ⟨fun b ob q _ _ _=>k b ob q,fun b ob q _ _ _=>⟨ob.slots,k b ob q⟩,fun _ _ _ n _=>n,fun b ob q _=>⟨ob,k b ob q⟩,fun _ _ q=>q,fun _ _ _ q=>q,fun _ ps q=>⟨#[],by rw[q];simp⟩⟩
theorem Un.refl:Un fs ex H H h h:=Un.kept fun _ _ q=>q
theorem Un.laid (k:∀ b u,h.get? b=some u->h'.get? b=some u) (hp:h.objs.size<=a) (hn:H a=none):Un fs ex H (aJ H a o) h h' where
 keep:=fun b u q _ _ _=>k b u q
 slot:=fun b u q _ _ _=>⟨u.slots,k b u q⟩
 free:=fun b u q n _=>by rw[ax (cU (cm (br q) hp))];exact n
 there:=fun b u q _=>⟨u,k b u q⟩
 xr:=fun b xs q=>by rw[ax (fS q hn)];exact q
 v7:=fun b u xs q=>by rw[ax (fS q hn)];exact q
 xt:=fun b ps q=>⟨#[],by rw[ax (fS q hn),q];simp⟩
theorem Un.write (mu:Uo (H x)) (he:e=x∨H e=some (.own x)) (k:∀ b u,b≠e->h.get? b=some u->h'.get? b=some u) (Oc:∃ u,h'.get? e=some u):Un fs ex H (aJ H x o) h h':=by
 have hx:∀ b,H b=none->b≠x:=fun b n z=>by subst z;rw[n]at mu;exact mu
 have hb:∀ b,H b=none->b≠e:=fun b n z=>by
  subst z
  rcases he with r | r
  ·exact hx b n r
  ·rw[n]at r;cases r
 have hm:∀ b u,H b=some u->¬ Uo (some u)->b≠x:=fun b u q nm z=>by subst z;rw[q]at mu;exact nm mu
 refine⟨fun b u q n _ _=>k b u (hb b n) q,fun b u q n _ _=>⟨u.slots,k b u (hb b n) q⟩,fun b u q n _=>by rw[ax (hx b n)];exact n,fun b u q _ => ?_,
  fun b xs q=>by rw[ax (hm b _ q fun z=>z)];exact q,fun b u xs q=>by rw[ax (hm b _ q fun z=>z)];exact q,fun b ps q=>⟨#[],by rw[ax (hm b _ q fun z=>z),q];simp⟩⟩
 by_cases Lj:b=e
 ·subst Lj;exact Oc
 ·exact⟨u,k b u Lj q⟩
end
def WR (h:Heap) (H:Hp):List Addr:=(bB h.objs.size).filter fun a=>(H a).isSome
def zp (h:Heap) (H:Hp):Heap:=PySem.W.hideAll h (WR h H)
theorem S7 (h:Heap) (H:Hp):(zp h H).objs.size=h.objs.size:=PySem.W.hideAll_size _ _
theorem V0 {h:Heap}{H:Hp}{b:Addr}{o:Obj} (e:h.get? b=some o) (n:H b=none):(zp h H).get? b=some o :=
 PySem.W.hideAll_get _ e fun hm=>by
  have q:(H b).isSome=true:=(eU.mp hm).2
  rw[n]at q;simp at q
theorem Zg {h:Heap}{H:Hp}{b:Addr}{o:Obj} (e:(zp h H).get? b=some o):h.get? b=some o∧H b=none:=by
 have e':h.get? b=some o:=PySem.W.of_hideAll (WR h H) e
 refine⟨e',?_⟩
 cases q:H b with
 | none=>rfl
 | some x =>
  have hm:b∈WR h H:=eU.mpr ⟨di.mpr (br e'),by simp[q]⟩
  have z:(zp h H).get? b=none:=PySem.W.hideAll_none (WR h H) hm
  rw[z]at e;cases e
structure Mod (K:ak) (mg:Str->Option Value) (base:Heap):Prop where
 KW:K.In base
 glob:base.Ns mainGlobals mg
 blt:∃ mb,base.Ns builtinsNs mb∧∀ x:Str,x ≠ "__name__" -> mb x=bootBuiltins x
 nolimit:base.NoLimit
structure Cx where
 prog:Program
 w:World
 K:ak
 mg:Str->Option Value
 base:Heap
 A:Around
 N:List Str
 lR : Shared
 BW : Hp
 env:Env
 outer:List Env
 stack:List Env
 ex:List Addr
 fn:Str->Bool
 calm:Bool
 pn:List (Addr × Obj)
 xe:Value->Shared->Prop
def oN (l:List Env):List Addr:=l.filterMap (·.frame)
abbrev Cx.fs (X:Cx):List Addr:=oN X.outer
def Vis (sc:Scope) (x:Str):Prop:=sc.names.lookup x=some .local∨sc.names.lookup x=some .cell∨sc.names.lookup x=some .free
def Loc (sc:Scope) (x:Str):Prop:=sc.names.lookup x=some .local∨sc.names.lookup x=some .cell
def Look (env:Env) (h:Heap) (m:Str->Option Value) (x:Str) (u:Value):Prop :=
 (env.kindOf x=some .local∧m x=some u)∨((env.kindOf x=some .cell∨env.kindOf x=some .free)∧∃ c,env.cells.lookup x=some c∧h.IsCell c (some u))
structure Cx.Ok (X:Cx):Prop where
 mod:Mod X.K X.mg X.base
 kind:X.env.scope.kind = .function
 glob:X.env.globals=mainGlobals
 blt:X.env.builtins=builtinsNs
 above:X.lR.heap.objs.size<=X.env.locals
 inj:∀ x y c,X.env.cells.lookup x=some c->X.env.cells.lookup y=some c->x=y
 has:∀ x,(X.env.kindOf x=some .cell∨X.env.kindOf x=some .free)->∃ c,X.env.cells.lookup x=some c
 OF:∀ x c,X.fn x=true->X.env.cells.lookup x=some c->X.lR.heap.objs.size<=c
 hd:X.calm=true->X.A.handled=none
 frames:X.A.frames=some X.stack
 Rn:X.stack=X.outer∨(X.stack=X.env :: X.outer∧X.env.frame=some X.env.locals)
 exf:∀ b∈X.ex,b≠X.env.locals∧∀ x c,X.env.cells.lookup x=some c->c≠b
 bs:∀ b o,X.base.get? b=some o->X.lR.heap.get? b=some o∧X.BW b=none
 Dl:X.base.objs.size<=X.lR.heap.objs.size
 GQ:∀ b o,X.base.get? b=some o->b ∉ X.ex
 LG:∀ b∈X.ex,b ∉ X.fs
 sQ:X.lR.heap.FunFrames X.base X.outer
 Ii:∀ b∈X.fs,X.BW b=none
structure Inv (X:Cx) (ag:List (Addr × Obj)) (σ : List (Option V)) (H:Hp) (s:Shared):Prop where
 ok:X.Ok
 os:s.os=X.lR.os
 bare:AllBare s.gens
 base:Un X.fs X.ex X.BW H X.lR.heap s.heap
 loc:∃ m,s.heap.Ns X.env.locals m∧∀ (i:Nat) (x:Str) (v:V),X.N[i]? = some x -> σ[i]? = some (some v)->Vis X.env.scope x->∃ u,RelV v u∧Look X.env s.heap m x u
 cell:∀ x c,X.env.cells.lookup x=some c->∃ v,s.heap.IsCell c v
 free:H X.env.locals=none
 tM:∀ x c,X.env.cells.lookup x=some c->H c=none
 pin:∀ p∈X.pn ++ ag,s.heap.get? p.1=some p.2∧H p.1=none∧p.1≠X.env.locals∧p.1 ∉ X.fs∧∀ v,p.2.data ≠ .cell v
 bU:jb X.prog X.w H s.heap
 len : σ.length=X.N.length
section
variable {X:Cx}{ag:List (Addr × Obj)}{σ : List (Option V)} {H H':Hp}{s:Shared} {h':Heap}
theorem Cx.Ok.anl (ok:X.Ok) {b:Addr}{o:Obj} (e:X.base.get? b=some o):b ∉ X.fs:=fun hb=>by
 have:=(ok.sQ.mem hb).1
 rw[e]at this;cases this
theorem Inv.bs (I:Inv X ag σ H s):∀ b o,X.base.get? b=some o->s.heap.get? b=some o∧H b=none:=fun b o e =>
 ⟨I.base.keep b o (I.ok.bs b o e).1 (I.ok.bs b o e).2 (I.ok.anl e) (I.ok.GQ b o e),I.base.free b o (I.ok.bs b o e).1 (I.ok.bs b o e).2 (I.ok.GQ b o e)⟩
theorem Inv.bk (I:Inv X ag σ H s):∀ b o,X.base.get? b=some o->s.heap.get? b=some o:=fun b o e=>(I.bs b o e).1
theorem Inv.mod (I:Inv X ag σ H s):Mod X.K X.mg X.base:=I.ok.mod
theorem Inv.kL (I:Inv X ag σ H s):X.K.In s.heap:=I.ok.mod.KW.keeps I.bk
theorem Inv.lt (I:Inv X ag σ H s):X.env.locals < s.heap.objs.size:=let ⟨_,hn,_⟩:=I.loc;hn.lt
theorem Inv.sz (I:Inv X ag σ H s):X.lR.heap.objs.size<=s.heap.objs.size:=cA I.ok.above (rb I.lt)
theorem Inv.ank (I:Inv X ag σ H s) {a:Addr} (h:s.heap.objs.size<=a):a ∉ X.fs:=fun hb=>by
 obtain⟨_,o,ho,_⟩:=I.ok.sQ.mem hb
 exact absurd (cm (br ho) (cA I.sz h)) (eT _)
theorem Inv.LM (I:Inv X ag σ H s):∀ x c,X.env.cells.lookup x=some c->c≠X.env.locals:=fun x c e z=>by
 obtain⟨v,o,ho,hd⟩:=I.cell x c e
 obtain⟨m,⟨o',es,ep,Fp,hd',_⟩,_⟩:=I.loc
 rw[z,Fp]at ho;cases ho;rw[hd']at hd;cases hd
theorem Inv.sQ (I:Inv X ag σ H s):s.heap.FunFrames X.base X.outer:=by
 have all:∀ (l:List Env),(∀ b∈oN l,b∈X.fs)->X.lR.heap.FunFrames X.base l->s.heap.FunFrames X.base l:=by
  intro l
  induction l with
  | nil=>intro _ _;trivial
  | cons env r ih =>
   intro hs hl
   obtain⟨hk,⟨L,o,hf,hn,ho,hd⟩,hr⟩:=hl
   have hL:L∈X.fs:=hs L (by unfold oN;rw[dN,hf];exact aT)
   obtain⟨sl,e⟩:=I.base.slot L o ho (I.ok.Ii L hL) hL fun z=>I.ok.LG L z hL
   exact⟨hk,⟨L,_,hf,hn,e,hd⟩,ih (fun b hb=>hs b (by unfold oN;rw[dN,hf];exact aK _ hb)) hr⟩
 exact all X.outer (fun _ hb=>hb) I.ok.sQ
theorem Inv.stack (I:Inv X ag σ H s):s.heap.FunFrames X.base X.stack:=by
 rcases I.ok.Rn with e | ⟨e,hf⟩
 ·rw[e];exact I.sQ
 ·rw[e]
  obtain⟨m,hn,_⟩:=I.loc
  refine .cons (by rw[I.ok.kind];decide) hf hn ?_ I.sQ
  exact nu (cA I.ok.Dl I.ok.above)
theorem Inv.As (I:Inv X ag σ H s):∀ b∈oN X.stack,b∈X.env.locals :: X.fs:=fun b hb=>by
 rcases I.ok.Rn with e | ⟨e,hf⟩
 ·rw[e]at hb;exact aK _ hb
 ·rw[e]at hb
  unfold oN at hb
  rw[dN,hf]at hb
  exact hb
theorem Inv.Nf (I:Inv X ag σ H s):∀ b∈oN X.stack,H b=none:=fun b hb=>by
 rcases bo.mp (I.As b hb) with e | hb
 ·rw[e];exact I.free
 ·obtain⟨_,o,ho,_⟩:=I.ok.sQ.mem hb
  exact I.base.free b o ho (I.ok.Ii b hb) fun z=>I.ok.LG b z hb
theorem Inv.step {g':Array GenState} {t':Nat} {d':Drawn}{ch:List Addr} (I:Inv X ag σ H s)
  (w8:∀ b∈ch,(b∈X.ex∨X.lR.heap.objs.size<=b)∧b≠X.env.locals∧(∀ x c,X.env.cells.lookup x=some c->c≠b)∧∀ p∈X.pn ++ ag,p.1≠b)
  (keep:∀ b o,b≠X.env.locals->b ∉ X.fs->b ∉ ch->s.heap.get? b=some o->H b=none->h'.get? b=some o)
  (slot:∀ b o,b≠X.env.locals->b∈X.fs->b ∉ ch->s.heap.get? b=some o->H b=none->∃ sl,h'.get? b=some { o with slots:=sl }) (free:∀ b o,b ∉ ch->s.heap.get? b=some o->H b=none->H' b=none)
  (there:∀ b o,b ∉ ch->s.heap.get? b=some o->∃ o',h'.get? b=some o')
  (xr:∀ b xs,H b=some (.tup xs)->H' b=some (.tup xs)) (v7:∀ b o u,H b=some (.xc o u)->H' b=some (.xc o u)) (xt:∀ b ps,H b=some (.JK ps)->∃ more,H' b=some (.JK (ps ++ more)))
  (ns:∀ m,s.heap.Ns X.env.locals m->h'.Ns X.env.locals m) (bU:jb X.prog X.w H' h') (hg:AllBare g') :
  Inv X ag σ H' { s with heap:=h',gens:=g',drawn:=d',toks:=t' }:=by
 have neL:∀ b o,X.lR.heap.get? b=some o->b≠X.env.locals:=fun b o e=>cU (cm (br e) I.ok.above)
 have Xb:∀ b o,X.lR.heap.get? b=some o->b ∉ X.ex->b ∉ ch:=fun b o e hx hb=>by
  rcases(w8 b hb).1 with z | z
  ·exact hx z
  ·exact absurd (cm (br e) z) (eT _)
 have Yb:∀ x c,X.env.cells.lookup x=some c->∀ v,s.heap.IsCell c v->h'.IsCell c v:=fun x c e v ⟨o,ho,hd⟩=>by
  have Sz:c ∉ ch:=fun z=>(w8 c z).2.2.1 x c e rfl
  by_cases hc:c∈X.fs
  ·obtain⟨sl,q⟩:=slot c o (I.LM x c e) hc Sz ho (I.tM x c e)
   exact⟨_,q,hd⟩
  ·exact⟨o,keep c o (I.LM x c e) hc Sz ho (I.tM x c e),hd⟩
 refine⟨I.ok,I.os,hg,⟨fun b o e n hb hx => ?_,fun b o e n hb hx => ?_,fun b o e n hx => ?_,fun b o e hx => ?_,fun b xs e=>xr b xs (I.base.xr b xs e),fun b o xs e=>v7 b o xs (I.base.v7 b o xs e),fun b ps e => ?_⟩,?_,fun x c e => ?_,?_,fun x c e => ?_,fun p hp => ?_,bU,I.len⟩
 ·exact keep b o (neL b o e) hb (Xb b o e hx) (I.base.keep b o e n hb hx) (I.base.free b o e n hx)
 ·obtain⟨sl,e1⟩:=I.base.slot b o e n hb hx
  obtain⟨sl',e2⟩:=slot b _ (neL b o e) hb (Xb b o e hx) e1 (I.base.free b o e n hx)
  exact⟨sl',e2⟩
 ·obtain⟨o',e1⟩:=I.base.there b o e hx
  exact free b o' (Xb b o e hx) e1 (I.base.free b o e n hx)
 ·obtain⟨o',e1⟩:=I.base.there b o e hx
  exact there b o' (Xb b o e hx) e1
 ·obtain⟨m1,e1⟩:=I.base.xt b ps e
  obtain⟨m2,e2⟩:=xt b _ e1
  exact⟨m1 ++ m2,by rw[e2,B6]⟩
 ·obtain⟨m,hn,hl⟩:=I.loc
  refine⟨m,ns m hn,fun i x v e1 e2 e3 => ?_⟩
  obtain⟨u,r,l⟩:=hl i x v e1 e2 e3
  refine⟨u,r,?_⟩
  rcases l with l | ⟨k,c,e,z⟩
  ·exact .inl l
  ·exact .inr ⟨k,c,e,Yb x c e _ z⟩
 ·obtain⟨v,z⟩:=I.cell x c e
  exact⟨v,Yb x c e v z⟩
 ·obtain⟨m,⟨o,_,_,ho,_⟩,_⟩:=I.loc
  exact free _ o (fun z=>(w8 _ z).2.1 rfl) ho I.free
 ·obtain⟨v,o,ho,hd⟩:=I.cell x c e
  exact free c o (fun z=>(w8 c z).2.2.1 x c e rfl) ho (I.tM x c e)
 ·obtain⟨e,n,ne,nf,d⟩:=I.pin p hp
  have Sz:p.1 ∉ ch:=fun z=>(w8 p.1 z).2.2.2 p hp rfl
  exact⟨keep p.1 p.2 ne nf Sz e n,free p.1 p.2 Sz e n,ne,nf,d⟩
theorem Inv.un {t':Nat} (I:Inv X ag σ H s) (u:Un X.fs [] H H' s.heap h') (bU:jb X.prog X.w H' h'):Inv X ag σ H' { s with heap:=h',toks:=t' }:=by
 obtain⟨m,⟨o,es,ep,ho,r⟩,_⟩:=id I.loc
 obtain⟨sl,hL⟩:=u.any ho I.free (by simp)
 exact I.step (g':=s.gens) (d':=s.drawn) (ch := []) (fun _ z=>nomatch z) (fun b o _ hb _ e n=>u.keep b o e n hb (by simp)) (fun b o _ hb _ e n=>u.slot b o e n hb (by simp)) (fun b o _ e n=>u.free b o e n (by simp)) (fun b o _ e=>u.there b o e (by simp)) u.xr u.v7 u.xt (fun m' hm=>by
  obtain⟨o',dB,ep',Fp,r'⟩:=hm
  rw[ho]at Fp;cases Fp
  exact⟨_,dB,ep',hL,r'⟩) bU I.bare
theorem Inv.call {g':Array GenState} {t':Nat} {d':Drawn}{ch:List Addr} (I:Inv X ag σ H s) (u:Un (oN X.stack) ch H H' s.heap h') (bU:jb X.prog X.w H' h') (hg:AllBare g')
  (w8:∀ b∈ch,(b∈X.ex∨X.lR.heap.objs.size<=b)∧b≠X.env.locals∧(∀ x c,X.env.cells.lookup x=some c->c≠b)∧∀ p∈X.pn ++ ag,p.1≠b) :
  Inv X ag σ H' { s with heap:=h',gens:=g',drawn:=d',toks:=t' }:=by
 obtain⟨m,⟨o,es,ep,ho,r⟩,_⟩:=id I.loc
 obtain⟨sl,hL⟩:=u.any ho I.free fun z=>(w8 _ z).2.1 rfl
 exact I.step (ch:=ch) w8 (fun b o hL hb hc e n=>u.keep b o e n (fun z=>(bo.mp (I.As b z)).elim hL hb) hc) (fun b o _ _ hc e n=>u.any e n hc) (fun b o hc e n=>u.free b o e n hc) (fun b o hc e=>u.there b o e hc) u.xr u.v7 u.xt (fun m' hm=>by
  obtain⟨o',dB,ep',Fp,r'⟩:=hm
  rw[ho]at Fp;cases Fp
  exact⟨_,dB,ep',hL,r'⟩) bU hg
theorem Inv.turned {t':Nat}{it:Addr} (I:Inv X ag σ H s) (k:∀ b o,b≠it->s.heap.get? b=some o->h'.get? b=some o) (hn:H it=none) (hL:it≠X.env.locals)
  (h1:it∈X.ex∨X.lR.heap.objs.size<=it) (h2:∀ x c,X.env.cells.lookup x=some c->c≠it) (h3:∀ p∈X.pn ++ ag,p.1≠it):Inv X ag σ H { s with heap:=h',toks:=t' }:=by
 have nit:∀ b u,H b=some u->b≠it:=fun b u e z=>by rw[z,hn]at e;cases e
 refine I.step (g':=s.gens) (d':=s.drawn) (ch := [it]) (fun b hb => ?_) (fun b o _ _ hc e _=>k b o (fun z=>hc (by simp[z])) e) (fun b o _ _ hc e _=>⟨o.slots,k b o (fun z=>hc (by simp[z])) e⟩) (fun _ _ _ _ n=>n)
  (fun b o hc e=>⟨o,k b o (fun z=>hc (by simp[z])) e⟩) (fun _ _ e=>e) (fun _ _ _ e=>e) (fun b ps e=>⟨#[],by rw[e];simp⟩) (fun m hm => ?_) (fun b u e => ?_) I.bare
 ·have e:b=it:=by simpa using hb
  subst e
  exact⟨h1,hL,h2,h3⟩
 ·obtain⟨o,es,ep,ho,r⟩:=hm
  exact⟨o,es,ep,k _ o (bV hL) ho,r⟩
 ·refine(I.bU b u e).Au (fun c v hc q=>k c v ?_ q) (fun _ q=>q) fun _ _ q=>q
  rcases hc with z | z
  ·rw[z];exact nit b u e
  ·exact nit c _ z
theorem Inv.tok (I:Inv X ag σ H s) (t:Nat):Inv X ag σ H { s with toks:=t }:=I.un (h':=s.heap) (t':=t) Un.refl I.bU
theorem Inv.kept {t':Nat} (I:Inv X ag σ H s) (k:∀ b u,s.heap.get? b=some u->h'.get? b=some u):Inv X ag σ H { s with heap:=h',toks:=t' }:=I.un (Un.kept k) (I.bU.kept k)
theorem Inv.laid {a:Addr}{o:HO} {t':Nat} (I:Inv X ag σ H s) (k:∀ b u,s.heap.get? b=some u->h'.get? b=some u) (hp:s.heap.objs.size<=a) (new:d8 X.prog X.w (aJ H a o) h' a o) :
  Inv X ag σ (aJ H a o) { s with heap:=h',toks:=t' }:=I.un (Un.laid k hp (I.bU.fresh hp)) (I.bU.laid k hp new)
theorem Inv.write {x e:Addr}{o:HO} {t':Nat} (I:Inv X ag σ H s) (mu:Uo (H x)) (he:e=x∨H e=some (.own x)) (k:∀ b u,b≠e->s.heap.get? b=some u->h'.get? b=some u) (Oc:∃ u,h'.get? e=some u)
  (new:d8 X.prog X.w (aJ H x o) h' x o):Inv X ag σ (aJ H x o) { s with heap:=h',toks:=t' }:=I.un (Un.write mu he k Oc) (I.bU.write mu he k Oc new)
theorem Inv.NC {W7:List (Addr × Obj)} (I:Inv X ag σ H s) (h:∀ p∈W7,s.heap.get? p.1=some p.2∧H p.1=none∧p.1≠X.env.locals∧p.1 ∉ X.fs∧∀ v,p.2.data ≠ .cell v):Inv X W7 σ H s :=
 ⟨I.ok,I.os,I.bare,I.base,I.loc,I.cell,I.free,I.tM,fun p hp=>(bX.mp hp).elim (fun z=>I.pin p (cO _ z)) (h p),I.bU,I.len⟩
theorem KG {N:List Str} (hN:N.Nodup) {i j:Nat}{x:Str} (a:N[i]? = some x) (b:N[j]? = some x):i=j:=by
 obtain⟨h1,e1⟩:=ai.mp a
 obtain⟨h2,e2⟩:=ai.mp b
 exact(Ez hN).mp (e1.trans e2.symm)
theorem Rm {M:Model}{A:Around}{E:Value->Shared->Prop}{i:Nat}{x:Str}{v:V}{u:Value}{Q:Unit->Shared->Prop} (I:Inv X ag σ H s) (hN:X.N.Nodup) (hi:X.N[i]? = some x) (hx:Loc X.env.scope x) (r:RelV v u)
  (h:∀ s',Inv X ag (σ.set i (some v)) H s'->(∃ a,fF a s.heap s'.heap∧(a=X.env.locals∨X.env.cells.lookup x=some a))->Q () s') (hf:X.fn x=true∨X.env.scope.names.lookup x=some .local:=by first | exact .inl rfl | exact .inr rfl | assumption):wpAny M A (storeName X.env x u) Q E s:=by
 obtain⟨m,hn,hl⟩:=id I.loc
 have aoG:(X.env.scope.kind == .class || (X.env.scope.kind == .module && X.env.locals != X.env.globals))=false:=by rw[I.ok.kind];rfl
 have ac6 : i < σ.length:=by rw[I.len];exact(ai.mp hi).1
 have LM:=I.LM
 have GB:∀ {a:Addr} {h':Heap},(∃ o,s.heap.get? a=some o∧H a=none)->fF a s.heap h'->jb X.prog X.w H h':=fun {a h'} ha hs b ob e=>by
  obtain⟨_,_,Cq⟩:=ha
  refine(I.bU b ob e).Au (fun c w' hc q=>(hs.2 c ?_).trans q) (fun _ q=>q) fun _ _ q=>q
  rintro rfl
  rcases hc with rfl | hc
  ·rw[Cq]at e;cases e
  ·rw[Cq]at hc;cases hc
 rcases hx with hk | hk
 ·refine wpAny_storeName_local hk hn (fun h' hn' hs => ?_) aoG
  obtain⟨oL,_,_,hoL,_⟩:=id hn
  refine h _ ⟨I.ok,I.os,I.bare,⟨fun b o e n hb hx => ?_,fun b o e n hb hx => ?_,I.base.free,fun b o e hx => ?_,I.base.xr,I.base.v7,I.base.xt⟩,⟨_,hn',fun j y v' e1 e2 e3 => ?_⟩,fun y c e => ?_,I.free,I.tM,fun p hp => ?_,GB ⟨oL,hoL,I.free⟩ hs,by simpa using I.len⟩ ⟨_,hs,.inl rfl⟩
  ·exact(hs.2 b (cU (cm (br e) I.ok.above))).trans (I.base.keep b o e n hb hx)
  ·obtain⟨sl,e1⟩:=I.base.slot b o e n hb hx
   exact⟨sl,(hs.2 b (cU (cm (br e) I.ok.above))).trans e1⟩
  ·obtain⟨o',e1⟩:=I.base.there b o e hx
   exact⟨o',(hs.2 b (cU (cm (br e) I.ok.above))).trans e1⟩
  ·by_cases hj:j=i
   ·subst hj
    rw[hi]at e1;cases e1
    rw[xR ac6]at e2
    cases e2
    exact⟨u,r,.inl ⟨hk,by simp⟩⟩
   ·rw[zL (bV hj)]at e2
    obtain⟨u',r',q⟩:=hl j y v' e1 e2 e3
    refine⟨u',r',?_⟩
    rcases q with⟨k,e⟩ | ⟨k,c,e,z⟩
    ·refine .inl ⟨k,?_⟩
     have:y≠x:=fun e=>hj (KG hN e1 (e ▸ hi))
     simp[this,e]
    ·exact .inr ⟨k,c,e,z.sameBut hs (LM y c e)⟩
  ·obtain⟨w',z⟩:=I.cell y c e
   exact⟨w',z.sameBut hs (LM y c e)⟩
  ·obtain⟨e,n,ne,nf,d⟩:=I.pin p hp
   exact⟨(hs.2 p.1 ne).trans e,n,ne,nf,d⟩
 ·have hfn:X.fn x=true:=by
   rcases hf with z | z
   ·exact z
   ·rw[z]at hk;cases hk
  obtain⟨c,hc⟩:=I.ok.has x (.inl hk)
  obtain⟨w',z⟩:=I.cell x c hc
  refine wpAny_storeName_cell I.ok.kind hk hc z (fun h' FC hs => ?_)
  obtain⟨oc,hoc,aou⟩:=id z
  refine h { s with heap:=h' } ⟨I.ok,I.os,I.bare,⟨fun b o e n hb hx => ?_,fun b o e n hb hx => ?_,I.base.free,fun b o e hx => ?_,I.base.xr,I.base.v7,I.base.xt⟩,⟨m,hn.sameBut hs (bV (LM x c hc)),fun j y v' e1 e2 e3 => ?_⟩,fun y c' e => ?_,I.free,I.tM,fun p hp => ?_,GB ⟨oc,hoc,I.tM x c hc⟩ hs,by simpa using I.len⟩ ⟨c,hs,.inr hc⟩
  ·exact(hs.2 b (cU (cm (br e) (I.ok.OF x c hfn hc)))).trans (I.base.keep b o e n hb hx)
  ·obtain⟨sl,e1⟩:=I.base.slot b o e n hb hx
   exact⟨sl,(hs.2 b (cU (cm (br e) (I.ok.OF x c hfn hc)))).trans e1⟩
  ·obtain⟨o',e1⟩:=I.base.there b o e hx
   exact⟨o',(hs.2 b (cU (cm (br e) (I.ok.OF x c hfn hc)))).trans e1⟩
  ·by_cases hj:j=i
   ·subst hj
    rw[hi]at e1;cases e1
    rw[xR ac6]at e2
    cases e2
    exact⟨u,r,.inr ⟨.inl hk,c,hc,FC⟩⟩
   ·rw[zL (bV hj)]at e2
    obtain⟨u',r',q⟩:=hl j y v' e1 e2 e3
    refine⟨u',r',?_⟩
    rcases q with q | ⟨k,c',e,z'⟩
    ·exact .inl q
    ·refine .inr ⟨k,c',e,z'.sameBut hs ?_⟩
     rintro rfl
     exact hj (KG hN e1 (I.ok.inj _ _ _ e hc ▸ hi))
  ·by_cases hcc:c'=c
   ·subst hcc;exact⟨_,FC⟩
   ·obtain⟨w2,z2⟩:=I.cell y c' e
    exact⟨w2,z2.sameBut hs hcc⟩
  ·obtain⟨e,n,ne,nf,d⟩:=I.pin p hp
   refine⟨(hs.2 p.1 ?_).trans e,n,ne,nf,d⟩
   intro q
   rw[q,hoc]at e
   have q':oc=p.2:=aE e
   exact d w' (by rw[<- q'];exact aou)
theorem JP {M:Model}{A:Around}{E:Value->Shared->Prop}{i:Nat}{x:Str}{v:V}{u:Value}{Q:Unit->Shared->Prop} (I:Inv X ag σ H s) (hN:X.N.Nodup) (hi:X.N[i]? = some x) (hx:Loc X.env.scope x) (r:RelV v u)
  (h:∀ s',Inv X ag (σ.set i (some v)) H s'->Q () s') (hf:X.fn x=true∨X.env.scope.names.lookup x=some .local:=by first | exact .inl rfl | exact .inr rfl | assumption):wpAny M A (storeName X.env x u) Q E s :=
 Rm I hN hi hx r (fun s' I' _=>h s' I') hf
theorem Inv.ahW {s':Shared}{ch:List Addr} (I:Inv X ag σ H s) (ho:s'.os=s.os) (u:Un (oN X.stack) ch H H' s.heap s'.heap) (bU:jb X.prog X.w H' s'.heap) (hg:AllBare s'.gens)
  (w8:∀ b∈ch,(b∈X.ex∨X.lR.heap.objs.size<=b)∧b≠X.env.locals∧(∀ x c,X.env.cells.lookup x=some c->c≠b)∧∀ p∈X.pn ++ ag,p.1≠b):Inv X ag σ H' s':=by
 obtain⟨h',g',d',t',o'⟩:=s'
 have e:o'=s.os:=ho
 subst e
 exact I.call (g':=g') (t':=t') (d':=d') u bU hg w8
end
abbrev XK:=Value->Option Addr->Hp->Prop
abbrev St:=List (Option V)
abbrev VK:=V->Hp->Prop
abbrev TE:=St->Hp->VK->Prop
abbrev TT:=St->Hp->(Bool->Hp->Prop)->Prop
abbrev TA:=St->Hp->(List V->Hp->Prop)->Prop
structure Ends where
 nx:St->Hp->Prop
 rt:VK
 bk:St->Hp->Prop:=fun _ _=>False
 ct:St->Hp->Prop:=fun _ _=>False
abbrev TS:=Ends->St->Hp->Prop
def EP (X:Cx) (ag:List (Addr × Obj)) (σ : St) (Q:VK) (u:Value) (s':Shared):Prop := ∃ v H',Inv X ag σ H' s'∧RelV v u∧Q v H'
def TP (X:Cx) (ag:List (Addr × Obj)) (σ : St) (Q:Bool->Hp->Prop) (b:Bool) (s':Shared):Prop := ∃ H',Inv X ag σ H' s'∧Q b H'
def AP (X:Cx) (ag:List (Addr × Obj)) (σ : St) (Q:List V->Hp->Prop) (us:List Value) (s':Shared):Prop := ∃ vs H',Inv X ag σ H' s'∧Vals vs us∧Q vs H'
def SP (X:Cx) (ag:List (Addr × Obj)) (D:Ends) (f:Flow) (s':Shared):Prop :=
 match f with
 | .next=>∃ bF H',Inv X ag bF H' s'∧D.nx bF H'
 | .brk=>∃ bF H',Inv X ag bF H' s'∧D.bk bF H'
 | .cont=>∃ bF H',Inv X ag bF H' s'∧D.ct bF H'
 | .ret u=>∃ v bF H',Inv X ag bF H' s'∧RelV v u∧D.rt v H'
def PE (X:Cx) (e:Expr) (t:TE):Prop :=
 ∀ (ag:List (Addr × Obj)) (s:Shared) (σ : St) (H:Hp) (Q:VK),Inv X ag σ H s->t σ H Q->wpAny (model X.prog X.w) X.A (eval e X.env) (EP X ag σ Q) X.xe s
def PT (X:Cx) (e:Expr) (t:TT):Prop :=
 ∀ (ag:List (Addr × Obj)) (s:Shared) (σ : St) (H:Hp) (Q:Bool->Hp->Prop),Inv X ag σ H s->t σ H Q->wpAny (model X.prog X.w) X.A (isTrue e X.env (eval e X.env)) (TP X ag σ Q) X.xe s
def PW (X:Cx) (e:Expr) (t:TT):Prop :=
 ∀ (yP:Sem Value) (ag:List (Addr × Obj)) (s:Shared) (σ : St) (H:Hp) (Q:Bool->Hp->Prop),Inv X ag σ H s->t σ H Q->wpAny (model X.prog X.w) X.A (isTrue e X.env yP) (TP X ag σ Q) X.xe s
theorem PW.pt {X:Cx}{e:Expr}{t:TT} (h:PW X e t):PT X e t:=h _
def PA (X:Cx) (es:List Expr) (t:TA):Prop :=
 ∀ (pos:Pos) (ag:List (Addr × Obj)) (s:Shared) (σ : St) (H:Hp) (Q:List V->Hp->Prop),Inv X ag σ H s->t σ H Q->wpAny (model X.prog X.w) X.A (spliced (backTo pos (starEach es X.env))) (AP X ag σ Q) X.xe s
def PS (X:Cx) (st:Stmt) (t:TS):Prop :=
 ∀ (ag:List (Addr × Obj)) (s:Shared) (σ : St) (H:Hp) (D:Ends),Inv X ag σ H s->t D σ H->wpAny (model X.prog X.w) X.A (exec st X.env) (SP X ag D) X.xe s
def pT (X:Cx) (st:List Stmt) (t:TS):Prop :=
 ∀ (ag:List (Addr × Obj)) (s:Shared) (σ : St) (H:Hp) (D:Ends),Inv X ag σ H s->t D σ H->wpAny (model X.prog X.w) X.A (execs st X.env) (SP X ag D) X.xe s
theorem cf {α : Type}{t:Sem α} {Q Q' : α -> Shared->Prop}{M:Model}{A:Around}{E:Value->Shared->Prop}{s:Shared} (h:wpAny M A t Q E s) (hQ:∀ a s,Q a s->Q' a s):wpAny M A t Q' E s:=wpAny_mono h hQ fun _ _ x=>x
section
variable {X:Cx}
inductive agP (i:Nat) (σ : St) (H:Hp) (Q:VK):Prop
 | mk (v:V) (e : σ[i]? = some (some v)) (q:Q v H):agP i σ H Q
def Z3 (i:Nat):TE:=fun σ H Q=>agP i σ H Q
def tC (v:V):TE:=fun _ H Q=>Q v H
theorem aay {i:Nat}{x:Str}{pos:Pos} (hN:X.N[i]? = some x) (hv:Vis X.env.scope x) (hd:(x == ("__debug__" : Str))=false:=by decide) (oK:(x == ("__classdict__" : Str))=false:=by decide):PE X (.Name x pos) (Z3 i):=by
 intro ag s σ H Q I h
 obtain⟨v,e,h⟩:=h
 obtain⟨m,hn,hl⟩:=I.loc
 obtain⟨u,r,l⟩:=hl i x v hN e hv
 have gO:EP X ag σ Q u s:=⟨v,H,I,r,h⟩
 rcases l with⟨hk,hm⟩ | ⟨hk,c,hc,xa⟩
 ·exact wpAny_Name (wpAny_loadName_local I.ok.kind hk hn hm gO) hd
 ·rcases hk with hk | hk
  ·exact wpAny_Name (wpAny_loadName_cell I.ok.kind hk hc xa gO) hd
  ·exact wpAny_Name (wpAny_loadName_free I.ok.kind hk hc xa gO oK) hd
theorem az {i j pos}:PE X (.Constant (.int i) j pos) (tC (.int i)):=fun _ _ _ H _ I h=>wpAny_Constant_int ⟨.int i,H,I.tok _,⟨_,rfl⟩,h⟩
theorem y8 {b j pos}:PE X (.Constant (.bool b) j pos) (tC (.bl b)):=fun _ _ _ H _ I h=>Constant_bool ⟨.bl b,H,I,rfl,h⟩
theorem nD {j pos}:PE X (.Constant .none j pos) (tC .cQ):=fun _ _ _ H _ I h=>Constant_none ⟨.cQ,H,I,rfl,h⟩
theorem cY {x j pos}:PE X (.Constant (.str x) j pos) (tC (.str x)):=fun _ _ _ H _ I h=>Calls.Constant_str ⟨.str x,H,I.tok _,⟨_,rfl⟩,h⟩
def Gl (X:Cx) (x:Str):Prop:=X.env.kindOf x=some .globalImplicit
theorem Cm {E:Value->Shared->Prop}{ag:List (Addr × Obj)}{s:Shared}{σ : St}{H:Hp}{x:Str}{u:Value}{pos:Pos}{Q:Value->Shared->Prop} (I:Inv X ag σ H s) (hg:Gl X x) (hm:X.mg x=some u) (h:Q u s)
  (hd:(x == ("__debug__" : Str))=false:=by decide):wpAny (model X.prog X.w) X.A (eval (.Name x pos) X.env) Q E s :=
 uy I.ok.kind hg (Calls.loadGlobal_global (by rw[I.ok.glob];exact I.mod.glob.keeps I.bk) hm h) hd
theorem vN {E:Value->Shared->Prop}{ag:List (Addr × Obj)}{s:Shared}{σ : St}{H:Hp}{x:Str}{u:Value}{pos:Pos}{Q:Value->Shared->Prop} (I:Inv X ag σ H s) (hg:Gl X x) (hm:X.mg x=none) (hv:bootBuiltins x=some u) (h:Q u s)
  (hn:x ≠ "__name__" := by decide) (hd:(x == ("__debug__" : Str))=false:=by decide):wpAny (model X.prog X.w) X.A (eval (.Name x pos) X.env) Q E s:=by
 obtain⟨mb,h1,h2⟩:=I.mod.blt
 exact uy I.ok.kind hg (Calls.loadGlobal_builtin (by rw[I.ok.glob];exact I.mod.glob.keeps I.bk) hm (by rw[I.ok.blt];exact h1.keeps I.bk) ((h2 x hn).trans hv) h) hd
theorem uY {x:Str}{v:V}{u:Value}{pos:Pos} (hg:Gl X x) (hm:X.mg x=some u) (r:RelV v u) (hd:(x == ("__debug__" : Str))=false:=by decide):PE X (.Name x pos) (tC v) :=
 fun _ _ _ H _ I h=>Cm I hg hm ⟨v,H,I,r,h⟩ hd
theorem NH {x:Str}{v:V}{u:Value}{pos:Pos} (hg:Gl X x) (hm:X.mg x=none) (hv:bootBuiltins x=some u) (r:RelV v u) (hn:x ≠ "__name__" := by decide) (hd:(x == ("__debug__" : Str))=false:=by decide):PE X (.Name x pos) (tC v) :=
 fun _ _ _ H _ I h=>vN I hg hm hv ⟨v,H,I,r,h⟩ hn hd
variable {a b:Expr}{ta tb:TE}{pos:Pos}
def PC (X:Cx) (op:CmpOp) (a b:Expr) (t:TE):Prop :=
 ∀ (ag:List (Addr × Obj)) (s:Shared) (σ : St) (H:Hp) (Q:VK),Inv X ag σ H s->t σ H Q ->
  wpAny (model X.prog X.w) X.A (eval a X.env) (fun v fb => wpAny (model X.prog X.w) X.A (eval b X.env) (fun u p6 => wpAny (model X.prog X.w) X.A (compareOp op v u) (EP X ag σ Q) X.xe p6) X.xe fb) X.xe s
inductive agX (Q:Bool->Hp->Prop) (x:V) (H1:Hp):Prop
 | mk:∀ c,(x = .bl c)->(Q c H1)->agX Q x H1
def tB (t:TE):TT:=fun σ H Q=>t σ H fun x H1=>agX Q x H1
theorem R7 {op:CmpOp}{t:TE} (h:PC X op a b t) (h1:behindInMarks op b=false:=by first | exact anm _ (by decide) (by decide) | rfl):PT X (.Compare a [op] [b] pos) (tB t):=by
 intro ag s σ H Q I hw
 refine wpAny_isTrue_Compare1 (cf (h ag s σ H _ I hw) fun v s1 h1=>cf h1 fun u s2 h2=>cf h2 fun c s3 ⟨x,H1,I1,r1,q1⟩ => ?_) h1
 obtain⟨d,rfl,q⟩:=q1
 cases r1
 exact wpAny_truthy_bool ⟨H1,I1,q⟩
theorem kI {e:Expr}{t:TE} (h:PE X e t) (he:∀ yP,isTrue e X.env yP=(do let v <- yP;standAt e.pos;holding [v] (truthy v)):=by intro _;rfl):PT X e (tB t):=by
 intro ag s σ H Q I hw
 refine isTrue_plain (cf (h ag s σ H _ I hw) fun v s1 ⟨x,H1,I1,r1,q1⟩ => ?_) (he _)
 obtain⟨d,rfl,q⟩:=q1
 cases r1
 exact wpAny_truthy_bool ⟨H1,I1,q⟩
variable {tA WU:TT}{rest:List Expr}
def akk (t u:TT):TT:=fun σ H Q=>t σ H fun c H1=>if c=true then u σ H1 Q else Q false H1
def tOr (t u:TT):TT:=fun σ H Q=>t σ H fun c H1=>if c=true then Q true H1 else u σ H1 Q
def akh (t:TT):TT:=fun σ H Q=>t σ H fun c H1=>Q (!c) H1
theorem pw_and1 (ha:PT X a tA):PW X (.BoolOp .And [a] pos) tA:=by
 intro wh ag s σ H Q I h
 refine isTrue_and (cf (ha ag s σ H Q I h) fun c s1 e => ?_)
 cases c with
 | true=>exact isTrue_and_nil e
 | false=>exact e
theorem pw_or1 (ha:PT X a tA):PW X (.BoolOp .Or [a] pos) tA:=by
 intro wh ag s σ H Q I h
 refine isTrue_or (cf (ha ag s σ H Q I h) fun c s1 e => ?_)
 cases c with
 | false=>exact isTrue_or_nil e
 | true=>exact e
theorem pw_and (ha:PT X a tA) (hb:PW X (.BoolOp .And (b :: rest) pos) WU):PW X (.BoolOp .And (a :: b :: rest) pos) (akk tA WU):=by
 intro wh ag s σ H Q I h
 refine isTrue_and (cf (ha ag s σ H _ I h) fun c s1 ⟨H1,I1,q1⟩ => ?_)
 cases c with
 | true=>exact hb wh ag s1 σ H1 Q I1 q1
 | false=>exact⟨H1,I1,q1⟩
theorem pw_or (ha:PT X a tA) (hb:PW X (.BoolOp .Or (b :: rest) pos) WU):PW X (.BoolOp .Or (a :: b :: rest) pos) (tOr tA WU):=by
 intro wh ag s σ H Q I h
 refine isTrue_or (cf (ha ag s σ H _ I h) fun c s1 ⟨H1,I1,q1⟩ => ?_)
 cases c with
 | true=>exact⟨H1,I1,q1⟩
 | false=>exact hb wh ag s1 σ H1 Q I1 q1
theorem xZ (ha:PT X a tA):PT X (.UnaryOp .Not a pos) (akh tA):=by
 intro ag s σ H Q I h
 exact isTrue_not (ha ag s σ H (fun c H1=>Q (!c) H1) I h)
def ahu (ta tb:TE):TE:=fun σ H Q=>ta σ H fun x H1=>∃ c,x = .bl c∧if c=true then tb σ H1 Q else Q (.bl false) H1
theorem Bk {op}{t:TE} (h:PE X a t):PE X (.BoolOp op [a] pos) t:=fun ag s σ H Q I hw=>BoolOp_one (h ag s σ H Q I hw)
theorem qI (ha:PE X a ta) (hb:PE X (.BoolOp .And (b :: rest) pos) tb):PE X (.BoolOp .And (a :: b :: rest) pos) (ahu ta tb):=by
 intro ag s σ H Q I h
 refine BoolOp_and (cf (ha ag s σ H _ I h) fun v s1 ⟨x,H1,I1,r1,q1⟩ => ?_)
 obtain⟨c,rfl,q1⟩:=q1
 cases r1
 refine wpAny_truthy_bool ?_
 cases c with
 | true=>exact hb ag s1 σ H1 Q I1 q1
 | false=>exact⟨.bl false,H1,I1,rfl,q1⟩
def tIf (t:TT) (ta tb:TE):TE:=fun σ H Q=>t σ H fun c H1=>if c=true then ta σ H1 Q else tb σ H1 Q
theorem y4 {c:Expr} (hc:PT X c tA) (ha:PE X a ta) (hb:PE X b tb):PE X (.IfExp c a b pos) (tIf tA ta tb):=by
 intro ag s σ H Q I h
 refine wpAny_IfExp (cf (hc ag s σ H _ I h) fun d s1 ⟨H1,I1,q1⟩ => ?_)
 cases d with
 | true=>exact ha ag s1 σ H1 Q I1 q1
 | false=>exact hb ag s1 σ H1 Q I1 q1
end
def bb (K:ak) (H:Hp) (a:Addr) (xs:List V):Prop :=
 Rd H a (.lst xs) ∨
  ∃ (o:Obj) (its:Array Value) (n:Nat),K.lookup a=some o∧o.cls = .type "list" ∧ o.dict=none∧o.data = .seq its n∧its.size<=sizeLine∧Vals xs its.toList
def bP (K:ak) (H:Hp) (a:Addr) (xs:List V):Prop :=
 Rd H a (.tup xs) ∨
  ∃ (o:Obj) (its:Array Value) (n:Nat),K.lookup a=some o∧o.cls = .type "tuple" ∧ o.data = .seq its n∧its.size<=sizeLine∧Vals xs its.toList
def aq8:Value->Option V
 | .none=>some .cQ
 | .bool b=>some (.bl b)
 | .int i _=>some (.int i)
 | .str x _=>some (.str x)
 | .bytes b _=>some (.xg b)
 | .float b _=>some (.LC b)
 | .ref a=>some (.ref a)
 | .type n=>some (.ty n)
 | _=>none
theorem RelV.abs {x:V}{u:Value} (r:RelV x u):aq8 u=some x:=by
 cases x with
 | cQ=>cases r;rfl
 | bl _=>cases r;rfl
 | int _=>obtain⟨t,rfl⟩:=r;rfl
 | str _=>obtain⟨t,rfl⟩:=r;rfl
 | xg _=>obtain⟨t,rfl⟩:=r;rfl
 | LC _=>obtain⟨t,rfl⟩:=r;rfl
 | ref _=>cases r;rfl
 | ty _=>cases r;rfl
theorem RelV.inj {x y:V}{u:Value} (r:RelV x u) (q:RelV y u):x=y:=aE (r.abs.symm.trans q.abs)
theorem Vals.inj:∀ {xs ys:List V}{us:List Value},Vals xs us->Vals ys us->xs=ys
 | _,_,_,.nil,.nil=>rfl
 | _,_,_,.cons r t,.cons r' t'=>by rw[r.inj r',Vals.inj t t']
section
variable {X:Cx}{ag:List (Addr × Obj)}{σ : St}{H:Hp}{s:Shared}{a:Addr}{xs ys:List V}
theorem bb.of {K:ak} (h:H a=some (.lst xs)):bb K H a xs := .inl (.inl h)
theorem bP.of {K:ak} (h:H a=some (.tup xs)):bP K H a xs := .inl (.inl h)
theorem Inv.list (I:Inv X ag σ H s) (h:bb X.K H a xs):∃ its:List Value,Vals xs its∧PlainL s.heap a its.toArray∧xs.length<=sizeLine:=by
 rcases h with h | ⟨o,its,n,hk,hc,hd,hs,hz,r⟩
 ·obtain⟨z,its,n,r,e⟩:=h.ok I.bU
  exact⟨its,r,⟨_,n,e,rfl,rfl,rfl⟩,z⟩
 ·refine⟨its.toList,r,⟨o,n,I.kL a o hk,hc,hd,by simpa using hs⟩,?_⟩
  have e:=r.length
  simp only[a8]at e
  omega
theorem Inv.tuple (I:Inv X ag σ H s) (h:bP X.K H a xs):∃ its:List Value,Vals xs its∧IsTup s.heap a its.toArray∧xs.length<=sizeLine:=by
 rcases h with h | ⟨o,its,n,hk,hc,hs,hz,r⟩
 ·obtain⟨z,its,r,p⟩:=h.ok I.bU
  exact⟨its,r,p.tup,z⟩
 ·refine⟨its.toList,r,⟨o,I.kL a o hk,hc,n,by simpa using hs⟩,?_⟩
  have e:=r.length
  simp only[a8]at e
  omega
theorem Inv.KP (I:Inv X ag σ H s) (h:bb X.K H a xs) (h':bb X.K H a ys):xs=ys:=by
 obtain⟨its,r,⟨o,n,e,_,_,d⟩,_⟩:=I.list h
 obtain⟨its',r',⟨o',n',e',_,_,d'⟩,_⟩:=I.list h'
 rw[e]at e';cases e'
 rw[d]at d'
 injection d' with d1 _
 have:its=its':=by simpa using congrArg Array.toList d1
 subst this
 exact r.inj r'
theorem Inv.Rc (I:Inv X ag σ H s) (h:bP X.K H a xs) (h':bP X.K H a ys):xs=ys:=by
 obtain⟨its,r,⟨o,e,_,n,d⟩,_⟩:=I.tuple h
 obtain⟨its',r',⟨o',e',_,n',d'⟩,_⟩:=I.tuple h'
 rw[e]at e';cases e'
 rw[d]at d'
 injection d' with d1 _
 have:its=its':=by simpa using congrArg Array.toList d1
 subst this
 exact r.inj r'
end
abbrev Cx.u9 (X:Cx) (E:Value->Shared->Prop):Cx := { X with xe:=E }
abbrev Cx.NU (X:Cx):Cx:=X.u9 fun _ _=>False
theorem Cx.Ok.u9 {X:Cx} (ok:X.Ok) (E:Value->Shared->Prop):(X.u9 E).Ok :=
 ⟨ok.mod,ok.kind,ok.glob,ok.blt,ok.above,ok.inj,ok.has,ok.OF,ok.hd,ok.frames,ok.Rn,ok.exf,ok.bs,ok.Dl,ok.GQ,ok.LG,ok.sQ,ok.Ii⟩
theorem Cx.Ok.nA {X:Cx}{E:Value->Shared->Prop} (ok:(X.u9 E).Ok):X.Ok :=
 ⟨ok.mod,ok.kind,ok.glob,ok.blt,ok.above,ok.inj,ok.has,ok.OF,ok.hd,ok.frames,ok.Rn,ok.exf,ok.bs,ok.Dl,ok.GQ,ok.LG,ok.sQ,ok.Ii⟩
section
variable {X:Cx}{ag:List (Addr × Obj)}{σ : St}{H:Hp}{s:Shared}{E:Value->Shared->Prop}
theorem Inv.u9 (I:Inv X ag σ H s) (E:Value->Shared->Prop):Inv (X.u9 E) ag σ H s:=⟨I.ok.u9 E,I.os,I.bare,I.base,I.loc,I.cell,I.free,I.tM,I.pin,I.bU,I.len⟩
theorem Inv.nA (I:Inv (X.u9 E) ag σ H s):Inv X ag σ H s:=⟨I.ok.nA,I.os,I.bare,I.base,I.loc,I.cell,I.free,I.tM,I.pin,I.bU,I.len⟩
theorem SP.nA {D:Ends}{f:Flow} {s':Shared} (h:SP (X.u9 E) ag D f s'):SP X ag D f s':=by
 cases f with
 | next=>obtain⟨bF,H',I,q⟩:=h;exact⟨bF,H',I.nA,q⟩
 | brk=>obtain⟨bF,H',I,q⟩:=h;exact⟨bF,H',I.nA,q⟩
 | cont=>obtain⟨bF,H',I,q⟩:=h;exact⟨bF,H',I.nA,q⟩
 | ret u=>obtain⟨v, bF,H',I,r,q⟩:=h;exact⟨v, bF,H',I.nA,r,q⟩
theorem pT.NU {st:List Stmt}{t:TS} (h:pT X.NU st t):pT X st t:=fun ag s σ H D I hw =>
 wpAny_mono (h ag s σ H D (I.u9 _) hw) (fun _ _ q=>q.nA) fun _ _ z=>eW z
end
section
variable {X:Cx}{st:Stmt}{rest:List Stmt}{t u:TS}{e:Expr}{te:TE}{pos:Pos}
def jR:TS:=fun D σ H=>D.nx σ H
def Z4 (t u:TS):TS:=fun D σ H=>t { D with nx:=u D } σ H
theorem cq:pT X [] jR:=fun _ _ σ H _ I h=>wpAny_execs_nil ⟨σ,H,I,h⟩
theorem av (h1:PS X st t) (h2:pT X rest u):pT X (st :: rest) (Z4 t u):=by
 intro ag s σ H D I h
 refine wpAny_execs_cons (cf (h1 ag s σ H { D with nx:=u D } I h) fun f s1 q => ?_)
 cases f with
 | next =>
  obtain⟨bF,H',I',q⟩:=q
  exact h2 ag s1 bF H' D I' q
 | ret v=>exact q
 | brk=>exact q
 | cont=>exact q
theorem aC (h1:PS X st t):pT X [st] t:=by
 intro ag s σ H D I h
 refine wpAny_execs_cons (cf (h1 ag s σ H D I h) fun f s1 q => ?_)
 cases f with
 | next=>exact wpAny_execs_nil q
 | ret v=>exact q
 | brk=>exact q
 | cont=>exact q
theorem YU:PS X (.Pass pos) jR:=fun _ _ σ H _ I h=>wpAny_Pass ⟨σ,H,I,h⟩
theorem Inv.quiet {ag:List (Addr × Obj)}{σ : St}{H:Hp}{s:Shared} (I:Inv X ag σ H s):interactive X.env=false:=by simp[interactive,I.ok.kind]
def ahs (te:TE):TS:=fun D σ H=>te σ H fun _ H1=>D.nx σ H1
theorem gu (he:PE X e te) (hs:swapsWith e none pos.line X.env=pure false:=by rfl):PS X (.Expr e pos) (ahs te):=by
 intro ag s σ H D I h
 exact wpAny_Expr_any (cf (he ag s σ H _ I h) fun v s1 ⟨x,H1,I1,r1,q1⟩=>⟨σ,H1,I1,q1⟩) I.quiet hs
def akg (te:TE):TS:=fun D σ H=>te σ H D.rt
theorem bx (he:PE X e te):PS X (.Return (some e) pos) (akg te):=by
 intro ag s σ H D I h
 exact wpAny_Return_some (cf (he ag s σ H _ I h) fun v s1 ⟨x,H1,I1,r1,q1⟩=>⟨x, σ,H1,I1,r1,q1⟩)
def GC (c:TT) (t u:TS):TS:=fun D σ H=>c σ H fun b H1=>if b=true then t D σ H1 else u D σ H1
theorem dy {c:Expr}{a b:List Stmt}{tc:TT} (hc:PT X c tc) (ha:pT X a t) (hb:pT X b u):PS X (.If c a b pos) (GC tc t u):=by
 intro ag s σ H D I h
 refine wpAny_If (cf (hc ag s σ H _ I h) fun d s1 ⟨H1,I1,q1⟩ => ?_)
 cases d with
 | true=>exact ha ag s1 σ H1 D I1 q1
 | false=>exact hb ag s1 σ H1 D I1 q1
def Z5:TS:=fun _ _ _=>False
theorem Vl:PS X st Z5:=fun _ _ _ _ _ _ h=>h.elim
end
abbrev TG:=V->St->Hp->(St->Hp->Prop)->Prop
abbrev F0:=List V->St->Hp->(St->Hp->Prop)->Prop
def PG (X:Cx) (oC:Expr) (t:TG):Prop :=
 ∀ (ag:List (Addr × Obj)) (s:Shared) (σ : St) (H:Hp) (v:V) (u:Value) (Q:St->Hp->Prop),Inv X ag σ H s->RelV v u->t v σ H Q ->
  wpAny (model X.prog X.w) X.A (assign oC X.env u) (fun _ s'=>∃ bF H',Inv X ag bF H' s'∧Q bF H') X.xe s
def Yo (X:Cx) (ts:List Expr) (t:F0):Prop :=
 ∀ (ag:List (Addr × Obj)) (s:Shared) (σ : St) (H:Hp) (vs:List V) (us:List Value) (Q:St->Hp->Prop),Inv X ag σ H s->Vals vs us->t vs σ H Q ->
  wpAny (model X.prog X.w) X.A (assignInOrder ((assignEach ts X.env).map (·.2)) us) (fun _ s'=>∃ bF H',Inv X ag bF H' s'∧Q bF H') X.xe s
abbrev Wy:=V->V->V->Hp->(Hp->Prop)->Prop
def agU (X:Cx) (t:Wy):Prop :=
 ∀ (ag:List (Addr × Obj)) (s:Shared) (σ : St) (H:Hp) (o i v:V) (ov iv u:Value) (Q:Hp->Prop),Inv X ag σ H s->RelV o ov->RelV i iv->RelV v u->t o i v H Q ->
  wpAny (model X.prog X.w) X.A (setItem ov iv u) (fun _ s'=>∃ H',Inv X ag σ H' s'∧Q H') X.xe s
section
variable {X:Cx}{pos:Pos}
def cg (i:Nat):TG:=fun v σ H Q=>Q (σ.set i (some v)) H
theorem cC {i:Nat}{x:Str} (hN:X.N.Nodup) (hi:X.N[i]? = some x) (hx:Loc X.env.scope x) (hf:X.fn x=true∨X.env.scope.names.lookup x=some .local:=by first | exact .inl rfl | exact .inr rfl | assumption):PG X (.Name x pos) (cg i):=by
 intro ag s σ H v u Q I r h
 exact wpAny_assign_Name (JP I hN hi hx r (fun s' I'=>⟨_,H,I',h⟩) hf)
def aoW:F0:=fun vs σ H Q=>vs = []∧Q σ H
inductive O8 (t:TG) (u:F0) (vs:List V) (σ : St) (H:Hp) (Q:St->Hp->Prop):Prop
 | mk:∀ v r,(vs=v :: r)->(t v σ H fun bF H'=>u r bF H' Q)->O8 t u vs σ H Q
def ahU (t:TG) (u:F0):F0:=fun vs σ H Q=>O8 t u vs σ H Q
theorem qu:Yo X [] aoW:=by
 intro ag s σ H vs us Q I r h
 obtain⟨e,h⟩:=h
 subst e
 cases r
 exact assignInOrder_nil ⟨σ,H,I,h⟩
theorem fw {e:Expr}{es:List Expr}{t:TG}{u:F0} (h1:PG X e t) (h2:Yo X es u)
  (hs:(assignEach (e :: es) X.env).map (·.2)=assign e X.env :: (assignEach es X.env).map (·.2):=by rfl):Yo X (e :: es) (ahU t u):=by
 intro ag s σ H vs us Q I r h
 obtain⟨v,vr,e1,h⟩:=h
 subst e1
 cases r with
 | cons r rr =>
  rw[hs]
  refine assignInOrder_cons (cf (h1 ag s σ H _ _ _ I r h) fun _ s1 ⟨HD,H1,I1,q1⟩ => ?_)
  exact h2 ag s1 HD H1 _ _ Q I1 rr q1
inductive Uy (K:ak) (n:Nat) (t:F0) (v:V) (σ : St) (H:Hp) (Q:St->Hp->Prop):Prop
 | mk:∀ a xs,(v = .ref a)->(bP K H a xs)->(xs.length=n)->(t xs σ H Q)->Uy K n t v σ H Q
def aoU (K:ak) (n:Nat) (t:F0):TG:=fun v σ H Q=>Uy K n t v σ H Q
theorem tU {es:List Expr}{k:Nat}{t:F0}{n:Nat} (hc:X.calm=true) (h:Yo X es t)
  (hn:(assignEach es X.env).length=n:=by rfl) (jZ:(assignEach es X.env).findIdx? (·.1)=none:=by rfl):PG X (.Tuple es k pos) (aoU X.K n t):=by
 intro ag s σ H v u Q I r hw
 obtain⟨a,xs,e1,hq,hl,hw⟩:=hw
 subst e1
 cases r
 obtain⟨its,rv,ht,hz⟩:=I.tuple hq
 refine assign_Tuple_tuple (I.ok.hd hc) ht (by simp[hn, <- hl,rv.length]) jZ fun h' hx => ?_
 have I1:Inv X ag σ H { s with heap:=h' }:=I.kept (t':=s.toks) fun b o e=>hx b o (cU (br e)) e
 exact h ag _ σ H xs _ Q I1 (by simpa using rv) hw
def aoV (to ti:TE) (t:Wy):TG:=fun v σ H Q=>to σ H fun o H1=>ti σ H1 fun i H2=>t o i v H2 fun H3=>Q σ H3
theorem Se {o i:Expr}{to ti:TE}{t:Wy} (ho:PE X o to) (hi:PE X i ti) (hs:agU X t)
  (ha:∀ v,assign (.Subscript o i pos) X.env v=(do
   let ov <- holding [v] (eval o X.env)
   let iv <- holding [v,ov] (eval i X.env)
   standAt pos
   holding [v,ov,iv] (setItem ov iv v)
   release [v,ov,iv] []):=by intro _;rfl):PG X (.Subscript o i pos) (aoV to ti t):=by
 intro ag s σ H v u Q I r h
 rw[ha]
 refine wpAny_bind (wpAny_holding (cf (ho ag s σ H _ I h) fun ov s1 ⟨x,H1,I1,r1,q1⟩ => ?_))
 refine wpAny_bind (wpAny_holding (cf (hi ag s1 σ H1 _ I1 q1) fun iv s2 ⟨y,H2,I2,r2,q2⟩ => ?_))
 refine wpAny_bind (wpAny_standAt (wpAny_bind (wpAny_holding (cf (hs ag s2 σ H2 x y v ov iv u _ I2 r1 r2 r q2) fun _ s3 ⟨H3,I3,q3⟩ => ?_))))
 exact wpAny_release ⟨σ,H3,I3,q3⟩
def aag (te:TE) (g:TG):TS:=fun D σ H=>te σ H fun x H1=>g x σ H1 D.nx
theorem R8 {tg e:Expr}{te:TE}{g:TG} (he:PE X e te) (hg:PG X tg g) (hs:swapsWithSole [tg] e pos.line X.env=pure false:=by rfl) (hw:swappedStores [tg] e X.env=pure none:=by rfl)
  (h1:(assignEach [tg] X.env).map (·.2) = [assign tg X.env]:=by rfl):PS X (.Assign [tg] e pos) (aag te g):=by
 intro ag s σ H D I h
 refine wpAny_Assign_stores (cf (he ag s σ H _ I h) fun v s1 ⟨x,H1,I1,r1,q1⟩ => ?_) hs hw
 rw[h1]
 exact cf (hg ag s1 σ H1 x v _ I1 r1 q1) fun _ s2 q=>q
theorem bH {i:Nat}{x:Str}{e:Expr}{te:TE}{sj:Pos} (hN:X.N.Nodup) (hi:X.N[i]? = some x) (hx:Loc X.env.scope x) (he:PE X e te) (hs:swapsWith e (some (.Name x sj)) pos.line X.env=pure false:=by rfl) (hf:X.fn x=true∨X.env.scope.names.lookup x=some .local:=by first | exact .inl rfl | exact .inr rfl | assumption) :
  PS X (.Assign [.Name x sj] e pos) (aag te (cg i)):=by
 intro ag s σ H D I h
 refine wpAny_Assign_Name (cf (he ag s σ H _ I h) fun v s1 ⟨y,H1,I1,r1,q1⟩ => ?_) hs
 exact JP I1 hN hi hx r1 (fun s2 I2=>⟨_,H1,I2,q1⟩) hf
def Z2 (c:TT) (tb:TS):TS:=fun D σ H=>∃ W:Nat->St->Hp->Prop,(∃ m,W m σ H)∧∀ m σ H,W m σ H ->
 c σ H fun b H1=>if b=true then ∃ N:St->Hp->Prop,(∀ bF H',N bF H'->∃ m',m' < m∧W m' bF H')∧tb { D with nx:=N,ct:=N,bk:=D.nx } σ H1 else D.nx σ H1
theorem Kp {c:Expr}{body:List Stmt}{tc:TT}{tb:TS} (hp:PassesOwn (model X.prog X.w) X.A X.env X.xe) (hc:PT X c tc) (hb:pT X body tb):PS X (.While c body [] pos) (Z2 tc tb):=by
 intro ag s σ H D I h
 obtain⟨W,⟨m0,w0⟩,vb⟩:=h
 refine wpAny_While (codeAny_whileLoop (fun n s'=>∃ bF H',Inv X ag bF H' s'∧W n bF H') ?_ m0 ⟨σ,H,I,w0⟩)
 rintro n s1 ⟨HD,H1,I1,w1⟩
 refine wpAny_passesOwn hp (cf (hc ag s1 HD H1 _ I1 (vb n HD H1 w1)) fun b s2 ⟨H2,I2,q2⟩ => ?_)
 cases b with
 | true =>
  obtain⟨N,hN,q2⟩:=q2
  rw[if_pos rfl]
  refine wpAny_passesOwn hp (cf (hb ag s2 HD H2 _ I2 q2) fun f s3 q3 => ?_)
  cases f with
  | next =>
   obtain⟨xU,H3,I3,n3⟩:=q3
   obtain⟨m',hm,w3⟩:=hN xU H3 n3
   exact⟨m',hm, xU,H3,I3,w3⟩
  | cont =>
   obtain⟨xU,H3,I3,n3⟩:=q3
   obtain⟨m',hm,w3⟩:=hN xU H3 n3
   exact⟨m',hm, xU,H3,I3,w3⟩
  | brk=>exact q3
  | ret v=>exact q3
 | false =>
  rw[if_neg bW]
  exact wpAny_execs_nil ⟨HD,H2,I2,q2⟩
end
structure It where
 go:Nat->Hp->Prop
 EF:Nat->Hp->V->Hp->Prop
 stop:Nat->Hp->Prop
def rA (X:Cx) (ag:List (Addr × Obj)) (H:Hp) (b:Addr):Prop :=
 H b=none∧b≠X.env.locals∧b ∉ X.fs∧(b∈X.ex∨X.lR.heap.objs.size<=b)∧(∀ x c,X.env.cells.lookup x=some c->c≠b)∧∀ p∈X.pn ++ ag,p.1≠b
theorem Inv.G8 {X:Cx}{ag:List (Addr × Obj)}{σ : St} {H H':Hp}{s:Shared}{b:Addr} (I:Inv X ag σ H s) (hb:s.heap.objs.size<=b) (hn:H' b=none):rA X ag H' b:=by
 refine⟨hn,qZ (cm I.lt hb),I.ank hb,.inr (cA I.sz hb),fun x c e z => ?_,fun p hp z => ?_⟩
 ·obtain⟨v,q⟩:=I.cell x c e
  exact absurd (cm q.lt (by rw[z];exact hb)) (eT _)
 ·exact absurd (cm (br (I.pin p hp).1) (by rw[z];exact hb)) (eT _)
structure Turn (P:Program) (w:World) (K:ak) (tg:Expr) (J:It) (fp:List Addr) (it:Addr) (tn:Nat->Heap->Prop):Prop where
 mem:it∈fp
 obj:∀ i h,tn i h->∀ b∈fp,∃ o,h.get? b=some o∧∀ v,o.data ≠ .cell v
 keep:∀ i h h',tn i h->(∀ b∈fp,∀ o,h.get? b=some o->h'.get? b=some o)->tn i h'
 item:∀ (X:Cx),X.prog=P->X.w=w->X.K=K->X.calm=true->∀ (i:Nat) (ag:List (Addr × Obj)) (s:Shared) (σ : St) (H:Hp) (E:Value->Shared->Prop),Inv X ag σ H s->(∀ b∈fp,rA X ag H b)->tn i s.heap->J.go i H ->
  wpAny (model P w) X.A (pyNext (.ref it)) (fun r s1=>∃ u,r=some u ∧
   wpAny (model P w) X.A (letOwnedTupleGo tg (.ref it) u) (fun _ s2=>∃ x H',Inv X ag σ H' s2∧RelV x u∧J.EF i H x H'∧tn (i+1) s2.heap∧∀ b∈fp,H' b=none) E s1) E s
 done:∀ (X:Cx),X.prog=P->X.w=w->X.K=K->X.calm=true->∀ (i:Nat) (ag:List (Addr × Obj)) (s:Shared) (σ : St) (H:Hp) (E:Value->Shared->Prop),Inv X ag σ H s->(∀ b∈fp,rA X ag H b)->tn i s.heap->J.stop i H ->
   wpAny (model P w) X.A (pyNext (.ref it)) (fun r s1=>r=none∧Inv X ag σ H s1) E s
 self:∀ (A:Around) (i:Nat) (s:Shared) (Q:Value->Shared->Prop) (E:Value->Shared->Prop),tn i s.heap->Q (.ref it) s->wpAny (model P w) A (pyIter (.ref it)) Q E s
abbrev TI:=St->Hp->(It->Hp->Prop)->Prop
def PIE (X:Cx) (ag:List (Addr × Obj)) (σ : St) (tg:Expr) (R:It->Hp->Prop) (Xn:Value) (s2:Shared):Prop :=
 ∃ (it:Addr) (fp:List Addr) (tn:Nat->Heap->Prop) (J:It) (H':Hp),Xn = .ref it∧Inv X ag σ H' s2∧Turn X.prog X.w X.K tg J fp it tn∧tn 0 s2.heap∧(∀ b∈fp,rA X ag H' b)∧R J H'
def PI (X:Cx) (tg gD:Expr) (wi:TI):Prop :=
 ∀ (ag:List (Addr × Obj)) (s:Shared) (σ : St) (H:Hp) (R:It->Hp->Prop),Inv X ag σ H s->wi σ H R ->
  wpAny (model X.prog X.w) X.A (eval gD X.env) (fun v s1=>wpAny (model X.prog X.w) X.A (pyIter v) (PIE X ag σ tg R) X.xe s1) X.xe s
theorem Ju {M:Model}{A:Around}{E:Value->Shared->Prop}{s:Shared}{tg:Expr}{it:Addr}{u:Value}{o:Obj}{n:String}{vs:Array Value}{Q:Unit->Shared->Prop} (ho:s.heap.get? it=some o) (hc:o.cls = .type n) (hd:o.data = .fields vs)
  (hn : ["enumerate", "zip", "dict_itemiterator", "dict_reverseitemiterator", "odict_iterator", "itertools.zip_longest", "itertools.pairwise"].contains n=false) (hQ:Q () s):wpAny M A (letOwnedTupleGo tg (.ref it) u) Q E s:=by
 unfold letOwnedTupleGo
 cases tg <;> first
  | exact wpAny_pure hQ
  | (cases u <;> first
    | exact wpAny_pure hQ
    | (refine wpAny_bind (wpAny_load ho ?_)
       rw[hc,hd]
       show wpAny M A (if (["enumerate", "zip", "dict_itemiterator", "dict_reverseitemiterator", "odict_iterator", "itertools.zip_longest", "itertools.pairwise"].contains n && vs[0]? == some (rawInt _))=true then _ else _) Q E s
       rw[if_neg (by intro h;rw[hn,j3]at h;cases h)]
       exact wpAny_pure hQ))
def IX (K:ak) (a:Addr):It :=
 ⟨fun i H=>∃ xs x,bb K H a xs∧xs[i]? = some x,fun i H x H'=>H'=H∧∀ xs,bb K H a xs->xs[i]? = some x,fun i H=>∃ xs,bb K H a xs∧xs.length<=i⟩
def O9 (K:ak) (a:Addr):It :=
 ⟨fun i H=>∃ xs x,bP K H a xs∧xs[i]? = some x,fun i H x H'=>H'=H∧∀ xs,bP K H a xs->xs[i]? = some x,fun i H=>∃ xs,bP K H a xs∧xs.length<=i⟩
def IW (lo:Int) (n:Nat):It:=⟨fun i _=>i < n,fun i H x H'=>H'=H∧x = .int (lo+i),fun i _=>n<=i⟩
theorem Ra {P:Program}{w:World}{K:ak}{tg:Expr} (a it:Addr):Turn P w K tg (IX K a) [it] it (fun i h=>h.IsListIter it a i) where
 mem:=by simp
 obj:=fun i h st b hb=>by
  have e:b=it:=by simpa using hb
  subst e
  obtain⟨o,e,c,d⟩:=st
  exact⟨o,e,fun v z=>by rw[d]at z;cases z⟩
 keep:=fun i h h' st k=>st.at fun o e=>k it (by simp) o e
 item:=by
  intro X hP hw hK hc i ag s σ H E I hf st hg
  subst hP hw hK
  obtain⟨xs,x,hq,hx⟩:=hg
  obtain⟨its,rv,p,hz⟩:=I.list hq
  obtain⟨u,hu,ru⟩:=rv.get hx
  obtain⟨f0,f1,f2,f3,f4,f5⟩:=hf it (by simp)
  refine wpAny_pyNext_list_item st p.isList (x:=u) (by simpa using hu) fun h' aF sb => ?_
  have I1:Inv X ag σ H { s with heap:=h' }:=I.turned (t':=s.toks) (fun b o hb e=>(sb.2 b hb).trans e) f0 f1 f3 f4 f5
  obtain⟨o,e,c,d⟩:=id aF
  exact⟨u,rfl,Ju (s := { s with heap:=h' }) e c d (by decide) ⟨x,H,I1,ru,⟨rfl,fun ys hy=>by rw[I.KP hy hq];exact hx⟩,aF,fun b hb=>(hf b hb).1⟩⟩
 done:=by
   intro X hP hw hK hc i ag s σ H E I hf st hg
   subst hP hw hK
   obtain⟨xs,hq,hx⟩:=hg
   obtain⟨its,rv,p,hz⟩:=I.list hq
   obtain⟨f0,f1,f2,f3,f4,f5⟩:=hf it (by simp)
   have hl:=rv.length
   exact wpAny_pyNext_list_end (I.ok.hd hc) st p.isList (by simp;omega) fun h' eb=>⟨rfl,I.turned (t':=s.toks) (fun b o hb e=>eb b o hb e) f0 f1 f3 f4 f5⟩
 self:=fun _ _ _ _ _ st h=>wpAny_pyIter_listiter st h
theorem Pt {P:Program}{w:World}{K:ak}{tg:Expr} (a it:Addr):Turn P w K tg (O9 K a) [it] it (fun i h=>h.IsTupleIter it a i) where
 mem:=by simp
 obj:=fun i h st b hb=>by
  have e:b=it:=by simpa using hb
  subst e
  obtain⟨o,e,c,d⟩:=st
  exact⟨o,e,fun v z=>by rw[d]at z;cases z⟩
 keep:=fun i h h' st k=>st.at fun o e=>k it (by simp) o e
 item:=by
  intro X hP hw hK hc i ag s σ H E I hf st hg
  subst hP hw hK
  obtain⟨xs,x,hq,hx⟩:=hg
  obtain⟨its,rv,p,hz⟩:=I.tuple hq
  obtain⟨u,hu,ru⟩:=rv.get hx
  obtain⟨f0,f1,f2,f3,f4,f5⟩:=hf it (by simp)
  refine wpAny_pyNext_tuple_item st (show s.heap.IsTuple a its.toArray from p) (x:=u) (by simpa using hu) fun h' aF sb => ?_
  have I1:Inv X ag σ H { s with heap:=h' }:=I.turned (t':=s.toks) (fun b o hb e=>(sb.2 b hb).trans e) f0 f1 f3 f4 f5
  obtain⟨o,e,c,d⟩:=id aF
  exact⟨u,rfl,Ju (s := { s with heap:=h' }) e c d (by decide) ⟨x,H,I1,ru,⟨rfl,fun ys hy=>by rw[I.Rc hy hq];exact hx⟩,aF,fun b hb=>(hf b hb).1⟩⟩
 done:=by
   intro X hP hw hK hc i ag s σ H E I hf st hg
   subst hP hw hK
   obtain⟨xs,hq,hx⟩:=hg
   obtain⟨its,rv,p,hz⟩:=I.tuple hq
   obtain⟨f0,f1,f2,f3,f4,f5⟩:=hf it (by simp)
   have hl:=rv.length
   exact wpAny_pyNext_tuple_end (I.ok.hd hc) st (show s.heap.IsTuple a its.toArray from p) (by simp;omega) fun h' eb=>⟨rfl,I.turned (t':=s.toks) (fun b o hb e=>eb b o hb e) f0 f1 f3 f4 f5⟩
 self:=fun _ _ _ _ _ st h=>wpAny_pyIter_tupleiter st h
theorem Pu {P:Program}{w:World}{K:ak}{tg:Expr} (it:Addr) (lo:Int) (n:Nat):Turn P w K tg (IW lo n) [it] it (fun i h=>IsRangeIter h it (lo+(i:Nat) * 1) ((n:Int) - (i:Nat)) 1) where
 mem:=by simp
 obj:=fun i h st b hb=>by
  have e:b=it:=by simpa using hb
  subst e
  exact⟨_,st,fun v z=>by
   have z':Data.fields _=Data.cell v:=z
   cases z'⟩
 keep:=fun i h h' st k=>k it (by simp) _ st
 item:=by
  intro X hP hw hK hc i ag s σ H E I hf st hg
  subst hP hw hK
  obtain⟨f0,f1,f2,f3,f4,f5⟩:=hf it (by simp)
  have W:=Walks.range (prog:=X.prog) (w:=X.w) (I.ok.hd hc) it lo 1 n
  refine W.item i s _ _ hg st fun v h' tk hv aF kk => ?_
  obtain⟨t,rfl⟩:=hv
  have I1:Inv X ag σ H { s with heap:=h',toks:=tk }:=I.turned (fun b o hb e=>kk b o (by simpa using hb) e) f0 f1 f3 f4 f5
  refine⟨_,rfl,Ju (s := { s with heap:=h',toks:=tk }) (n := "range_iterator") aF rfl rfl (by decide) ⟨.int (lo+i),H,I1,⟨t,?_⟩,⟨rfl,rfl⟩,aF,fun b hb=>(hf b hb).1⟩⟩
  rw[Int.mul_one]
 done:=by
   intro X hP hw hK hc i ag s σ H E I hf st hg
   subst hP hw hK
   obtain⟨f0,f1,f2,f3,f4,f5⟩:=hf it (by simp)
   exact wpAny_pyNext_range_end (I.ok.hd hc) st (by have:n<=i:=hg;omega) fun h' eb=>⟨rfl,I.turned (t':=s.toks) (fun b o hb e=>eb b o hb e) f0 f1 f3 f4 f5⟩
 self:=fun _ _ _ _ _ st h=>wpAny_pyIter_rangeiter st h
section
variable {X:Cx}{tg:Expr}
inductive O6 (K:ak) (R:It->Hp->Prop) (x:V) (H1:Hp):Prop
 | mk:∀ a,(x = .ref a)->((∃ xs,bb K H1 a xs))->(R (IX K a) H1)->O6 K R x H1
def ahM (K:ak) (tl:TE):TI:=fun σ H R=>tl σ H fun x H1=>O6 K R x H1
inductive Ux (K:ak) (R:It->Hp->Prop) (x:V) (H1:Hp):Prop
 | mk:∀ a,(x = .ref a)->((∃ xs,bP K H1 a xs))->(R (O9 K a) H1)->Ux K R x H1
def aok (K:ak) (tl:TE):TI:=fun σ H R=>tl σ H fun x H1=>Ux K R x H1
theorem jD {l:Expr}{tl:TE} (hl:PE X l tl):PI X tg l (ahM X.K tl):=by
 intro ag s σ H R I h
 refine cf (hl ag s σ H _ I h) fun v s1 ⟨x,H1,I1,r1,q1⟩ => ?_
 obtain⟨a,e,⟨xs,hq⟩,q⟩:=q1
 subst e
 cases r1
 obtain⟨its,rv,p,hz⟩:=I1.list hq
 refine wpAny_pyIter_list p.isList ?_
 refine⟨s1.heap.objs.size, [s1.heap.objs.size],_,_,H1,rfl,I1.kept (t':=s1.toks) fun b o e=>aU _ e,Ra a _,⟨_,bZ _ rfl,rfl,rfl⟩,fun b hb => ?_,q⟩
 have e:b=s1.heap.objs.size:=by simpa using hb
 subst e
 exact I1.G8 (aA _) (I1.bU.fresh (aA _))
theorem vz {l:Expr}{tl:TE} (hl:PE X l tl):PI X tg l (aok X.K tl):=by
 intro ag s σ H R I h
 refine cf (hl ag s σ H _ I h) fun v s1 ⟨x,H1,I1,r1,q1⟩ => ?_
 obtain⟨a,e,⟨xs,hq⟩,q⟩:=q1
 subst e
 cases r1
 obtain⟨its,rv,p,hz⟩:=I1.tuple hq
 refine wpAny_pyIter_tuple (show s1.heap.IsTuple a its.toArray from p) ?_
 refine⟨s1.heap.objs.size, [s1.heap.objs.size],_,_,H1,rfl,I1.kept (t':=s1.toks) fun b o e=>aU _ e,Pt a _,⟨_,bZ _ rfl,rfl,rfl⟩,fun b hb => ?_,q⟩
 have e:b=s1.heap.objs.size:=by simpa using hb
 subst e
 exact I1.G8 (aA _) (I1.bU.fresh (aA _))
theorem Kl {ag:List (Addr × Obj)}{σ : St}{H:Hp}{s:Shared}{R:It->Hp->Prop}{E:Value->Shared->Prop}{lo hi:Int}{t u v:Tok}{tk:Nat} (I:Inv X ag σ H s) (h1 : -(2 ^ 62)<=lo) (h2:lo < 2 ^ 62) (h3 : -(2 ^ 62)<=hi) (h4:hi < 2 ^ 62)
  (q:R (IW lo (hi - lo).toNat) H):wpAny (model X.prog X.w) X.A (pyIter (.ref s.heap.objs.size)) (PIE X ag σ tg R) E { s with heap:=s.heap.push { cls := .type "range",data := .fields #[.int lo t,.int hi u,.int 1 v] },toks:=tk }:=by
 refine wpAny_pyIter_range (IsRange.new ..) (small_one h1 h2 h3 h4) ?_
 have I1:Inv X ag σ H { s with heap:=s.heap.push { cls := .type "range",data := .fields #[.int lo t,.int hi u,.int 1 v] },toks:=tk }:=I.kept fun b o e=>aU _ e
 refine⟨(s.heap.push { cls := .type "range",data := .fields #[.int lo t,.int hi u,.int 1 v] }).objs.size, [(s.heap.push { cls := .type "range",data := .fields #[.int lo t,.int hi u,.int 1 v] }).objs.size],_,_,H,rfl,
  I1.kept (t':=tk) fun b o e=>aU _ e,Pu _ lo (hi - lo).toNat,?_,fun b hb => ?_,q⟩
 ·have e1:lo+((0:Nat):Int) * 1=lo:=by simp
  have e2:(((hi - lo).toNat:Nat):Int) - ((0:Nat):Int)=wI lo hi 1:=by rw[rangeSize_one];split <;> omega
  show IsRangeIter _ _ (lo+((0:Nat):Int) * 1) ((((hi - lo).toNat:Nat):Int) - ((0:Nat):Int)) 1
  rw[e1,e2]
  exact bZ _ rfl
 ·have e:b=(s.heap.push { cls := .type "range",data := .fields #[.int lo t,.int hi u,.int 1 v] }).objs.size:=by simpa using hb
  subst e
  exact I1.G8 (aA _) (I1.bU.fresh (aA _))
inductive O5 (R:It->Hp->Prop) (vs:List V) (H1:Hp):Prop
 | mk:∀ (j:Int),(vs = [.int j])->(-(2 ^ 62)<=j)->(j < 2 ^ 62)->(R (IW 0 j.toNat) H1)->O5 R vs H1
def ahL (ta:TA):TI:=fun σ H R=>ta σ H fun vs H1=>O5 R vs H1
inductive O4 (R:It->Hp->Prop) (vs:List V) (H1:Hp):Prop
 | mk:∀ (i j:Int),(vs = [.int i,.int j])->((-(2 ^ 62)<=i∧i < 2 ^ 62 ∧ -(2 ^ 62)<=j∧j < 2 ^ 62))->(R (IW i (j - i).toNat) H1)->O4 R vs H1
def ahK (ta:TA):TI:=fun σ H R=>ta σ H fun vs H1=>O4 R vs H1
theorem tT {a:Expr}{ta:TA}{p pos:Pos} (hg:Gl X "range") (hm:X.mg "range" = none) (ha:PA X [a] ta) (hs:starEach [a] X.env = [(false,eval a X.env)]:=by rfl):PI X tg (.Call (.Name "range" p) [a] [] pos) (ahL ta):=by
 intro ag s σ H R I h
 refine Call_ (vN I hg hm boot_range (jA (cf (ha pos ag s σ H _ I h) fun us s1 ⟨vs,H1,I1,r1,q1⟩ => ?_) hs rfl))
 obtain⟨j,e,q1,q2,q⟩:=q1
 subst e
 cases r1 with
 | cons r rr =>
  cases rr
  obtain⟨t,rfl⟩:=r
  exact call_range_1 (Kl I1 (by omega) (by omega) q1 q2 (by simpa using q))
theorem Sd {a b:Expr}{ta:TA}{p pos:Pos} (hg:Gl X "range") (hm:X.mg "range" = none) (ha:PA X [a,b] ta) (hs:starEach [a,b] X.env = [(false,eval a X.env),(false,eval b X.env)]:=by rfl) (cI:starEach [b] X.env = [(false,eval b X.env)]:=by rfl) :
  PI X tg (.Call (.Name "range" p) [a,b] [] pos) (ahK ta):=by
 intro ag s σ H R I h
 refine Call_ (vN I hg hm boot_range (jA (cf (ha pos ag s σ H _ I h) fun us s1 ⟨vs,H1,I1,r1,q1⟩ => ?_) (by rw[hs,cI]) (by rw[cI];rfl)))
 obtain⟨i,j,e,⟨q1,q2,q3,q4⟩,q⟩:=q1
 subst e
 cases r1 with
 | cons r rr =>
  cases rr with
  | cons r' rr =>
   cases rr
   obtain⟨t,rfl⟩:=r
   obtain⟨t',rfl⟩:=r'
   exact call_range_2 (Kl I1 q1 q2 q3 q4 q)
def Z7 (wi:TI) (g:TG) (tb:TS):TS:=fun D σ H=>wi σ H fun J H1=>∃ W:Nat->Nat->St->Hp->Prop,(∃ m,W 0 m σ H1)∧∀ i m σ H,W i m σ H ->
 (J.stop i H∧D.nx σ H)∨(J.go i H∧∃ N:St->Hp->Prop,(∀ bF H',N bF H'->∃ m',m' < m∧W (i+1) m' bF H')∧∀ x H',J.EF i H x H'->g x σ H' fun pz H2=>tb { D with nx:=N,ct:=N,bk:=D.nx } pz H2)
def Bj (fp:List Addr) (h:Heap):List (Addr × Obj):=fp.filterMap fun b=>(h.get? b).map fun o=>(b,o)
theorem o8 {fp:List Addr}{h:Heap}{b:Addr}{o:Obj} (hb:b∈fp) (e:h.get? b=some o):(b,o)∈Bj fp h:=eC.mpr ⟨b,hb,by rw[e];rfl⟩
theorem Ss {fp:List Addr}{h:Heap}{p:Addr × Obj} (hp:p∈Bj fp h):p.1∈fp∧h.get? p.1=some p.2:=by
 obtain⟨b,hb,e⟩:=eC.mp hp
 cases q:h.get? b with
 | none=>rw[q]at e;cases e
 | some o =>
  rw[q]at e
  have e':(b,o)=p:=aE e
  subst e'
  exact⟨hb,q⟩
theorem Inv.pinned {ag:List (Addr × Obj)}{σ : St}{H:Hp}{s:Shared}{fp:List Addr} (I:Inv X ag σ H s) (hf:∀ b∈fp,rA X ag H b) (ho:∀ b∈fp,∃ o,s.heap.get? b=some o∧∀ v,o.data ≠ .cell v):Inv X (ag ++ Bj fp s.heap) σ H s :=
 I.NC fun p hp=>(bX.mp hp).elim (fun z=>I.pin p (bg _ z)) fun z=>by
  obtain⟨hb,e⟩:=Ss z
  obtain⟨f0,f1,f2,_⟩:=hf p.1 hb
  obtain⟨o,e',d⟩:=ho p.1 hb
  rw[e]at e';cases e'
  exact⟨e,f0,f1,f2,d⟩
theorem Inv.rT {ag pl:List (Addr × Obj)}{σ : St}{H:Hp}{s:Shared} (I:Inv X (ag ++ pl) σ H s):Inv X ag σ H s:=I.NC fun p hp=>I.pin p (bg _ (cO _ hp))
theorem fR {gD:Expr}{body:List Stmt}{wi:TI}{g:TG}{tb:TS}{pos:Pos} (hp:PassesOwn (model X.prog X.w) X.A X.env X.xe) (hc:X.calm=true) (hi:PI X tg gD wi) (hg:PG X tg g) (hb:pT X body tb)
  (hs:∀ x,foldedSetIterable gD X.env x=pure x:=by intro _;rfl):PS X (.For tg gD body [] pos) (Z7 wi g tb):=by
 intro ag s σ H D I h
 refine wpAny_For (cf (hi ag s σ H _ I h) fun v s1 h1=>cf h1 fun Xn s2 h2 => ?_) hs
 obtain⟨it,fp,tn,J,H2,e,I2,T,dS,f2,W,⟨m0,w0⟩,vb⟩:=h2
 subst e
 -- aj5 avd true of vd ahI Zh through vd loop
 have stat:∀ {H':Hp},(∀ b∈fp,H' b=none)->∀ b∈fp,rA X ag H' b:=fun hn b hb=>⟨hn b hb,(f2 b hb).2⟩
 refine codeAny_forLoop_any (fun n s'=>∃ i bF H',Inv X ag bF H' s'∧tn i s'.heap∧(∀ b∈fp,H' b=none)∧W i n bF H') ?_ m0 ⟨0, σ,H2,I2,dS,fun b hb=>(f2 b hb).1,w0⟩
 rintro n s3 ⟨i, xU,H3,I3,Ng,fr3,w3⟩
 rcases vb i n xU H3 w3 with⟨stop,qn⟩ | ⟨go,N,hN,step⟩
 ·refine wpAny_passesOwn hp (cf (T.done X rfl rfl rfl hc i ag s3 xU H3 X.xe I3 (stat fr3) Ng stop) fun r s4 ⟨hr,I4⟩ => ?_)
  subst hr
  exact wpAny_execs_nil ⟨xU,H3,I4,qn⟩
 ·refine wpAny_passesOwn hp (cf (T.item X rfl rfl rfl hc i ag s3 xU H3 X.xe I3 (stat fr3) Ng go) fun r s4 ⟨u,hr,h4⟩ => ?_)
  subst hr
  refine wpAny_passesOwn hp (cf h4 fun _ s5 ⟨x,H5,I5,r5,y5,gK,Tq⟩ => ?_)
  have I5':=I5.pinned (stat Tq) (T.obj _ _ gK)
  refine wpAny_passesOwn hp (cf (hg _ s5 xU H5 x u _ I5' r5 (step x H5 y5)) fun _ s6 ⟨σ6,H6,I6,q6⟩ => ?_)
  refine wpAny_passesOwn hp (cf (hb _ s6 σ6 H6 _ I6 q6) fun f s7 q7 => ?_)
  have again:∀ {zO:St}{H7:Hp},Inv X (ag ++ Bj fp s5.heap) zO H7 s7->N zO H7->∃ m,m < n∧∃ i bF H',Inv X ag bF H' s7∧tn i s7.heap∧(∀ b∈fp,H' b=none)∧W i m bF H':=fun {zO H7} I7 n7=>by
   obtain⟨m',hm,w7⟩:=hN zO H7 n7
   refine⟨m',hm,i+1, zO,H7,I7.rT,T.keep _ _ _ gK fun b hb o e=>(I7.pin (b,o) (bg _ (bg _ (o8 hb e)))).1,fun b hb => ?_,w7⟩
   obtain⟨o,e,d⟩:=T.obj _ _ gK b hb
   exact(I7.pin (b,o) (bg _ (bg _ (o8 hb e)))).2.1
  cases f with
  | next=>obtain⟨zO,H7,I7,n7⟩:=q7;exact again I7 n7
  | cont=>obtain⟨zO,H7,I7,n7⟩:=q7;exact again I7 n7
  | brk=>obtain⟨zO,H7,I7,q7⟩:=q7;exact⟨zO,H7,I7.rT,q7⟩
  | ret v=>obtain⟨x7, zO,H7,I7,r7,q7⟩:=q7;exact⟨x7, zO,H7,I7.rT,r7,q7⟩
end
theorem qk {K:ak}{a:Addr}{xs:List V}{g:TG}{tb:TS}{D:Ends}{σ : St}{H:Hp} (Pv:Nat->St->Hp->Prop) (h0:Pv 0 σ H) (hl:∀ i σ H,i<=xs.length->Pv i σ H->bb K H a xs)
  (hs:∀ i x σ H,xs[i]? = some x->Pv i σ H->g x σ H fun pz H2=>tb { D with nx:=Pv (i+1),ct:=Pv (i+1),bk:=D.nx } pz H2) (hd:∀ σ H,Pv xs.length σ H->D.nx σ H) :
  ∃ W:Nat->Nat->St->Hp->Prop,(∃ m,W 0 m σ H)∧∀ i m σ H,W i m σ H ->
   ((IX K a).stop i H∧D.nx σ H)∨((IX K a).go i H∧∃ N:St->Hp->Prop,(∀ bF H',N bF H'->∃ m',m' < m∧W (i+1) m' bF H')∧∀ x H',(IX K a).EF i H x H'->g x σ H' fun pz H2=>tb { D with nx:=N,ct:=N,bk:=D.nx } pz H2):=by
 refine⟨fun i m σ H=>m=xs.length - i∧i<=xs.length∧Pv i σ H,⟨xs.length,by simp,bD _,h0⟩,?_⟩
 rintro i m σ H ⟨rfl,hi,p⟩
 have q:=hl i σ H hi p
 by_cases eS:i < xs.length
 ·refine .inr ⟨⟨xs,xs[i],q,by simp[eS]⟩,Pv (i+1),fun bF H' p'=>⟨xs.length - (i+1),by omega,rfl,eS,p'⟩,fun x H' y => ?_⟩
  obtain⟨e,y⟩:=y
  subst e
  exact hs i x σ _ (y xs q) p
 ·have e:i=xs.length:=by omega
  subst e
  exact .inl ⟨⟨xs,q,aA _⟩,hd σ H p⟩
theorem yp {K:ak}{a:Addr}{xs:List V}{g:TG}{tb:TS}{D:Ends}{σ : St}{H:Hp} (Pv:Nat->St->Hp->Prop) (h0:Pv 0 σ H) (hl:∀ i σ H,i<=xs.length->Pv i σ H->bP K H a xs)
  (hs:∀ i x σ H,xs[i]? = some x->Pv i σ H->g x σ H fun pz H2=>tb { D with nx:=Pv (i+1),ct:=Pv (i+1),bk:=D.nx } pz H2) (hd:∀ σ H,Pv xs.length σ H->D.nx σ H) :
  ∃ W:Nat->Nat->St->Hp->Prop,(∃ m,W 0 m σ H)∧∀ i m σ H,W i m σ H ->
   ((O9 K a).stop i H∧D.nx σ H)∨((O9 K a).go i H∧∃ N:St->Hp->Prop,(∀ bF H',N bF H'->∃ m',m' < m∧W (i+1) m' bF H')∧∀ x H',(O9 K a).EF i H x H'->g x σ H' fun pz H2=>tb { D with nx:=N,ct:=N,bk:=D.nx } pz H2):=by
 refine⟨fun i m σ H=>m=xs.length - i∧i<=xs.length∧Pv i σ H,⟨xs.length,by simp,bD _,h0⟩,?_⟩
 rintro i m σ H ⟨rfl,hi,p⟩
 have q:=hl i σ H hi p
 by_cases eS:i < xs.length
 ·refine .inr ⟨⟨xs,xs[i],q,by simp[eS]⟩,Pv (i+1),fun bF H' p'=>⟨xs.length - (i+1),by omega,rfl,eS,p'⟩,fun x H' y => ?_⟩
  obtain⟨e,y⟩:=y
  subst e
  exact hs i x σ _ (y xs q) p
 ·have e:i=xs.length:=by omega
  subst e
  exact .inl ⟨⟨xs,q,aA _⟩,hd σ H p⟩
theorem t8 {lo:Int}{n:Nat}{g:TG}{tb:TS}{D:Ends}{σ : St}{H:Hp} (Pv:Nat->St->Hp->Prop) (h0:Pv 0 σ H)
  (hs:∀ i σ H,i < n->Pv i σ H->g (.int (lo+i)) σ H fun pz H2=>tb { D with nx:=Pv (i+1),ct:=Pv (i+1),bk:=D.nx } pz H2) (hd:∀ σ H,Pv n σ H->D.nx σ H) :
  ∃ W:Nat->Nat->St->Hp->Prop,(∃ m,W 0 m σ H)∧∀ i m σ H,W i m σ H ->
   ((IW lo n).stop i H∧D.nx σ H)∨((IW lo n).go i H∧∃ N:St->Hp->Prop,(∀ bF H',N bF H'->∃ m',m' < m∧W (i+1) m' bF H')∧∀ x H',(IW lo n).EF i H x H'->g x σ H' fun pz H2=>tb { D with nx:=N,ct:=N,bk:=D.nx } pz H2):=by
 refine⟨fun i m σ H=>m=n - i∧i<=n∧Pv i σ H,⟨n,by simp,bD _,h0⟩,?_⟩
 rintro i m σ H ⟨rfl,hi,p⟩
 by_cases eS:i < n
 ·refine .inr ⟨eS,Pv (i+1),fun bF H' p'=>⟨n - (i+1),by omega,rfl,eS,p'⟩,fun x H' y => ?_⟩
  obtain⟨e,y⟩:=y
  subst e y
  exact hs i σ _ eS p
 ·have e:i=n:=by omega
  subst e
  exact .inl ⟨aA _,hd σ H p⟩
abbrev R2:=V->V->Hp->VK->Prop
def lH (X:Cx) (f:Value->Value->Sem Value) (r:R2):Prop :=
 ∀ (ag:List (Addr × Obj)) (s:Shared) (σ : St) (H:Hp) (x y:V) (v u:Value) (Q:VK),Inv X ag σ H s->RelV x v->RelV y u->r x y H Q ->
  wpAny (model X.prog X.w) X.A (f v u) (EP X ag σ Q) X.xe s
def Yi (X:Cx) (f:Value->Sem Value) (r:V->Hp->VK->Prop):Prop :=
 ∀ (ag:List (Addr × Obj)) (s:Shared) (σ : St) (H:Hp) (x:V) (v:Value) (Q:VK),Inv X ag σ H s->RelV x v->r x H Q ->
  wpAny (model X.prog X.w) X.A (f v) (EP X ag σ Q) X.xe s
def lQ (X:Cx) (f:Value) (r:List V->Hp->VK->Prop):Prop :=
 ∀ (ag:List (Addr × Obj)) (s:Shared) (σ : St) (H:Hp) (xs:List V) (us:List Value) (Q:VK),Inv X ag σ H s->Vals xs us->r xs H Q ->
  wpAny (model X.prog X.w) X.A (call f us) (EP X ag σ Q) X.xe s
def aq9 (X:Cx) (r:V->Hp->(Bool->Hp->Prop)->Prop):Prop :=
 ∀ (ag:List (Addr × Obj)) (s:Shared) (σ : St) (H:Hp) (x:V) (v:Value) (Q:Bool->Hp->Prop),Inv X ag σ H s->RelV x v->r x H Q ->
  wpAny (model X.prog X.w) X.A (truthy v) (TP X ag σ Q) X.xe s
def qq (r:R2) (ta tb:TE):TE:=fun σ H Q=>ta σ H fun x H1=>tb σ H1 fun y H2=>r x y H2 Q
def tUn (r:V->Hp->VK->Prop) (ta:TE):TE:=fun σ H Q=>ta σ H fun x H1=>r x H1 Q
inductive RI (C:Int->Int->Prop) (g:Int->Int->V) (x y:V) (H:Hp) (Q:VK):Prop
 | mk (i j:Int) (hx:x = .int i) (hy:y = .int j) (hc:C i j) (q:Q (g i j) H):RI C g x y H Q
def rI (C:Int->Int->Prop) (g:Int->Int->V):R2:=fun x y H Q=>RI C g x y H Q
inductive RI0 (g:Int->Int->V) (x y:V) (H:Hp) (Q:VK):Prop
 | mk (i j:Int) (hx:x = .int i) (hy:y = .int j) (q:Q (g i j) H):RI0 g x y H Q
def EY (g:Int->Int->V):R2:=fun x y H Q=>RI0 g x y H Q
inductive RU (g:Int->V) (x:V) (H:Hp) (Q:VK):Prop
 | mk (i:Int) (hx:x = .int i) (q:Q (g i) H):RU g x H Q
def rU (g:Int->V):V->Hp->VK->Prop:=fun x H Q=>RU g x H Q
section
variable {X:Cx}{a b c:Expr}{ta tb tc:TE}{pos:Pos}
theorem Wt (ha:PE X a ta) (hb:PE X b tb) {ag:List (Addr × Obj)}{s:Shared}{σ : St}{H:Hp}{R:V->V->Hp->Prop} (I:Inv X ag σ H s)
  (h:ta σ H fun x H1=>tb σ H1 fun y H2=>R x y H2) {Q:Value->Shared->Prop}{f:Value->Value->Sem Value}
  (hf:∀ v u s2 x y H2,Inv X ag σ H2 s2->RelV x v->RelV y u->R x y H2->wpAny (model X.prog X.w) X.A (f v u) Q X.xe s2) :
  wpAny (model X.prog X.w) X.A (eval a X.env) (fun v fb => wpAny (model X.prog X.w) X.A (eval b X.env) (fun u p6 => wpAny (model X.prog X.w) X.A (f v u) Q X.xe p6) X.xe fb) X.xe s:=by
 refine cf (ha ag s σ H _ I h) fun v s1 ⟨x,H1,I1,r1,q1⟩ => ?_
 refine cf (hb ag s1 σ H1 _ I1 q1) fun u s2 ⟨y,H2,I2,r2,q2⟩ => ?_
 exact hf v u s2 x y H2 I2 r1 r2 q2
theorem dQ {op:Operator}{r:R2} (ho:lH X (binaryOp op) r) (ha:PE X a ta) (hb:PE X b tb):PE X (.BinOp a op b pos) (qq r ta tb):=by
 intro ag s σ H Q I h
 exact wpAny_BinOp (Wt ha hb I h fun v u s2 x y H2 I2 rx ry q=>ho ag s2 σ H2 x y v u Q I2 rx ry q)
theorem Cg {op:UnaryOp}{r:V->Hp->VK->Prop} (ho:Yi X (unaryOp op) r) (ha:PE X a ta):PE X (.UnaryOp op a pos) (tUn r ta):=by
 intro ag s σ H Q I h
 exact UnaryOp_ (cf (ha ag s σ H _ I h) fun v s1 ⟨x,H1,I1,r1,q1⟩=>ho ag s1 σ H1 x v Q I1 r1 q1)
theorem NO {f:Value->Value->Sem Value}{C:Int->Int->Prop}{g:Int->Int->Int}
  (rule:∀ (i j:Int) (t u:Tok) (s:Shared) (Q:Value->Shared->Prop) (E:Value->Shared->Prop),C i j->Q (.int (g i j) s.toks) { s with toks:=s.toks+1 }->wpAny (model X.prog X.w) X.A (f (.int i t) (.int j u)) Q E s) :
  lH X f (rI C fun i j => .int (g i j)):=by
 intro ag s σ H x y v u Q I rx ry h
 obtain⟨i,j,rfl,rfl,hc,q⟩:=h
 obtain⟨t,rfl⟩:=rx
 obtain⟨t',rfl⟩:=ry
 exact rule i j t t' s _ _ hc ⟨.int (g i j),H,I.tok _,⟨_,rfl⟩,q⟩
theorem PY {f:Value->Value->Sem Value}{g:Int->Int->Int}
  (rule:∀ (i j:Int) (t u:Tok) (s:Shared) (Q:Value->Shared->Prop) (E:Value->Shared->Prop),Q (.int (g i j) s.toks) { s with toks:=s.toks+1 }->wpAny (model X.prog X.w) X.A (f (.int i t) (.int j u)) Q E s) :
  lH X f (EY fun i j => .int (g i j)):=by
 intro ag s σ H x y v u Q I rx ry h
 obtain⟨i,j,rfl,rfl,q⟩:=h
 obtain⟨t,rfl⟩:=rx
 obtain⟨t',rfl⟩:=ry
 exact rule i j t t' s _ _ ⟨.int (g i j),H,I.tok _,⟨_,rfl⟩,q⟩
theorem Vr {f:Value->Value->Sem Value}{g:Int->Int->Bool}
  (rule:∀ (i j:Int) (t u:Tok) (s:Shared) (Q:Value->Shared->Prop) (E:Value->Shared->Prop),Q (.bool (g i j)) s->wpAny (model X.prog X.w) X.A (f (.int i t) (.int j u)) Q E s) :
  lH X f (EY fun i j => .bl (g i j)):=by
 intro ag s σ H x y v u Q I rx ry h
 obtain⟨i,j,rfl,rfl,q⟩:=h
 obtain⟨t,rfl⟩:=rx
 obtain⟨t',rfl⟩:=ry
 exact rule i j t t' s _ _ ⟨.bl (g i j),H,I,rfl,q⟩
def ahf (i j:Int):Prop:=0 < j∧j < 1073741824
def ahe (i j:Int):Prop:=0<=j∧j<=1000000∧i.natAbs < 2 ^ 64
def WJ (i j:Int):Prop:=(-(2 ^ 64) < i∧i < 2 ^ 64)∨(-(2 ^ 64) < j∧j < 2 ^ 64)
theorem WJ.ok {i j:Int} (h:WJ i j):IntMulOk i j:=by
 rcases h with⟨h1,h2⟩ | ⟨h1,h2⟩
 ·exact .of_left (intBits_le_64 h1 h2)
 ·exact .of_right (intBits_le_64 h1 h2)
theorem tV:lH X (binaryOp .Add) (EY fun i j => .int (i+j)):=PY fun _ _ _ _ _ _ _ q=>add_int q
theorem E2:lH X (binaryOp .Sub) (EY fun i j => .int (i - j)):=PY fun _ _ _ _ _ _ _ q=>sub_int q
theorem aaE:lH X (binaryOp .Mult) (rI WJ fun i j => .int (i * j)):=NO fun _ _ _ _ _ _ _ hc q=>mul_int q hc.ok
theorem NN:lH X (binaryOp .FloorDiv) (rI ahf fun i j => .int (i / j)):=NO fun i j _ _ _ _ _ hc q=>by
 have h1:(0:Int) < j:=hc.1
 have h2:j < 1073741824:=hc.2
 exact floordiv_int (by omega) (by rw[Int.fdiv_eq_ediv_of_nonneg i (by omega)];exact q) (.inl (PyProof.noPylong_small (by omega)))
theorem vD:lH X (binaryOp .Mod) (rI (fun _ j=>0 < j) fun i j => .int (i % j)):=NO fun i j _ _ _ _ _ hc q=>by
 have h1:(0:Int) < j:=hc
 exact mod_int' (by omega) (by rw[Int.fmod_eq_emod_of_nonneg i (by omega)];exact q)
theorem vC:lH X (binaryOp .Pow) (rI ahe fun i j => .int (i ^ j.toNat)):=NO fun _ _ _ _ _ _ _ hc q=>pow_int_small hc.1 hc.2.1 hc.2.2 q
theorem Si:lH X (binaryOp .LShift) (rI ahe fun i j => .int (i * 2 ^ j.toNat)):=NO fun _ _ _ _ _ _ _ hc q=>lshift_int_small hc.1 hc.2.1 hc.2.2 q
theorem E4:lH X (binaryOp .BitAnd) (EY fun i j => .int (fJ i j)):=PY fun _ _ _ _ _ _ _ q=>and_int q
theorem PV:lH X (binaryOp .BitOr) (EY fun i j => .int (p4 i j)):=PY fun _ _ _ _ _ _ _ q=>or_int q
theorem unI {f:Value->Sem Value}{g:Int->Int}
  (rule:∀ (i:Int) (t:Tok) (s:Shared) (Q:Value->Shared->Prop) (E:Value->Shared->Prop),Q (.int (g i) s.toks) { s with toks:=s.toks+1 }->wpAny (model X.prog X.w) X.A (f (.int i t)) Q E s) :
  Yi X f (rU fun i => .int (g i)):=by
 intro ag s σ H x v Q I rx h
 obtain⟨i,rfl,q⟩:=h
 obtain⟨t,rfl⟩:=rx
 exact rule i t s _ _ ⟨.int (g i),H,I.tok _,⟨_,rfl⟩,q⟩
theorem Ao:Yi X (unaryOp .USub) (rU fun i => .int (-i)):=unI fun _ _ _ _ _ q=>neg_int q
theorem ZU:Yi X (unaryOp .Invert) (rU fun i => .int (dY i)):=unI fun _ _ _ _ _ q=>invert_int q
end
def aap:V->V->Bool
 | .cQ,.cQ=>true | .cQ,.int _=>true | .int _,.cQ=>true | .cQ,.bl _=>true | .bl _,.cQ=>true | .cQ,.str _=>true | .str _,.cQ=>true
 | .int _,.int _=>true | .bl _,.bl _=>true | .str _,.str _=>true | .xg _,.xg _=>true
 | .int _,.str _=>true | .str _,.int _=>true | .bl _,.str _=>true | .str _,.bl _=>true
 | _,_=>false
def rEq:R2:=fun x y H Q=>aap x y=true∧Q (.bl (decide (x=y))) H
def rNe:R2:=fun x y H Q=>aap x y=true∧Q (.bl (!decide (x=y))) H
theorem sV {i j:Int}:decide (V.int i=V.int j)=(i == j):=by
 rw[lp]
 simp
theorem TK {i j:Bool}:decide (V.bl i=V.bl j)=(i == j):=by
 rw[lp]
 simp
theorem OB {i j:Str}:decide (V.str i=V.str j)=(i == j):=by
 rw[lp]
 simp
theorem OC {i j:Array UInt8}:decide (V.xg i=V.xg j)=(i.toList == j.toList):=by
 rw[lp]
 cases i
 cases j
 simp
section
variable {X:Cx}{a b c:Expr}{ta tb tc:TE}{pos:Pos}
theorem d9 {ag:List (Addr × Obj)}{σ : St}{H:Hp}{s:Shared}{Q:VK} {k k':Bool} (I:Inv X ag σ H s) (q:Q (.bl k) H) (e:k=k'):EP X ag σ Q (.bool k') s:=by
 subst e
 exact⟨.bl k,H,I,rfl,q⟩
theorem dR:lH X (compareOp .Eq) rEq:=by
 intro ag s σ H x y v u Q I rx ry h
 obtain⟨hs,q⟩:=h
 cases x with
 | cQ =>
  cases rx
  cases y with
  | cQ=>cases ry;exact PySem.EqNone.eq_none_none (d9 I q (by simp))
  | bl j=>cases ry;exact PySem.EqNone.eq_none_bool (d9 I q (by simp))
  | int j=>obtain⟨t',rfl⟩:=ry;exact PySem.EqNone.eq_none_int (d9 I q (by simp))
  | str j=>obtain⟨t',rfl⟩:=ry;exact PySem.EqNone.eq_none_str (d9 I q (by simp))
  | _=>exact absurd (show false=true from hs) bW
 | bl i =>
  cases rx
  cases y with
  | cQ=>cases ry;exact PySem.EqNone.eq_bool_none (d9 I q (by simp))
  | bl j=>cases ry;exact eq_bool (d9 I q TK)
  | str j=>obtain⟨t',rfl⟩:=ry;exact PySem.EqMixed.eq_bool_str (d9 I q (by simp))
  | _=>exact absurd (show false=true from hs) bW
 | int i =>
  obtain⟨t,rfl⟩:=rx
  cases y with
  | cQ=>cases ry;exact PySem.EqNone.eq_int_none (d9 I q (by simp))
  | int j=>obtain⟨t',rfl⟩:=ry;exact eq_int (d9 I q sV)
  | str j=>obtain⟨t',rfl⟩:=ry;exact PySem.EqMixed.eq_int_str (d9 I q (by simp))
  | _=>exact absurd (show false=true from hs) bW
 | str i =>
  obtain⟨t,rfl⟩:=rx
  cases y with
  | cQ=>cases ry;exact PySem.EqNone.eq_str_none (d9 I q (by simp))
  | bl j=>cases ry;exact PySem.EqMixed.eq_str_bool (d9 I q (by simp))
  | int j=>obtain⟨t',rfl⟩:=ry;exact PySem.EqMixed.eq_str_int (d9 I q (by simp))
  | str j=>obtain⟨t',rfl⟩:=ry;exact eq_str (d9 I q OB)
  | _=>exact absurd (show false=true from hs) bW
 | xg i =>
  obtain⟨t,rfl⟩:=rx
  cases y with
  | xg j=>obtain⟨t',rfl⟩:=ry;exact PySem.W.eq_bytes (d9 I q OC)
  | _=>exact absurd (show false=true from hs) bW
 | _=>cases y <;> exact absurd (show false=true from hs) bW
theorem E3:lH X (compareOp .NotEq) rNe:=by
 intro ag s σ H x y v u Q I rx ry h
 obtain⟨hs,q⟩:=h
 cases x with
 | cQ =>
  cases rx
  cases y with
  | cQ=>cases ry;exact PySem.EqNone.ne_none_none (d9 I q (by simp))
  | bl j=>cases ry;exact PySem.EqNone.ne_none_bool (d9 I q (by simp))
  | int j=>obtain⟨t',rfl⟩:=ry;exact PySem.EqNone.ne_none_int (d9 I q (by simp))
  | str j=>obtain⟨t',rfl⟩:=ry;exact PySem.EqNone.ne_none_str (d9 I q (by simp))
  | _=>exact absurd (show false=true from hs) bW
 | bl i =>
  cases rx
  cases y with
  | cQ=>cases ry;exact PySem.EqNone.ne_bool_none (d9 I q (by simp))
  | bl j=>cases ry;exact ne_bool (d9 I q (congrArg not TK))
  | str j=>obtain⟨t',rfl⟩:=ry;exact PySem.EqMixed.ne_bool_str (d9 I q (by simp))
  | _=>exact absurd (show false=true from hs) bW
 | int i =>
  obtain⟨t,rfl⟩:=rx
  cases y with
  | cQ=>cases ry;exact PySem.EqNone.ne_int_none (d9 I q (by simp))
  | int j=>obtain⟨t',rfl⟩:=ry;exact ne_int (d9 I q (congrArg not sV))
  | str j=>obtain⟨t',rfl⟩:=ry;exact PySem.EqMixed.ne_int_str (d9 I q (by simp))
  | _=>exact absurd (show false=true from hs) bW
 | str i =>
  obtain⟨t,rfl⟩:=rx
  cases y with
  | cQ=>cases ry;exact PySem.EqNone.ne_str_none (d9 I q (by simp))
  | bl j=>cases ry;exact PySem.EqMixed.ne_str_bool (d9 I q (by simp))
  | int j=>obtain⟨t',rfl⟩:=ry;exact PySem.EqMixed.ne_str_int (d9 I q (by simp))
  | str j=>obtain⟨t',rfl⟩:=ry;exact ne_str (d9 I q (congrArg not OB))
  | _=>exact absurd (show false=true from hs) bW
 | xg i =>
  obtain⟨t,rfl⟩:=rx
  cases y with
  | xg j=>obtain⟨t',rfl⟩:=ry;exact PySem.W.ne_bytes (d9 I q (congrArg not OC))
  | _=>exact absurd (show false=true from hs) bW
 | _=>cases y <;> exact absurd (show false=true from hs) bW
theorem y9:lH X (compareOp .Lt) (EY fun i j => .bl (decide (i < j))):=Vr fun _ _ _ _ _ _ _ q=>lt_int q
theorem PX:lH X (compareOp .Gt) (EY fun i j => .bl (decide (j < i))):=Vr fun _ _ _ _ _ _ _ q=>gt_int q
theorem ahD:lH X (compareOp .GtE) (EY fun i j => .bl (decide (j<=i))):=Vr fun _ _ _ _ _ _ _ q=>ge_int q
theorem Sj:lH X (compareOp .Is) (fun x y H Q=>y = .cQ∧Q (.bl (decide (x = .cQ))) H):=by
 intro ag s σ H x y v u Q I rx ry h
 obtain⟨rfl,q⟩:=h
 cases ry
 refine is_none_gen (d9 I q ?_)
 cases x <;> first
  | (cases rx;rfl)
  | (obtain⟨t,rfl⟩:=rx;rfl)
theorem Ci:lH X (compareOp .IsNot) (fun x y H Q=>y = .cQ∧Q (.bl (!decide (x = .cQ))) H):=by
 intro ag s σ H x y v u Q I rx ry h
 obtain⟨rfl,q⟩:=h
 cases ry
 refine isnot_none_gen (d9 I q ?_)
 cases x <;> first
  | (cases rx;rfl)
  | (obtain⟨t,rfl⟩:=rx;rfl)
theorem bQ (b:Expr) {op:CmpOp} (h:op ≠ .In:=by decide) (h2:op ≠ .NotIn:=by decide):behindInMarks op b=false:=by
 have e1:(op == CmpOp.In)=false:=by cases op <;> first | rfl | exact absurd rfl h
 have e2:(op == CmpOp.NotIn)=false:=by cases op <;> first | rfl | exact absurd rfl h2
 cases b <;> simp[behindInMarks,e1,e2]
theorem jj {op:CmpOp}{r:R2} (ho:lH X (compareOp op) r) (ha:PE X a ta) (hb:PE X b tb) (hm:behindInMarks op b=false):PE X (.Compare a [op] [b] pos) (qq r ta tb):=by
 intro ag s σ H Q I h
 exact wpAny_Compare1 (Wt ha hb I h fun v u s2 x y H2 I2 rx ry q=>ho ag s2 σ H2 x y v u Q I2 rx ry q) hm
inductive Yn (x:V) (H:Hp) (Q:Bool->Hp->Prop):Prop
 | mk (k:Bool) (hx:x = .bl k) (q:Q k H):Yn x H Q
def EN (t:TE):TT:=fun σ H Q=>t σ H fun x H'=>Yn x H' Q
theorem b9 {op:CmpOp}{r:R2} (ho:lH X (compareOp op) r) (ha:PE X a ta) (hb:PE X b tb) (hm:behindInMarks op b=false):PT X (.Compare a [op] [b] pos) (EN (qq r ta tb)):=by
 intro ag s σ H Q I h
 refine wpAny_isTrue_Compare1 (cf (ha ag s σ H _ I h) fun v s1 ⟨x,H1,I1,r1,q1⟩=>cf (hb ag s1 σ H1 _ I1 q1) fun u s2 ⟨y,H2,I2,r2,q2⟩ =>
  cf (ho ag s2 σ H2 x y v u _ I2 r1 r2 q2) fun c s3 ⟨z,H3,I3,r3,k,e,q3⟩ => ?_) hm
 subst e
 cases r3
 exact wpAny_truthy_bool ⟨H3,I3,q3⟩
def aad (r r':R2) (ta tb tc:TE):TE:=fun σ H Q=>ta σ H fun x H1=>tb σ H1 fun y H2=>r x y H2 fun z H3=>∃ k,z = .bl k ∧
 (if k=true then tc σ H3 fun w' H4=>r' y w' H4 Q else Q (.bl false) H3)
theorem Vk {op op':CmpOp} {r r':R2} (ho:lH X (compareOp op) r) (Fp:lH X (compareOp op') r') (ha:PE X a ta) (hb:PE X b tb) (hc:PE X c tc)
  (hm:lastMarks [op,op'] [b,c]=false:=by with_unfolding_all rfl):PT X (.Compare a [op,op'] [b,c] pos) (EN (aad r r' ta tb tc)):=by
 intro ag s σ H Q I h
 refine isTrue_chain (cf (ha ag s σ H _ I h) fun v s1 ⟨x,H1,I1,r1,q1⟩=>test_link (cf (hb ag s1 σ H1 _ I1 q1) fun u s2 ⟨y,H2,I2,r2,q2⟩ =>
  cf (ho ag s2 σ H2 x y v u _ I2 r1 r2 q2) fun d s3 ⟨z,H3,I3,r3,k,e,q3⟩ => ?_)) hm
 subst e
 cases r3
 refine wpAny_truthy_bool ?_
 cases k with
 | false =>
  obtain⟨k',e',q'⟩:=q3
  cases e'
  exact ite_ff ⟨H3,I3,q'⟩
 | true =>
  refine ite_tt (test_last (cf (hc ag s3 σ H3 _ I3 q3) fun w' s4 ⟨z',H4,I4,r4,q4⟩=>cf (Fp ag s4 σ H4 y z' u w' _ I4 r2 r4 q4) fun d' s5 ⟨z2,H5,I5,r5,k2,e2,q5⟩ => ?_))
  subst e2
  cases r5
  exact wpAny_truthy_bool ⟨H5,I5,q5⟩
def agN (K:ak) (x:V) (H:Hp) (k:Bool):Prop :=
 match x with
 | .cQ=>k=false
 | .bl b=>k=b
 | .int i=>k=(i != 0)
 | .str y=>y.length<=sizeLine∧k=((y.length:Int) != 0)
 | .xg y=>y.size<=sizeLine∧k=((y.size:Int) != 0)
 | .ref p=>(∃ xs,bb K H p xs∧k = !xs.isEmpty)∨(∃ xs,bP K H p xs∧k = !xs.isEmpty)∨∃ kvs,H p=some (.dK kvs)∧k = !kvs.isEmpty
 | _=>False
theorem Qm {κ : Type}{kvs:List (κ × V)}{vs:List (κ × Value)} (r:KV kvs vs):(!vs.isEmpty) = !kvs.isEmpty:=by
 cases r <;> rfl
theorem Fj {xs:List V}{its:List Value} (r:Vals xs its):(!its.toArray.isEmpty) = !xs.isEmpty:=by
 cases r <;> simp
theorem vM:(sizeLine:Nat) < 2 ^ 63:=by rw[sizeLine_eq];decide
theorem ZZ:aq9 X (fun x H Q=>∃ k,agN X.K x H k∧Q k H):=by
 intro ag s σ H x v Q I rx h
 obtain⟨k,e,q⟩:=h
 have hl:=vM
 have hs:sizeLine=16777216:=sizeLine_eq
 cases x with
 | cQ =>
  cases rx
  have e':k=false:=e
  subst e'
  exact truthy_none ⟨H,I,q⟩
 | bl b =>
  cases rx
  have e':k=b:=e
  subst e'
  exact wpAny_truthy_bool ⟨H,I,q⟩
 | int i =>
  obtain⟨t,rfl⟩:=rx
  have e':k=(i != 0):=e
  subst e'
  exact PySem.P.truthy_int ⟨H,I,q⟩
 | str y =>
  obtain⟨t,rfl⟩:=rx
  obtain⟨hy,e'⟩:y.length<=sizeLine∧k=((y.length:Int) != 0):=e
  subst e'
  exact PySem.P.truthy_str (by omega) ⟨H,I.tok _,q⟩
 | xg y =>
  obtain⟨t,rfl⟩:=rx
  obtain⟨hy,e'⟩:y.size<=sizeLine∧k=((y.size:Int) != 0):=e
  subst e'
  exact PySem.W.truthy_bytes (by omega) ⟨H,I.tok _,q⟩
 | ref p =>
  cases rx
  have e':(∃ xs,bb X.K H p xs∧k = !xs.isEmpty)∨(∃ xs,bP X.K H p xs∧k = !xs.isEmpty)∨∃ kvs,H p=some (.dK kvs)∧k = !kvs.isEmpty:=e
  rcases e' with⟨xs,hx,e'⟩ | ⟨xs,hx,e'⟩ | ⟨kvs,hx,e'⟩
  ·subst e'
   obtain⟨its,r,pl,hz⟩:=I.list hx
   have iw:=r.length
   exact wpAny_truthy_list pl.isList (by simp only[aX];omega) ⟨H,I.tok _,by rw[Fj r];exact q⟩
  ·subst e'
   obtain⟨its,r,pl,hz⟩:=I.tuple hx
   have iw:=r.length
   exact truthy_tuple pl (by simp only[aX];omega) ⟨H,I.tok _,by rw[Fj r];exact q⟩
  ·subst e'
   obtain⟨hz,hS,vs,r,m⟩:kvs.length<=sizeLine∧(p == sysModules)=false∧∃ vs,KV kvs vs∧s.heap.DictOf (dO X.prog X.w) p vs:=I.bU p _ hx
   have iw:kvs.length=vs.length:=bj r
   exact wpAny_truthy_dict hS m (by omega) ⟨H,I.tok _,by rw[Qm r];exact q⟩
 | _=>exact(show False from e).elim
theorem yY (ha:PE X a ta) (he:∀ yP,isTrue a X.env yP=(do let v <- yP;standAt a.pos;holding [v] (truthy v))) :
  PT X a (fun σ H Q=>ta σ H fun x H'=>∃ k,agN X.K x H' k∧Q k H'):=by
 intro ag s σ H Q I h
 exact isTrue_plain (cf (ha ag s σ H _ I h) fun v s1 ⟨x,H1,I1,r1,q1⟩=>ZZ ag s1 σ H1 x v Q I1 r1 q1) (he _)
inductive BV (x:V) (y:V) (H:Hp) (Q:VK):Prop
 | mk:∀ i j,(x = .str i)->(y = .str j)->(i.length+j.length<=sizeLine)->(Q (.str (i ++ j)) H)->BV x y H Q
theorem E5:lH X (binaryOp .Add) (fun x y H Q=>BV x y H Q):=by
 intro ag s σ H x y v u Q I rx ry h
 obtain⟨i,j,rfl,rfl,hz,q⟩:=h
 obtain⟨t,rfl⟩:=rx
 obtain⟨t',rfl⟩:=ry
 exact add_str (fun t' tk=>⟨.str (i ++ j),H,I.tok _,⟨_,rfl⟩,q⟩) hz
theorem vals1 {x:V}{us:List Value} (r:Vals [x] us):∃ u,us = [u]∧RelV x u:=by
 cases r with
 | cons r1 r2=>cases r2;exact⟨_,rfl,r1⟩
theorem vals2 {x y:V}{us:List Value} (r:Vals [x,y] us):∃ u w',us = [u,w']∧RelV x u∧RelV y w':=by
 cases r with
 | cons r1 r2 =>
  cases r2 with
  | cons r3 r4=>cases r4;exact⟨_,_,rfl,r1,r3⟩
inductive Dt (xs:List V) (H:Hp) (Q:VK):Prop
 | mk:∀ i j,(xs = [.int i,.int j])->(Q (.int (if j > i then j else i)) H)->Dt xs H Q
theorem TZ (hc:X.calm=true):lQ X (.builtin "max") (fun xs H Q=>Dt xs H Q):=by
 intro ag s σ H xs us Q I r h
 obtain⟨i,j,rfl,q⟩:=h
 obtain⟨u,w',rfl,⟨t,rfl⟩,⟨t',rfl⟩⟩:=vals2 r
 refine max_two_ints (I.ok.hd hc) fun h' tk k=>⟨_,H,I.kept k,?_,q⟩
 by_cases hj:j > i
 ·rw[if_pos hj,if_pos hj];exact⟨_,rfl⟩
 ·rw[if_neg hj,if_neg hj];exact⟨_,rfl⟩
inductive Dr (xs:List V) (H:Hp) (Q:VK):Prop
 | mk:∀ i j,(xs = [.int i,.int j])->(Q (.int (if j < i then j else i)) H)->Dr xs H Q
theorem TX (hc:X.calm=true):lQ X (.builtin "min") (fun xs H Q=>Dr xs H Q):=by
 intro ag s σ H xs us Q I r h
 obtain⟨i,j,rfl,q⟩:=h
 obtain⟨u,w',rfl,⟨t,rfl⟩,⟨t',rfl⟩⟩:=vals2 r
 refine min_two_ints (I.ok.hd hc) fun h' tk k=>⟨_,H,I.kept k,?_,q⟩
 by_cases hj:j < i
 ·rw[if_pos hj,if_pos hj];exact⟨_,rfl⟩
 ·rw[if_neg hj,if_neg hj];exact⟨_,rfl⟩
end
structure Eu (h:Heap) (x dx C:Addr) (mA:Str->Option Value):Prop where
 obj:h.get? x=some (iJ C dx)
 ns:h.Ns1 dx mA
 ne:dx≠x
theorem SK {h:Heap}{dx:Addr}{mA:Str->Option Value} (n:h.Ns1 dx mA):∃ od,h.get? dx=some od∧∀ name,tu name od=some (mA name):=by
 obtain⟨o,es,ep,ho,hd,hk,_,hm⟩:=n
 refine⟨o,ho,fun name => ?_⟩
 have e:=hm name
 unfold nsFind findBy at e
 rw[<- Array.find?_toList]at e
 unfold tu
 rw[hd]
 dsimp only
 split
 ·rename_i y q
  rw[q]at e
  exact congrArg some e
 ·rename_i q
  rw[q]at e
  have a:es.toList.any (·.refKey)=false:=by
   rw[List.any_eq_false]
   intro y hy
   obtain⟨z,t,zo⟩:=hk y (Array.mem_toList_iff.mp hy)
   simp[DictEntry.refKey,zo]
  have a':¬ es.toList.any (·.refKey)=true:=by rw[a];exact bW
  rw[if_neg a']
  exact congrArg some e
theorem Eu.look {h:Heap}{x dx C:Addr}{mA:Str->Option Value} (I:Eu h x dx C mA):∃ od,PySem.W.InstAt h x (iJ C dx) C (some od)∧∀ name,tu name od=some (mA name) :=
 let ⟨od,ho,hl⟩:=SK I.ns
 ⟨od,⟨I.obj,rfl,rfl,ho⟩,hl⟩
section
variable {prog:Program}{w:World}{A:Around}{E:Value->Shared->Prop}{s:Shared}{K:ak}{x dx C f:Addr}{mA:Str->Option Value}{name:Str}{v:Value}
theorem Zv {ao0:Bool}{Q:Value->Shared->Prop} (X:K.In s.heap) (I:Eu s.heap x dx C mA) (hg:fx K C name=true) (hh:fK K C=true)
  (ha:aH K (.ref C) name=some none) (hv:mA name=some v) (rG:Es v=true) (h:Q v { s with toks:=s.toks+1 }) :
  wpAny (model prog w) A (getAttr (.ref x) name ao0) Q E s:=by
 obtain⟨od,J,hl⟩:=I.look
 exact PySem.W.get_value X J (rO hg).1 (PySem.W.findObj_own hh ha rfl (by rw[hl,hv])) rG h
theorem Wa {pl:Sem Bool}{Q:Value × List Value->Shared->Prop} (X:K.In s.heap) (I:Eu s.heap x dx C mA) (hg:fx K C name=true)
  (hf:aH K (.ref C) name=some (some (.ref f))) (ht:du K (.ref f)=true) (hv:mA name=none) (h:Q (.ref f, [.ref x]) s) :
  wpAny (model prog w) A (getMethod (.ref x) name pl) Q E s:=by
 obtain⟨od,J,hl⟩:=I.look
 exact PySem.W.method_fn X J (rO hg).1 (rO hg).2 hf (beq_iff_eq.mp ht) (by show (tu name od).map (·.isSome)=some false;rw[hl,hv];rfl) h
theorem YH {ns:List Str}{Q:Unit->Shared->Prop} (X:K.In s.heap) (I:Eu s.heap x dx C mA)
  (hs:aH K (.ref C) "__setattr__" = some (some (.builtin "object.__setattr__"))) (hp:gE K C=true) (ht:xk K C name=some none) (hh:fK K C=true)
  (hw:wk mA ns) (hsz:ns.length<=sizeLine)
  (h:∀ h',Eu h' x dx C (fun y=>if y=name then some v else mA y)->fF dx s.heap h'->Q () { s with heap:=h',toks:=s.toks+2 }) :
  wpAny (model prog w) A (setAttr (.ref x) name v) Q E s:=by
 obtain⟨od,J,hl⟩:=I.look
 refine PySem.W.set_plain X J hs (PySem.W.osa_open (s := { s with toks:=s.toks+1 }) (r:=none) X J hp ht fun b => ?_)
 obtain⟨cd,hc,hd'⟩:=PySem.W.any_some hh
 have hx:s.heap.get? x=some ⟨.ref C,some dx,.plain, #[]⟩:=I.obj
 refine wpAny_bind (wpAny_pure (wpAny_bind (wpAny_bind (wpAny_loadPart hx (wpAny_bind (PySem.W.Looks.here (s := { s with toks:=s.toks+1 }) (PySem.W.looks_clsIn X hc) ?_))))))
 rw[hd']
 refine wpAny_pure (a:=some dx) (wpAny_bind (wpAny_pure (wpAny_bind ?_)))
 refine wpAny_nsSet1 (s := { s with toks:=s.toks+1 }) I.ns fun h' S3 cI => ?_
 obtain⟨oD,esD,epD,hoD,hdD,hcD⟩:=S3.count (wk.cons name v hw)
 refine wpAny_bind (wpAny_lookBehind hoD (by rw[hdD];exact pastItsLine_dict (cA hcD (by rw[b8];omega))) ?_)
 exact wpAny_pure (h _ ⟨(cI.2 _ (bV I.ne)).trans I.obj,S3,I.ne⟩ cI)
theorem VM {R:Result->Shared->Prop}{vs:List Value}{kw:List (Str × Value)} (X:K.In s.heap) (hm:iI K C=true)
  (hi:aH K (.ref C) "__init__" = some (some (.ref f))) (hf:PySem.W.typeIn K (.ref f)=some (.type "function"))
  (h:codeAny (model prog w) (A.under (.builtin "type.__call__" ⟨.ref C :: vs,kw⟩)) (.call (.ref f) ⟨.ref (s.heap.objs.size+1) :: vs,kw⟩) (PySem.W.InitBack (s.heap.objs.size+1) R)
   { s with heap:=(s.heap.push fN).push (iJ C s.heap.objs.size) }) :
  codeAny (model prog w) A (.call (.ref C) ⟨vs,kw⟩) R s:=by
 obtain⟨hh,g,d,t,os⟩:=s
 exact PySem.W.make_core (PySem.W.makes_of X hm) (PySem.W.looks_findIn X hi) (fun self=>PySem.W.bind_fn X self hf) (.inl rfl) h
end
def cP (f:Str) (v:V):List (Str × V)->List (Str × V)
 | [] => [(f,v)]
 | (g,x) :: r=>if g=f then (g,v) :: r else (g,x) :: cP f v r
theorem C4 (f g:Str) (v:V):∀ fs:List (Str × V),(cP f v fs).lookup g=if g=f then some v else fs.lookup g
 | []=>by
  show nW g [(f,v)]=_
  by_cases h:g=f
  ·have hb:(g == f)=true:=beq_iff_eq.mpr h
   simp only[nW,hb,if_pos h]
  ·have hb:(g == f)=false:=beq_eq_false_iff_ne.mpr h
   simp only[nW,hb,if_neg h]
 | (k,x) :: r=>by
  have ih:=C4 f g v r
  rw[show cP f v ((k,x) :: r)=(if k=f then (k,v) :: r else (k,x) :: cP f v r) from rfl]
  by_cases hk:k=f
  ·rw[if_pos hk]
   by_cases h:g=k
   ·have hb:(g == k)=true:=beq_iff_eq.mpr h
    simp only[nW,hb,if_pos (h.trans hk)]
   ·have hb:(g == k)=false:=beq_eq_false_iff_ne.mpr h
    simp only[nW,hb,if_neg (fun e:g=f=>h (e.trans hk.symm))]
  ·rw[if_neg hk]
   by_cases h:g=k
   ·have hb:(g == k)=true:=beq_iff_eq.mpr h
    simp only[nW,hb,if_neg (fun e:g=f=>hk (h.symm.trans e))]
   ·have hb:(g == k)=false:=beq_eq_false_iff_ne.mpr h
    simp only[nW,hb]
    exact ih
theorem Bp (f:Str) (v:V):∀ fs:List (Str × V),f∈(cP f v fs).map (·.1)∧∀ g,g∈fs.map (·.1)->g∈(cP f v fs).map (·.1)
 | []=>⟨by simp[cP],fun g h=>by simp at h⟩
 | (k,x) :: r=>by
  obtain⟨i1,i2⟩:=Bp f v r
  rw[show cP f v ((k,x) :: r)=(if k=f then (k,v) :: r else (k,x) :: cP f v r) from rfl]
  by_cases hk:k=f
  ·rw[if_pos hk]
   subst hk
   exact⟨by simp,fun g h=>by simpa using h⟩
  ·rw[if_neg hk]
   refine⟨?_,fun g h => ?_⟩
   ·rw[aL]
    exact aK _ i1
   ·rw[aL]at h ⊢
    rcases bo.mp h with e | e
    ·exact bo.mpr (.inl e)
    ·exact aK _ (i2 g e)
theorem C5 (f:Str) (v:V):∀ fs:List (Str × V),(cP f v fs).length<=fs.length+1
 | []=>by simp[cP]
 | (k,x) :: r=>by
  have ih:=C5 f v r
  rw[show cP f v ((k,x) :: r)=(if k=f then (k,v) :: r else (k,x) :: cP f v r) from rfl]
  by_cases hk:k=f
  ·rw[if_pos hk,b8,b8];omega
  ·rw[if_neg hk,b8,b8];omega
theorem mh.some_of {v:V}{o:Option Value} (r:mh (some v) o):∃ u,o=some u∧RelV v u:=by
 cases o with
 | none=>exact(show False from r).elim
 | some u=>exact⟨u,rfl,r⟩
theorem mh.none_of {o:Option Value} (r:mh none o):o=none:=by
 cases o with
 | none=>rfl
 | some u=>exact(show False from r).elim
theorem Tc {v:V}{u:Value} (r:RelV v u):Es u=true:=by
 cases v with
 | cQ=>cases (show u=fT from r);rfl
 | bl b=>cases (show u=iH b from r);rfl
 | int i=>obtain⟨t,e⟩:=(show ∃ t,u=mJ i t from r);cases e;rfl
 | str x=>obtain⟨t,e⟩:=(show ∃ t,u=ud x t from r);cases e;rfl
 | xg b=>obtain⟨t,e⟩:=(show ∃ t,u=Value.bytes b t from r);cases e;rfl
 | LC b=>obtain⟨t,e⟩:=(show ∃ t,u=Dm b t from r);cases e;rfl
 | ref a=>cases (show u=bA a from r);rfl
 | ty n=>cases (show u=qW n from r);rfl
section
variable {P:Program}{w:World} {H H':Hp} {h h':Heap}{a C dx:Addr} {fs fs':List (Str × V)}
theorem Cp (bU:jb P w H h) (e:H a=some (.ins C dx fs)):∃ mA,Eu h a dx C mA∧(∀ f,mh (fs.lookup f) (mA f))∧wk mA (fs.map (·.1))∧fs.length<=1000∧H dx=some (.own a):=by
 obtain⟨d,z,ne,ob,mA,n,r,q⟩:=(show d8 P w H h a (.ins C dx fs) from bU a _ e)
 exact⟨mA,⟨ob,n,ne⟩,r,q,z,d⟩
end
structure nK (K:ak) (C:Addr):Prop where
 pg:fx K C qy=true
 hd:fK K C=true
 po:gE K C=true
 sa:aH K (.ref C) "__setattr__" = some (some (.builtin "object.__setattr__"))
theorem nK.get {K:ak}{C:Addr} (c:nK K C) (f:Str):fx K C f=true:=c.pg
def fg (K:ak) (C:Addr) (f:Str):Prop:=aH K (.ref C) f=some none
theorem fg.ahm {K:ak}{C:Addr}{f:Str} (n:fg K C f):xk K C f=some none:=by
 unfold xk
 rw[show aH K (.ref C) f=some none from n]
 rfl
structure Meth (K:ak) (C:Addr) (m:Str) (f:Addr):Prop where
 at_:aH K (.ref C) m=some (some (.ref f))
 fn:du K (.ref f)=true
 kp:aB K (.ref f)=true
section
variable {X:Cx}{ag:List (Addr × Obj)}{σ : St}{H:Hp}{s:Shared}{a C dx:Addr}{fs:List (Str × V)}{f:Str}{v:V}{A:Around}{E:Value->Shared->Prop}
theorem QD {b:Bool}{Q:Value->Shared->Prop} (I:Inv X ag σ H s) (e:H a=some (.ins C dx fs)) (c:nK X.K C) (n:fg X.K C f) (l:fs.lookup f=some v)
  (h:∀ u s',Inv X ag σ H s'->RelV v u->Q u s'):wpAny (model X.prog X.w) A (getAttr (.ref a) f b) Q E s:=by
 obtain⟨mA,O,r,_,_,_⟩:=Cp I.bU e
 obtain⟨u,hu,ru⟩:=mh.some_of (v:=v) (o:=mA f) (by rw[<- l];exact r f)
 exact Zv I.kL O (c.get f) c.hd n hu (Tc ru) (h u _ (I.tok _) ru)
theorem FK {m:Str}{g:Addr}{pl:Sem Bool}{Q:Value × List Value->Shared->Prop} (I:Inv X ag σ H s) (e:H a=some (.ins C dx fs)) (c:nK X.K C) (k:Meth X.K C m g) (l:fs.lookup m=none)
  (h:Q (.ref g, [.ref a]) s):wpAny (model X.prog X.w) A (getMethod (.ref a) m pl) Q E s:=by
 obtain⟨mA,O,r,_,_,_⟩:=Cp I.bU e
 have hn:mA m=none:=mh.none_of (by rw[<- l];exact r m)
 exact Wa I.kL O (c.get m) k.at_ k.fn hn h
theorem PD {y:V}{u:Value}{Q:Unit->Shared->Prop} (I:Inv X ag σ H s) (e:H a=some (.ins C dx fs)) (c:nK X.K C) (n:fg X.K C f) (hl:fs.length < 1000) (ry:RelV y u)
  (h:∀ s',Inv X ag σ (aJ H a (.ins C dx (cP f y fs))) s'->Q () s'):wpAny (model X.prog X.w) A (setAttr (.ref a) f u) Q E s:=by
 obtain⟨mA,O,r,wi,_,ho⟩:=Cp I.bU e
 have hz:(fs.map (·.1)).length<=sizeLine:=by rw[aq,sizeLine_eq];omega
 refine YH I.kL O c.sa c.po n.ahm c.hd wi hz fun h' O' sb=>h _ ?_
 have hd:∃ o,h'.get? dx=some o:=let ⟨o,_,_,e',_⟩:=O'.ns; ⟨o,e'⟩
 refine I.write (x:=a) (e:=dx) (by rw[e];exact fU) (.inr ho) (fun b q hb z=>(sb.2 b hb).trans z) hd ?_
 refine⟨by rw[ax O.ne];exact ho,?_,O.ne,O'.obj,_,O'.ns,fun g => ?_,fun g hg => ?_⟩
 ·have:=C5 f y fs;omega
 ·show mh ((cP f y fs).lookup g) (if g=f then some u else mA g)
  rw[C4]
  by_cases q:g=f
  ·rw[if_pos q,if_pos q];exact ry
  ·rw[if_neg q,if_neg q];exact r g
 ·by_cases q:g=f
  ·rw[q];exact(Bp f y fs).1
  ·refine(Bp f y fs).2 g (wi g fun z=>hg ?_)
   show (if g=f then some u else mA g)=none
   rw[if_neg q];exact z
theorem Inv.made (I:Inv X ag σ H s):Inv X ag σ (aJ (aJ H s.heap.objs.size (.own (s.heap.objs.size+1))) (s.heap.objs.size+1) (.ins C s.heap.objs.size []))
  { s with heap:=(s.heap.push fN).push (iJ C s.heap.objs.size) }:=by
 have e1:(s.heap.push fN).get? s.heap.objs.size=some fN:=bZ s.heap rfl
 have e2:((s.heap.push fN).push (iJ C s.heap.objs.size)).get? (s.heap.objs.size+1)=some (iJ C s.heap.objs.size):=by
  have:=bZ (s.heap.push fN) (o:=iJ C s.heap.objs.size) rfl
  rwa [tG]at this
 have e3:(s.heap.push fN).Ns s.heap.objs.size (fun _=>none):=⟨fN, #[],_,e1,rfl,(fun e he=>absurd he (by simp)),fun _=>rfl⟩
 have I1:=I.laid (a:=s.heap.objs.size) (o := .own (s.heap.objs.size+1)) (h':=s.heap.push fN) (t':=s.toks) (fun b u q=>aU _ q) (aA _) ⟨_,e1⟩
 refine I1.laid (a:=s.heap.objs.size+1) (o := .ins C s.heap.objs.size []) (t':=s.toks) (fun b u q=>aU _ q) (eP (tG _ _)) ?_
 have ne:s.heap.objs.size≠s.heap.objs.size+1:=cU (kd _)
 refine⟨by rw[ax ne,au],bD _,ne,e2,fun _=>none,(Heap.Ns1.of_empty e3).at fun o q=>aU _ q,fun _=>fU,fun y hy=>absurd rfl hy⟩
theorem ZF {prog:Program}{w:World}{env:Env}{e:Expr}{f:Str}{pos:Pos}{s:Shared}{Q:Value->Shared->Prop} (hb:attributeBase e f env (eval e env)=eval e env)
  (h:wpAny (model prog w) A (eval e env) (fun o fb => wpAny (model prog w) A (getAttr o f true) Q E fb) E s):wpAny (model prog w) A (eval (.Attribute e f pos) env) Q E s :=
 Attribute_any_ h (by rw[arm_eval_Attribute,hb])
end
inductive agT (K:ak) (f:Str) (x:V) (H:Hp) (Q:VK):Prop
 | mk (a C dx:Addr) (fs:List (Str × V)) (v:V) (hx:x = .ref a) (h:H a=some (.ins C dx fs)) (c:nK K C) (n:fg K C f) (l:fs.lookup f=some v) (q:Q v H):agT K f x H Q
def akj (K:ak) (ta:TE) (f:Str):TE:=fun σ H Q=>ta σ H fun x H1=>agT K f x H1 Q
inductive Uq (K:ak) (f:Str) (D:Ends) (σ : St) (y:V) (x:V) (H2:Hp):Prop
 | mk:∀ a C dx fs,(x = .ref a)->(H2 a=some (.ins C dx fs))->(nK K C)->(fg K C f)->(fs.length < 1000)->(D.nx σ (aJ H2 a (.ins C dx (cP f y fs))))->Uq K f D σ y x H2
def ak2 (K:ak) (ta tv:TE) (f:Str):TS:=fun D σ H=>tv σ H fun y H1=>ta σ H1 fun x H2=>Uq K f D σ y x H2
section
variable {X:Cx}{o e value:Expr}{f:Str}{pos sj aka:Pos}{ta tv:TE}
theorem cZ (he:PE X e ta) (hb:attributeBase e f X.env (eval e X.env)=eval e X.env):PE X (.Attribute e f pos) (akj X.K ta f):=by
 intro ag s σ H Q I h
 refine ZF hb (cf (he ag s σ H _ I h) fun u s1 ⟨x,H1,I1,rx,a,C,dx,fs,v,ex,ea,c,n,l,q⟩ => ?_)
 subst ex
 obtain rfl:u=bA a:=rx
 exact QD I1 ea c n l fun u' s2 I2 ru=>⟨v,H1,I2,ru,q⟩
theorem iq (ha:PE X o ta) (hv:PE X value tv) (hs:swapsWith value (some (.Attribute o f sj)) pos.line X.env=pure false):PS X (.Assign [.Attribute o f sj] value pos) (ak2 X.K ta tv f):=by
 intro ag s σ H D I h
 refine plainObj_wpAny_Assign_Attribute (cf (hv ag s σ H _ I h) fun u s1 ⟨y,H1,I1,ry,q⟩=>cf (ha ag s1 σ H1 _ I1 q) fun ov s2 ⟨x,H2,I2,rx,a,C,dx,fs,ex,ea,c,n,l,q2⟩ => ?_) hs
 subst ex
 obtain rfl:ov=bA a:=rx
 exact PD I2 ea c n l ry fun s3 I3=>⟨σ,_,I3,q2⟩
end
section
variable {X:Cx}{ag:List (Addr × Obj)}{σ : St}{H:Hp}{s:Shared}{A:Around}{E:Value->Shared->Prop}{Q:Value->Shared->Prop}{c:Value}{b:Bool}
inductive tj (K:ak) (H:Hp):V->Value->Prop where
 | cQ:tj K H .cQ (.type "NoneType")
 | bl (x:Bool):tj K H (.bl x) (.type "bool")
 | int (i:Int):tj K H (.int i) (.type "int")
 | str (x:Str):tj K H (.str x) (.type "str")
 | LC (x:UInt64):tj K H (.LC x) (.type "float")
 | lst {a:Addr}{xs:List V} (e:H a=some (.lst xs)):tj K H (.ref a) (.type "list")
 | xc {a:Addr}{o:Obj}{xs:List V} (e:H a=some (.xc o (.lst xs))):tj K H (.ref a) (.type "list")
 | tup {a:Addr}{xs:List V} (e:H a=some (.tup xs)):tj K H (.ref a) (.type "tuple")
 | dK {a:Addr}{kvs:List (Key × V)} (e:H a=some (.dK kvs)):tj K H (.ref a) (.type "dict")
 | dT {a:Addr}{kvs:List (List Key × V)} (e:H a=some (.dT kvs)):tj K H (.ref a) (.type "dict")
 | ins {a C dx:Addr}{fs:List (Str × V)} (e:H a=some (.ins C dx fs)) (cl:nK K C) (ha:aH K (.ref C) "__class__" = some (some (.builtin "object.__class__")))
   (hn:uD K (.builtin "object.__class__") "__get__" = some (some (.builtin "getset_descriptor.__get__"))) (Xq:PySem.W.takesIn K (.builtin "object.__class__")=some true)
   (hm:PySem.W.mroIn K C (.type "object")=some true):tj K H (.ref a) (.ref C)
theorem SV {x:V}{u t:Value} (I:Inv X ag σ H s) (rx:RelV x u) (ty:tj X.K H x t) (e:tw X.K t c=some b) (h:∀ tk,Q (.bool b) { s with toks:=tk }) :
  wpAny (model X.prog X.w) A (call (.builtin "isinstance") [u,c]) Q E s:=by
 cases ty with
 | cQ=>cases (show u=fT from rx);exact fi PySem.W.kitx_none I.kL fU e (fun z=>nomatch z) h
 | bl y=>cases (show u=iH y from rx);exact fi PySem.W.kitx_bool I.kL fU e (fun z=>nomatch z) h
 | int i=>obtain⟨t,q⟩:=(show ∃ t,u=mJ i t from rx);cases q;exact fi PySem.W.kitx_int I.kL fU e (fun z=>nomatch z) h
 | str y=>obtain⟨t,q⟩:=(show ∃ t,u=ud y t from rx);cases q;exact fi PySem.W.kitx_str I.kL fU e (fun z=>nomatch z) h
 | LC y=>obtain⟨t,q⟩:=(show ∃ t,u=Dm y t from rx);cases q;exact fi PySem.W.kitx_float I.kL fU e (fun z=>nomatch z) h
 | @lst a xs ea =>
  cases (show u=bA a from rx)
  obtain⟨_,_,n,_,h1⟩:=(show d8 X.prog X.w H s.heap a (.lst xs) from I.bU a _ ea)
  exact fi CL I.kL ⟨_,h1,rfl⟩ e (fun z=>nomatch z) h
 | @xc a ob xs ea =>
  cases (show u=bA a from rx)
  obtain⟨_,_,_,n,_,h1⟩:=(show d8 X.prog X.w H s.heap a (.xc ob (.lst xs)) from I.bU a _ ea)
  exact fi CL I.kL ⟨_,h1,rfl⟩ e (fun z=>nomatch z) h
 | @tup a xs ea =>
  cases (show u=bA a from rx)
  obtain⟨_,_,_,p⟩:=(show d8 X.prog X.w H s.heap a (.tup xs) from I.bU a _ ea)
  obtain⟨o,h1,h2,_⟩:=p
  exact fi PySem.W.kitx_tuple I.kL ⟨o,h1,h2⟩ e (fun z=>nomatch z) h
 | @dK a kvs ea =>
  cases (show u=bA a from rx)
  obtain⟨_,_,vs,_,p⟩:=(show d8 X.prog X.w H s.heap a (.dK kvs) from I.bU a _ ea)
  obtain⟨o,es,ep,h1,h2,_⟩:=p
  exact fi CO I.kL ⟨o,h1,h2.1⟩ e (fun z=>nomatch z) h
 | @dT a kvs ea =>
  cases (show u=bA a from rx)
  obtain⟨_,_,xs,_,o,es,ep,h1,h2,_⟩:=(show d8 X.prog X.w H s.heap a (.dT kvs) from I.bU a _ ea)
  exact fi CO I.kL ⟨o,h1,h2.1⟩ e (fun z=>nomatch z) h
 | @ins a C dx fs ea cl ha hn Xq hm =>
  cases (show u=bA a from rx)
  obtain⟨mA,O,_⟩:=Cp I.bU ea
  obtain⟨od,J,_⟩:=O.look
  exact fi (PySem.W.kitx_own (cl.get _) cl.hd ha hn Xq hm) I.kL J e (fun z=>nomatch z) h
end
structure eY (k:Nat) (A:Around):Prop where
 hd:A.handled=none
 dp:A.depth+3 * k+5 < recursionLimit
 un:A.units+16 * k+200 < cLine
theorem eY.mono {j k:Nat}{A:Around} (r:eY k A) (h:j<=k):eY j A:=⟨r.hd,by have:=r.dp;omega,by have:=r.un;omega⟩
theorem eY.deeper {k:Nat}{A:Around} (r:eY (k+1) A) (env:Env):eY k (A.deeper env) :=
 ⟨r.hd,by have:=r.dp;show A.depth+1+3 * k+5 < _;omega,by have:=r.un;show A.units+3+16 * k+200 < _;omega⟩
theorem Qd {A:Around}{C:Addr}{us:List Value}{kw:List (Str × Value)}:(A.under (.builtin "type.__call__" ⟨.ref C :: us,kw⟩)).depth=A.depth+1:=by
 first | rfl | simp[B7,Code.weight,Code.isCreation,Code.isGuard,Code.isCaller,Code.frames,BZ,guardIds]
theorem Qb {A:Around}{C:Addr}{us:List Value}{kw:List (Str × Value)}:(A.under (.builtin "type.__call__" ⟨.ref C :: us,kw⟩)).units=A.units+1:=by
 first | rfl | simp[B7,Code.cUnits,Code.frames,BZ]
theorem eY.make {k:Nat}{A:Around} (r:eY (k+1) A) (C:Addr) (us:List Value) (kw:List (Str × Value)):eY k (A.under (.builtin "type.__call__" ⟨.ref C :: us,kw⟩)) :=
 ⟨r.hd,by have:=r.dp;rw[Qd];omega,by have:=r.un;rw[Qb];omega⟩
theorem eY.depth {k:Nat}{A:Around} (r:eY k A):A.depth < recursionLimit:=by have:=r.dp;omega
theorem eY.units {k:Nat}{A:Around} (r:eY k A):A.units+64 < cLine:=by have:=r.un;omega
def JL:TA:=fun _ H Q=>Q [] H
def ER (ta:TE) (tr:TA):TA:=fun σ H Q=>ta σ H fun x H1=>tr σ H1 fun xs H2=>Q (x :: xs) H2
section
variable {X:Cx}{e:Expr}{es:List Expr}{te:TE}{t:TA}{pos:Pos}
theorem ao:PA X [] JL:=fun _ _ _ _ H Q I h=>jQ ⟨[],H,I,.nil,h⟩
theorem ae (ha:PE X e te) (hr:PA X es t) (hs:starEach (e :: es) X.env=(false,eval e X.env) :: starEach es X.env:=by rfl):PA X (e :: es) (ER te t):=by
 intro pos ag s σ H Q I h
 rw[hs]
 show wpAny _ _ (spliced ((false,eval e X.env) :: backTo pos (starEach es X.env))) _ _ s
 refine fq (cf (ha ag s σ H _ I h) fun u s1 ⟨x,H1,I1,r1,q1⟩ => ?_)
 exact cf (hr pos ag s1 σ H1 _ I1 q1) fun us s2 ⟨xs,H2,I2,r2,q2⟩=>⟨x :: xs,H2,I2,.cons r1 r2,q2⟩
def akf (t:TA):TE:=fun σ H Q=>t σ H fun xs H1=>xs.length<=sizeLine∧∀ p,H1 p=none->Q (.ref p) (aJ H1 p (.tup xs))
def aki (t:TA):TE:=fun σ H Q=>t σ H fun xs H1=>xs.length<=sizeLine∧∀ p,H1 p=none->Q (.ref p) (aJ H1 p (.lst xs))
theorem eQ {x1} (h:PA X es t):PE X (.Tuple es x1 pos) (akf t):=by
 intro ag s σ H Q I hq
 refine wpAny_Tuple_spliced (cf (h pos ag s σ H _ I hq) fun us s1 ⟨xs,H1,I1,r,z,q⟩=>⟨by rw[<- r.length];exact z,?_⟩)
 have hf:H1 s1.heap.objs.size=none:=I1.bU.fresh (aA _)
 refine⟨.ref s1.heap.objs.size,aJ H1 s1.heap.objs.size (.tup xs),I1.laid (t':=s1.toks) (fun b u e=>aU _ e) (aA _) ?_,rfl,q _ hf⟩
 exact⟨z,us,r,⟨_,bZ _ rfl,rfl,_,rfl,rfl⟩⟩
theorem iY (h:PA X es t):PE X (.List es pos) (aki t):=by
 intro ag s σ H Q I hq
 refine wpAny_List_spliced (cf (h pos ag s σ H _ I hq) fun us s1 ⟨xs,H1,I1,r,z,q⟩=>⟨by rw[<- r.length];exact z,?_⟩)
 have hf:H1 s1.heap.objs.size=none:=I1.bU.fresh (aA _)
 refine⟨.ref s1.heap.objs.size,aJ H1 s1.heap.objs.size (.lst xs),I1.laid (t':=s1.toks) (fun b u e=>aU _ e) (aA _) ?_,rfl,q _ hf⟩
 exact⟨z,us,0,r,bZ _ rfl⟩
end
abbrev Sp:=List V->Hp->VK->XK->Prop
abbrev yM:=List Env->Hp->Shared->XK->Value->Shared->Prop
structure EB (P:Program) (w:World) (K:ak) (mg:Str->Option Value) (base:Heap) (A:Around) (outer:List Env) (s:Shared) (H:Hp):Prop where
 frames:A.frames=some outer
 mod:Mod K mg base
 bs:∀ b o,base.get? b=some o->s.heap.get? b=some o∧H b=none
 Dl:base.objs.size<=s.heap.objs.size
 sQ:s.heap.FunFrames base outer
 Ii:∀ b∈oN outer,H b=none
 bU:jb P w H s.heap
 bare:AllBare s.gens
def CE (outer:List Env) (P:Program) (w:World) (H:Hp) (s:Shared) (Q:VK) (u:Value) (s':Shared):Prop :=
 ∃ v H',s'.os=s.os∧AllBare s'.gens∧Un (oN outer) [] H H' s.heap s'.heap∧jb P w H' s'.heap∧RelV v u∧Q v H'
def CR (CX:yM) (outer:List Env) (P:Program) (w:World) (H:Hp) (s:Shared) (Q:VK) (E:XK) (r:Result) (s':Shared):Prop :=
 match r with
 | .ok (.ret u)=>CE outer P w H s Q u s'
 | .ok _=>False
 | .error e=>CX outer H s E e s'
structure kz (P:Program) (w:World) (K:ak) (mg:Str->Option Value) (base:Heap) (CX:yM) (k:Nat) (f:Addr) (fd:FuncData) (ps:List Str) (sp:Sp):Prop where
 len:∀ vs H Q E,sp vs H Q E->vs.length=ps.length
 run:∀ (A:Around) (outer:List Env) (s:Shared) (H:Hp) (args:Args) (us:List Value) (vs:List V) (Q:VK) (E:XK),eY k A->EB P w K mg base A outer s H->BindsTo s fd args (ps.zip us)->Vals vs us->sp vs H Q E ->
  codeAny (model P w) A (.call (.ref f) args) (CR CX outer P w H s Q E) s
theorem EB.make {P:Program}{w:World}{K:ak}{mg:Str->Option Value}{base:Heap}{A:Around}{outer:List Env}{s:Shared}{H:Hp} (e:EB P w K mg base A outer s H) (C:Addr) (us:List Value) (kw:List (Str × Value)) :
  EB P w K mg base (A.under (.builtin "type.__call__" ⟨.ref C :: us,kw⟩)) outer s H:=⟨by first | exact e.frames | (simpa [B7,Code.envs,BZ,pushEnvs] using e.frames),e.mod,e.bs,e.Dl,e.sQ,e.Ii,e.bU,e.bare⟩
section
variable {X:Cx}{ag:List (Addr × Obj)}{σ : St}{H:Hp} {s s':Shared}
theorem Inv.aez (I:Inv X ag σ H s):EB X.prog X.w X.K X.mg X.base X.A X.stack s H :=
 ⟨I.ok.frames,I.ok.mod,I.bs,cA I.ok.Dl I.sz,I.stack,I.Nf,I.bU,I.bare⟩
theorem Inv.after {Q:VK}{u:Value} (I:Inv X ag σ H s) (h:CE X.stack X.prog X.w H s Q u s'):EP X ag σ Q u s':=by
 obtain⟨v,H',os,bare,un,bU,r,q⟩:=h
 obtain⟨hh,g,d,t,os'⟩:=s'
 obtain rfl:os'=s.os:=os
 exact⟨v,H',I.call (h':=hh) (g':=g) (d':=d) (t':=t) (ch := []) un bU bare (fun b z=>absurd z (by simp)),r,q⟩
end
def yT (sp:Sp) (fh:List V) (E:XK) (t:TA):TE:=fun σ H Q=>t σ H fun vs H1=>sp (vs ++ fh) H1 Q E
inductive OY (C:Addr) (m:Str) (sp:Sp) (fh:List V) (E:XK) (t:TA) (σ : St) (Q:VK) (x:V) (H1:Hp):Prop
 | mk:∀ a dx fs,(x = .ref a)->(H1 a=some (.ins C dx fs))->(fs.lookup m=none)->(t σ H1 fun vs H2=>sp (x :: (vs ++ fh)) H2 Q E)->OY C m sp fh E t σ Q x H1
def EO (C:Addr) (m:Str) (sp:Sp) (fh:List V) (E:XK) (ta:TE) (t:TA):TE:=fun σ H Q=>ta σ H fun x H1=>OY C m sp fh E t σ Q x H1
def WS (C:Addr) (sp:Sp) (fh:List V) (E:XK) (t:TA):TE:=fun σ H Q=>t σ H fun vs H1=>∀ x dx,H1 x=none->H1 dx=none->dx≠x ->
 sp (.ref x :: (vs ++ fh)) (aJ (aJ H1 dx (.own x)) x (.ins C dx [])) (fun v H2=>v = .cQ∧Q (.ref x) H2) E
def Binds (K:ak) (fd:FuncData) (ps:List Str) (ds:List Value):Prop :=
 ∀ (s:Shared) (us:List Value),K.In s.heap->(us ++ ds).length=ps.length->BindsTo s fd ⟨us, []⟩ (ps.zip (us ++ ds))
theorem Binds.all {K:ak}{fd:FuncData}{ps:List Str} (h:∀ us:List Value,us.length=ps.length->bindArgs fd ⟨us, []⟩=pure (ps.zip us)):Binds K fd ps []:=fun s us _ hl=>by
 rw[eJ]at hl ⊢
 exact .of_eq (h us hl)
def Passes (CX:yM) (X:Cx) (E:XK):Prop := ∀ (ag:List (Addr × Obj)) (σ : St) (H:Hp) (s:Shared) (e:Value) (s':Shared),Inv X ag σ H s->CX X.stack H s E e s'->X.xe e s'
section
variable {X:Cx}{CX:yM}{k:Nat}{f C:Addr}{fd:FuncData}{ps:List Str}{sp:Sp}{fh:List V}{ds:List Value}{E:XK}{x m:Str}{p pos eN:Pos}{e o:Expr}{es:List Expr}{ta:TE}{t:TA}
theorem AI {ag:List (Addr × Obj)}{σ : St}{H:Hp}{s:Shared}{Q:VK}{us:List Value}{vs:List V} (F:kz X.prog X.w X.K X.mg X.base CX k f fd ps sp) (hr:eY k X.A) (hb:Binds X.K fd ps ds) (hd:Vals fh ds) (hx:Passes CX X E)
  (I:Inv X ag σ H s) (r:Vals vs us) (h:sp (vs ++ fh) H Q E):wpAny (model X.prog X.w) X.A (call (.ref f) us) (EP X ag σ Q) X.xe s:=by
 have r2:Vals (vs ++ fh) (us ++ ds):=r.append hd
 have hl:(us ++ ds).length=ps.length:=by rw[<- r2.length];exact F.len _ _ _ _ h
 refine wpAny_call (codeAny_mono (F.run X.A X.stack s H ⟨us, []⟩ (us ++ ds) (vs ++ fh) Q E hr I.aez (hb s us I.kL hl) r2 h) fun r s' hq => ?_)
 cases r with
 | error e=>exact hx ag σ H s e s' I hq
 | ok fl =>
  cases fl with
  | ret u=>exact I.after hq
  | next=>exact eW hq
  | brk=>exact eW hq
  | cont=>exact eW hq
theorem GL (F:kz X.prog X.w X.K X.mg X.base CX k f fd ps sp) (hr:eY k X.A) (hg:Gl X x) (hm:X.mg x=some (.ref f)) (hk:aB X.K (.ref f)=true) (hb:Binds X.K fd ps ds) (hd:Vals fh ds) (hx:Passes CX X E)
  (ha:PA X (e :: es) t) (t7:(x == ("__debug__" : Str))=false:=by decide) (he:starEach (e :: es) X.env=(false,eval e X.env) :: starEach es X.env:=by rfl) (lZ:(backTo pos (starEach es X.env)).any (·.1)=false:=by rfl) :
  PE X (.Call (.Name x p) (e :: es) [] pos) (yT sp fh E t):=by
 intro ag s σ H Q I h
 refine wpAny_Call_Name_kw (Cm I hg hm ?_ t7)
 refine kT (h₀ := X.base) I.ok.mod.KW hk (cf (ha pos ag s σ H _ I h) fun us s1 ⟨vs,H1,I1,r,q⟩=>⟨I1.kL,?_⟩) he lZ
 exact AI F hr hb hd hx I1 r q
theorem NF {pl:Sem Bool} (he:PE X o ta) (c:nK X.K C) (hm:Meth X.K C m f) (F:kz X.prog X.w X.K X.mg X.base CX k f fd ps sp) (hr:eY k X.A) (hb:Binds X.K fd ps ds) (hd:Vals fh ds) (hx:Passes CX X E) (ha:PA X (e :: es) t)
  (jZ:starEach (e :: es) X.env=(false,eval e X.env) :: starEach es X.env:=by rfl) (lZ:(backTo pos (starEach es X.env)).any (·.1)=false:=by rfl)
  (ht:eval (.Call (.Attribute o m eN) (e :: es) [] pos) X.env=(do
   let ov <- eval o X.env
   standAt eN.atName
   let (f,first) <- holding [ov] (getMethod ov m pl)
   callWith pos f first (backTo pos (starEach (e :: es) X.env)) (backToKw pos (keywordEach [] X.env))):=by rfl) :
  PE X (.Call (.Attribute o m eN) (e :: es) [] pos) (EO C m sp fh E ta t):=by
 intro ag s σ H Q I h
 refine qA (pl:=pl) (cf (he ag s σ H _ I h) fun u s1 ⟨x,H1,I1,rx,a,dx,fs,ex,ea,l,q⟩ => ?_) ht
 subst ex
 obtain rfl:u=bA a:=rx
 refine FK I1 ea c hm l ?_
 refine kT (first := [.ref a]) (h₀ := X.base) I.ok.mod.KW hm.kp (cf (ha pos ag s1 σ H1 _ I1 q) fun us s2 ⟨vs,H2,I2,r,q2⟩=>⟨I2.kL,?_⟩) jZ lZ
 exact AI (us := .ref a :: us) (vs := .ref a :: vs) F hr hb hd hx I2 (.cons rfl r) q2
theorem Vo {pl:Sem Bool} (he:PE X o ta) (c:nK X.K C) (hm:Meth X.K C m f) (F:kz X.prog X.w X.K X.mg X.base CX k f fd ps sp) (hr:eY k X.A) (hb:Binds X.K fd ps ds) (hd:Vals fh ds) (hx:Passes CX X E)
  (ht:eval (.Call (.Attribute o m eN) [] [] pos) X.env=(do
   let ov <- eval o X.env
   standAt eN.atName
   let (f,first) <- holding [ov] (getMethod ov m pl)
   callWith pos f first (backTo pos (starEach [] X.env)) (backToKw pos (keywordEach [] X.env))):=by rfl) :
  PE X (.Call (.Attribute o m eN) [] [] pos) (EO C m sp fh E ta JL):=by
 intro ag s σ H Q I h
 refine qA (pl:=pl) (cf (he ag s σ H _ I h) fun u s1 ⟨x,H1,I1,rx,a,dx,fs,ex,ea,l,q⟩ => ?_) ht
 subst ex
 obtain rfl:u=bA a:=rx
 refine FK I1 ea c hm l ?_
 exact PySem.W.callWith_K0 (first := [.ref a]) I1.kL hm.kp (AI (us := [.ref a]) (vs := [.ref a]) F hr hb hd hx I1 (.cons rfl .nil) q)
structure Mk (K:ak) (C f:Addr):Prop where
 makes:iI K C=true
 init:aH K (.ref C) "__init__" = some (some (.ref f))
 fn:du K (.ref f)=true
 kp:aB K (.ref C)=true
theorem Vd {ag:List (Addr × Obj)}{σ : St}{H:Hp}{s:Shared}{Q:VK}{us:List Value}{vs:List V} (M:Mk X.K C f) (F:kz X.prog X.w X.K X.mg X.base CX k f fd ps sp) (hr:eY (k+1) X.A) (hb:Binds X.K fd ps ds) (hd:Vals fh ds)
  (hx:Passes CX X E) (I:Inv X ag σ H s) (r:Vals vs us)
  (h:∀ x dx,H x=none->H dx=none->dx≠x->sp (.ref x :: (vs ++ fh)) (aJ (aJ H dx (.own x)) x (.ins C dx [])) (fun v H2=>v = .cQ∧Q (.ref x) H2) E) :
  wpAny (model X.prog X.w) X.A (call (.ref C) us) (EP X ag σ Q) X.xe s:=by
 have hq:=h (s.heap.objs.size+1) s.heap.objs.size (I.bU.fresh (lC _)) (I.bU.fresh (aA _)) (cU (kd _))
 have I2:=Inv.made (C:=C) I
 have r2:Vals (V.ref (s.heap.objs.size+1) :: (vs ++ fh)) (bA (s.heap.objs.size+1) :: (us ++ ds)) := .cons rfl (r.append hd)
 have hl:(bA (s.heap.objs.size+1) :: us ++ ds).length=ps.length:=by
  have e:=r2.length
  rw[F.len _ _ _ _ hq]at e
  exact e.symm
 refine wpAny_call (VM (f:=f) I.kL M.makes M.init (beq_iff_eq.mp M.fn) (codeAny_mono (F.run _ X.stack _ _ ⟨bA (s.heap.objs.size+1) :: us, []⟩ (bA (s.heap.objs.size+1) :: (us ++ ds)) _ _ E (hr.make C us [])
  (I2.aez.make C us []) (hb _ (bA (s.heap.objs.size+1) :: us) I2.kL hl) r2 hq) fun r s' S2 => ?_))
 cases r with
 | error e=>exact hx ag σ _ _ e s' I2 S2
 | ok fl =>
  cases fl with
  | ret u =>
   obtain⟨v,H',I3,rv,ev,q3⟩:=I2.after S2
   subst ev
   exact⟨rv,⟨V.ref (s.heap.objs.size+1),H',I3,rfl,q3⟩⟩
  | next=>exact eW S2
  | brk=>exact eW S2
  | cont=>exact eW S2
theorem Y0 (M:Mk X.K C f) (F:kz X.prog X.w X.K X.mg X.base CX k f fd ps sp) (hr:eY (k+1) X.A) (hg:Gl X x) (hm:X.mg x=some (.ref C)) (hb:Binds X.K fd ps ds) (hd:Vals fh ds) (hx:Passes CX X E)
  (ha:PA X (e :: es) t) (t7:(x == ("__debug__" : Str))=false:=by decide) (he:starEach (e :: es) X.env=(false,eval e X.env) :: starEach es X.env:=by rfl) (lZ:(backTo pos (starEach es X.env)).any (·.1)=false:=by rfl) :
  PE X (.Call (.Name x p) (e :: es) [] pos) (WS C sp fh E t):=by
 intro ag s σ H Q I h
 refine wpAny_Call_Name_kw (Cm I hg hm ?_ t7)
 refine kT (h₀ := X.base) I.ok.mod.KW M.kp (cf (ha pos ag s σ H _ I h) fun us s1 ⟨vs,H1,I1,r,q⟩=>⟨I1.kL,?_⟩) he lZ
 exact Vd M F hr hb hd hx I1 r q
end
section
variable {X:Cx}{CX:yM}{k:Nat}{f C:Addr}{fd:FuncData}{ps ks:List Str}{sp:Sp}{E:XK}{x m:Str}{p pos eN avx:Pos}{e o:Expr}{es:List Expr}{kws:List Keyword}{te ta:TE}{t tk:TA}{nm:Option Str}
variable {g:List Value->List Value->List Value}{gV:List V->List V->List V}
end
structure bI (N P:List Str) (sc:Scope):Prop where
 kind:sc.kind = .function
 co:sc.isCoroutine=false
 gen:sc.isGenerator=false
 nd:N.Nodup
 pre:N.take P.length=P
 par:∀ x∈P,sc.names.lookup x=some .local∨sc.names.lookup x=some .cell
 aaQ:∀ y∈sc.names,y.2 ≠ .free
theorem Iy {kindOf:Str->Option NameKind}{x:Str}:∀ {binds:List (Str × Value)}{m:Str->Option Value},(∀ v,(x,v) ∉ binds)->bindL kindOf binds m x=m x
 | [],_,_=>rfl
 | (n,v) :: r,m,h=>by
  unfold bindL
  rw[Iy fun w hw=>h w (aK _ hw)]
  split
  ·have:x≠n:=by rintro rfl;exact h v aT
   simp[this]
  ·rfl
theorem IA {kindOf:Str->Option NameKind}{x:Str}:∀ {binds:List (Str × Value)}{m:Str->Option Value},(∀ v,(x,v) ∉ binds)->bindC kindOf binds m x=m x
 | [],_,_=>rfl
 | (n,v) :: r,m,h=>by
  unfold bindC
  rw[IA fun w hw=>h w (aK _ hw)]
  split
  ·rfl
  ·have:x≠n:=by rintro rfl;exact h v aT
   simp[this]
theorem Iz {kindOf:Str->Option NameKind}{x:Str}{v:Value}:∀ {P:List Str}{vs:List Value}{i:Nat}{m:Str->Option Value},P.Nodup->P[i]? = some x->vs[i]? = some v->kindOf x=some .local ->
  bindL kindOf (P.zip vs) m x=some v
 | [],_,_,_,_,h,_,_=>by simp at h
 | _ :: _, [],_,_,_,_,h,_=>by simp at h
 | p :: P,w :: vs,0,m,nd,h1,h2,hk=>by
  simp at h1 h2;subst h1;subst h2
  show bindL kindOf ((p,w) :: P.zip vs) m p=_
  unfold bindL
  rw[Iy fun v hv=>(dW.mp nd).1 (xm hv).1,if_pos hk]
  simp
 | p :: P,w :: vs,i+1,m,nd,h1,h2,hk=>by
  show bindL kindOf ((p,w) :: P.zip vs) m x=_
  unfold bindL
  exact Iz (i:=i) (dW.mp nd).2 (by simpa using h1) (by simpa using h2) hk
theorem IB {kindOf:Str->Option NameKind}{x:Str}{v:Value}:∀ {P:List Str}{vs:List Value}{i:Nat}{m:Str->Option Value},P.Nodup->P[i]? = some x->vs[i]? = some v->kindOf x≠some .local ->
  bindC kindOf (P.zip vs) m x=some v
 | [],_,_,_,_,h,_,_=>by simp at h
 | _ :: _, [],_,_,_,_,h,_=>by simp at h
 | p :: P,w :: vs,0,m,nd,h1,h2,hk=>by
  simp at h1 h2;subst h1;subst h2
  show bindC kindOf ((p,w) :: P.zip vs) m p=_
  unfold bindC
  rw[IA fun v hv=>(dW.mp nd).1 (xm hv).1,if_neg hk]
  simp
 | p :: P,w :: vs,i+1,m,nd,h1,h2,hk=>by
  show bindC kindOf ((p,w) :: P.zip vs) m x=_
  unfold bindC
  exact IB (i:=i) (dW.mp nd).2 (by simpa using h1) (by simpa using h2) hk
def start (N:List Str) (vs:List V):St:=vs.map some ++ bz (N.length - vs.length) none
def dj (CX:yM) (P:Program) (w:World) (K:ak) (mg:Str->Option Value) (base:Heap) (N:List Str) (cV:Str) (scope:Scope) (f:Addr) (cd:Value) (A:Around) (outer:List Env) (s:Shared) (H:Hp) (E:XK):Cx where
 prog:=P
 w:=w
 K:=K
 mg:=mg
 base:=base
 A:=A.deeper (envOfC cV scope s.heap.objs.size f cd)
 N:=N
 lR := s
 BW := H
 env:=envOfC cV scope s.heap.objs.size f cd
 outer:=outer
 stack:=envOfC cV scope s.heap.objs.size f cd :: outer
 ex := []
 calm:=true
 fn:=fun _=>true
 pn := []
 xe:=fun e s'=>wpAny (model P w) (A.deeper (envOfC cV scope s.heap.objs.size f cd)) (leaving (envOfC cV scope s.heap.objs.size f cd) e) (fun _ s''=>CX outer H s E e s'') (fun e' s''=>CX outer H s E e' s'') s'
theorem LO {sc:Scope}{n:Nat}{x:Str} (h:sc.names.lookup x=some .cell):∃ c,(cellsFrom n sc.names []).lookup x=some c:=by
 have q:=xQ sc.names n [] (.inl h)
 exact gi.mp q
theorem SX {CX:yM}{P:Program}{w:World}{K:ak}{mg:Str->Option Value}{base:Heap}{N ps:List Str}{cV:Str}{scope:Scope}{f:Addr}{cd:Value}{A:Around}{outer:List Env}{s s1:Shared}{H:Hp}{E:XK}{us:List Value}{vs:List V}
  (S:bI N ps scope) (hd:A.handled=none) (e0:EB P w K mg base A outer s H) (hl:vs.length=ps.length) (r:Vals vs us)
  (x:InCallC s s.heap.objs.size (bindL (envOfC cV scope s.heap.objs.size f cd).kindOf (ps.zip us) fun _=>none) (cellsFrom (s.heap.objs.size+1) scope.names []) (bindC (envOfC cV scope s.heap.objs.size f cd).kindOf (ps.zip us) fun _=>none) s1) :
  Inv (dj CX P w K mg base N cV scope f cd A outer s H E) [] (start N vs) H s1:=by
 have lZ:ps.length<=N.length:=by have:=congrArg ie S.pre;rw[bO]at this;omega
 obtain⟨h1,tk,rfl,hk⟩:=x.done
 have Sy:∀ b:Addr,b ∉ (dj CX P w K mg base N cV scope f cd A outer s H E).ex:=fun b z=>absurd (show b∈([]:List Addr) from z) (by simp)
 refine⟨⟨e0.mod,S.kind,rfl,rfl,aA _,fun y z c h1 h2 => ?_,fun y hy => ?_,fun y c _ h => ?_,fun _=>hd,Around.frames_deeper e0.frames,.inr ⟨rfl,rfl⟩,fun b z=>absurd z (Sy b),e0.bs,e0.Dl,fun b _ _=>Sy b,fun b z=>absurd z (Sy b),e0.sQ,e0.Ii⟩,
  rfl,e0.bare,Un.kept hk,⟨_,x.toInCall.ns,fun i y v h1 h2 h3 => ?_⟩,fun y c h=>⟨_,x.cell y c h⟩,e0.bU.fresh (aA _),fun y c h => ?_,fun p hp=>absurd (show p∈([]:List (Addr × Obj)) from hp) (by simp),e0.bU.kept hk,?_⟩
 ·exact name_of_addr x.apart (ki h1) (ki h2)
 ·have hy:scope.names.lookup y=some .cell∨scope.names.lookup y=some .free:=hy
  rcases hy with hy | hy
  ·exact LO hy
  ·exact absurd rfl (S.aaQ _ (ki hy))
 ·exact rb (x.above y c (ki h))
 ·have hi:i < vs.length:=by
   unfold start at h2
   by_cases hi:i < vs.length
   ·exact hi
   ·rw[dk (by simpa using hi)]at h2
    rw[pD]at h2
    split at h2 <;> cases h2
  have ha:vs[i]? = some v:=by
   unfold start at h2
   rw[eZ (by simpa using hi),aD]at h2
   cases e:vs[i]? with
   | none=>rw[e]at h2;cases h2
   | some a=>rw[e]at h2;cases h2;rfl
  obtain⟨u,hu,rv⟩:=r.get ha
  have hp:ps[i]? = some y:=by
   rw[<- S.pre,kf (by omega)];exact h1
  have ndP:ps.Nodup:=by rw[<- S.pre];exact S.nd.sublist (uG _ _)
  refine⟨u,rv,?_⟩
  rcases S.par y (aP hp) with k | k
  ·exact .inl ⟨k,Iz ndP hp hu k⟩
  ·obtain⟨c,e⟩:=LO (n:=s.heap.objs.size+1) k
   refine .inr ⟨.inl k,c,e,?_⟩
   have q:=x.cell y c e
   rw[IB ndP hp hu (by show scope.names.lookup y≠_;rw[k];decide)]at q
   exact q
 ·exact e0.bU.fresh (rb (x.above y c (ki h)))
 ·unfold start
  show _=N.length
  rw[aG,aq,jG]
  omega
theorem Jv {CX:yM}{P:Program}{w:World}{K:ak}{mg:Str->Option Value}{base:Heap}{k:Nat}{f:Addr}{name cV:Str}{params:Arguments}{body:List Stmt}{scope:Scope}{dV kV doc pm cw ct oc:Value}{an od:Option Addr}
  {yc:Array (Option Value)}{N ps:List Str}{sp:Sp} (lk:K.lookup f=some ⟨oc,od,.func (aO name cV params body scope dV kV doc pm an cw ct),yc⟩) (oK:aI K cw cV=true) (S:bI N ps scope)
  (len:∀ vs H Q E,sp vs H Q E->vs.length=ps.length)
  (kO:∀ (A:Around) (outer:List Env) (s:Shared) (H:Hp) (vs:List V) (Q:VK) (E:XK),eY k (A.deeper (envOfC cV scope s.heap.objs.size f cw))->sp vs H Q E ->
   ∃ t,pT (dj CX P w K mg base N cV scope f cw A outer s H E) body t∧t { nx:=fun _ H'=>Q .cQ H',rt:=Q } (start N vs) H) :
  kz P w K mg base CX (k+1) f (aO name cV params body scope dV kV doc pm an cw ct) ps sp:=by
 refine⟨len,fun A outer s H args us vs Q E hr e0 hb r wX => ?_⟩
 have hl:=len _ _ _ _ wX
 have KX:K.In s.heap:=e0.mod.KW.keeps fun b o e=>(e0.bs b o e).1
 have lim:s.heap.NoLimit:=e0.mod.nolimit.keeps fun b o e=>(e0.bs b o e).1
 have Fx:∀ y∈ps.zip us,scope.names.lookup y.1=some .local∨(scope.names.lookup y.1=some .cell∧((cellsFrom (s.heap.objs.size+1) scope.names []).lookup y.1).isSome=true):=fun ⟨n,v⟩ hy=>by
  rcases S.par n (xm hy).1 with q | q
  ·exact .inl q
  ·exact .inr ⟨q,xQ _ _ _ (.inl q)⟩
 refine codeAny_call_function hr.depth (KX _ _ lk) rfl S.co S.gen rfl (PySem.W.codeRec_of KX oK) (hb _ _ _ _ ?_)
 refine wpAny_newFunctionEnv_cells S.kind Fx fun env he s1 x => ?_
 subst he
 refine⟨lim.keeps x.toInCall.keep,codeAny_func ?_⟩
 obtain⟨t,ht,hq⟩:=kO A outer s H vs Q E (hr.deeper _) wX
 have I:Inv (dj CX P w K mg base N cV scope f cw A outer s H E) [] (start N vs) H s1:=SX S hr.hd e0 hl r x
 refine wpAny_mono (ht [] s1 (start N vs) H _ I hq) (fun fl s' hs => ?_) fun e s' hs=>hs
 have gO:∀ {bF:St} {H':Hp}{v:V}{u:Value},Inv (dj CX P w K mg base N cV scope f cw A outer s H E) [] bF H' s'->RelV v u->Q v H'->CE outer P w H s Q u s' :=
  fun {bF H' v u} J rv q=>⟨v,H',J.os,J.bare,J.base,J.bU,rv,q⟩
 cases fl with
 | ret u =>
  obtain⟨v, bF,H',J,rv,q⟩:=hs
  exact gO J rv q
 | next =>
  obtain⟨bF,H',J,q⟩:=hs
  exact gO (v:=V.cQ) (u:=fT) J rfl q
 | brk =>
  obtain⟨_,_,_,q⟩:=hs
  exact eW q
 | cont =>
  obtain⟨_,_,_,q⟩:=hs
  exact eW q
section
variable {X:Cx}{x:Str}{p pos:Pos}{e:Expr}{es:List Expr}{t:TA}{id T:String}{r:List V->Hp->VK->Prop}
def tCB (r:List V->Hp->VK->Prop) (t:TA):TE:=fun σ H Q=>t σ H fun vs H1=>r vs H1 Q
theorem cy (hc:lQ X (.builtin id) r) (hg:Gl X x) (hm:X.mg x=none) (hv:bootBuiltins x=some (.builtin id)) (ha:PA X (e :: es) t) (hn:x ≠ "__name__" := by decide) (t7:(x == ("__debug__" : Str))=false:=by decide)
  (he:starEach (e :: es) X.env=(false,eval e X.env) :: starEach es X.env:=by rfl) (lZ:(backTo pos (starEach es X.env)).any (·.1)=false:=by rfl):PE X (.Call (.Name x p) (e :: es) [] pos) (tCB r t):=by
 intro ag s σ H Q I h
 refine wpAny_Call_Name_kw (vN I hg hm hv ?_ hn t7)
 exact PyProof.Rows.callWith_builtin1 (cf (ha pos ag s σ H _ I h) fun us s1 ⟨vs,H1,I1,r1,q1⟩=>hc ag s1 σ H1 vs us Q I1 r1 q1) he lZ
theorem gZ (hc:lQ X (.type T) r) (hg:Gl X x) (hm:X.mg x=none) (hv:bootBuiltins x=some (.type T)) (ha:PA X (e :: es) t) (hn:x ≠ "__name__" := by decide) (t7:(x == ("__debug__" : Str))=false:=by decide)
  (he:starEach (e :: es) X.env=(false,eval e X.env) :: starEach es X.env:=by rfl) (lZ:(backTo pos (starEach es X.env)).any (·.1)=false:=by rfl):PE X (.Call (.Name x p) (e :: es) [] pos) (tCB r t):=by
 intro ag s σ H Q I h
 refine wpAny_Call_Name_kw (vN I hg hm hv ?_ hn t7)
 exact jA (cf (ha pos ag s σ H _ I h) fun us s1 ⟨vs,H1,I1,r1,q1⟩=>hc ag s1 σ H1 vs us Q I1 r1 q1) he lZ
end
end L2
namespace HT
open PySem PyProof.Rows
section
open PySem.SeqAt
open PySem.AutoSeq1 (wpAny_loadPart')
open PySem.MeetsSeq PySem.MeetsSeq2 PySem.MeetsSeq3
end
section
variable {prog:Program}{w:World}{A:Around}{E:Value->Shared->Prop}{s:Shared}
def jN (n d:Nat):Option Int->Nat
 | none=>d
 | some v=>if v < 0 then (v+(n:Int)).toNat else min v.toNat n
theorem Vb (n d:Nat):jN n d none=d:=rfl
theorem YO (n d k:Nat):jN n d (some (k:Int))=min k n:=by
 show (if (k:Int) < 0 then ((k:Int)+(n:Int)).toNat else min (k:Int).toNat n)=min k n
 rw[if_neg (by omega),b6]
theorem RR (n d:Nat) (hd:d<=n) (o:Option Int):jN n d o<=n:=by
 cases o with
 | none=>exact hd
 | some v =>
  show (if v < 0 then (v+(n:Int)).toNat else min v.toNat n)<=n
  by_cases hv:v < 0
  ·rw[if_pos hv];omega
  ·rw[if_neg hv];exact Nat.min_le_right _ _
end
end HT
namespace L2
open PySem PySem.Spec PyProof.Rows
abbrev TO:=St->Hp->(Option Int->Hp->Prop)->Prop
def PO (X:Cx) (e:Option Expr) (t:TO):Prop :=
 ∀ (ag:List (Addr × Obj)) (s:Shared) (σ : St) (H:Hp) (Q:Option Int->Hp->Prop),Inv X ag σ H s->t σ H Q ->
  wpAny (model X.prog X.w) X.A (evalPart e X.env) (fun u s'=>∃ o H',Inv X ag σ H' s'∧IsPart u o∧Q o H') X.xe s
def YD:TO:=fun _ H Q=>Q none H
inductive OW (Q:Option Int->Hp->Prop) (x:V) (H1:Hp):Prop
 | mk:∀ i,(x = .int i)->(Q (some i) H1)->OW Q x H1
def ahp (t:TE):TO:=fun σ H Q=>t σ H fun x H1=>OW Q x H1
theorem intsAre_of {ns:List Int}:∀ {us:List Value},Vals (ns.map V.int) us->IntsAre us ns:=by
 induction ns with
 | nil=>intro us r;rw[eV]at r;cases r;exact .nil
 | cons n ns ih =>
  intro us r
  rw[aL]at r
  cases r with
  | cons r1 r2 =>
   obtain⟨t,e⟩:=r1
   subst e
   exact .cons n t (ih r2)
section
variable {X:Cx}{e:Expr}{te:TE}{lo hi:Option Expr}{tl th:TO}{pos p2:Pos}
theorem yb:PO X none YD:=by
 intro ag s σ H Q I h
 rw[evalPart_none]
 exact wpAny_pure ⟨none,H,I,.none,h⟩
theorem ya (h:PE X e te):PO X (some e) (ahp te):=by
 intro ag s σ H Q I hw
 rw[evalPart_some]
 refine cf (h ag s σ H _ I hw) fun u s1 ⟨x,H1,I1,r1,q1⟩ => ?_
 obtain⟨i,rfl,q⟩:=q1
 obtain⟨t,rfl⟩:=r1
 exact⟨some i,H1,I1,.int i t,q⟩
def SlR (X:Cx) (r:V->Option Int->Option Int->Hp->VK->Prop):Prop :=
 ∀ (ag:List (Addr × Obj)) (s:Shared) (σ : St) (H:Hp) (x:V) (v vl vu:Value) (lo hi:Option Int) (sl:Addr) (Q:VK),Inv X ag σ H s->RelV x v->s.heap.IsSliceOf sl vl vu .none->IsPart vl lo->IsPart vu hi->r x lo hi H Q ->
  ∃ T id,typeLookup (.type T) "__getitem__" = pure (some (.builtin id))∧s.TypeIs v T∧wpAny (model X.prog X.w) X.A (getItem v (.ref sl)) (EP X ag σ Q) X.xe s
def tSl (r:V->Option Int->Option Int->Hp->VK->Prop) (te:TE) (tl th:TO):TE:=fun σ H Q=>te σ H fun x H1=>tl σ H1 fun l H2=>th σ H2 fun u H3=>r x l u H3 Q
theorem vA {r:V->Option Int->Option Int->Hp->VK->Prop} (hr:SlR X r) (he:PE X e te) (hl:PO X lo tl) (hu:PO X hi th):PE X (.Subscript e (.Slice lo hi none p2) pos) (tSl r te tl th):=by
 intro ag s σ H Q I h
 refine Subscript_ (cf (he ag s σ H _ I h) fun v s1 ⟨x,H1,I1,r1,q1⟩ => ?_)
 refine wpAny_Slice (cf (hl ag s1 σ H1 _ I1 q1) fun vl s2 ⟨l,H2,I2,pl,q2⟩=>cf (hu ag s2 σ H2 _ I2 q2) fun vu s3 ⟨u,H3,I3,pu,q3⟩ => ?_)
 rw[evalPart_none]
 refine wpAny_pure ?_
 have I4:Inv X ag σ H3 { s3 with heap:=s3.heap.push { cls := .type "slice",data := .fields #[vl,vu,.none] } }:=I3.kept (t':=s3.toks) fun b ob q=>aU _ q
 obtain⟨T,id,hT,ht,hg⟩:=hr ag { s3 with heap:=s3.heap.push { cls := .type "slice",data := .fields #[vl,vu,.none] } } σ H3 x v vl vu l u s3.heap.objs.size Q I4 r1 (Heap.IsSliceOf.new ..) pl pu q3
 show wpAny (model X.prog X.w) X.A (subscriptTail e (.Slice lo hi none p2) v (.ref s3.heap.objs.size)) (EP X ag σ Q) X.xe { s3 with heap:=s3.heap.push { cls := .type "slice",data := .fields #[vl,vu,.none] } }
 exact tail_any (ops := [.ref s3.heap.objs.size,v]) ht hT hg (by with_unfolding_all rfl)
def Hh (xs:List V) (lo hi:Option Int):List V:=(xs.drop (HT.jN xs.length 0 lo)).take (HT.jN xs.length xs.length hi - HT.jN xs.length 0 lo)
theorem MR (xs:List V) (lo hi:Option Int):(Hh xs lo hi).length<=xs.length:=by
 unfold Hh
 rw[bO,ke]
 omega
end
def Fi (n:Nat) (i:Int):Option Nat:=if 0<=i then (if i < n then some i.toNat else none) else if -(n:Int)<=i then some (i+n).toNat else none
def rM {α : Type} (xs:List α) (i:Int):Option α := (Fi xs.length i).bind fun j=>xs[j]?
theorem N5 {n:Nat}{i:Int}{j:Nat} (h:Fi n i=some j):seqIndex? i n=some j∧j < n ∧ -(n:Int)<=i∧i < n:=by
 unfold Fi at h
 by_cases h0:0<=i
 ·rw[if_pos h0]at h
  by_cases h1:i < n
  ·rw[if_pos h1]at h
   have e:i.toNat=j:=aE h
   exact⟨by rw[seqIndex_of h0 h1,e],by omega,by omega,h1⟩
  ·rw[if_neg h1]at h;cases h
 ·rw[if_neg h0]at h
  by_cases h1 : -(n:Int)<=i
  ·rw[if_pos h1]at h
   have e:(i+n).toNat=j:=aE h
   exact⟨by rw[seqIndex_neg (by omega) h1,e],by omega,h1,by omega⟩
  ·rw[if_neg h1]at h;cases h
theorem Hm {α : Type}{xs:List α}{i:Int}{v : α} (h:rM xs i=some v):∃ j,seqIndex? i xs.length=some j∧xs[j]? = some v∧j < xs.length ∧ -(xs.length:Int)<=i∧i < xs.length:=by
 unfold rM at h
 cases e:Fi xs.length i with
 | none=>rw[e]at h;cases h
 | some j =>
  rw[e]at h
  obtain⟨h1,h2,h3,h4⟩:=N5 e
  exact⟨j,h1,h,h2,h3,h4⟩
theorem aR {α : Type}{xs:List α}{j:Nat}{v : α} (h:xs[j]? = some v):rM xs (j:Int)=some v:=by
 have hj:j < xs.length:=(ai.mp h).1
 have e:Fi xs.length (j:Int)=some j:=by
  unfold Fi
  rw[if_pos (by omega),if_pos (by omega)];simp
 unfold rM;rw[e];exact h
def ZH (b:Expr):Prop := ∀ o i,subscripted b false o i=operate [o,i] (getItem o i)
def Yr (X:Cx) (r:R2):Prop :=
 ∀ (value slice:Expr) (ag:List (Addr × Obj)) (s:Shared) (σ : St) (H:Hp) (x y:V) (v u:Value) (Q:VK),Inv X ag σ H s->RelV x v->RelV y u->r x y H Q ->
  subscripted slice false v u=operate [v,u] (getItem v u)->wpAny (model X.prog X.w) X.A (subscriptTail value slice v u) (EP X ag σ Q) X.xe s
def MtR (X:Cx) (id:String) (r:V->List V->Hp->VK->Prop):Prop :=
 ∀ (ag:List (Addr × Obj)) (s:Shared) (σ : St) (H:Hp) (x:V) (xs:List V) (v:Value) (us:List Value) (Q:VK),Inv X ag σ H s->RelV x v->Vals xs us->r x xs H Q ->
  wpAny (model X.prog X.w) X.A (call (.builtin id) (v :: us)) (EP X ag σ Q) X.xe s
section
variable {X:Cx}{a b:Expr}{ta tb:TE}{pos:Pos}
theorem aY {r:R2} (hr:Yr X r) (ha:PE X a ta) (hb:PE X b tb) (hs:ZH b):PE X (.Subscript a b pos) (qq r ta tb):=by
 intro ag s σ H Q I h
 exact Subscript_ (Wt ha hb I h fun v u s2 x y H2 I2 rx ry q=>hr a b ag s2 σ H2 x y v u Q I2 rx ry q (hs _ _))
inductive agS (K:ak) (x y:V) (H:Hp) (Q:VK):Prop
 | mk (p:Addr) (xs:List V) (i:Int) (v:V) (hx:x = .ref p) (hy:y = .int i) (hS:bb K H p xs) (he:rM xs i=some v) (q:Q v H):agS K x y H Q
def DW (K:ak):R2:=fun x y H Q=>agS K x y H Q
inductive agR (K:ak) (x y:V) (H:Hp) (Q:VK):Prop
 | mk (p:Addr) (xs:List V) (i:Int) (v:V) (hx:x = .ref p) (hy:y = .int i) (hS:bP K H p xs) (he:rM xs i=some v) (q:Q v H):agR K x y H Q
def Bc (K:ak):R2:=fun x y H Q=>agR K x y H Q
inductive Uv (x:V) (y:V) (H:Hp) (Q:VK):Prop
 | mk:∀ z i c,(x = .str z)->(y = .int i)->(z.length<=sizeLine)->(rM z.cps.toList i=some c)->(Q (.str ⟨#[c]⟩) H)->Uv x y H Q
def alb:R2:=fun x y H Q=>Uv x y H Q
theorem cu:Yr X (DW X.K):=by
 intro value slice ag s σ H x y v u Q I rx ry h hs
 obtain⟨p,xs,i,z,rfl,rfl,hq,he,q⟩:=h
 cases rx
 obtain⟨t,rfl⟩:=ry
 obtain⟨its,r,pl,hz⟩:=I.list hq
 obtain⟨j,h1,h2,h3,h4,h5⟩:=Hm he
 obtain⟨w,ew,mG⟩:=r.get h2
 have hl:=r.length
 have hn:=vM
 have gO:EP X ag σ Q w s:=⟨z,H,I,mG,q⟩
 by_cases h0:0<=i
 ·have hj:i.toNat=j:=by
   rw[seqIndex_of h0 h5]at h1
   exact aE h1
  exact item_listR pl.isList h0 (by omega) (by rw[hj];simpa using ew) gO hs
 ·have hj:(i+(its.toArray.size:Int)).toNat=j:=by
   rw[seqIndex_neg (by omega) h4]at h1
   rw[aX, <- hl]
   exact aE h1
  exact subscriptTail_builtinR (x:=w) pl.isList.typeIs slot_list_getitem.lookup
   (wpAny_getItem_list_neg (Q:=fun r s'=>r=w∧EP X ag σ Q r s') pl.isList (by omega) (by rw[aX] <;> omega) (by omega) (by rw[hj];simpa using ew) ⟨rfl,gO⟩) hs
theorem bL:Yr X (Bc X.K):=by
 intro value slice ag s σ H x y v u Q I rx ry h hs
 obtain⟨p,xs,i,z,rfl,rfl,hq,he,q⟩:=h
 cases rx
 obtain⟨t,rfl⟩:=ry
 obtain⟨its,r,pl,hz⟩:=I.tuple hq
 obtain⟨j,h1,h2,h3,h4,h5⟩:=Hm he
 obtain⟨w,ew,mG⟩:=r.get h2
 have hl:=r.length
 have hn:=vM
 have gO:EP X ag σ Q w s:=⟨z,H,I,mG,q⟩
 exact subscriptTail_builtinR (x:=w) pl.typeIs slot_tuple_getitem.lookup
  (getItem_tuple (j:=j) (Q:=fun r s'=>r=w∧EP X ag σ Q r s') pl (by omega) (by omega) (by rw[aX, <- hl];exact h1) (by simpa using ew) ⟨rfl,gO⟩) hs
theorem acF:Yr X alb:=by
 intro value slice ag s σ H x y v u Q I rx ry h hs
 obtain⟨z,i,c,rfl,rfl,hz,he,q⟩:=h
 obtain⟨t,rfl⟩:=rx
 obtain⟨t',rfl⟩:=ry
 obtain⟨j,h1,h2,h3,h4,h5⟩:=Hm he
 have hl:z.cps.toList.length=z.length:=by simp[Str.length]
 rw[hl]at h1 h4 h5
 have hn:=vM
 exact tail_any (typeIs_str s z t) slot_str_getitem.lookup (getItem_str (c:=c) (by
  have e1:decide (i < -(2 ^ 63:Int))=false:=decide_eq_false (by omega)
  have e2:decide (i ≥ 2 ^ 63)=false:=decide_eq_false (by omega)
  rw[e1,e2,Bool.or_false]) (by rw[h1];simpa using h2) ⟨.str ⟨#[c]⟩,H,I.tok _,⟨_,rfl⟩,q⟩) hs
theorem Qa (its:List Value) (n j:Nat) (u:Value):iK (·.setIfInBounds j u) { cls := .type "list",data := .seq its.toArray n }={ cls := .type "list",data := .seq (its.set j u).toArray n }:=by
 simp[iK]
theorem Inv.lst {ag:List (Addr × Obj)}{σ : St}{H:Hp}{s:Shared}{p:Addr}{xs:List V} (I:Inv X ag σ H s) (h:H p=some (.lst xs)) :
  ∃ (its:List Value) (n:Nat),Vals xs its∧s.heap.get? p=some { cls := .type "list",data := .seq its.toArray n }∧xs.length<=sizeLine:=by
 obtain⟨z,its,n,r,e⟩:=I.bU p _ h
 exact⟨its,n,r,e,z⟩
theorem Inv.aa9 {ag:List (Addr × Obj)}{σ : St}{H:Hp}{s:Shared}{p:Addr}{xs ys:List V} {its its':List Value} {n n':Nat}{f:Obj->Obj} (I:Inv X ag σ H s) (h:H p=some (.lst xs))
  (ho:s.heap.get? p=some { cls := .type "list",data := .seq its.toArray n }) (hf:f { cls := .type "list",data := .seq its.toArray n }={ cls := .type "list",data := .seq its'.toArray n' }) (r:Vals ys its') (hz:ys.length<=sizeLine) (t:Nat) :
  Inv X ag σ (aJ H p (.lst ys)) { s with heap:=s.heap.update p f,toks:=t }:=by
 have e:(s.heap.update p f).get? p=some { cls := .type "list",data := .seq its'.toArray n' }:=by
  rw[mB f ho (by rw[hf] <;> rfl),hf]
 refine I.write (x:=p) (e:=p) (by rw[h];trivial) (.inl rfl) (fun b u hb q=>(fI _ _ (bV hb)).trans q) ⟨_,e⟩ ?_
 exact⟨hz,its',n',r,e⟩
inductive O2 (o:V) (i:V) (v:V) (H:Hp) (Q:Hp->Prop):Prop
 | mk:∀ p xs k j,(o = .ref p)->(i = .int k)->(H p=some (.lst xs))->(Fi xs.length k=some j)->(Q (aJ H p (.lst (xs.set j v))))->O2 o i v H Q
def ahz:V->V->V->Hp->(Hp->Prop)->Prop:=fun o i v H Q=>O2 o i v H Q
theorem Ka:agU X ahz:=by
 intro ag s σ H o i v ov iv u Q I ro ri rv h
 obtain⟨p,xs,k,j,rfl,rfl,hp,hj,q⟩:=h
 cases ro
 obtain⟨t,rfl⟩:=ri
 obtain⟨its,n,r,ho,hz⟩:=I.lst hp
 obtain⟨h1,h2,h3,h4⟩:=N5 hj
 have hl:=r.length
 have hn:=vM
 have I':Inv X ag σ (aJ H p (.lst (xs.set j v))) { s with heap:=s.heap.update p (iK (·.setIfInBounds j u)) } :=
  I.aa9 hp ho (Qa its n j u) (r.set rv j) (by rw[List.length_set];exact hz) s.toks
 by_cases h0:0<=k
 ·have hk:k.toNat=j:=by
   rw[seqIndex_of h0 h4]at h1
   exact aE h1
  exact PySem.W.ki_setAt ho h0 (by omega) (by rw[aX, <- hl];exact h4) (by rw[hk];exact⟨_,I',q⟩)
 ·have hk:(k+(its.toArray.size:Int)).toNat=j:=by
   rw[seqIndex_neg (by omega) h3]at h1
   rw[aX, <- hl]
   exact aE h1
  exact PySem.W.ki_setBack ho (by omega) (by rw[aX, <- hl];exact h3) (by omega) (by rw[hk];exact⟨_,I',q⟩)
theorem AB (lo hi:Option Int) (n:Nat):(sliceBounds lo hi none n).1=((HT.jN n 0 lo:Nat):Int)∧(sliceBounds lo hi none n).2.1=((HT.jN n n hi:Nat):Int)∧(sliceBounds lo hi none n).2.2=1:=by
 refine⟨?_,?_,rfl⟩
 ·cases lo with
  | none=>simp[sliceBounds,HT.jN]
  | some i =>
   simp only[sliceBounds,HT.jN,Et,show (1:Int) > 0 by decide,if_true]
   by_cases h:i < 0
   ·simp only[h,if_true] <;> omega
   ·simp only[h,if_false] <;> omega
 ·cases hi with
  | none=>simp[sliceBounds,HT.jN]
  | some i =>
   simp only[sliceBounds,HT.jN,Et,show (1:Int) > 0 by decide,if_true]
   by_cases h:i < 0
   ·simp only[h,if_true] <;> omega
   ·simp only[h,if_false] <;> omega
theorem Jf (its:List Value) (lo hi:Option Int):slicePick its.toArray lo hi none=((its.drop (HT.jN its.length 0 lo)).take (HT.jN its.length its.length hi - HT.jN its.length 0 lo)).toArray:=by
 obtain⟨h1,h2,h3⟩:=AB lo hi its.toArray.size
 unfold slicePick
 rw[h1,h2,h3]
 simp only[sliceRange_one,pick_run,aX] <;> rfl
inductive Us (K:ak) (x:V) (lo:Option Int) (hi:Option Int) (H:Hp) (Q:VK):Prop
 | mk:∀ a xs,(x = .ref a)->(bb K H a xs)->(∀ p,H p=none->Q (.ref p) (aJ H p (.lst (Hh xs lo hi))))->Us K x lo hi H Q
def ak8 (K:ak):V->Option Int->Option Int->Hp->VK->Prop:=fun x lo hi H Q=>Us K x lo hi H Q
theorem Nu:SlR X (ak8 X.K):=by
 intro ag s σ H x v vl vu lo hi sl Q I rx hs pl pu h
 obtain⟨a,xs,rfl,hx,q⟩:=h
 cases rx
 obtain⟨its,r,ht,hz⟩:=I.list hx
 have iw:=r.length
 refine⟨"list",_,slot_list_getitem.lookup,ht.isList.typeIs,?_⟩
 refine wpAny_getItem_list_slice ht.isList hs pl pu .none (by simp) ?_ (by rw[aX] <;> omega)
 rw[Jf, <- iw]
 refine⟨.ref s.heap.objs.size,_,I.laid (t':=s.toks) (o := .lst (Hh xs lo hi)) (fun b ob q=>aU _ q) (aA _) ?_,rfl,q _ (I.bU.fresh (aA _))⟩
 exact⟨cA (MR xs lo hi) hz,_,0,(r.drop (HT.jN xs.length 0 lo)).take (HT.jN xs.length xs.length hi - HT.jN xs.length 0 lo),bZ _ rfl⟩
inductive QU (K:ak) (xs:List V) (H:Hp) (Q:VK):Prop
 | mk:∀ p ys,(xs = [.ref p])->(bb K H p ys∨bP K H p ys)->(Q (.int ys.length) H)->QU K xs H Q
theorem bY:lQ X (.builtin "len") (fun xs H Q=>QU X.K xs H Q):=by
 intro ag s σ H xs us Q I r h
 obtain⟨p,ys,rfl,hq,q⟩:=h
 obtain⟨u,rfl,rx⟩:=vals1 r
 cases rx
 have hn:=vM
 rcases hq with hq | hq
 ·obtain⟨its,r',pl,hz⟩:=I.list hq
  have iw:=r'.length
  exact Calls.call_len_list pl.isList (by simp only[aX] <;> omega) ⟨.int ys.length,H,I.tok _,⟨s.toks+1,by rw[aX,iw]⟩,q⟩
 ·obtain⟨its,r',pl,hz⟩:=I.tuple hq
  have iw:=r'.length
  exact len_tuple pl (by simp only[aX] <;> omega) ⟨.int ys.length,H,I.tok _,⟨s.toks+1,by rw[aX,iw]⟩,q⟩
inductive yG (xs:List V) (H:Hp) (Q:VK):Prop
 | mk:∀ z,(xs = [.str z])->(z.length<=sizeLine)->(Q (.int z.length) H)->yG xs H Q
theorem LR:lQ X (.builtin "len") (fun xs H Q=>yG xs H Q):=by
 intro ag s σ H xs us Q I r h
 obtain⟨z,rfl,hz,q⟩:=h
 obtain⟨u,rfl,t,rfl⟩:=vals1 r
 have hn:=vM
 exact len_str (by omega) ⟨.int z.length,H,I.tok _,⟨_,rfl⟩,q⟩
inductive yF (kK:ak) (xs:List V) (H:Hp) (Q:VK):Prop
 | mk:∀ p ys,(xs = [.ref p])->((bb kK H p ys∨bP kK H p ys))->(∀ l,H l=none->Q (.ref l) (aJ H l (.lst ys)))->yF kK xs H Q
theorem j8:lQ X (.type "list") (fun xs H Q=>yF X.K xs H Q):=by
 intro ag s σ H xs us Q I r h
 obtain⟨p,ys,rfl,hq,q⟩:=h
 obtain⟨u,rfl,rx⟩:=vals1 r
 cases rx
 have gO:∀ (its:List Value),Vals ys its->ys.length<=sizeLine->∀ (h':Heap) (c':Nat),(∀ b o',s.heap.get? b=some o'->h'.get? b=some o') ->
   h'.get? s.heap.objs.size=some { cls := .type "list",dict:=none,data := .seq its.toArray c',slots := #[] }->EP X ag σ Q (.ref s.heap.objs.size) { s with heap:=h' }:=fun its r' hz h' c' kp e =>
  ⟨.ref s.heap.objs.size,_,I.laid (t':=s.toks) kp (aA _) (show d8 X.prog X.w _ h' _ (.lst ys) from ⟨hz,its,c',r',e⟩),rfl,q _ (I.bU.fresh (aA _))⟩
 rcases hq with hq | hq
 ·obtain⟨its,r',pl,hz⟩:=I.list hq
  have iw:=r'.length
  obtain⟨o,ho,hc,n,hd⟩:=pl.isList
  exact call_list_seq p (.inl rfl) ho hc hd (fun h' c' kp e=>gO its r' hz h' c' kp e) (by simp only[aX] <;> omega)
 ·obtain⟨its,r',pl,hz⟩:=I.tuple hq
  have iw:=r'.length
  obtain⟨o,ho,hc,n,hd⟩:=pl
  exact call_list_seq p (.inr rfl) ho hc hd (fun h' c' kp e=>gO its r' hz h' c' kp e) (by simp only[aX] <;> omega)
inductive xn (kK:ak) (xs:List V) (H:Hp) (Q:VK):Prop
 | mk:∀ p ys,(xs = [.ref p])->(((bb kK H p ys∧∀ l,H l=none->Q (.ref l) (aJ H l (.tup ys)))∨(bP kK H p ys∧Q (.ref p) H)))->xn kK xs H Q
theorem pW:lQ X (.type "tuple") (fun xs H Q=>xn X.K xs H Q):=by
 intro ag s σ H xs us Q I r h
 obtain⟨p,ys,rfl,h⟩:=h
 obtain⟨u,rfl,rx⟩:=vals1 r
 cases rx
 rcases h with⟨hq,q⟩ | ⟨hq,q⟩
 ·obtain⟨its,r',pl,hz⟩:=I.list hq
  have iw:=r'.length
  refine call_tuple_list pl.isList (fun h' kp => ?_) (by simp only[aX] <;> omega)
  have I1:Inv X ag σ H { s with heap:=h' }:=I.kept (t':=s.toks) kp
  have I2:Inv X ag σ (aJ H h'.objs.size (.tup ys)) { s with heap:=h'.push { cls := .type "tuple",data := .seq its.toArray } } :=
   I1.laid (t':=s.toks) (fun b o e=>aU _ e) (aA _) (show d8 X.prog X.w _ _ _ (.tup ys) from ⟨hz,its,r',yH.new _ _⟩)
  exact⟨.ref h'.objs.size,_,I2,rfl,q _ (I1.bU.fresh (aA _))⟩
 ·obtain⟨its,r',pl,hz⟩:=I.tuple hq
  exact call_tuple_same pl ⟨.ref p,H,I,rfl,q⟩
def tyV (K:ak) (T:String) (x:V) (H:Hp):Prop:=match x with
 | .str _=>T = "str"
 | .int _=>T = "int"
 | .ref p=>(T = "list" ∧ ∃ xs,bb K H p xs)∨(T = "tuple" ∧ ((∃ o,K.lookup p=some o∧o.cls = .type "tuple" ∧ o.dict=none)∨∃ xs,H p=some (.tup xs))) ∨
   (T = "dict" ∧ ((∃ kvs,H p=some (.dK kvs))∨∃ kvs,H p=some (.dT kvs)))∨(T = "set" ∧ ∃ S n,H p=some (.set S n))
 | _=>False
theorem ZX {ag:List (Addr × Obj)}{σ : St}{H:Hp}{s:Shared}{T:String}{x:V}{v:Value} (I:Inv X ag σ H s) (r:RelV x v) (ty:tyV X.K T x H) :
  s.TypeIs v T∧∀ a,v = .ref a->∃ ob,s.heap.get? a=some ob∧ob.dict=none:=by
 cases x with
 | str z =>
  obtain⟨t,rfl⟩:=r
  cases (show T = "str" from ty)
  exact⟨typeIs_str s z t,fun _ e=>nomatch e⟩
 | int i =>
  obtain⟨t,rfl⟩:=r
  cases (show T = "int" from ty)
  exact⟨typeIs_int s i t,fun _ e=>nomatch e⟩
 | ref p =>
  cases r
  rcases ty with⟨rfl,xs,hq⟩ | ⟨rfl,⟨o,hk,hc,hd⟩ | ⟨xs,hk⟩⟩ | ⟨rfl,hk⟩ | ⟨rfl,S,n,hk⟩
  ·obtain⟨its,_,pl,_⟩:=I.list hq
   refine⟨pl.isList.typeIs,fun a e => ?_⟩
   cases e
   obtain⟨o,n,e,c,hd,_⟩:=pl
   exact⟨o,e,hd⟩
  ·refine⟨⟨o,I.kL p o hk,hc⟩,fun a e => ?_⟩
   cases e
   exact⟨o,I.kL _ o hk,hd⟩
  ·obtain⟨_,_,_,o,e,c,n,d,hd⟩:=I.bU p _ hk
   refine⟨⟨o,e,c⟩,fun a e2 => ?_⟩
   cases e2
   exact⟨o,e,hd⟩
  ·have z:∃ o,s.heap.get? p=some o∧o.ExactDict:=by
    rcases hk with⟨kvs,hk⟩ | ⟨kvs,hk⟩
    ·obtain⟨_,_,_,_,o,_,_,e,ex,_⟩:=I.bU p _ hk
     exact⟨o,e,ex⟩
    ·obtain⟨_,_,_,_,o,_,_,e,ex,_⟩:=I.bU p _ hk
     exact⟨o,e,ex⟩
   obtain⟨o,e,ex⟩:=z
   refine⟨⟨o,e,ex.1⟩,fun a e2 => ?_⟩
   cases e2
   exact⟨o,e,ex.2.1⟩
  ·obtain⟨o,_,_,_,e,ex,_⟩:=I.bU p _ hk
   refine⟨⟨o,e,ex.1⟩,fun a e2 => ?_⟩
   cases e2
   exact⟨o,e,ex.2.1⟩
 | _=>exact eW ty
def tBM (K:ak) (T:String) (r:V->List V->Hp->VK->Prop) (to:TE) (t:TA):TE:=fun σ H Q=>to σ H fun x H1=>tyV K T x H1∧t σ H1 fun xs H2=>r x xs H2 Q
variable {o e:Expr}{es:List Expr}{to:TE}{t:TA}{name:Str}{eN gw:Pos}{T id:String}{r:V->List V->Hp->VK->Prop}
theorem mS (pa:PlainAttrs T) (slot:Slot T name id) (hty:typeOf (.builtin id)=pure (.type "method_descriptor")) (hm:MtR X id r) (ho:PE X o to) (ha:PA X (e :: es) t)
  (Qu:attributeBase o name X.env (eval o X.env)=eval o X.env:=by rfl)
  (aoC:((backTo gw (starEach (e :: es) X.env)).all (fun x => !x.1) && (backToKw gw (keywordEach [] X.env)).all (fun x=>x.1.isSome)
   && decide ((e :: es).length+([]:List Keyword).length+(if ([]:List Keyword).isEmpty then 0 else 1) < 30))=true:=by rfl)
  (Qr:(eN.endLine == gw.line)=true:=by rfl) (hs:starEach (e :: es) X.env=(false,eval e X.env) :: starEach es X.env:=by rfl) (acY:(backTo gw (starEach es X.env)).any (·.1)=false:=by rfl) :
  PE X (.Call (.Attribute o name eN) (e :: es) [] gw) (tBM X.K T r to t):=by
 intro ag s σ H Q I h
 refine wpAny_Call_method_late Qu aoC Qr rfl (cf (ho ag s σ H _ I h) fun v s1 ⟨x,H1,I1,r1,ty,q1⟩ => ?_)
 obtain⟨h1,h2⟩:=ZX I1 r1 ty
 refine⟨T,id,pa,slot,hty,h1,h2,?_⟩
 have hA:=ha gw ag s1 σ H1 _ I1 q1
 rw[hs]at hA ⊢
 refine gQ (by show (false || (backTo gw (starEach es X.env)).any (·.1))=false;rw[acY] <;> rfl) (jY ?_)
 exact cf hA fun us s2 ⟨vs,H2,I2,r2,q2⟩=>hm ag s2 σ H2 x vs v us Q I2 r1 r2 q2
/- xs.append(e),list.index on a VH tuple .. are MtR avi of 06m -/
end
def MtM (X:Cx) (id:String) (r:V->List V->Hp->VK->Prop):Prop :=
 ∀ (ag:List (Addr × Obj)) (s:Shared) (σ : St) (H:Hp) (x:V) (xs:List V) (v:Value) (us:List Value) (Q:VK),Inv X ag σ H s->RelV x v->Vals xs us->r x xs H Q ->
  wpAny (model X.prog X.w) X.A (call (.builtin id) (v :: us)) (EP X ag σ Q) X.xe s
theorem Vals.one:∀ {x:V}{us:List Value},Vals [x] us->∃ u,us = [u]∧RelV x u
 | _,_,.cons r .nil=>⟨_,rfl,r⟩
theorem Vals.rep {xs:List V}{us:List Value} (h:Vals xs us):∀ k:Nat,Vals (bz k xs).flatten (bz k us).flatten
 | 0 => .nil
 | k+1=>by
  rw[ja,ja,iQ,iQ]
  exact Vals.append h (Vals.rep h k)
theorem foldl_rep (its:List Value):∀ (k:Nat) (acc:List Value),
  Gj (fun x1 x2=>x1 ++ x2) acc.toArray (bz k its.toArray)=(acc ++ (bz k its).flatten).toArray
 | 0,acc=>by simp
 | k+1,acc=>by
  have e:acc.toArray ++ its.toArray=(acc ++ its).toArray:=by simp
  have e2:(acc ++ its) ++ (bz k its).flatten=acc ++ (bz (k+1) its).flatten:=by
   rw[ja,iQ,aZ]
  rw[<- e2, <- foldl_rep its k (acc ++ its), <- e,ja,Gi]
section
variable {X:Cx}{ag:List (Addr × Obj)}{σ : St}{H:Hp}{s:Shared}{l b:Addr}{xs ys zs:List V}
theorem Inv.abb {its its':List Value}{n:Nat}{f:Array Value->Array Value} {t':Nat} (I:Inv X ag σ H s) (hH:H l=some (.lst xs))
  (e:s.heap.get? l=some { cls := .type "list",data := .seq its.toArray n }) (hf:f its.toArray=its'.toArray) (hv:Vals ys its') (hz:ys.length<=sizeLine) :
  Inv X ag σ (aJ H l (.lst ys)) { s with heap:=s.heap.update l (iK f),toks:=t' }:=by
 have q:=PySem.IsL.update e f
 rw[hf]at q
 refine I.write (x:=l) (e:=l) (by rw[hH];exact trivial) (.inl rfl) (fun b' u hb hu=>(fI s.heap (iK f) (bV hb)).trans hu) ⟨_,q⟩ ?_
 exact⟨hz,its',_,hv,q⟩
theorem Inv.VN {its:List Value} {t':Nat} (I:Inv X ag σ H s) (hv:Vals ys its) (hz:ys.length<=sizeLine) :
  Inv X ag σ (aJ H s.heap.objs.size (.lst ys)) { s with heap:=s.heap.push { cls := .type "list",data := .seq its.toArray },toks:=t' } :=
 I.laid (fun _ _ q=>aU _ q) (aA _) ⟨hz,its,0,hv,bZ _ rfl⟩
theorem Inv.fresh (I:Inv X ag σ H s):H s.heap.objs.size=none:=I.bU.fresh (aA _)
theorem Inv.Qe (I:Inv X ag σ H s) (hH:H l=some (.lst xs)):xs.length<=sizeLine∧∃ (its:List Value) (n:Nat),Vals xs its∧xs.length=its.length∧s.heap.get? l=some { cls := .type "list",data := .seq its.toArray n }:=by
 obtain⟨z,its,n,r,e⟩:=I.bU l _ hH
 exact⟨z,its,n,r,r.length,e⟩
theorem KD {n:Nat} (h:n<=sizeLine):kh n=false:=by
 unfold kh
 exact decide_eq_false (by omega)
end
section
variable {X:Cx}
inductive IM (x:V) (vs:List V) (H:Hp) (Q:VK):Prop
 | mk:∀ l xs y,(x = .ref l)->(vs = [y])->(H l=some (.lst xs))->(xs.length < sizeLine)->(Q .cQ (aJ H l (.lst (xs ++ [y]))))->IM x vs H Q
def YS:V->List V->Hp->VK->Prop:=fun x vs H Q=>IM x vs H Q
theorem gG:MtM X "list.append" YS:=by
 intro ag s σ H x vs v us Q I rx rv h
 obtain⟨l,xs,y,rfl,rfl,hH,hz,q⟩:=h
 cases rx
 obtain⟨u,rfl,ru⟩:=rv.one
 obtain⟨z,its,n,r,hl,e⟩:=I.Qe hH
 refine call_meets F.slot_list_append ⟨_,e,rfl⟩ F.entry_list_append (F.args_list_append_2 _ _) (PySem.list_append l its.toArray n u (by rw[aX];omega)) ⟨e,?_⟩
 refine⟨.cQ,_,I.abb (its':=its ++ [u]) hH e (by simp) (r.append (.cons ru .nil)) ?_,rfl,q⟩
 rw[aG,mz]
 omega
inductive IL (x:V) (vs:List V) (H:Hp) (Q:VK):Prop
 | mk:∀ l b xs zs,(x = .ref l)->(vs = [.ref b])->(H l=some (.lst xs))->(H b=some (.lst zs))->(xs.length+zs.length<=sizeLine)->(Q .cQ (aJ H l (.lst (xs ++ zs))))->IL x vs H Q
def YR:V->List V->Hp->VK->Prop:=fun x vs H Q=>IL x vs H Q
theorem Bo:MtM X "list.extend" YR:=by
 intro ag s σ H x vs v us Q I rx rv h
 obtain⟨l,b,xs,zs,rfl,rfl,hH,hB,hz,q⟩:=h
 cases rx
 obtain⟨u,rfl,ru⟩:=rv.one
 cases ru
 obtain⟨z,its,n,r,hl,e⟩:=I.Qe hH
 obtain⟨z2,Qk,n2,r2,t5,e2⟩:=I.Qe hB
 have hsz:its.toArray.size+Qk.toArray.size<=sizeLine:=by rw[aX,aX];omega
 have Qq:¬ (!its.toArray.isEmpty && kh (its.toArray.size+Qk.toArray.size))=true:=by
  rw[KD hsz,yN]
  exact bW
 refine call_meets F.slot_list_extend ⟨_,e,rfl⟩ F.entry_list_extend (F.args_list_extend_2 _ _)
  (AutoSeq1.list_extend_list_list_0 l its.toArray n b Qk.toArray n2 Qq (by rw[aX];omega) (by omega)) ⟨e,e2,?_⟩
 refine⟨.cQ,_,I.abb (its':=its ++ Qk) hH e (by simp) (r.append r2) ?_,rfl,q⟩
 rw[aG]
 omega
inductive Ut (x:V) (y:V) (H:Hp) (Q:VK):Prop
 | mk:∀ l k xs,(x = .ref l)->(y = .int k)->(H l=some (.lst xs))->(-(2 ^ 63)<=k)->(k < 2 ^ 63)->(xs.length * k.toNat<=sizeLine)->(∀ p,H p=none->Q (.ref p) (aJ H p (.lst (bz k.toNat xs).flatten)))->Ut x y H Q
def ak9:R2:=fun x y H Q=>Ut x y H Q
theorem Zr {α : Type} (xs:List α) (k:Nat):(bz k xs).flatten.length=k * xs.length:=by
 induction k with
 | zero=>simp
 | succ k ih=>rw[ja,iQ,aG,ih,Nat.succ_mul,Nat.add_comm]
theorem aaB:lH X (binaryOp .Mult) ak9:=by
 intro ag s σ H x y v u Q I rx ry h
 obtain⟨l,k,xs,rfl,rfl,hH,h1,h2,hz,q⟩:=h
 cases rx
 obtain⟨t,rfl⟩:=ry
 obtain⟨z,its,n,r,hl,e⟩:=I.Qe hH
 have iw:its.toArray.size * k.toNat<=sizeLine:=by rw[aX, <- hl];exact hz
 have aoH:¬ its.toArray.size * k.toNat > (2 ^ 63 - 1) / 8:=by
  have:(sizeLine:Nat)<=(2 ^ 63 - 1) / 8:=by decide
  omega
 have aoB:¬ (!Builtin.List.listFitsIndex k)=true:=by
  rw[fitsIndex_both h1 h2]
  exact bW
 have Qq:¬ kh (its.toArray.size * k.toNat)=true:=by
  rw[KD iw]
  exact bW
 have zm:Gj (fun x1 x2=>x1 ++ x2) #[] (bz (if its.toArray.isEmpty=true then 0 else k.toNat) its.toArray)=(bz k.toNat its).flatten.toArray:=by
  have f0:∀ m:Nat,Gj (fun x1 x2=>x1 ++ x2) #[] (bz m its.toArray)=(bz m its).flatten.toArray:=fun m=>by
   have:=foldl_rep its m []
   rw[jF]at this
   exact this
  rw[f0]
  cases its with
  | nil=>simp
  | cons a r'=>rw[if_neg (by simp)]
 refine wpAny_binaryOp_repeat_ref (T := "list") (U := "int") (by decide) ⟨_,e,rfl⟩ (fun s'=>typeIs_int s' k t) noFill_list_mul F.fills_int_mul F.slot_int_rmul repeat_list F.slot_int_index.lookup
  (call_meets F.slot_int_rmul (typeIs_int s k t) F.entry_int_rmul (F.args_int_rmul_2 _ _) (int___rmul___int_list k t l its.toArray n)
   ⟨e,rfl,⟨_,e,rfl⟩,call_meets F.slot_list_mul ⟨_,e,rfl⟩ F.entry_list_mul (F.args_list_mul_2 _ _) (AutoListH.list___mul___list_int_3 l its.toArray n k t aoB aoH Qq) ⟨e,?_⟩⟩)
 rw[zm]
 exact⟨.ref _,_,I.VN (t':=s.toks) (r.rep k.toNat) (by rw[Zr,Nat.mul_comm];exact hz),rfl,q _ I.fresh⟩
end
section
variable {prog:Program}{w:World}{A:Around}{E:Value->Shared->Prop}{s:Shared}
end
section
variable {X:Cx}
end
end L2
namespace Att
open PySem PySem.W PySem.Calls PyProof.Rows
theorem Fl {P:Params}{h:Heap}:∀ (ns:List Int) (vs:List Value),WellAll P h vs (ns.map xi)->IntsAre vs ns:=by
 intro ns
 induction ns with
 | nil =>
  intro vs w
  rw[eV]at w
  cases w
  exact .nil
 | cons n ns ih =>
  intro vs w
  rw[aL]at w
  cases w with
  | cons a b =>
   cases a
   exact .cons _ _ (ih _ b)
theorem RM {l:OpenLaw}{n:Nat} (hn:l.most=some n) {P:Params}{h:Heap}{args:List WData}{vals:List Value}
  (Qp:l.row.toRowW.claim.pre args=true) (hwl:WellAll P h vals args) :
  ∃ a vs ns,vals = [bA a]∧args = [FY (ns.map xi)]∧h.get? a=some { cls := .type "list",data := .seq vs.toArray }∧IntsAre vs ns∧ns.length<=n:=by
 have hsh:WShape.hasAll [] args [.list .int]=true:=(pre_splitW Qp).1
 have hc:l.pre.holds [] { args:=args }=true:=(pre_splitW Qp).2
 obtain⟨d,r,rfl,h1,h2⟩:=hasAllW_cons hsh
 obtain rfl:=hasAllW_nil h2
 obtain⟨xs,rfl,h3⟩:=hasW_list h1
 obtain⟨ns,rfl⟩:=items_int h3
 have iw:ns.length<=n:=by
  unfold OpenLaw.pre at hc
  have h4:(WTm.not (.lt (.lit (.int (n:Int))) (.len (.arg 0)))).holds [] { args := [.list (ns.map .int)] }=true:=by
   have h4:=(holds_andW hc).1
   rw[hn]at h4
   exact h4
  have h5:=condW_of h4 (w_not (w_lt w_lit (w_len_list (w_arg rfl))))
  rw[aq]at h5
  refine Nat.le_of_not_lt fun q => ?_
  have q':(n:Int) < ((ns.length:Nat):Int):=by omega
  first
   | (rw[decide_eq_true q']at h5;exact absurd h5 (by decide))
   | (simp at h5;omega)
 cases hwl with
 | cons w1 w2 =>
  cases w2
  cases w1 with
  | list ho Qw=>exact⟨_,_,ns,rfl,rfl,ho,Fl ns _ Qw,iw⟩
theorem Sa (l:OpenLaw) (args:List WData):l.row.toRowW.claim.post args (.bool true) args=true :=
 postW_of (r:=l.row.toRowW) (X:=(true == true))
  (show WShape.has [] (.bool true) .bool=true by first | rfl | decide | simp[WShape.has,WShape.arms,WShape.armsAll])
  (show (WTm.eq .res (.lit (.bool true))).value [] { args:=args,res:=some (.bool true),after:=args }=some (.bool (true == true)) from w_eq_bool (w_res rfl) w_lit) rfl
section
variable {prog:Program}{w:World}{A:Around}{E:Value->Shared->Prop}{s:Shared}{K:Frag}
end
end Att
namespace L2
open PySem PySem.Spec PyProof.Rows
theorem wJ:∀ {vs:List Value}{ns:List Int},IntsAre vs ns->Vals (ns.map V.int) vs
 | _,_,.nil => .nil
 | _,_,.cons n t h => .cons ⟨t,rfl⟩ (wJ h)
def agV (H:Hp):Prop := ∀ b,H b=none∨∃ o xs,H b=some (.xc o (.lst xs))
theorem VP {P:Program}{w:World}{K:ak}{mg mb:Str->Option Value}{CX:yM}{k:Nat}{fa a:Addr}{fd:FuncData}{x:Str}{sp:Sp}{fb : Shared}{vs:List Value}{ns:List Int}
  (KX:K.In fb.heap) (N7:fb.heap.Ns mainGlobals mg) (hb:fb.heap.Ns builtinsNs mb) (hbb:∀ x:Str,x ≠ "__name__" -> mb x=bootBuiltins x) (aoy:fb.heap.NoLimit) (hg:fb.gens = #[])
  (ha:fb.heap.get? a=some { cls := .type "list",data := .seq vs.toArray }) (hi:IntsAre vs ns) (hl:ns.length<=sizeLine) (hr:eY k callerA)
  (F:∀ base:Heap,K.In base->base.Ns mainGlobals mg->kz P w K mg base CX k fa fd [x] sp) (ahS:∀ (s:Shared) (u:Value),BindsTo s fd ⟨[u], []⟩ [(x,u)])
  (wX:∀ H:Hp,agV H->bb K H a (ns.map V.int)->sp [.ref a] H (fun v _=>v = .bl true) fun _ _ _=>False)
  (hCX:∀ H e s',CX [] H fb (fun _ _ _=>False) e s'->False) :
  codeAny (model P w) callerA (.call (.ref fa) ⟨[.ref a], []⟩) (fun r s'=>r = .ok (.ret (.bool true))∧OldK fb.heap s'.heap∧s'.os=fb.os∧AllBare s'.gens) fb := by
 have rv:=wJ hi
 have anr:=hi.length
 -- from an aq7 heap in ava arb but vd aao may be GB
 have aeJ:∀ H:Hp,agV H->bb K H a (ns.map V.int)->jb P w H fb.heap->(∀ b,H b≠none->b=a)->(H a≠none->K.lookup a=none) ->
   codeAny (model P w) callerA (.call (.ref fa) ⟨[.ref a], []⟩) (fun r s'=>r = .ok (.ret (.bool true))∧OldK fb.heap s'.heap∧s'.os=fb.os∧AllBare s'.gens) fb := by
  intro H hO hS bU hA hK
  have OI:∀ {b:Addr}{o:Obj},fb.heap.get? b=some o->H b=none->(zp fb.heap H).get? b=some o:=fun e n=>V0 e n
  have Sy:∀ {b:Addr}{o:Obj}{es:Array DictEntry}{ep:Nat},fb.heap.get? b=some o->o.data = .dict es ep->H b=none:=fun {b o es ep} e d=>by
   cases q:H b with
   | none=>rfl
   | some u =>
    have e':b=a:=hA b (by rw[q];simp)
    subst e'
    rw[ha]at e;cases e
    have d':Data.seq vs.toArray _=Data.dict es ep:=d
    cases d'
  have W9:∀ {b:Addr}{m:Str->Option Value},fb.heap.Ns b m->(zp fb.heap H).Ns b m:=fun {b m} ⟨o,es,ep,e,d,r⟩=>⟨o,es,ep,OI e (Sy e d),d,r⟩
  have hKb:K.In (zp fb.heap H):=fun b o e=>OI (KX b o e) (by
   cases q:H b with
   | none=>rfl
   | some u =>
    have e':b=a:=hA b (by rw[q];simp)
    subst e'
    rw[hK (by rw[q];simp)]at e;cases e)
  have hM:Mod K mg (zp fb.heap H):=⟨hKb,W9 N7,⟨mb,W9 hb,hbb⟩,let ⟨mc,h1,h2⟩:=aoy; ⟨mc,W9 h1,h2⟩⟩
  have e0:EB P w K mg (zp fb.heap H) callerA [] fb H:=⟨rfl,hM,fun b o e=>Zg e,eP (S7 _ _),trivial,fun b hb=>absurd (show b∈([]:List Addr) from hb) (by simp),bU,.of_eq hg⟩
  refine codeAny_mono ((F _ hKb (W9 N7)).run callerA [] fb H ⟨[.ref a], []⟩ [.ref a] [.ref a] _ _ hr e0 (ahS fb (.ref a)) (.cons rfl .nil) (wX H hO hS)) fun r s' h => ?_
  cases r with
  | error e=>exact(hCX H e s' h).elim
  | ok fl =>
   cases fl with
   | next=>exact eW h
   | brk=>exact eW h
   | cont=>exact eW h
   | ret u =>
    obtain⟨v,H',os,bare,un,aot,r',q⟩:=h
    have q':v = .bl true:=q
    subst q'
    obtain rfl:u=iH true:=r'
    refine⟨rfl,OldK.of_keep fun b o e => ?_,os,bare⟩
    cases q:H b with
    | none=>exact un.keep b o e q (by intro z;exact absurd (show b∈([]:List Addr) from z) (by simp)) (by simp)
    | some u =>
     rcases hO b with z | ⟨ob,xs,z⟩
     ·rw[q]at z;cases z
     ·have z2:=un.v7 b ob _ z
      obtain⟨e1,_⟩:=bU b _ z
      obtain⟨e2,_⟩:=aot b _ z2
      rw[e]at e1;cases e1
      exact e2
 cases hk:K.lookup a with
 | some o =>
  -- vd aao is one of vd VH own Zh
  have e:=KX a o hk
  rw[ha]at e
  cases e
  refine aeJ (fun _=>none) (fun _ => .inl rfl) (.inr ⟨_,vs.toArray,_,hk,rfl,rfl,rfl,by rw[aX,anr];exact hl,by simpa using rv⟩) (fun b u z=>by have z':(none:Option HO)=some u:=z;cases z') (fun b z=>absurd rfl z) fun z=>absurd rfl z
 | none =>
  refine aeJ (fun b=>if b=a then some (.xc { cls := .type "list",data := .seq vs.toArray } (.lst (ns.map V.int))) else none) (fun b => ?_) (.inl (.inr ⟨{ cls := .type "list",data := .seq vs.toArray },if_pos rfl⟩)) (fun b u z => ?_) (fun b z => ?_) fun _=>hk
  ·by_cases hb:b=a
   ·exact .inr ⟨_,_,if_pos hb⟩
   ·exact .inl (if_neg hb)
  ·by_cases hb:b=a
   ·have z':=(if_pos hb).symm.trans z
    cases z'
    subst hb
    exact⟨ha,by rw[aq];exact hl,vs,_,rv,ha⟩
   ·have z':=(if_neg hb).symm.trans z
    cases z'
  ·by_cases hb:b=a
   ·exact hb
   ·exact absurd (if_neg hb) z
def gJ (s:Stmt) (j:Nat):Stmt:=match s with
 | .ClassDef _ _ _ body _ _ _ _ _ _ _=>body.getD j (.Pass ⟨0,0,0,0⟩)
 | _ => .Pass ⟨0,0,0,0⟩
def bK (s:Stmt):Arguments:=match s with
 | .FunctionDef _ a _ _ _ _ _ _ _ _=>a
 | _=>{ posonlyargs := [],args := [],vararg:=none,kwonlyargs := [],kw_defaults := [],kwarg:=none,defaults := [] }
def bw (s:Stmt):List Stmt:=match s with
 | .FunctionDef _ _ b _ _ _ _ _ _ _=>b
 | _ => []
def aw (s:Stmt):Scope:=match s with
 | .FunctionDef _ _ _ _ _ _ sc _ _ _=>sc
 | _=>{ kind := .function,names := [],isGenerator:=false,isCoroutine:=false }
abbrev DB:yM:=fun _ _ _ _ _ _=>False
abbrev E0:XK:=fun _ _ _=>False
theorem W8 {X:Cx}:Passes DB X E0:=fun _ _ _ _ _ _ _ h=>h.elim
structure Af (K:ak) (x cV:Str) (st:Stmt) (f:Addr) (fd:FuncData):Prop where
 ex:∃ (oc:Value) (od:Option Addr) (kV doc pm:Value) (an:Option Addr) (cw ct:Value) (yc:Array (Option Value)),
  fd=aO x cV (bK st) (bw st) (aw st) .none kV doc pm an cw ct∧K.lookup f=some ⟨oc,od,.func fd,yc⟩∧aI K cw cV=true
 kp:aB K (.ref f)=true
section
variable {P:Program}{w:World}{K:ak}{mg:Str->Option Value}{base:Heap}{CB CF CH CS CN CE CM tB:Addr}
theorem Af.ok {x cV:Str}{st:Stmt}{f:Addr}{fd:FuncData}{N ps:List Str}{k:Nat}{sp:Sp} (F:Af K x cV st f fd) (S:bI N ps (aw st)) (len:∀ vs H Q E,sp vs H Q E->vs.length=ps.length)
  (kO:∀ (cw:Value) (A:Around) (outer:List Env) (s:Shared) (H:Hp) (vs:List V) (Q:VK) (E:XK),eY k (A.deeper (envOfC cV (aw st) s.heap.objs.size f cw))->sp vs H Q E ->
   ∃ t,pT (dj DB P w K mg base N cV (aw st) f cw A outer s H E).NU (bw st) t∧t { nx:=fun _ H'=>Q .cQ H',rt:=Q } (start N vs) H):kz P w K mg base DB (k+1) f fd ps sp:=by
 obtain⟨oc,od,kV,doc,pm,an,cw,ct,yc,rfl,lk,oK⟩:=F.ex
 refine Jv lk oK S len fun A outer s H vs Q E hr wX => ?_
 obtain⟨t,h,q⟩:=kO cw A outer s H vs Q E hr wX
 exact⟨t,h.NU,q⟩
theorem Af.binds {x cV:Str}{st:Stmt}{f:Addr}{fd:FuncData}{ps:List Str} (F:Af K x cV st f fd)
  (h:∀ (kV doc pm:Value) (an:Option Addr) (cw ct:Value) (us:List Value),us.length=ps.length->bindArgs (aO x cV (bK st) (bw st) (aw st) .none kV doc pm an cw ct) ⟨us, []⟩=pure (ps.zip us)):Binds K fd ps []:=by
 obtain⟨oc,od,kV,doc,pm,an,cw,ct,yc,rfl,lk,oK⟩:=F.ex
 exact .all (h kV doc pm an cw ct)
theorem cJ {x cV:Str}{st:Stmt}{f:Addr}{oc:Value}{od an:Option Addr}{yc:Array (Option Value)}{kV doc pm cw ct:Value} (l:K.lookup f=some ⟨oc,od,.func (aO x cV (bK st) (bw st) (aw st) .none kV doc pm an cw ct),yc⟩)
  (c:aI K cw cV=true) (k:aB K (.ref f)=true):Af K x cV st f (aO x cV (bK st) (bw st) (aw st) .none kV doc pm an cw ct):=⟨⟨oc,od,kV,doc,pm,an,cw,ct,yc,rfl,l,c⟩,k⟩
end
theorem zl {A:Around}{k:Nat} (hr:eY k A):A.units+1 < cLine:=oW (Nat.add_le_add_left (by decide:1<=64) _) hr.units
theorem dE {n:Nat} (h:n<=1000):n < sizeLine:=oW h (by decide)
section
variable {X:Cx}
theorem pv (i:Nat) {x:Str}{pos:Pos} (hN:X.N[i]? = some x:=by rfl) (hv:Vis X.env.scope x:=by first | exact aQ rfl | exact Or.inr (aQ rfl) | exact Or.inr (Or.inr rfl)) (hd:(x == ("__debug__" : Str))=false:=by decide)
  (oK:(x == ("__classdict__" : Str))=false:=by decide):PE X (.Name x pos) (Z3 i):=aay hN hv hd oK
end
theorem hZ {A B:Prop} (h:B):if false=true then A else B:=by
 rw[if_neg bW]
 exact h
theorem jI {A B:Prop} (h:A):if true=true then A else B:=by
 rw[if_pos rfl]
 exact h
def bp (H H':Hp):Prop := ∀ b o,H b=some o->H' b=some o
theorem bp.refl (H:Hp):bp H H:=fun _ _ h=>h
theorem bp.trans {H H1 H2:Hp} (a:bp H H1) (b:bp H1 H2):bp H H2:=fun c o h=>b c o (a c o h)
theorem bp.free {H H':Hp} (e:bp H H') {l:Addr} (h:H' l=Option.none):H l=Option.none:=by
 cases q:H l with
 | none=>rfl
 | some o =>
  rw[e l o q]at h
  cases h
theorem bp.seq {K:ak} {H H':Hp}{a:Addr}{xs:List V} (e:bp H H') (h:bb K H a xs):bb K H' a xs:=by
 rcases h with(h | ⟨o,h⟩) | h
 ·exact .inl (.inl (e _ _ h))
 ·exact .inl (.inr ⟨o,e _ _ h⟩)
 ·exact .inr h
section
variable {X:Cx}{ag:List (Addr × Obj)}{σ : St}{H:Hp}{s:Shared} {h':Heap}
theorem Inv.Pq {ch:List Addr}{a:Addr}{o:HO} {t':Nat} (I:Inv X ag σ H s) (k:∀ b u,b ∉ ch->s.heap.get? b=some u->h'.get? b=some u)
  (w8:∀ b∈ch,rA X ag H b) (hp:s.heap.objs.size<=a) (new:d8 X.prog X.w (aJ H a o) h' a o):Inv X ag σ (aJ H a o) { s with heap:=h',toks:=t' }:=by
 have hfr:H a=none:=I.bU.fresh hp
 have oI:∀ b ob,s.heap.get? b=some ob->b≠a:=fun b ob e z=>by subst z;exact absurd (cm (br e) hp) (eT _)
 have tr:∀ b u,H b=some u->b≠a:=fun b u e z=>by rw[z,hfr]at e;cases e
 have trc:∀ b u,H b=some u->b ∉ ch:=fun b u e z=>by rw[(w8 b z).1]at e;cases e
 refine I.step (g':=s.gens) (d':=s.drawn) (ch:=ch) (fun b hb => ?_) (fun b ob _ _ hc e _=>k b ob hc e) (fun b ob _ _ hc e _=>⟨ob.slots,k b ob hc e⟩) (fun b ob _ e n => ?_)
  (fun b ob hc e=>⟨ob,k b ob hc e⟩) (fun b xs e => ?_) (fun b ob u e => ?_) (fun b ps e=>⟨#[],?_⟩) (fun m hm => ?_) (fun b u e => ?_) I.bare
 ·obtain⟨_,f1,_,f3,f4,f5⟩:=w8 b hb
  exact⟨f3,f1,f4,f5⟩
 ·rw[ax (oI b ob e)];exact n
 ·rw[ax (tr b _ e)];exact e
 ·rw[ax (tr b _ e)];exact e
 ·rw[ax (tr b _ e),e];simp
 ·obtain⟨ob,es,ep,ho,r⟩:=hm
  exact⟨ob,es,ep,k _ ob (fun z=>(w8 _ z).2.1 rfl) ho,r⟩
 ·by_cases hb:b=a
  ·subst hb
   rw[au]at e;cases e
   exact new
  ·rw[ax hb]at e
   refine(I.bU b u e).Au (fun c v hc q=>k c v ?_ q) (fun c q=>by rw[ax (tr c _ q)];exact q) fun c xs q=>by rw[ax (tr c _ q)];exact q
   rcases hc with z | z
   ·rw[z];exact trc b u e
   ·exact trc c _ z
end
def Uz (K:ak) (a:Addr):It :=
 ⟨fun i H=>∃ xs x,bb K H a xs∧xs[i]? = some x,
  fun i H x H'=>∃ p v,H p=none∧x = .ref p∧(∀ xs,bb K H a xs->xs[i]? = some v)∧H'=aJ H p (.tup [.int (i:Int),v]),
  fun i H=>∃ xs,bb K H a xs∧xs.length=i⟩
theorem Rb {P:Program}{w:World}{K:ak}{Wf:List Expr}{k:Nat}{tp:Pos} (a e it:Addr) (jO:e≠it) :
  Turn P w K (.Tuple Wf k tp) (Uz K a) [e,it] e (fun i h=>(∃ oI,IsEnum h e it (i:Int) oI)∧h.IsListIter it a i) where
 mem:=by simp
 obj:=fun i h st b hb=>by
  obtain⟨⟨oI,he⟩,zX⟩:=st
  rcases bo.mp hb with rfl | hb
  ·exact⟨_,he,fun v z=>by
    have z':Data.fields _=Data.cell v:=z
    cases z'⟩
  ·have e:b=it:=by simpa using hb
   subst e
   obtain⟨o,e,c,d⟩:=zX
   exact⟨o,e,fun v z=>by rw[d]at z;cases z⟩
 keep:=fun i h h' st k=>by
  obtain⟨⟨oI,he⟩,zX⟩:=st
  exact⟨⟨oI,k e (by simp) _ he⟩,zX.at fun o q=>k it (by simp) o q⟩
 item:=by
  intro X hP hw hK hc i ag s σ H E I hf st hg
  subst hP hw hK
  obtain⟨⟨oI,he⟩,zX⟩:=st
  obtain⟨xs,x,hq,hx⟩:=hg
  obtain⟨its,rv,p,hz⟩:=I.list hq
  obtain⟨u,hu,ru⟩:=rv.get hx
  have XF:a≠it:=fun z=>by
   obtain⟨o,n,e1,c1,_⟩:=p
   obtain⟨o',e2,c2,_⟩:=zX
   rw[z,e2]at e1;cases e1
   rw[c1]at c2
   exact absurd (tf c2) (by decide)
  have hae:a≠e:=fun z=>by
   obtain⟨o,n,e1,c1,_⟩:=p
   rw[z,he]at e1;cases e1
   exact absurd (tf c1) (by decide)
  have eS:i < its.toArray.size:=by
   rw[aX]
   exact(ai.mp hu).1
  have ym:e < s.heap.objs.size:=br he
  have hil:it < s.heap.objs.size:=by obtain⟨o,q,_⟩:=zX;exact br q
  refine wpAny_pyNext_enum_itemD (Draws.list (A:=X.A.in1) (I.ok.hd hc) it a XF its.toArray) he ⟨zX,p.isList⟩ eS jO (by
   intro z
   rcases bo.mp z with z | z
   ·exact jO z
   ·exact hae (bq.mp z).symm) fun y h1 tk hy ho yi hT hsz hk => ?_
  have hyu:y=u:=by
   have e1:its[i]? = some y:=by simpa using hy
   rw[hu]at e1
   exact(aE e1).symm
  subst hyu
  refine⟨_,rfl,wpAny_letOwnedTupleGo_enum ho fun h2 he2 cI => ?_⟩
  have kk:∀ b o,b ∉ [e,it]->s.heap.get? b=some o->h2.get? b=some o:=fun b o hb q=>by
   have b1:b≠e:=fun z=>hb (by simp[z])
   have b2:b≠it:=fun z=>hb (by simp[z])
   exact(cI.2 b b1).trans (hk b o b1 b2 q)
  have hTe:s.heap.objs.size≠e:=qZ ym
  refine⟨.ref s.heap.objs.size,aJ H s.heap.objs.size (.tup [.int (i:Int),x]),?_,rfl,⟨_,x,I.bU.fresh (aA _),rfl,fun ys hy=>by rw[I.KP hy hq];exact hx,rfl⟩,
   ⟨⟨_,by simpa using he2⟩,yi.1.at fun o q=>(cI.2 it (bV jO)).trans q⟩,fun b hb => ?_⟩
  ·refine I.Pq (ch := [e,it]) (t':=tk+1) kk hf (aA _) ⟨by show 2<=sizeLine;decide, [.int (i:Int) tk,y],.cons ⟨_,rfl⟩ (.cons ru .nil),?_⟩
   exact⟨_,(cI.2 _ hTe).trans hT,rfl,_,rfl,rfl⟩
  ·have gH:=hf b hb
   have:b≠s.heap.objs.size:=by
    rcases bo.mp hb with rfl | hb
    ·exact cU ym
    ·rw[bq.mp hb];exact cU hil
   rw[ax this]
   exact gH.1
 done:=by
   intro X hP hw hK hc i ag s σ H E I hf st hg
   subst hP hw hK
   obtain⟨⟨oI,he⟩,zX⟩:=st
   obtain⟨xs,hq,hx⟩:=hg
   obtain⟨its,rv,p,hz⟩:=I.list hq
   have XF:a≠it:=fun z=>by
    obtain⟨o,n,e1,c1,_⟩:=p
    obtain⟨o',e2,c2,_⟩:=zX
    rw[z,e2]at e1;cases e1
    rw[c1]at c2
    exact absurd (tf c2) (by decide)
   have hl:=rv.length
   have hi:i=its.toArray.size:=by rw[aX];omega
   subst hi
   obtain⟨f0,f1,f2,f3,f4,f5⟩:=hf it (by simp)
   exact wpAny_pyNext_enum_endD (Draws.list (A:=X.A.in1) (I.ok.hd hc) it a XF its.toArray) he ⟨zX,p.isList⟩ fun h1 eb=>⟨rfl,I.turned (t':=s.toks) (fun b o hb q=>eb b o hb q) f0 f1 f3 f4 f5⟩
 self:=fun _ _ _ _ _ st h=>by
  obtain⟨⟨oI,he⟩,_⟩:=st
  exact wpAny_pyIter_enum he h
inductive O7 (K:ak) (R:It->Hp->Prop) (vs:List V) (H1:Hp):Prop
 | mk:∀ a,(vs = [.ref a])->((∃ xs,bb K H1 a xs))->(R (Uz K a) H1)->O7 K R vs H1
def ahN (K:ak) (ta:TA):TI:=fun σ H R=>ta σ H fun vs H1=>O7 K R vs H1
theorem T6:bootBuiltins "enumerate" = some (.type "enumerate"):=by decide +kernel
section
variable {X:Cx}
theorem uX {l:Expr}{ta:TA}{Wf:List Expr}{k:Nat}{tp p pos:Pos} (hg:Gl X "enumerate") (hm:X.mg "enumerate" = none) (ha:PA X [l] ta) (hs:starEach [l] X.env = [(false,eval l X.env)]:=by rfl) :
  PI X (.Tuple Wf k tp) (.Call (.Name "enumerate" p) [l] [] pos) (ahN X.K ta):=by
 intro ag s σ H R I h
 refine Call_ (vN I hg hm T6 (jA (cf (ha pos ag s σ H _ I h) fun us s1 ⟨vs,H1,I1,r1,q1⟩ => ?_) hs rfl))
 obtain⟨a,e,⟨xs,hq⟩,q⟩:=q1
 subst e
 obtain⟨u,rfl,ru⟩:=vals1 r1
 cases ru
 obtain⟨its,rv,pl,hz⟩:=I1.list hq
 refine call_enumerate_list pl.isList fun h1 he zX hsz hk => ?_
 have I2:Inv X ag σ H1 { s1 with heap:=h1 }:=I1.kept (t':=s1.toks) hk
 have jO:s1.heap.objs.size+1≠s1.heap.objs.size:=Nat.succ_ne_self _
 refine wpAny_pyIter_enum (s := { s1 with heap:=h1 }) he ⟨_, [s1.heap.objs.size+1,s1.heap.objs.size],_,_,H1,rfl,I2,Rb a _ _ jO,⟨⟨_,he⟩,zX⟩,fun b hb => ?_,q⟩
 rcases bo.mp hb with rfl | hb
 ·exact I1.G8 (lC _) (I1.bU.fresh (lC _))
 ·rw[bq.mp hb]
  exact I1.G8 (aA _) (I1.bU.fresh (aA _))
end
theorem sT {K:ak}{a:Addr}{xs:List V}{g:TG}{tb:TS}{D:Ends}{σ : St}{H:Hp} (Pv:Nat->St->Hp->Prop) (h0:Pv 0 σ H) (hl:∀ i σ H,i<=xs.length->Pv i σ H->bb K H a xs)
  (hs:∀ i x p σ H,xs[i]? = some x->Pv i σ H->H p=none->g (.ref p) σ (aJ H p (.tup [.int (i:Int),x])) fun pz H2=>tb { D with nx:=Pv (i+1),ct:=Pv (i+1),bk:=D.nx } pz H2) (hd:∀ σ H,Pv xs.length σ H->D.nx σ H) :
  ∃ W:Nat->Nat->St->Hp->Prop,(∃ m,W 0 m σ H)∧∀ i m σ H,W i m σ H ->
   ((Uz K a).stop i H∧D.nx σ H)∨((Uz K a).go i H∧∃ N:St->Hp->Prop,(∀ bF H',N bF H'->∃ m',m' < m∧W (i+1) m' bF H')∧∀ x H',(Uz K a).EF i H x H'->g x σ H' fun pz H2=>tb { D with nx:=N,ct:=N,bk:=D.nx } pz H2):=by
 refine⟨fun i m σ H=>m=xs.length - i∧i<=xs.length∧Pv i σ H,⟨xs.length,by simp,bD _,h0⟩,?_⟩
 rintro i m σ H ⟨rfl,hi,p⟩
 have q:=hl i σ H hi p
 by_cases eS:i < xs.length
 ·refine .inr ⟨⟨xs,xs[i],q,by simp[eS]⟩,Pv (i+1),fun bF H' p'=>⟨xs.length - (i+1),by omega,rfl,eS,p'⟩,fun x H' y => ?_⟩
  obtain⟨pa,v,hpa,rfl,hv,rfl⟩:=y
  exact hs i v pa σ H (hv xs q) p hpa
 ·have e:i=xs.length:=by omega
  subst e
  exact .inl ⟨⟨xs,q,rfl⟩,hd σ H p⟩
section
variable {X:Cx}
inductive Ur (x:V) (lo:Option Int) (hi:Option Int) (H:Hp) (Q:VK):Prop
 | mk:∀ z,(x = .str z)->(z.length<=sizeLine)->(Q (.str (hU z lo hi)) H)->Ur x lo hi H Q
def ak7:V->Option Int->Option Int->Hp->VK->Prop:=fun x lo hi H Q=>Ur x lo hi H Q
theorem JZ:SlR X ak7:=by
 intro ag s σ H x v vl vu lo hi sl Q I rx hs pl pu h
 obtain⟨z,rfl,hz,q⟩:=h
 obtain⟨t,rfl⟩:=rx
 refine⟨"str",_,F.slot_str_getitem.lookup,typeIs_str _ _ _,?_⟩
 obtain⟨o,ho,hc,hd⟩:=hs
 have gO:∀ t' k,EP X ag σ Q (.str (hU z lo hi) t') { s with toks:=k }:=fun t' k=>⟨.str _,H,I.tok _,⟨_,rfl⟩,q⟩
 cases pl with
 | none =>
  cases pu with
  | none=>exact wpAny_getItem_str_slice (l:=none) (u:=none) (st:=none) ⟨o,ho,hc,hd⟩ rfl (post_val_or_str ⟨cA (we z _ _) hz,gO⟩)
  | int j uj=>exact wpAny_getItem_str_slice (l:=none) (u:=some (j,uj)) (st:=none) ⟨o,ho,hc,hd⟩ rfl (post_val_or_str ⟨cA (we z _ _) hz,gO⟩)
 | int i ui =>
  cases pu with
  | none=>exact wpAny_getItem_str_slice (l:=some (i,ui)) (u:=none) (st:=none) ⟨o,ho,hc,hd⟩ rfl (post_val_or_str ⟨cA (we z _ _) hz,gO⟩)
  | int j uj=>exact wpAny_getItem_str_slice (l:=some (i,ui)) (u:=some (j,uj)) (st:=none) ⟨o,ho,hc,hd⟩ rfl (post_val_or_str ⟨cA (we z _ _) hz,gO⟩)
inductive Ds (kK:ak) (xs:List V) (H:Hp) (Q:VK):Prop
 | mk:∀ (p:Addr) (ns:List Int),(xs = [.ref p])->(bb kK H p (ns.map V.int))->(0 < ns.length)->(∀ M,M∈ns->(∀ a∈ns,a<=M)->Q (.int M) H)->Ds kK xs H Q
theorem TY (hc:X.calm=true):lQ X (.builtin "max") (fun xs H Q=>Ds X.K xs H Q):=by
 intro ag s σ H xs us Q I r h
 obtain⟨p,ns,rfl,hq,jO,q⟩:=h
 obtain⟨u,rfl,ru⟩:=vals1 r
 cases ru
 obtain⟨its,rv,pl,hz⟩:=I.list hq
 have hi:IntsAre its ns:=intsAre_of rv
 obtain⟨ys,e⟩:=hi.allInts.items
 have N7:ns=ys.toList.map (·.1):=by
  rw[<- hi.numsOf, <- nums_intItems, <- e]
 have hsz:0 < ys.size:=by
  have h3:=jO;rw[N7,aq,a8]at h3;exact h3
 have C7:s.heap.IsList p (intItems ys):=e ▸ pl.isList
 refine max_intList (I.ok.hd hc) C7 hsz fun v h' tk hv hk => ?_
 obtain⟨t,rfl⟩:=intItems_at hv
 obtain⟨h1,h2⟩:=argBest_gt (numAt ys) (ys.size - 1)
 refine⟨.int _,H,I.kept hk,⟨t,rfl⟩,q _ ?_ fun a ha => ?_⟩
 ·rw[N7,numAt_eq];exact getD_mem (by rw[aq,a8];omega)
 ·rw[N7]at ha
  obtain⟨j,hj,rfl⟩:=mem_getD ha
  rw[aq,a8]at hj
  rw[<- numAt_eq];exact h2 j (by omega)
inductive Gn (kK:ak) (xs:List V) (H:Hp) (Q:VK):Prop
 | mk:∀ x T t b,(xs = [x,.ty T])->(tj kK H x t)->(tw kK t (.type T)=some b)->(Q (.bl b) H)->Gn kK xs H Q
theorem LS:lQ X (.builtin "isinstance") (fun xs H Q=>Gn X.K xs H Q):=by
 intro ag s σ H xs us Q I r h
 obtain⟨x,T,t,b,rfl,ty,e,q⟩:=h
 obtain⟨u,w',rfl,rx,ry⟩:=vals2 r
 cases ry
 exact SV I rx ty e fun tk=>⟨.bl b,H,I.tok _,rfl,q⟩
end
def jz (cells:List (Str × Addr)):List (Str × NameKind)->List (Str × Addr)->List (Str × Addr)
 | [],acc=>acc
 | (n,k) :: r,acc=>if k == .free then (match cells.lookup n with | some c=>jz cells r ((n,c) :: acc) | none=>jz cells r acc) else jz cells r acc
theorem qV {cells:List (Str × Addr)}:∀ {names:List (Str × NameKind)}{acc:List (Str × Addr)}{x:Str}{c:Addr},(∀ x c,acc.lookup x=some c->cells.lookup x=some c)->(jz cells names acc).lookup x=some c->cells.lookup x=some c
 | [],_,x,c,ha,h=>ha x c h
 | (n,k) :: r,acc,x,c,ha,h=>by
  unfold jz at h
  by_cases hk:(k == fD)=true
  ·rw[if_pos hk]at h
   cases e:cells.lookup n with
   | none =>
    rw[e]at h
    exact qV ha h
   | some d =>
    rw[e]at h
    refine qV (fun y z hy => ?_) h
    rw[gX]at hy
    cases q:y == n with
    | true =>
     rw[q]at hy
     have:y=n:=by simpa using q
     rw[this,e];exact hy
    | false =>
     rw[q]at hy
     exact ha y z hy
  ·rw[if_neg hk]at h
   exact qV ha h
theorem uP {cells:List (Str × Addr)}:∀ {names:List (Str × NameKind)}{acc:List (Str × Addr)}{x:Str},(acc.lookup x).isSome=true->((jz cells names acc).lookup x).isSome=true
 | [],_,_,h=>h
 | (n,k) :: r,acc,x,h=>by
  unfold jz
  by_cases hk:(k == fD)=true
  ·rw[if_pos hk]
   cases e:cells.lookup n with
   | none=>exact uP h
   | some d =>
    refine uP ?_
    rw[gX]
    cases q:x == n with
    | true=>rfl
    | false=>exact h
  ·rw[if_neg hk];exact uP h
theorem qU {cells:List (Str × Addr)}:∀ {names:List (Str × NameKind)}{acc:List (Str × Addr)}{x:Str},(x,fD)∈names->(cells.lookup x).isSome=true->((jz cells names acc).lookup x).isSome=true
 | [],_,_,h,_=>nomatch h
 | (n,k) :: r,acc,x,h,hc=>by
  unfold jz
  rcases bo.mp h with e | h
  ·cases e
   rw[if_pos (show (fD == fD)=true from rfl)]
   cases e:cells.lookup n with
   | none=>rw[e]at hc;cases hc
   | some d =>
    refine uP ?_
    rw[gX]
    simp
  ·by_cases hk:(k == fD)=true
   ·rw[if_pos hk]
    cases e:cells.lookup n with
    | none=>exact qU h hc
    | some d=>exact qU h hc
   ·rw[if_neg hk];exact qU h hc
theorem kS {cells:List (Str × Addr)}{names:List (Str × NameKind)}{x:Str}{c:Addr} (h:(jz cells names []).lookup x=some c):cells.lookup x=some c :=
 qV (fun _ _ z=>by simp at z) h
theorem zv {env:Env}:∀ (names:List (Str × NameKind)) (acc:List (Str × Addr)),(∀ y∈names,y.2 = .free->∃ c,env.cells.lookup y.1=some c) ->
  (forIn names acc fun x r=>match x with
   | (name,kind)=>if (kind == fD)=true then (do let c <- cellOf env name;pure (oA ((name,c) :: r))) else pure (oA r):Sem (List (Str × Addr)))=pure (jz env.cells names acc)
 | [],acc,_=>rfl
 | (n,k) :: r,acc,h=>by
  have hr:∀ y∈r,y.2 = .free->∃ c,env.cells.lookup y.1=some c:=fun y hy=>h y (aK _ hy)
  rw[List.forIn_cons]
  by_cases hk:(k == fD)=true
  ·have ek:k = .free:=by simpa using hk
   obtain⟨c,hc⟩:=h (n,k) aT ek
   have e1:cellOf env n=pure c:=by
    have FC:env.cells.lookup n=some c:=hc
    unfold cellOf
    rw[FC]
   unfold jz
   rw[if_pos hk]
   have FC:env.cells.lookup n=some c:=hc
   rw[FC]
   simp only[hk,if_true,e1]
   exact zv r ((n,c) :: acc) hr
  ·unfold jz
   rw[if_neg hk]
   simp only[hk]
   exact zv r acc hr
theorem BF {scope:Scope}{env:Env} (h:∀ y∈scope.names,y.2 = .free->∃ c,env.cells.lookup y.1=some c):closureFor scope env=pure (jz env.cells scope.names []):=by
 have e:=zv scope.names [] h
 unfold closureFor
 show (Bind.bind (forIn scope.names [] fun x r=>match x with
   | (name,kind)=>if (kind == fD)=true then (do let c <- cellOf env name;pure (oA ((name,c) :: r))) else pure (oA r):Sem (List (Str × Addr))) fun r=>pure r)=_
 rw[e]
 rfl
theorem AK {scope:Scope}{env:Env}{x:Str} (hc:∀ y∈scope.names,y.2 ≠ .cell) (h:(relabel scope env).names.lookup x=some .cell∨(relabel scope env).names.lookup x=some .free):(x,fD)∈scope.names:=by
 unfold relabel at h
 simp only at h
 generalize scope.names=names at h hc
 induction names with
 | nil=>rcases h with h | h <;> cases h
 | cons y r ih =>
  obtain⟨n,k⟩:=y
  have hr:∀ y∈r,y.2≠NameKind.cell:=fun y hy=>hc y (aK _ hy)
  rw[aL]at h
  by_cases hk:(k == fD && env.scope.kind == .function && env.kindOf n == some .cell)=true
  ·simp only[hk,if_true,gX]at h
   cases q:x == n with
   | true =>
    have e:x=n:=by simpa using q
    have ek:k = .free:=by
     have:=(gA.mp (gA.mp hk).1).1
     simpa using this
    rw[e,ek];exact aT
   | false =>
    rw[q]at h
    exact aK _ (ih h hr)
  ·simp only[hk,ft,if_false,gX]at h
   cases q:x == n with
   | true =>
    rw[q]at h
    have e:x=n:=by simpa using q
    have yk:k ≠ .cell:=hc (n,k) aT
    rcases h with h | h
    ·exact absurd (aE h) yk
    ·rw[e,aE h];exact aT
   | false =>
    rw[q]at h
    exact aK _ (ih h hr)
theorem wO {scope:Scope}{env:Env}{x:Str} (h:scope.names.lookup x=some .free):(relabel scope env).names.lookup x=some .cell∨(relabel scope env).names.lookup x=some .free:=by
 unfold relabel
 simp only
 generalize scope.names=names at h
 induction names with
 | nil=>cases h
 | cons y r ih =>
  obtain⟨n,k⟩:=y
  rw[aL]
  rw[gX]at h
  by_cases hk:(k == fD && env.scope.kind == .function && env.kindOf n == some .cell)=true
  ·simp only[hk,if_true,gX]
   cases q:x == n with
   | true=>exact .inl rfl
   | false=>rw[q]at h;exact ih h
  ·simp only[hk,ft,if_false,gX]
   cases q:x == n with
   | true=>rw[q]at h;exact .inr h
   | false=>rw[q]at h;exact ih h
def fo (X:Cx) (scope:Scope) (N:List Str) (fp:List Addr) (s:Shared) (H:Hp):Cx :=
 { X with N:=N,lR := s,BW := H,env:=compEnvC scope (jz X.env.cells scope.names []) s.heap.objs.size X.env,outer:=X.stack,ex:=fp,fn:=fun _=>false,pn := [],xe:=fun _ _=>False }
structure oX (X:Cx) (scope:Scope) (own:List Str) (caps:List (Str × Nat)):Prop where
 kind:scope.kind = .function
 Fb:∀ y∈scope.names,y.2 ≠ .cell
 locs:∀ y∈scope.names,y.2 = .local->scope.names.lookup y.1=some .local
 frees:∀ y∈scope.names,y.2 = .free->X.env.kindOf y.1=some .cell
 own:∀ x∈own,scope.names.lookup x=some .local
 caps:∀ p∈caps,X.N[p.2]? = some p.1∧X.env.kindOf p.1=some .cell∧scope.names.lookup p.1=some .free
def jm (σ : St) (caps:List (Str × Nat)):St:=caps.map fun p=>(σ[p.2]?).join
section
variable {X:Cx}{scope:Scope}{own:List Str}{caps:List (Str × Nat)}{ag:List (Addr × Obj)}{σ : St}{H:Hp}{s:Shared}{fp:List Addr}
theorem ZD (S:oX X scope own caps) (I:Inv X ag σ H s) (hf:∀ b∈fp,rA X ag H b) (hl:∀ b∈fp,b < s.heap.objs.size):(fo X scope (own ++ caps.map (·.1)) fp s H).Ok where
 mod:=I.ok.mod
 kind:=S.kind
 glob:=I.ok.glob
 blt:=I.ok.blt
 above:=aA _
 inj:=fun x y c h1 h2=>I.ok.inj x y c (kS h1) (kS h2)
 has:=fun x h=>by
  have hm:=AK S.Fb h
  obtain⟨c,hc⟩:=I.ok.has x (.inl (S.frees _ hm rfl))
  exact gi.mp (qU hm (by rw[hc];rfl))
 OF:=fun x c h _=>nomatch h
 hd:=I.ok.hd
 frames:=I.ok.frames
 Rn := .inl rfl
 exf:=fun b hb=>⟨cU (hl b hb),fun x c h=>(hf b hb).2.2.2.2.1 x c (kS h)⟩
 bs:=I.bs
 Dl:=cA I.ok.Dl I.sz
 GQ:=fun b o e hb=>by
  rcases(hf b hb).2.2.2.1 with z | z
  ·exact I.ok.GQ b o e z
  ·exact absurd (cm (cm (br e) I.ok.Dl) z) (eT _)
 LG:=fun b hb z=>by
  rcases bo.mp (I.As b z) with e | e
  ·exact(hf b hb).2.1 e
  ·exact(hf b hb).2.2.1 e
 sQ:=I.stack
 Ii:=I.Nf
theorem FT (S:oX X scope own caps) (I:Inv X ag σ H s) (hf:∀ b∈fp,rA X ag H b) (hl:∀ b∈fp,b < s.heap.objs.size) {h1:Heap}{m:Str->Option Value}{t:Nat} (hn:h1.Ns s.heap.objs.size m)
  (hk:∀ b o,s.heap.get? b=some o->h1.get? b=some o):Inv (fo X scope (own ++ caps.map (·.1)) fp s H) [] (bz own.length none ++ jm σ caps) H { s with heap:=h1,toks:=t }:=by
 refine⟨ZD S I hf hl,rfl,I.bare,Un.kept hk,⟨m,hn,fun i y v e1 e2 e3 => ?_⟩,fun x c e => ?_,I.bU.fresh (aA _),fun x c e=>I.tM x c (kS e),(fun p hp=>by cases hp),I.bU.kept hk,?_⟩
 ·have hi:own.length<=i:=by
   by_cases hi:i < own.length
   ·rw[eZ (by simpa using hi),pD,if_pos hi]at e2
    cases e2
   ·omega
  rw[dk (by simpa using hi),jG]at e2
  unfold jm at e2
  rw[aD]at e2
  have e1':(own ++ caps.map (·.1))[i]? = some y:=e1
  rw[dk hi,aD]at e1'
  cases q:caps[i - own.length]? with
  | none=>rw[q]at e2;cases e2
  | some p =>
   rw[q]at e1' e2
   have ey:p.1=y:=aE e1'
   have ev:(σ[p.2]?).join=some v:=aE e2
   have eσ : σ[p.2]? = some (some v):=by
    cases z : σ[p.2]? with
    | none=>rw[z]at ev;cases ev
    | some w'=>rw[z]at ev;rw[show w'=some v from ev]
   obtain⟨hN,Fx,Cq⟩:=S.caps p (aP q)
   rw[ey]at hN Fx Cq
   obtain⟨mX,hnX,hlX⟩:=I.loc
   obtain⟨u,ru,lk⟩:=hlX p.2 y v hN eσ (.inr (.inl Fx))
   refine⟨u,ru,?_⟩
   rcases lk with⟨k1,_⟩ | ⟨_,c,hc,xa⟩
   ·rw[Fx]at k1;cases k1
   ·have hm:=AK S.Fb (wO (env:=X.env) Cq)
    obtain⟨c',FC⟩:=gi.mp (qU (acc := []) hm (by rw[hc];rfl))
    have:=kS FC
    rw[hc]at this;cases this
    obtain⟨o,ho,hd⟩:=xa
    exact .inr ⟨wO (env:=X.env) Cq,c,FC,⟨o,hk _ _ ho,hd⟩⟩
 ·obtain⟨v,o,ho,hd⟩:=I.cell x c (kS e)
  exact⟨v,o,hk _ _ ho,hd⟩
 ·show _=(own ++ caps.map (·.1)).length
  simp[jm]
theorem Io {N:List Str}{τ : St} {H':Hp} {s':Shared} (I:Inv X ag σ H s) (J:Inv (fo X scope N fp s H) [] τ H' s') (hf:∀ b∈fp,rA X ag H b):Inv X ag σ H' s' :=
 I.ahW (ch:=fp) J.os J.base J.bU J.bare fun b hb=>by
  obtain⟨_,f1,_,f3,f4,f5⟩:=hf b hb
  exact⟨f3,f1,f4,f5⟩
theorem ZE {prog:Program}{w:World}{A:Around}{R:Result->Shared->Prop}{pQ oC gD:Expr}{pos:Pos}{it acc:Value}{env:Env} (Iv:Nat->Shared->Prop)
  (vb:∀ n s,Iv n s->wpAny (model prog w) A (pyNext it) (fun r fb => match r with
   | none=>R (.ok .next) fb
   | some v=>wpAny (model prog w) A (letOwnedTupleGo oC it v) (fun _ p6 => wpAny (model prog w) A (assign oC env v) (fun _ pH => wpAny (model prog w) A (eval pQ env) (fun x JN =>
       wpAny (model prog w) A (call (.builtin "list.append") [acc,x]) (fun _ JM => ∃ m,m < n∧Iv m JM) (fun _ _=>False) JN) (fun _ _=>False) pH) (fun _ _=>False) p6) (fun _ _=>False) fb) (fun _ _=>False) s)
  (n:Nat) (h:Iv n s):codeAny (model prog w) A (.compLoop (.ListComp pQ [⟨oC,gD, [],0⟩] scope pos) 0 it acc env) R s:=by
 refine codeAny_loop rfl Iv (fun n s hI => ?_) n h
 show wpAny _ A ((compTurn (.ListComp pQ [⟨oC,gD, [],0⟩] scope pos) 0 it acc env).onRaise (fun x=>do noteFrame x env;theTreesLotGoes x)) _ _ s
 refine wpAny_noted ?_
 rw[compTurn_list]
 refine wpAny_bind (wpAny_standAt (wpAny_bind (wpAny_mono (vb n s hI) (fun r fb oJ => ?_) fun _ _ z=>z.elim)))
 cases r with
 | none=>exact wpAny_pure oJ
 | some v =>
  refine wpAny_bind (wpAny_mono oJ (fun _ p6 D8 => wpAny_bind (wpAny_mono D8 (fun _ pH K4 => wpAny_bind (wpAny_tests_nil ?_)) fun _ _ z=>z.elim)) fun _ _ z=>z.elim)
  exact wpAny_bind (wpAny_bind (wpAny_mono K4 (fun x JN VU => wpAny_bind (wpAny_mono VU (fun _ JM VT => wpAny_pure (wpAny_pure ⟨rfl,VT⟩)) fun _ _ z=>z.elim)) fun _ _ z=>z.elim))
def zN (J:It) (g:TG) (te:TE) (ZN:St) (H1:Hp) (Q:VK):Prop := ∀ D,H1 D=none->∃ W:Nat->Nat->St->List V->Hp->Prop,
 (∃ m,W 0 m ZN [] (aJ H1 D (.lst []))) ∧
 ∀ i m τ ys H,W i m τ ys H->H D=some (.lst ys)∧((J.stop i H∧Q (.ref D) H)∨(J.go i H∧ys.length < sizeLine∧∀ x H',J.EF i H x H'->g x τ H' fun Jy H2=>te Jy H2 fun y H3 =>
  H3 D=some (.lst ys)∧∃ m',m' < m∧W (i+1) m' Jy (ys ++ [y]) (aJ H3 D (.lst (ys ++ [y])))))
def WT (wi:TI) (g:TG) (te:TE) (k:Nat) (caps:List (Str × Nat)):TE:=fun σ H Q=>wi σ H fun J H1=>zN J g te (bz k none ++ jm σ caps) H1 Q
theorem TR {tg pQ gD:Expr}{wi:TI}{g:TG}{te:TE}{pos p2:Pos}{use:Option (Value->Sem Unit)}{Q:VK} {Q':Value->Shared->Prop} (S:oX X scope own caps) (hi:PI X tg gD wi) (hc:X.calm=true)
  (hg:∀ fp s H,PG (fo X scope (own ++ caps.map (·.1)) fp s H) tg g) (he:∀ fp s H,PE (fo X scope (own ++ caps.map (·.1)) fp s H) pQ te)
  (I:Inv X ag σ H s) (h:WT wi g te own.length caps σ H Q)
  (gO:∀ D C H5 s5,Inv X ag σ H5 s5->Q (.ref D) H5->(∃ m,s5.heap.Ns C m)->H5 C=none->C≠X.env.locals->X.lR.heap.objs.size<=C->(∀ x c,X.env.cells.lookup x=some c->c≠C)->(∀ p∈X.pn ++ ag,p.1≠C) ->
   compPost (model X.prog X.w) X.A X.xe use Q' (.ref D) C (.ok .next) s5)
  (hs:∀ x,foldedSetIterable gD X.env x=pure x:=by intro _;rfl) :
  wpAny (model X.prog X.w) X.A (comprehension (.ListComp pQ [⟨tg,gD, [],0⟩] scope pos) scope X.env p2 (newList []) false (eval gD X.env) use) Q' X.xe s:=by
 have Qt:closureFor scope X.env=pure (jz X.env.cells scope.names []):=BF fun y hy hk=>I.ok.has y.1 (.inl (S.frees y hy hk))
 refine wpAny_comprehension_free (g:=⟨tg,gD, [],0⟩) (gs := []) rfl hs Qt S.kind S.locs (cf (hi ag s σ H _ I h) fun v s1 h1=>cf h1 fun Xn s2 h2 => ?_)
 obtain⟨it,fp,tn,J,H2,e,I2,T,dS,f2,R⟩:=h2
 subst e
 refine wpAny_newObj_type (wpAny_newFunctionEnv S.Fb (by intro y hy;simp at hy) (fun oJ Lc K9 => ?_) S.kind)
 have fr2:H2 s2.heap.objs.size=none:=I2.bU.fresh (aA _)
 obtain⟨W,⟨m0,w0⟩,vb⟩:=R s2.heap.objs.size fr2
 have I3:Inv X ag σ (aJ H2 s2.heap.objs.size (.lst [])) { s2 with heap:=s2.heap.push { cls := .type "list",dict:=none,data := .seq ([]:List Value).toArray } }:=I2.VN (its := []) (t':=s2.toks) .nil (bD _)
 have SJ:∀ b∈fp,b < s2.heap.objs.size:=fun b hb=>by
  obtain⟨o,ho,_⟩:=T.obj _ _ dS b hb
  exact br ho
 have f3:∀ b∈fp,rA X ag (aJ H2 s2.heap.objs.size (.lst [])) b:=fun b hb=>⟨by rw[ax (cU (SJ b hb))];exact(f2 b hb).1,(f2 b hb).2⟩
 generalize yh:({ s2 with heap:=s2.heap.push { cls := .type "list",dict:=none,data := .seq ([]:List Value).toArray } }:Shared)=s3 at I3
 have hz3:s3.heap.objs.size=s2.heap.objs.size+1:=by rw[<- yh];exact tG _ _
 have VQ:∀ b o,s2.heap.get? b=some o->s3.heap.get? b=some o:=fun b o e=>by rw[<- yh];exact aU _ e
 have SI:∀ b∈fp,b < s3.heap.objs.size:=fun b hb=>by rw[hz3];exact jP (SJ b hb)
 have G1:oJ.Ns s3.heap.objs.size (fun x=>([]:List (Str × Value)).reverse.lookup x):=by rw[<- yh];exact Lc
 have KU:∀ b o,s3.heap.get? b=some o->oJ.get? b=some o:=fun b o e=>by
  have hb:b≠s3.heap.objs.size:=cU (br e)
  rw[<- yh]at e hb
  exact K9.extBut b o hb (aU _ e)
 have J1:=FT S I3 f3 SI (t:=s2.toks+([]:List (Str × Value)).length) G1 KU
 have qr:tn 0 oJ := T.keep _ _ _ dS fun b hb o e=>KU b o (VQ b o e)
 -- vd loop
 have loop:∀ pH : Shared,pH = { s3 with heap:=oJ,toks:=s2.toks+([]:List (Str × Value)).length } ->
   codeAny (model X.prog X.w) X.A (.compLoop (.ListComp pQ [⟨tg,gD, [],0⟩] scope pos) 0 (.ref it) (.ref s2.heap.objs.size) (fo X scope (own ++ caps.map (·.1)) fp s3 (aJ H2 s2.heap.objs.size (.lst []))).env)
    (compPost (model X.prog X.w) X.A X.xe use Q' (.ref s2.heap.objs.size) s3.heap.objs.size) pH := by
  rintro pH rfl
  refine ZE (fun n s'=>∃ i τ ys H',Inv (fo X scope (own ++ caps.map (·.1)) fp s3 (aJ H2 s2.heap.objs.size (.lst []))) [] τ H' s'∧tn i s'.heap∧(∀ b∈fp,H' b=none)∧W i n τ ys H') ?_ m0
   ⟨0,_, [],_,J1,qr,fun b hb=>(f3 b hb).1,w0⟩
  rintro n s' ⟨i, τ,ys,H',J',aF,Ts,w'⟩
  have fY:∀ {oz:Hp},(∀ b∈fp,oz b=none)->∀ b∈fp,rA (fo X scope (own ++ caps.map (·.1)) fp s3 (aJ H2 s2.heap.objs.size (.lst []))) [] oz b:=fun hn b hb =>
   ⟨hn b hb,cU (SI b hb),fun z=>by
     rcases bo.mp (I3.As b z) with e | e
     ·exact(f3 b hb).2.1 e
     ·exact(f3 b hb).2.2.1 e,.inl hb,fun x c e=>(f3 b hb).2.2.2.2.1 x c (kS e),(fun p hp=>by cases hp)⟩
  obtain⟨hD,tt⟩:=vb i n τ ys H' w'
  rcases tt with⟨stop,qn⟩ | ⟨go,iw,step⟩
  ·refine cf (T.done (fo X scope (own ++ caps.map (·.1)) fp s3 (aJ H2 s2.heap.objs.size (.lst []))) rfl rfl rfl hc i [] s' τ H' (fun _ _=>False) J' (fY Ts) aF stop) fun r s4 ⟨hr,J4⟩ => ?_
   subst hr
   obtain⟨m4,hn4,_⟩:=J4.loc
   have I5:=Io I3 J4 f3
   refine gO _ _ _ s4 I5 qn ⟨m4,hn4⟩ J4.free ?_ ?_ (fun x c e z => ?_) fun p hp z => ?_
   ·exact qZ I3.lt
   ·exact I3.sz
   ·obtain⟨v,q⟩:=I3.cell x c e
    rw[z]at q
    exact absurd q.lt (eT _)
   ·have q:=(I3.pin p hp).1
    rw[z]at q
    exact absurd (br q) (eT _)
  ·refine cf (T.item (fo X scope (own ++ caps.map (·.1)) fp s3 (aJ H2 s2.heap.objs.size (.lst []))) rfl rfl rfl hc i [] s' τ H' (fun _ _=>False) J' (fY Ts) aF go) fun r s4 ⟨u,hr,h4⟩ => ?_
   subst hr
   refine cf h4 fun _ s5 ⟨x,H5,J5,r5,y5,gK,Tq⟩ => ?_
   have J5':=J5.pinned (fY Tq) (T.obj _ _ gK)
   refine cf (hg fp s3 _ _ s5 τ H5 x u _ J5' r5 (step x H5 y5)) fun _ s6 ⟨xT,H6,J6,q6⟩ => ?_
   refine cf (he fp s3 _ _ s6 xT H6 _ J6 q6) fun yv s7 ⟨y,H7,J7,r7,hD7,m',Fs,w7⟩ => ?_
   refine cf (gG (X:=fo X scope (own ++ caps.map (·.1)) fp s3 (aJ H2 s2.heap.objs.size (.lst []))) _ s7 xT H7 (.ref s2.heap.objs.size) [y] _ [yv] (fun _ H8=>H8=aJ H7 s2.heap.objs.size (.lst (ys ++ [y]))) J7 rfl (.cons r7 .nil) ⟨_,ys,y,rfl,rfl,hD7,iw,rfl⟩) fun _ s8 ⟨_,H8,J8,_,e8⟩ => ?_
   subst e8
   refine⟨m',Fs,i+1, xT,ys ++ [y],_,J8.rT,T.keep _ _ _ gK fun b hb o e=>(J8.pin (b,o) (bg _ (bg _ (o8 hb e)))).1,fun b hb => ?_,w7⟩
   obtain⟨o,e,d⟩:=T.obj _ _ gK b hb
   exact(J8.pin (b,o) (bg _ (bg _ (o8 hb e)))).2.1
 have Ft:=loop _ rfl
 subst yh
 exact codeAny_compStart_list Ft (T.self _ 0 _ _ _ qr Ft)
theorem sk {tg pQ gD:Expr}{wi:TI}{g:TG}{te:TE}{pos:Pos} (S:oX X scope own caps) (hi:PI X tg gD wi) (hc:X.calm=true)
  (hg:∀ fp s H,PG (fo X scope (own ++ caps.map (·.1)) fp s H) tg g) (he:∀ fp s H,PE (fo X scope (own ++ caps.map (·.1)) fp s H) pQ te)
  (hs:∀ x,foldedSetIterable gD X.env x=pure x:=by intro _;rfl):PE X (.ListComp pQ [⟨tg,gD, [],0⟩] scope pos) (WT wi g te own.length caps):=by
 intro ag s σ H Q I h
 rw[eval_ListComp]
 refine TR (use:=none) (Q:=Q) S hi hc hg he I h (fun D C H5 s5 I5 q ⟨m,hn⟩ hC hL hz xa VY => ?_) hs
 refine⟨m,hn,fun h' pB => ?_⟩
 exact⟨.ref D,H5,I5.turned (t':=s5.toks) (fun b o hb e=>(pB.2 b hb).trans e) hC hL (.inr hz) xa VY,rfl,q⟩
end
structure dh (P:Program) (w:World) (K:ak) (mg:Str->Option Value) (base:Heap) (k:Nat) (x:Str) (ps:List Str) (sp:Sp):Prop where
 ex:∃ f fd,kz P w K mg base DB k f fd ps sp∧mg x=some (.ref f)∧aB K (.ref f)=true∧Binds K fd ps []
section
variable {X:Cx} {k k':Nat}{x:Str}{ps:List Str}{sp:Sp}{p pos:Pos}{e:Expr}{es:List Expr}{t:TA}
theorem bh (h:dh X.prog X.w X.K X.mg X.base k x ps sp) (hr:eY k' X.A) (hk:k<=k') (hg:Gl X x) (ha:PA X (e :: es) t) (t7:(x == ("__debug__" : Str))=false:=by decide)
  (he:starEach (e :: es) X.env=(false,eval e X.env) :: starEach es X.env:=by rfl) (lZ:(backTo pos (starEach es X.env)).any (·.1)=false:=by rfl) :
  PE X (.Call (.Name x p) (e :: es) [] pos) (yT sp [] E0 t):=by
 obtain⟨f,fd,F,hm,Fv,hb⟩:=h.ex
 exact GL F (hr.mono hk) hg hm Fv hb .nil W8 ha t7 he lZ
end
structure Def (K:ak) (mg:Str->Option Value) (x:Str) (st:Stmt) (ps:List Str):Prop where
 ex:∃ f fd,Af K x x st f fd∧mg x=some (.ref f)∧Binds K fd ps []
theorem Def.has {P:Program}{w:World}{K:ak}{mg:Str->Option Value}{base:Heap}{x:Str}{st:Stmt}{N ps:List Str}{k:Nat}{sp:Sp} (D:Def K mg x st ps) (S:bI N ps (aw st)) (len:∀ vs H Q E,sp vs H Q E->vs.length=ps.length)
  (kO:∀ (f:Addr) (cw:Value) (A:Around) (outer:List Env) (s:Shared) (H:Hp) (vs:List V) (Q:VK) (E:XK),eY k (A.deeper (envOfC x (aw st) s.heap.objs.size f cw))->sp vs H Q E ->
   ∃ t,pT (dj DB P w K mg base N x (aw st) f cw A outer s H E).NU (bw st) t∧t { nx:=fun _ H'=>Q .cQ H',rt:=Q } (start N vs) H):dh P w K mg base (k+1) x ps sp:=by
 obtain⟨f,fd,F,hm,hb⟩:=D.ex
 exact⟨f,fd,F.ok S len (kO f),hm,F.kp,hb⟩
theorem aS {H:Hp}{p:Addr} (h:H p=none) (o:HO):bp H (aJ H p o):=fun b u q=>by rw[ax (fS q h)];exact q
theorem bp.tup {K:ak} {H H':Hp}{a:Addr}{xs:List V} (e:bp H H') (h:bP K H a xs):bP K H' a xs:=by
 rcases h with(h | ⟨o,h⟩) | h
 ·exact .inl (.inl (e _ _ h))
 ·exact .inl (.inr ⟨o,e _ _ h⟩)
 ·exact .inr h
theorem bp.put {H0 H:Hp}{p:Addr}{o:HO} (e:bp H0 H) (h:H0 p=none):bp H0 (aJ H p o):=fun b u q=>by rw[ax (fS q h)];exact e b u q
theorem TQ {K:ak}{a:Addr}{xs:List V}{te:TE}{σ : St}{caps:List (Str × Nat)}{H:Hp}{Q:VK} (f:V->V) (hS:bb K H a xs) (hz:xs.length<=1000)
  (ym:∀ x∈xs,∀ H',bp H H'->∀ Q':VK,Q' (f x) H'->te (some x :: jm σ caps) H' Q') (hq:∀ D,H D=none->Q (.ref D) (aJ H D (.lst (xs.map f)))) :
  zN (IX K a) (cg 0) te (bz 1 none ++ jm σ caps) H Q:=by
 intro D hD
 refine⟨fun i m τ ys H'=>m=xs.length - i∧i<=xs.length∧(∃ o, τ = o :: jm σ caps)∧ys=(xs.take i).map f∧H'=aJ H D (.lst ys),⟨xs.length,by simp,bD _,⟨none,rfl⟩,by simp,rfl⟩,?_⟩
 rintro i m τ ys H' ⟨rfl,hi,⟨o,rfl⟩,rfl,rfl⟩
 have sm:bp H (aJ H D (.lst ((xs.take i).map f))):=aS hD _
 refine⟨au,?_⟩
 by_cases eS:i < xs.length
 ·refine .inr ⟨⟨xs,xs[i],sm.seq hS,by simp[eS]⟩,?_,fun x oz y => ?_⟩
  ·rw[aq,bO]
   exact dE (by omega)
  obtain⟨e,y⟩:=y
  subst e
  have hx:=y xs (sm.seq hS)
  show te (some x :: jm σ caps) _ _
  refine ym x (aP hx) _ sm _ ?_
  refine⟨au,xs.length - (i+1),by omega,rfl,eS,⟨_,rfl⟩,?_,?_⟩
  ·rw[dD,hx,dX];rfl
  ·rw[GA]
 ·have e:i=xs.length:=by omega
  subst e
  refine .inl ⟨⟨xs,sm.seq hS,aA _⟩,?_⟩
  rw[d0]
  exact hq D hD
def Ir (Q3:Scope) (xN:List Str) (scope:Scope) (own:List Str) (caps:List (Str × Nat)):Bool :=
 scope.names.all (fun y=>y.2 != .cell) && scope.names.all (fun y=>y.2 != .local || scope.names.lookup y.1 == some .local) && scope.names.all (fun y=>y.2 != .free || Q3.names.lookup y.1 == some .cell)
  && own.all (fun x=>scope.names.lookup x == some .local) && caps.all (fun p=>xN[p.2]? == some p.1 && Q3.names.lookup p.1 == some .cell && scope.names.lookup p.1 == some .free)
theorem jx {X:Cx}{scope:Scope}{own:List Str}{caps:List (Str × Nat)} (Q3:Scope) (xN:List Str) (hx:X.env.scope=Q3) (hN:X.N=xN) (hk:scope.kind = .function) (c:Ir Q3 xN scope own caps=true):oX X scope own caps:=by
 unfold Ir at c
 simp only[fA,nq,Gx,bne_iff_ne,beq_iff_eq,ne_eq]at c
 obtain⟨⟨⟨⟨c1,c2⟩,c3⟩,c4⟩,c5⟩:=c
 refine⟨hk,c1,fun y hy e => ?_,fun y hy e => ?_,c4,fun p hp => ?_⟩
 ·rcases c2 y hy with z | z
  ·exact absurd e z
  ·exact z
 ·rcases c3 y hy with z | z
  ·exact absurd e z
  ·show X.env.scope.names.lookup y.1=_
   rw[hx];exact z
 ·obtain⟨⟨z1,z2⟩,z3⟩:=c5 p hp
  refine⟨by rw[hN];exact z1,?_,z3⟩
  show X.env.scope.names.lookup p.1=_
  rw[hx];exact z2
structure j0 (mg:Str->Option Value):Prop where
 gW:mg "len" = none
 aa6:mg "min" = none
 aa7:mg "max" = none
 avq:mg "sum" = none
 vx:mg "range" = none
 pf:mg "enumerate" = none
 C6:mg "isinstance" = none
 Ap:mg "tuple" = none
 avy:mg "int" = none
 avk:mg "bool" = none
 avr:mg "str" = none
 uM:mg "list" = none
theorem Iu:bootBuiltins "min" = some (.builtin "min"):=by decide +kernel
theorem Iw:bootBuiltins "max" = some (.builtin "max"):=by decide +kernel
theorem wd:bootBuiltins "isinstance" = some (.builtin "isinstance"):=by decide +kernel
theorem pR:bootBuiltins "tuple" = some (.type "tuple"):=by decide +kernel
theorem jW:bootBuiltins "list" = some (.type "list"):=by decide +kernel
theorem Paired.at {α β : Type}{F : α -> β -> Prop}:∀ {KO : List α}{KL : List β}{i:Nat}{a : α},Paired F KO KL -> KO[i]? = some a->∃ b,KL[i]? = some b∧F a b
 | _,_,_,_,.nil,e=>by simp at e
 | _,_,0,_,.cons h _,e=>by simp at e;subst e;exact⟨_,rfl,h⟩
 | _,_,i+1,a,.cons _ t,e=>by
  obtain⟨b,h1,h2⟩:=Paired.at (i:=i) (a:=a) t (by simpa using e)
  exact⟨b,by simpa using h1,h2⟩
theorem sj {j:Int} (h:decide (0 < j)=true:=by decide):0 < j:=of_decide_eq_true h
theorem ao3 {i j:Int} (h:(decide (0 < j) && decide (j < 1073741824))=true:=by decide):ahf i j :=
 ⟨of_decide_eq_true (gA.mp h).1,of_decide_eq_true (gA.mp h).2⟩
theorem dF {c A B:Prop} [Decidable c] (h1:c->A) (h2:¬ c->B):if decide c=true then A else B:=by
 by_cases h:c
 ·rw[decide_eq_true h];exact jI (h1 h)
 ·rw[decide_eq_false h];exact hZ (h2 h)
theorem zj {c A B:Prop} [Decidable c] (h1:¬ c->A) (h2:c->B):if (!decide c)=true then A else B:=by
 by_cases h:c
 ·rw[decide_eq_true h];exact hZ (h2 h)
 ·rw[decide_eq_false h];exact jI (h1 h)
def F2 (h:Heap) (e:Addr) (x:Value):Prop := ∃ o vs,h.get? e=some o∧o.data = .fields vs∧vs[2]? = some x
def apK:Option Addr->Value
 | none => .none
 | some a => .ref a
theorem F2.other {h:Heap}{e b:Addr}{x:Value}{f:Obj->Obj} (c:F2 h e x) (n:b≠e):F2 (h.update b f) e x:=by
 obtain⟨o,vs,a,d,i⟩:=c
 exact⟨o,vs,(fI _ _ n).trans a,d,i⟩
section
variable {M:Model}{A:Around}{E:Value->Shared->Prop}{s:Shared}
inductive u7 (l:List Env) (e:Addr) (oe:Obj) (L:Addr) (h h':Heap):Prop
 | mk (T:Addr) (oT:Obj) (ts:Array Value) (oI:∀ b o,b≠e->b ∉ l.filterMap (·.frame)->h.get? b=some o->h'.get? b=some o) (slots:∀ b o,b≠e->h.get? b=some o->∃ sl,h'.get? b=some { o with slots:=sl })
  (own:h'.get? e=some (oe.mapFields (·.setIfInBounds 1 (.ref T)))) (new:h.get? T=none) (ne:T≠e) (size:h.objs.size<=T) (there:h'.get? T=some oT) (data:oT.data = .fields ts) (fl:ts[3]? = some (rawInt L)):u7 l e oe L h h'
theorem We {base:Heap}{env:Env}{outer:List Env}{L e:Addr}{oe:Obj}{vs:Array Value}{hd:Value}{nx:Bool}{Q:Unit->Shared->Prop}
  (af:A.frames=some (env :: outer)) (ff:s.heap.FunFrames base (env :: outer)) (fL:env.frame=some L) (ge:s.heap.get? e=some oe) (gd:oe.data = .fields vs) (gz:1 < vs.size)
  (k:∀ h',u7 (env :: outer) e oe L s.heap h'->Q () { s with heap:=h' }) :
  wpAny M A (do let a <- frameOf env;let pl <- entryPlaceOf L nx;let b <- Aj hd a .none (rawInt L) .none pl;setField (.ref e) 1 b) Q E s:=by
 have jO:e ∉ (env :: outer).filterMap (·.frame):=fun m=>by
  obtain⟨_,o,q,nf⟩:=ff.mem m
  rw[ge]at q
  cases q
  exact nf vs gd
 refine wpAny_bind (wpAny_frameOf_fun af ff fL fun h1 sl => ?_)
 refine wpAny_bind (wpAny_entryPlaceOf fun pl hp => ?_)
 unfold Aj newFields
 refine wpAny_bind (wpAny_newObj_type ?_ (hp.sizeOk5 _ _ _ _ _))
 have g1:h1.get? e=some oe:=(sl.2.1 e jO).trans ge
 generalize hO:({ cls := .type "traceback",dict:=none,data := .fields ([hd,.ref L,.none,rawInt L,.none] ++ (if pl.isEmpty then bz 6 fT else pl)).toArray }:Obj)=oT
 have g2:=aU (h:=h1) oT g1
 refine wpAny_setField g2 gd gz (k _ ?_)
 have nT:h1.objs.size≠e:=qZ (br g1)
 have dd:=kW gd (·.setIfInBounds 1 (bA h1.objs.size))
 have up:∀ b o,b≠e->h1.get? b=some o->((h1.push oT).update e (pZ (·.setIfInBounds 1 (bA h1.objs.size)))).get? b=some o:=fun b o n q=>by
  rw[fI _ _ (bV n)]
  exact aU _ q
 refine⟨h1.objs.size,oT,_,fun b o n m q=>up b o n ((sl.2.1 b m).trans q),fun b o n q => ?_,mB _ g2 (yx dd),nu (eP sl.1.symm),nT,eP sl.1.symm,?_,(by rw[<- hO]),?_⟩
 ·obtain⟨x,q'⟩:=sl.2.2 b o q
  exact⟨x,up b _ n q'⟩
 ·rw[fI _ _ (bV nT)]
  exact bZ h1 (by rw[<- hO];rfl)
 ·first
   | (simp;done)
   | (rcases hp with rfl | ⟨_,_,_,_,_,_,_,rfl⟩ <;> simp)
theorem u7.ahE {base:Heap}{l:List Env}{e L:Addr}{oe:Obj}{vs:Array Value}{a0:Value} {h h':Heap} (x:u7 l e oe L h h') (kb:base.StaysIn h) (be:base.get? e=none) (ff:h.FunFrames base l) (gd:oe.data = .fields vs) (gz:1 < vs.size) (g0:vs[0]? = some a0) (ge:h.get? e=some oe) :
  Heap.NotedW base l e oe.cls a0 (rawInt L) h h':=by
 obtain⟨T,oT,ts,oI,slots,own,new,ne,size,there,data,fl⟩:=x
 have nr:∀ b o,h.get? b=some o->(∀ ws,o.data ≠ .fields ws)->b≠e:=fun b o q nf z=>by
  rw[z,ge]at q
  cases q
  exact nf vs gd
 refine⟨fun b o q=>oI b o (fun z=>by rw[z,be]at q;cases q) (fun m=>by rw[(ff.mem m).1]at q;cases q) (kb b o q),ff.of_keeps fun b o q nf => ?_,?_,fun b o q nf=>slots b o (nr b o q nf) q⟩
 ·obtain⟨sl,q'⟩:=slots b o (nr b o q nf) q
  exact⟨_,q',rfl⟩
 ·refine⟨_,_,T,oT,ts,own,⟨Obj.cls_mapFields _ _,?_⟩,kW gd _,by simp[gz],?_,ne,there,data,fl⟩
  ·rw[qC (by decide)];exact g0
  ·cases q:base.get? T with
   | none=>rfl
   | some o=>have:=kb _ _ q;rw[new]at this;cases this
theorem u7.ctx {l:List Env}{e L:Addr}{oe:Obj}{vs:Array Value} {h h':Heap}{y:Value} (x:u7 l e oe L h h') (gd:oe.data = .fields vs) (ge:h.get? e=some oe) (c:F2 h e y):F2 h' e y:=by
 obtain⟨T,oT,ts,oI,slots,own,new,ne,size,there,data,fl⟩:=x
 obtain⟨o,ws,q1,q2,q3⟩:=c
 rw[ge]at q1
 cases q1
 rw[gd]at q2
 cases q2
 exact⟨_,_,own,kW gd _,by rw[qC (by decide)];exact q3⟩
theorem Zi {base:Heap}{env:Env}{outer:List Env}{L e:Addr}{cls a0:Value}{Q:Unit->Shared->Prop} (af:A.frames=some (env :: outer)) (fL:env.frame=some L) (fl:rn base (env :: outer) e cls a0 s.heap)
  (k:∀ h',Heap.HeldW base (env :: outer) e cls a0 L h'->s.heap.UpToSlots h'->(∀ y,F2 s.heap e y->F2 h' e y)->Q () { s with heap:=h' }):wpAny M A (noteFrame (.ref e) env) Q E s:=by
 obtain⟨kb,be,ff,oe,vs,Tr,oT,ts,ge,⟨gc,g0⟩,gd,g1,bT,NW,gT,dT,g3⟩:=fl
 subst gc
 have gz:=(jM.mp g1).1
 unfold noteFrame
 simp only[fL]
 refine wpAny_bind (wpAny_field ge gd g1 ?_)
 rw[if_pos (show (bA Tr != fT)=true by simp)]
 refine wpAny_bind (wpAny_field gT dT g3 ?_)
 rw[if_neg (show ¬ ((fT == rawInt L)=true) by simp[rawInt])]
 refine wpAny_bind (wpAny_setField gT dT (jM.mp g3).1 ?_)
 have ot:∀ b,b≠Tr->(s.heap.update Tr (pZ (·.setIfInBounds 3 fT))).get? b=s.heap.get? b:=fun b n=>fI _ _ (bV n)
 have nr:∀ b o,s.heap.get? b=some o->(∀ ws,o.data ≠ .fields ws)->b≠Tr:=fun b o q nf z=>by
  rw[z,gT]at q
  cases q
  exact nf ts dT
 have ff1:=ff.of_keeps (h':=s.heap.update Tr (pZ (·.setIfInBounds 3 fT))) fun b o q nf=>⟨o,(ot b (nr b o q nf)).trans q,rfl⟩
 have kb1:base.StaysIn (s.heap.update Tr (pZ (·.setIfInBounds 3 fT))):=fun b o q=>(ot b fun z=>by rw[z,bT]at q;cases q).trans (kb b o q)
 have ge1:=(ot e (bV NW)).trans ge
 refine We (s := { s with heap:=_ }) af ff1 fL ge1 gd gz fun h' x => ?_
 obtain⟨n1,n2,n3,n4⟩:=x.ahE kb1 be ff1 gd gz g0 ge1
 exact k h' ⟨n1,be,n2,n3⟩ (fun b o q nf=>n4 b o ((ot b (nr b o q nf)).trans q) nf) fun y c=>x.ctx gd ge1 (c.other NW)
theorem QG {base:Heap}{l:List Env}{e:Addr}{cls a0 m:Value}{Q:Unit->Shared->Prop} (kb:base.StaysIn s.heap) (be:base.get? e=none) (ff:s.heap.FunFrames base l) (tr:s.heap.TracedAtW base e cls a0 m)
  (k:∀ h',rn base l e cls a0 h'->s.heap.UpToSlots h'->(∀ y,F2 s.heap e y->F2 h' e y)->Q () { s with heap:=h' }):wpAny M A (setFlight (.ref e) none) Q E s:=by
 obtain⟨oe,vs,Tr,oT,ts,ge,gc,gd,g1,bT,NW,gT,dT,g3⟩:=tr
 have z3:=(jM.mp g3).1
 have ot:∀ b,b≠Tr->(s.heap.update Tr (pZ (·.setIfInBounds 3 ((none:Option Addr).elim fT fun f=>rawInt f)))).get? b=s.heap.get? b:=fun b n=>fI _ _ (bV n)
 have nr:∀ b o,s.heap.get? b=some o->(∀ ws,o.data ≠ .fields ws)->b≠Tr:=fun b o q nf z=>by
  rw[z,gT]at q
  cases q
  exact nf ts dT
 unfold setFlight
 refine wpAny_bind (wpAny_field ge gd g1 ?_)
 rw[if_pos (show (bA Tr != fT)=true by simp)]
 refine wpAny_setField gT dT z3 (k _ ⟨fun b o q=>(ot b fun z=>by rw[z,bT]at q;cases q).trans (kb b o q),be,ff.of_keeps fun b o q nf=>⟨o,(ot b (nr b o q nf)).trans q,rfl⟩,?_⟩ (fun b o q nf=>⟨o.slots,(ot b (nr b o q nf)).trans q⟩) fun y c=>c.other NW)
 exact⟨oe,vs,Tr,_,_,(ot e (bV NW)).trans ge,gc,gd,g1,bT,NW,mB _ gT (yx (kW dT _)),kW dT _,by simp[z3]⟩
theorem VO {base:Heap}{env:Env}{outer:List Env}{L e:Addr}{cls a0:Value}{Q:Unit->Shared->Prop} (af:A.frames=some (env :: outer)) (fL:env.frame=some L) (fl:rn base (env :: outer) e cls a0 s.heap)
  (k:∀ h',rn base outer e cls a0 h'->s.heap.UpToSlots h'->(∀ y,F2 s.heap e y->F2 h' e y)->Q () { s with heap:=h' }):wpAny M A (leaving env (.ref e)) Q E s:=by
 unfold leaving
 refine wpAny_bind (Zi af fL fl fun h1 hh sl c1 => ?_)
 obtain⟨n1,n2,n3,n4⟩:=hh
 refine QG (s := { s with heap:=h1 }) n1 n2 n3 n4 fun h2 f2 sl2 c2 => ?_
 obtain⟨m1,m2,⟨_,_,m3⟩,m4⟩:=f2
 exact k h2 ⟨m1,m2,m3,m4⟩ (sl.trans sl2) fun y c=>c2 y (c1 y c)
end
section
variable {P:Program}{w:World} {H H':Hp} {h h':Heap}{a:Addr}{o:HO}
end
theorem Un.fly {fs:List Addr}{L:Addr} {BW H H':Hp}{h0 h h1 h2 B:Heap} (U1:Un fs [] BW H h0 h) (U2:Un (L :: fs) [] H H' h h1) (hL:h0.get? L=none)
  (X9:∀ b o,h.get? b=some o->b ∉ L :: fs->∃ o',B.get? b=some o') (k1:∀ b o,B.get? b=some o->h1.get? b=some o) (k2:∀ b o,B.get? b=some o->h2.get? b=some o)
  (sl:h1.UpToSlots h2) (nf:∀ b∈fs,∃ o,h1.get? b=some o∧∀ vs,o.data ≠ .fields vs):Un fs [] BW H' h0 h2:=by
 have nL:∀ b o,h0.get? b=some o->b ∉ fs->b ∉ L :: fs:=fun b o q hb z=>by
  rcases bo.mp z with z | z
  ·rw[z,hL]at q;cases q
  ·exact hb z
 refine⟨fun b o q n hb hx => ?_,fun b o q n hb hx => ?_,fun b o q n hx => ?_,fun b o q hx => ?_,fun b xs q=>U2.xr _ _ (U1.xr _ _ q),fun b o u q=>U2.v7 _ _ _ (U1.v7 _ _ _ q),fun b ps q => ?_⟩
 ·have q1:=U1.keep b o q n hb hx
  have q2:=U2.keep b o q1 (U1.free b o q n hx) (nL b o q hb) hx
  obtain⟨o',e⟩:=X9 b o q1 (nL b o q hb)
  have e1:=k1 _ _ e
  rw[q2]at e1
  cases e1
  exact k2 _ _ e
 ·obtain⟨s1,q1⟩:=U1.slot b o q n hb hx
  obtain⟨s2,q2⟩:=U2.slot b _ q1 (U1.free b o q n hx) (aK _ hb) hx
  obtain⟨ob,q3,d⟩:=nf b hb
  rw[q2]at q3
  cases q3
  obtain⟨s4,q4⟩:=sl b _ q2 d
  exact⟨s4,q4⟩
 ·obtain⟨o1,q1⟩:=U1.there b o q hx
  exact U2.free b o1 q1 (U1.free b o q n hx) hx
 ·by_cases hb:b∈fs
  ·obtain⟨ob,q3,d⟩:=nf b hb
   obtain⟨s4,q4⟩:=sl b _ q3 d
   exact⟨_,q4⟩
  ·obtain⟨o1,q1⟩:=U1.there b o q hx
   obtain⟨o',e⟩:=X9 b o1 q1 (nL b o q hb)
   exact⟨_,k2 _ _ e⟩
 ·obtain⟨m1,e1⟩:=U1.xt b ps q
  obtain⟨m2,e2⟩:=U2.xt b _ e1
  exact⟨m1 ++ m2,by rw[e2,B6]⟩
def pU (P:Program) (w:World):yM:=fun outer H s E e s'=>∃ (ea C:Addr) (a0:Value) (B:Heap) (H':Hp),e = .ref ea∧rn B outer ea (.ref C) a0 s'.heap∧s'.os=s.os∧AllBare s'.gens ∧
 jb P w H' B∧Un (oN outer) [] H H' s.heap s'.heap∧(∀ b o,s.heap.get? b=some o->b ∉ oN outer->∃ o',B.get? b=some o')∧∃ m:Option Addr,F2 s'.heap ea (apK m)∧E (.ref C) m H'
section
variable {P:Program}{w:World}{K:ak}{mg:Str->Option Value}{base:Heap}{N:List Str}{cV:Str}{scope:Scope}{f:Addr}{cw:Value}{A:Around}{outer:List Env}{s0 s:Shared}{H0 H:Hp} {E E':XK}
 {ag:List (Addr × Obj)}{σ : St}{CX:yM}
theorem Rt {e:Env}{L:Addr}{l:List Env} (h:e.frame=some L):oN (e :: l)=L :: oN l:=by
 unfold oN
 rw[dN,h]
theorem ahC (hE:∀ c m H',E' c m H'->E c m H'):Passes (pU P w) (dj (pU P w) P w K mg base N cV scope f cw A outer s0 H0 E) E':=by
 intro ag σ H s e s' I h
 obtain⟨ea,C,a0,B,H',rfl,fl,os,bare,bU,un,X9,m,hm,q⟩:=h
 have es:oN (envOfC cV scope s0.heap.objs.size f cw :: outer)=s0.heap.objs.size :: oN outer:=Rt rfl
 have Ib:Un (oN outer) [] H0 H s0.heap s.heap:=I.base
 have un':Un (s0.heap.objs.size :: oN outer) [] H H' s.heap s'.heap:=by rw[<- es];exact un
 have aeI:∀ b o,s.heap.get? b=some o->b ∉ s0.heap.objs.size :: oN outer->∃ o',B.get? b=some o':=fun b o z hb=>X9 b o z (by show b ∉ oN (envOfC cV scope s0.heap.objs.size f cw :: outer);rw[es];exact hb)
 show wpAny _ _ (leaving _ _) _ _ _
 refine VO I.ok.frames rfl fl fun h'' x1 x2 x3 => ?_
 refine⟨ea,C,a0,B,H',rfl,x1,os.trans I.os,bare,bU,?_,?_,m,x3 _ hm,hE _ _ _ q⟩
 ·refine Un.fly Ib un' (nu (aA _)) aeI fl.1 x1.1 x2 fun b hb => ?_
  obtain⟨_,o,z,d⟩:=fl.2.2.1.mem (b:=b) (by show b∈oN (envOfC cV scope s0.heap.objs.size f cw :: outer);rw[es];exact aK _ hb)
  exact⟨o,z,d⟩
 ·intro b o z hb
  obtain⟨o1,z1⟩:=Ib.there b o z (by simp)
  refine aeI b o1 z1 fun hm => ?_
  rcases bo.mp hm with y | y
  ·rw[y,nu (aA _)]at z;cases z
  ·exact hb y
end
end L2
namespace L2
open PySem PySem.Spec PyProof.Rows PySem.W
section
variable {prog:Program}{w:World}{A:Around}{E:Value->Shared->Prop}{h:Heap}{g:Array GenState}{d:Drawn}{t:Nat}{os:OsState}{a:Addr}{o:Obj}
 {nm q:Str}{C N:Addr}{bs bm:List Value}{V2:Bool}{sn:List Str}{sub:List Value}{ab:Bool}{col:Option Bool}{dd:Option Addr}{k0 k1 k2 k3 k5:Option Value}{P7:String}
end
end L2
namespace L2
open PySem PySem.Spec PyProof.Rows
section
variable {X:Cx}{ag:List (Addr × Obj)}{σ : St}{H:Hp}{s:Shared}{xe:Value->Shared->Prop}{A:Around}
end
section
variable {X:Cx}{ag:List (Addr × Obj)}{σ : St} {H0 H':Hp} {s0 s':Shared}{ea C:Addr}{a0:Value}{B h5:Heap}{env:Env}{outer:List Env}
end
section
variable {X:Cx}{k:Nat}{f:Addr}{fd:FuncData}{ps:List Str}{sp:Sp}{fh:List V}{ds:List Value}{x:Str}{p pos:Pos}{e:Expr}{es:List Expr}{t:TA}
end
section
variable {X:Cx}
theorem iu {x:Str}{i:Int}{pos:Pos} (h:∃ t,X.mg x=some (.int i t)) (hg:Gl X x) (hd:(x == ("__debug__" : Str))=false:=by decide):PE X (.Name x pos) (tC (.int i)) :=
 let ⟨t,e⟩:=h;uY hg e ⟨t,rfl⟩ hd
end
theorem Af.okE {P:Program}{w:World}{K:ak}{mg:Str->Option Value}{base:Heap}{x cV:Str}{st:Stmt}{f:Addr}{fd:FuncData}{N ps:List Str}{k:Nat}{sp:Sp} (F:Af K x cV st f fd) (S:bI N ps (aw st)) (len:∀ vs H Q E,sp vs H Q E->vs.length=ps.length)
  (kO:∀ (cw:Value) (A:Around) (outer:List Env) (s:Shared) (H:Hp) (vs:List V) (Q:VK) (E:XK),eY k (A.deeper (envOfC cV (aw st) s.heap.objs.size f cw))->sp vs H Q E ->
   ∃ t,pT (dj (pU P w) P w K mg base N cV (aw st) f cw A outer s H E) (bw st) t∧t { nx:=fun _ H'=>Q .cQ H',rt:=Q } (start N vs) H):kz P w K mg base (pU P w) (k+1) f fd ps sp:=by
 obtain⟨oc,od,kV,doc,pm,an,cw,ct,yc,rfl,lk,oK⟩:=F.ex
 exact Jv lk oK S len fun A outer s H vs Q E hr wX=>kO cw A outer s H vs Q E hr wX
structure mC (P:Program) (w:World) (K:ak) (mg:Str->Option Value) (base:Heap) (k:Nat) (C:Addr) (m:Str) (ps:List Str) (sp:Sp):Prop where
 ex:∃ f fd,kz P w K mg base (pU P w) k f fd ps sp∧Meth K C m f∧Binds K fd ps []
structure ux (P:Program) (w:World) (K:ak) (mg:Str->Option Value) (base:Heap) (k:Nat) (x:Str) (C:Addr) (ps:List Str) (sp:Sp):Prop where
 ex:∃ f fd,kz P w K mg base (pU P w) k f fd ps sp∧mg x=some (.ref C)∧Mk K C f∧Binds K fd ps []
structure kC (K:ak) (C:Addr) (m cV:Str) (st:Stmt) (ps:List Str):Prop where
 ex:∃ f fd,Af K m cV st f fd∧Meth K C m f∧Binds K fd ps []
structure tH (K:ak) (mg:Str->Option Value) (x:Str) (C:Addr) (cV:Str) (st:Stmt) (ps:List Str):Prop where
 ex:∃ f fd,Af K "__init__" cV st f fd∧mg x=some (.ref C)∧Mk K C f∧Binds K fd ps []
section
variable {P:Program}{w:World}{K:ak}{mg:Str->Option Value}{base:Heap}{x m cV:Str}{C:Addr}{st:Stmt}{N ps:List Str}{k:Nat}{sp:Sp}
theorem kC.has (D:kC K C m cV st ps) (S:bI N ps (aw st)) (len:∀ vs H Q E,sp vs H Q E->vs.length=ps.length)
  (kO:∀ (f:Addr) (cw:Value) (A:Around) (outer:List Env) (s:Shared) (H:Hp) (vs:List V) (Q:VK) (E:XK),eY k (A.deeper (envOfC cV (aw st) s.heap.objs.size f cw))->sp vs H Q E ->
   ∃ t,pT (dj (pU P w) P w K mg base N cV (aw st) f cw A outer s H E) (bw st) t∧t { nx:=fun _ H'=>Q .cQ H',rt:=Q } (start N vs) H):mC P w K mg base (k+1) C m ps sp:=by
 obtain⟨f,fd,F,hm,hb⟩:=D.ex
 exact⟨f,fd,F.okE S len (kO f),hm,hb⟩
theorem tH.has (D:tH K mg x C cV st ps) (S:bI N ps (aw st)) (len:∀ vs H Q E,sp vs H Q E->vs.length=ps.length)
  (kO:∀ (f:Addr) (cw:Value) (A:Around) (outer:List Env) (s:Shared) (H:Hp) (vs:List V) (Q:VK) (E:XK),eY k (A.deeper (envOfC cV (aw st) s.heap.objs.size f cw))->sp vs H Q E ->
   ∃ t,pT (dj (pU P w) P w K mg base N cV (aw st) f cw A outer s H E) (bw st) t∧t { nx:=fun _ H'=>Q .cQ H',rt:=Q } (start N vs) H):ux P w K mg base (k+1) x C ps sp:=by
 obtain⟨f,fd,F,hm,hb⟩:=D.ex
 exact⟨f,fd,F.okE S len (kO f),hm,hb⟩
end
section
variable {X:Cx} {k k':Nat}{x m:Str}{C:Addr}{ps:List Str}{sp:Sp}{p pos eN:Pos}{e o:Expr}{es:List Expr}{ta:TE}{t:TA}{E:XK}
theorem pV {pl:Sem Bool} (h:mC X.prog X.w X.K X.mg X.base k C m ps sp) (c:nK X.K C) (hr:eY k' X.A) (hk:k<=k') (hx:Passes (pU X.prog X.w) X E) (he:PE X o ta) (ha:PA X (e :: es) t)
  (jZ:starEach (e :: es) X.env=(false,eval e X.env) :: starEach es X.env:=by rfl) (lZ:(backTo pos (starEach es X.env)).any (·.1)=false:=by rfl)
  (ht:eval (.Call (.Attribute o m eN) (e :: es) [] pos) X.env=(do
   let ov <- eval o X.env
   standAt eN.atName
   let (f,first) <- holding [ov] (getMethod ov m pl)
   callWith pos f first (backTo pos (starEach (e :: es) X.env)) (backToKw pos (keywordEach [] X.env))):=by rfl) :
  PE X (.Call (.Attribute o m eN) (e :: es) [] pos) (EO C m sp [] E ta t):=by
 obtain⟨f,fd,F,hm,hb⟩:=h.ex
 exact NF he c hm F (hr.mono hk) hb .nil hx ha jZ lZ ht
theorem aaz {pl:Sem Bool} (h:mC X.prog X.w X.K X.mg X.base k C m ps sp) (c:nK X.K C) (hr:eY k' X.A) (hk:k<=k') (hx:Passes (pU X.prog X.w) X E) (he:PE X o ta)
  (ht:eval (.Call (.Attribute o m eN) [] [] pos) X.env=(do
   let ov <- eval o X.env
   standAt eN.atName
   let (f,first) <- holding [ov] (getMethod ov m pl)
   callWith pos f first (backTo pos (starEach [] X.env)) (backToKw pos (keywordEach [] X.env))):=by rfl) :
  PE X (.Call (.Attribute o m eN) [] [] pos) (EO C m sp [] E ta JL):=by
 obtain⟨f,fd,F,hm,hb⟩:=h.ex
 exact Vo he c hm F (hr.mono hk) hb .nil hx ht
theorem vB (h:ux X.prog X.w X.K X.mg X.base k x C ps sp) (hr:eY k' X.A) (hk:k+1<=k') (hx:Passes (pU X.prog X.w) X E) (hg:Gl X x) (ha:PA X (e :: es) t) (t7:(x == ("__debug__" : Str))=false:=by decide)
  (he:starEach (e :: es) X.env=(false,eval e X.env) :: starEach es X.env:=by rfl) (lZ:(backTo pos (starEach es X.env)).any (·.1)=false:=by rfl) :
  PE X (.Call (.Name x p) (e :: es) [] pos) (WS C sp [] E t):=by
 obtain⟨f,fd,F,hm,M,hb⟩:=h.ex
 exact Y0 M F (hr.mono hk) hg hm hb .nil hx ha t7 he lZ
end
section
variable {X:Cx}
inductive Dv (xs:List V) (H:Hp) (Q:VK):Prop
 | mk:∀ a,(xs = [.int a])->(Q (.int (if a < 0 then -a else a)) H)->Dv xs H Q
theorem T4:lQ X (.builtin "abs") (fun xs H Q=>Dv xs H Q):=by
 intro ag s σ H xs us Q I r h
 obtain⟨a,rfl,q⟩:=h
 obtain⟨u,rfl,rx⟩:=Vals.one r
 obtain⟨tk,rfl⟩:=rx
 exact call_abs_int fun u tk=>⟨.int _,H,I.tok _,⟨_,rfl⟩,q⟩
theorem T8:bootBuiltins "abs" = some (.builtin "abs"):=by rfl
end
theorem Im {K:ak}{a:Addr}{xs ys:List V}{te:TE}{σ : St}{caps:List (Str × Nat)}{H:Hp}{Q:VK} (hS:bP K H a xs) (hz:xs.length<=1000) (hy:ys.length=xs.length)
  (ym:∀ (i:Nat) (x y:V),xs[i]? = some x->ys[i]? = some y->∀ H',bp H H'->∀ Q':VK,(∀ oz,bp H' oz->Q' y oz)->te (some x :: jm σ caps) H' Q') (hq:∀ D H',H D=none->bp H H'->H' D=some (.lst ys)->Q (.ref D) H') :
  zN (O9 K a) (cg 0) te (bz 1 none ++ jm σ caps) H Q:=by
 intro D hD
 refine⟨fun i m τ zs H'=>m=xs.length - i∧i<=xs.length∧(∃ o, τ = o :: jm σ caps)∧zs=ys.take i∧bp H H'∧H' D=some (.lst zs),⟨xs.length,by simp,bD _,⟨none,rfl⟩,by simp,aS hD _,au⟩,?_⟩
 rintro i m τ zs H' ⟨rfl,hi,⟨o,rfl⟩,rfl,sm,xb⟩
 refine⟨xb,?_⟩
 by_cases eS:i < xs.length
 ·refine .inr ⟨⟨xs,xs[i],sm.tup hS,by simp[eS]⟩,?_,fun x oz y => ?_⟩
  ·rw[bO]
   exact dE (by omega)
  obtain⟨e,y⟩:=y
  subst e
  have hx:=y xs (sm.tup hS)
  have hyi:ys[i]? = some ys[i]:=ah (by omega)
  show te (some x :: jm σ caps) _ _
  refine ym i x ys[i] hx hyi _ sm _ (fun H2 s2 => ?_)
  refine⟨s2 _ _ xb,xs.length - (i+1),by omega,rfl,eS,⟨_,rfl⟩,?_,(sm.trans s2).put hD,?_⟩
  ·rw[dD,hyi];rfl
  ·rw[au]
 ·have e:i=xs.length:=by omega
  subst e
  refine .inl ⟨⟨xs,sm.tup hS,aA _⟩,?_⟩
  rw[<- hy,d0]at xb
  exact hq D H' hD sm xb
inductive D where
 | cQ | int (i:Int) | str (x:Str) | tup (ds:List D) | lst (ds:List D)
instance:DecidableEq D:=fun _ _=>pG _
mutual
def D.deep:D->Nat
 | .tup ds=>D.jV ds+1
 | .lst ds=>D.jV ds+1
 | .cQ=>0
 | .int _=>0
 | .str _=>0
def D.jV:List D->Nat
 | []=>0
 | d :: ds=>max d.deep (D.jV ds)
end
theorem zC:∀ {ds:List D}{d:D},d∈ds->d.deep<=D.jV ds
 | e :: ds,d,h=>by
  rw[D.jV]
  rcases bo.mp h with rfl | h
  ·omega
  ·have:=zC h;omega
mutual
def cx (h:Heap):D->Value->Prop
 | .cQ,u=>u=fT
 | .int i,u=>(∃ t,u=mJ i t)∨∃ b,u=iH b∧i=(if b then 1 else 0)
 | .str x,u=>∃ t,u=ud x t
 | .tup ds,u=>∃ a us,u=bA a∧h.IsTuple a us.toArray∧gg h ds us
 | .lst ds,u=>∃ a us,u=bA a∧h.IsList a us.toArray∧gg h ds us
def gg (h:Heap):List D->List Value->Prop
 | [],us=>us = []
 | d :: ds,us=>∃ u fc,us=u :: fc∧cx h d u∧gg h ds fc
end
mutual
def Den (H:Hp):D->V->Prop
 | .cQ,v=>v = .cQ
 | .int i,v=>v = .int i∨∃ b,v = .bl b∧i=(if b then 1 else 0)
 | .str x,v=>v = .str x
 | .tup ds,v=>∃ a vs,v = .ref a∧H a=some (.tup vs)∧wF H ds vs
 | .lst ds,v=>∃ a vs,v = .ref a∧H a=some (.lst vs)∧wF H ds vs
def wF (H:Hp):List D->List V->Prop
 | [],vs=>vs = []
 | d :: ds,vs=>∃ v va,vs=v :: va∧Den H d v∧wF H ds va
end
theorem hJ {h:Heap}:∀ {ds:List D}{us:List Value},gg h ds us->us.length=ds.length
 | [],us,r=>by rw[gg]at r;subst r;rfl
 | d :: ds,us,r=>by
  rw[gg]at r
  obtain⟨u,fc,rfl,_,r⟩:=r
  rw[b8,b8,hJ r]
theorem qm {h:Heap}:∀ {ds:List D}{us:List Value}{j:Nat}{d:D},gg h ds us->ds[j]? = some d->∃ u,us[j]? = some u∧cx h d u
 | [],us,j,d,r,e=>by simp at e
 | c :: ds,us,0,d,r,e=>by
  rw[gg]at r
  obtain⟨u,fc,rfl,r1,_⟩:=r
  simp at e;subst e
  exact⟨u,rfl,r1⟩
 | c :: ds,us,j+1,d,r,e=>by
  rw[gg]at r
  obtain⟨u,fc,rfl,_,r⟩:=r
  obtain⟨u',e',r'⟩:=qm (j:=j) (d:=d) r (by simpa using e)
  exact⟨u',by simpa using e',r'⟩
theorem TJ {H:Hp}{d:D}{v:V}{ds:List D}{vs:List V} (r:Den H d v) (q:wF H ds vs):wF H (d :: ds) (v :: vs):=by
 rw[wF];exact⟨v,vs,rfl,r,q⟩
theorem Wi {H:Hp}:wF H [] []:=by rw[wF]
mutual
theorem yq {P:Program}{w:World}{H:Hp}{h:Heap} (ok:jb P w H h):∀ {d:D}{v:V}{u:Value},Den H d v->RelV v u->cx h d u
 | .cQ,v,u,r,q=>by rw[Den]at r;subst r;rw[cx];exact q
 | .int i,v,u,r,q=>by
  rw[Den]at r
  rw[cx]
  rcases r with rfl | ⟨b,rfl,e⟩
  ·exact .inl q
  ·exact .inr ⟨b,q,e⟩
 | .str x,v,u,r,q=>by rw[Den]at r;subst r;rw[cx];exact q
 | .tup ds,v,u,r,q=>by
  rw[Den]at r
  obtain⟨a,vs,rfl,e,r⟩:=r
  rw[cx]
  obtain⟨_,its,rv,p⟩:=(show d8 P w H h a (.tup vs) from ok a _ e)
  exact⟨a,its,q,p.tup,Ec ok r rv⟩
 | .lst ds,v,u,r,q=>by
  rw[Den]at r
  obtain⟨a,vs,rfl,e,r⟩:=r
  rw[cx]
  obtain⟨_,its,n,rv,p⟩:=(show d8 P w H h a (.lst vs) from ok a _ e)
  exact⟨a,its,q,⟨_,p,rfl,n,rfl⟩,Ec ok r rv⟩
theorem Ec {P:Program}{w:World}{H:Hp}{h:Heap} (ok:jb P w H h):∀ {ds:List D}{vs:List V}{us:List Value},wF H ds vs->Vals vs us->gg h ds us
 | [],vs,us,r,q=>by rw[wF]at r;subst r;cases q;rw[gg]
 | d :: ds,vs,us,r,q=>by
  rw[wF]at r
  obtain⟨v,va,rfl,r1,r⟩:=r
  cases q with
  | cons q1 q2 =>
   rw[gg]
   exact⟨_,_,rfl,yq ok r1 q1,Ec ok r q2⟩
end
theorem M7 {h:Heap}{a:Addr}{x y:Array Value} (p:h.IsTuple a x) (q:h.IsTuple a y):x=y:=by
 obtain⟨o,e,_,n,d⟩:=p
 obtain⟨o',e',_,n',d'⟩:=q
 rw[e]at e';cases e'
 rw[d]at d'
 injection d'
theorem Zp {h:Heap}{a:Addr}{x y:Array Value} (p:h.IsList a x) (q:h.IsList a y):x=y:=by
 obtain⟨o,e,_,n,d⟩:=p
 obtain⟨o',e',_,n',d'⟩:=q
 rw[e]at e';cases e'
 rw[d]at d'
 injection d'
theorem N1 {h:Heap}{a:Addr}{x y:Array Value} (p:h.IsList a x) (q:h.IsTuple a y):False:=by
 obtain⟨o,e,c,n,d⟩:=p
 obtain⟨o',e',c',n',d'⟩:=q
 rw[e]at e';cases e'
 rw[c]at c'
 exact absurd (tf c') (by decide)
mutual
theorem Ee {h:Heap}:∀ {d e:D}{u:Value},cx h d u->cx h e u->d=e
 | .cQ,e,u,r,q=>by
  rw[cx]at r;subst r
  cases e with
  | cQ=>rfl
  | int i=>rw[cx]at q;rcases q with⟨t,z⟩ | ⟨b,z,_⟩ <;> cases z
  | str x=>rw[cx]at q;obtain⟨t,z⟩:=q;cases z
  | tup es=>rw[cx]at q;obtain⟨a,us,z,_⟩:=q;cases z
  | lst es=>rw[cx]at q;obtain⟨a,us,z,_⟩:=q;cases z
 | .int i,e,u,r,q=>by
  rw[cx]at r
  cases e with
  | cQ=>rw[cx]at q;subst q;rcases r with⟨t,z⟩ | ⟨b,z,_⟩ <;> cases z
  | int j =>
   rw[cx]at q
   rcases r with⟨t,rfl⟩ | ⟨b,rfl,hb⟩ <;> rcases q with⟨t',z⟩ | ⟨b',z,gH⟩ <;> cases z
   ·rfl
   ·rw[hb,gH]
  | str x=>rw[cx]at q;obtain⟨t,rfl⟩:=q;rcases r with⟨t,z⟩ | ⟨b,z,_⟩ <;> cases z
  | tup es=>rw[cx]at q;obtain⟨a,us,rfl,_⟩:=q;rcases r with⟨t,z⟩ | ⟨b,z,_⟩ <;> cases z
  | lst es=>rw[cx]at q;obtain⟨a,us,rfl,_⟩:=q;rcases r with⟨t,z⟩ | ⟨b,z,_⟩ <;> cases z
 | .str x,e,u,r,q=>by
  rw[cx]at r
  obtain⟨t,rfl⟩:=r
  cases e with
  | cQ=>rw[cx]at q;cases q
  | int i=>rw[cx]at q;rcases q with⟨t,z⟩ | ⟨b,z,_⟩ <;> cases z
  | str x=>rw[cx]at q;obtain⟨t,z⟩:=q;cases z;rfl
  | tup es=>rw[cx]at q;obtain⟨a,us,z,_⟩:=q;cases z
  | lst es=>rw[cx]at q;obtain⟨a,us,z,_⟩:=q;cases z
 | .tup ds,e,u,r,q=>by
  rw[cx]at r
  obtain⟨a,us,rfl,p,r⟩:=r
  cases e with
  | cQ=>rw[cx]at q;cases q
  | int i=>rw[cx]at q;rcases q with⟨t,z⟩ | ⟨b,z,_⟩ <;> cases z
  | str x=>rw[cx]at q;obtain⟨t,z⟩:=q;cases z
  | tup es =>
   rw[cx]at q;obtain⟨a',fc,z,p',q⟩:=q;cases z
   have e:us=fc:=by have:=M7 p p';simpa using this
   subst e
   rw[BD r q]
  | lst es=>rw[cx]at q;obtain⟨a',fc,z,p',_⟩:=q;cases z;exact absurd p (fun p=>N1 p' p)
 | .lst ds,e,u,r,q=>by
  rw[cx]at r
  obtain⟨a,us,rfl,p,r⟩:=r
  cases e with
  | cQ=>rw[cx]at q;cases q
  | int i=>rw[cx]at q;rcases q with⟨t,z⟩ | ⟨b,z,_⟩ <;> cases z
  | str x=>rw[cx]at q;obtain⟨t,z⟩:=q;cases z
  | tup es=>rw[cx]at q;obtain⟨a',fc,z,p',_⟩:=q;cases z;exact absurd p (fun p=>N1 p p')
  | lst es =>
   rw[cx]at q;obtain⟨a',fc,z,p',q⟩:=q;cases z
   have e:us=fc:=by have:=Zp p p';simpa using this
   subst e
   rw[BD r q]
theorem BD {h:Heap}:∀ {ds es:List D}{us:List Value},gg h ds us->gg h es us->ds=es
 | [],es,us,r,q=>by
  rw[gg]at r;subst r
  cases es with
  | nil=>rfl
  | cons e es=>rw[gg]at q;obtain⟨u,fc,z,_⟩:=q;cases z
 | d :: ds,es,us,r,q=>by
  rw[gg]at r
  obtain⟨u,fc,rfl,r1,r⟩:=r
  cases es with
  | nil=>rw[gg]at q;cases q
  | cons e es =>
   rw[gg]at q;obtain⟨u',Pm,z,q1,q⟩:=q
   cases z
   rw[Ee r1 q1,BD r q]
end
theorem Ef {p:Prop} [Decidable p] {b:Bool} (h:p↔b=true):b=decide p:=by
 cases b with
 | true=>exact(decide_eq_true (h.mpr rfl)).symm
 | false=>exact(decide_eq_false fun z=>bW (h.mp z)).symm
theorem LX (ds es:List D):((bB (min ds.length es.length)).all (fun j=>decide (ds[j]? = es[j]?)) && ds.length == es.length)=decide (ds=es):=by
 refine Ef ⟨fun h=>by subst h;simp,fun h => ?_⟩
 rw[fA,nq]at h
 have hl:ds.length=es.length:=eq_of_beq h.2
 refine dP fun j => ?_
 by_cases hj:j < ds.length
 ·exact of_decide_eq_true (h.1 j (di.mpr (by omega)))
 ·rw[b5 (by omega),b5 (by omega)]
theorem OM (ds es:List D) (hl:ds.length=es.length):(bB ds.length).all (fun j=>decide (ds[j]? = es[j]?))=decide (ds=es):=by
 have:=LX ds es
 rw[<- hl,Nat.min_self]at this
 simpa using this
section
open SeqAt
variable {A:Around}{s:Shared}
theorem bR {u v:Value}{b c:Bool} (h:EqAt A s u v b) (e:b=c):EqAt A s u v c:=e ▸ h
theorem Tw:∀ (n:Nat) {d e:D}{A:Around}{u v:Value},d.deep<=n->cx s.heap d u->cx s.heap e v->A.units+n < cLine->EqAt A s u v (decide (d=e)):=by
 intro n
 induction n with
 | zero => ?_
 | succ n ih => ?_
 all_goals intro d e A u v hn r q hu
 all_goals have nH:A.units < cLine:=by omega
 all_goals cases d with
  | cQ =>
   rw[cx]at r;subst r
   cases e with
   | cQ=>rw[cx]at q;subst q;exact bR (EqAt.same _) (decide_eq_true rfl).symm
   | int j =>
    rw[cx]at q
    rcases q with⟨t,rfl⟩ | ⟨b,rfl,_⟩
    ·exact bR (EqAt.none_int j t) (decide_eq_false (fun z=>nomatch z)).symm
    ·exact bR (EqAt.none_bool b) (decide_eq_false (fun z=>nomatch z)).symm
   | str y=>rw[cx]at q;obtain⟨t,rfl⟩:=q;exact bR (EqAt.none_str y t) (decide_eq_false (fun z=>nomatch z)).symm
   | tup es=>rw[cx]at q;obtain⟨a,us,rfl,p,_⟩:=q;exact bR (EqAt.none_tuple p nH) (decide_eq_false (fun z=>nomatch z)).symm
   | lst es=>rw[cx]at q;obtain⟨a,us,rfl,p,_⟩:=q;exact bR (EqAt.none_list p nH) (decide_eq_false (fun z=>nomatch z)).symm
  | int i =>
   rw[cx]at r
   cases e with
   | cQ =>
    rw[cx]at q;subst q
    rcases r with⟨t,rfl⟩ | ⟨b,rfl,_⟩
    ·exact bR (EqAt.int_none i t) (decide_eq_false (fun z=>nomatch z)).symm
    ·exact bR (EqAt.bool_none b) (decide_eq_false (fun z=>nomatch z)).symm
   | int j =>
    rw[cx]at q
    have key:∀ x y:Int,(x == y)=decide (D.int x=D.int y):=fun x y=>Ef ⟨fun z=>by cases z;simp,fun z=>by rw[eq_of_beq z]⟩
    rcases r with⟨t,rfl⟩ | ⟨b,rfl,hb⟩ <;> rcases q with⟨t',rfl⟩ | ⟨b',rfl,gH⟩
    ·exact bR (EqAt.int_int i t j t') (key i j)
    ·rw[gH];exact bR (EqAt.int_bool i t b') (key _ _)
    ·rw[hb];exact bR (EqAt.bool_int b j t') (key _ _)
    ·rw[hb,gH];exact bR (EqAt.bool_bool b b') (by rw[<- key];cases b <;> cases b' <;> rfl)
   | str y =>
    rw[cx]at q;obtain⟨t,rfl⟩:=q
    rcases r with⟨t',rfl⟩ | ⟨b,rfl,_⟩
    ·exact bR (EqAt.int_str i t' y t) (decide_eq_false (fun z=>nomatch z)).symm
    ·exact bR (EqAt.bool_str b y t) (decide_eq_false (fun z=>nomatch z)).symm
   | tup es =>
    rw[cx]at q;obtain⟨a,us,rfl,p,_⟩:=q
    rcases r with⟨t',rfl⟩ | ⟨b,rfl,_⟩
    ·exact bR (EqAt.int_tuple i t' p nH) (decide_eq_false (fun z=>nomatch z)).symm
    ·exact bR (EqAt.bool_tuple b p nH) (decide_eq_false (fun z=>nomatch z)).symm
   | lst es =>
    rw[cx]at q;obtain⟨a,us,rfl,p,_⟩:=q
    rcases r with⟨t',rfl⟩ | ⟨b,rfl,_⟩
    ·exact bR (EqAt.int_list i t' p nH) (decide_eq_false (fun z=>nomatch z)).symm
    ·exact bR (EqAt.bool_list b p nH) (decide_eq_false (fun z=>nomatch z)).symm
  | str x =>
   rw[cx]at r;obtain⟨t',rfl⟩:=r
   cases e with
   | cQ=>rw[cx]at q;subst q;exact bR (EqAt.str_none x t') (decide_eq_false (fun z=>nomatch z)).symm
   | int j =>
    rw[cx]at q
    rcases q with⟨t,rfl⟩ | ⟨b,rfl,_⟩
    ·exact bR (EqAt.str_int x t' j t) (decide_eq_false (fun z=>nomatch z)).symm
    ·exact bR (EqAt.str_bool x t' b) (decide_eq_false (fun z=>nomatch z)).symm
   | str y =>
    rw[cx]at q;obtain⟨t,rfl⟩:=q
    exact bR (EqAt.str_str x t' y t) (Ef ⟨fun z=>by cases z;simp,fun z=>by rw[eq_of_beq z]⟩)
   | tup es=>rw[cx]at q;obtain⟨a,us,rfl,p,_⟩:=q;exact bR (EqAt.str_tuple x t' p nH) (decide_eq_false (fun z=>nomatch z)).symm
   | lst es=>rw[cx]at q;obtain⟨a,us,rfl,p,_⟩:=q;exact bR (EqAt.str_list x t' p nH) (decide_eq_false (fun z=>nomatch z)).symm
  | tup ds => ?_
  | lst ds => ?_
 ·rw[D.deep]at hn;omega
 ·rw[D.deep]at hn;omega
 ·rw[D.deep]at hn
  have r0:=r
  rw[cx]at r
  obtain⟨a,us,rfl,p,r⟩:=r
  cases e with
  | cQ=>rw[cx]at q;subst q;exact bR (EqAt.tuple_none p nH) (decide_eq_false (fun z=>nomatch z)).symm
  | int j =>
   rw[cx]at q
   rcases q with⟨t,rfl⟩ | ⟨b,rfl,_⟩
   ·exact bR (EqAt.tuple_int j t p nH) (decide_eq_false (fun z=>nomatch z)).symm
   ·exact bR (EqAt.tuple_bool b p nH) (decide_eq_false (fun z=>nomatch z)).symm
  | str y=>rw[cx]at q;obtain⟨t,rfl⟩:=q;exact bR (EqAt.tuple_str y t p nH) (decide_eq_false (fun z=>nomatch z)).symm
  | tup es =>
   have q0:=q
   rw[cx]at q
   obtain⟨b,fc,rfl,p',q⟩:=q
   by_cases Bv:a=b
   ·subst Bv
    rw[Ee r0 q0]
    exact bR (EqAt.same _) (decide_eq_true rfl).symm
   ·refine bR (EqAt.of_refs Bv (RcAt.tuples (e:=fun j=>decide (ds[j]? = es[j]?)) p p' nH fun j h1 h2 => ?_)) ?_
    ·have l1:=hJ r
     have l2:=hJ q
     have Tp:j < us.length:=by simpa using h1
     have To:j < fc.length:=by simpa using h2
     have e1:=ah (l:=ds) (i:=j) (by omega)
     have e2:=ah (l:=es) (i:=j) (by omega)
     obtain⟨u,f1,g1⟩:=qm r e1
     obtain⟨v,f2,g2⟩:=qm q e2
     have z1:us.toArray[j]=u:=by rw[ah Tp]at f1;simpa using f1
     have z2:fc.toArray[j]=v:=by rw[ah To]at f2;simpa using f2
     rw[z1,z2]
     have:=ih (d:=ds[j]) (e:=es[j]) (A:=A.in1) (by have:=zC (nh (l:=ds) (n:=j) (by omega));omega) g1 g2 (by show A.units+1+n < cLine;omega)
     refine bR this ?_
     rw[e1,e2]
     exact decide_eq_decide.mpr ⟨fun z=>by rw[z],fun z=>aE z⟩
    ·have:=LX ds es
     simp only[aX,hJ r,hJ q]
     rw[this]
     exact decide_eq_decide.mpr ⟨fun z=>by rw[z],fun z=>by injection z⟩
  | lst es=>rw[cx]at q;obtain⟨b,fc,rfl,p',_⟩:=q;exact bR (EqAt.tuple_list p p' nH) (decide_eq_false (fun z=>nomatch z)).symm
 ·rw[D.deep]at hn
  have r0:=r
  rw[cx]at r
  obtain⟨a,us,rfl,p,r⟩:=r
  cases e with
  | cQ=>rw[cx]at q;subst q;exact bR (EqAt.list_none p nH) (decide_eq_false (fun z=>nomatch z)).symm
  | int j =>
   rw[cx]at q
   rcases q with⟨t,rfl⟩ | ⟨b,rfl,_⟩
   ·exact bR (EqAt.list_int j t p nH) (decide_eq_false (fun z=>nomatch z)).symm
   ·exact bR (EqAt.list_bool b p nH) (decide_eq_false (fun z=>nomatch z)).symm
  | str y=>rw[cx]at q;obtain⟨t,rfl⟩:=q;exact bR (EqAt.list_str y t p nH) (decide_eq_false (fun z=>nomatch z)).symm
  | tup es=>rw[cx]at q;obtain⟨b,fc,rfl,p',_⟩:=q;exact bR (EqAt.list_tuple p p' nH) (decide_eq_false (fun z=>nomatch z)).symm
  | lst es =>
   have q0:=q
   rw[cx]at q
   obtain⟨b,fc,rfl,p',q⟩:=q
   have l1:=hJ r
   have l2:=hJ q
   by_cases Bv:a=b
   ·subst Bv
    rw[Ee r0 q0]
    exact bR (EqAt.same _) (decide_eq_true rfl).symm
   by_cases hl:ds.length=es.length
   ·refine bR (EqAt.of_refs Bv (RcAt.lists (e:=fun j=>decide (ds[j]? = es[j]?)) p p' (by simp only[aX];omega) nH fun j h1 h2 => ?_)) ?_
    ·have Tp:j < us.length:=by simpa using h1
     have To:j < fc.length:=by simpa using h2
     have e1:=ah (l:=ds) (i:=j) (by omega)
     have e2:=ah (l:=es) (i:=j) (by omega)
     obtain⟨u,f1,g1⟩:=qm r e1
     obtain⟨v,f2,g2⟩:=qm q e2
     have z1:us.toArray[j]=u:=by rw[ah Tp]at f1;simpa using f1
     have z2:fc.toArray[j]=v:=by rw[ah To]at f2;simpa using f2
     rw[z1,z2]
     have:=ih (d:=ds[j]) (e:=es[j]) (A:=A.in1) (by have:=zC (nh (l:=ds) (n:=j) (by omega));omega) g1 g2 (by show A.units+1+n < cLine;omega)
     refine bR this ?_
     rw[e1,e2]
     exact decide_eq_decide.mpr ⟨fun z=>by rw[z],fun z=>aE z⟩
    ·have:=OM ds es hl
     simp only[aX,l1]
     rw[this]
     exact decide_eq_decide.mpr ⟨fun z=>by rw[z],fun z=>by injection z⟩
   ·refine bR (EqAt.of_refs Bv (RcAt.lists_lengths p p' (by simp only[aX];simp;omega) nH)) ?_
    exact(decide_eq_false (fun z=>hl (by injection z with z;rw[z]))).symm
end
section
variable {X:Cx}
inductive Uu (x:V) (y:V) (H:Hp) (Q:VK):Prop
 | mk:∀ ds es,(((Den H (.tup ds) x∧Den H (.tup es) y)∨(Den H (.lst ds) x∧Den H (.lst es) y)))->(D.jV ds<=150)->(Q (.bl (!decide (ds=es))) H)->Uu x y H Q
def ala:R2:=fun x y H Q=>Uu x y H Q
theorem FR {A:Around}{s:Shared}{ds es:List D}{us fc:List Value} (hu:A.units+151 < cLine) (hd:D.jV ds<=150) (r:gg s.heap ds us) (q:gg s.heap es fc) (j:Nat) (h1:j < us.toArray.size) (h2:j < fc.toArray.size) :
  F9 A.in1 s us.toArray[j] fc.toArray[j] (decide (ds[j]? = es[j]?)):=by
 have l1:=hJ r
 have l2:=hJ q
 have Tp:j < us.length:=by simpa using h1
 have To:j < fc.length:=by simpa using h2
 have e1:=ah (l:=ds) (i:=j) (by omega)
 have e2:=ah (l:=es) (i:=j) (by omega)
 obtain⟨u,f1,g1⟩:=qm r e1
 obtain⟨v,f2,g2⟩:=qm q e2
 have z1:us.toArray[j]=u:=by rw[ah Tp]at f1;simpa using f1
 have z2:fc.toArray[j]=v:=by rw[ah To]at f2;simpa using f2
 rw[z1,z2]
 refine bR (Tw 150 (by have:=zC (nh (l:=ds) (n:=j) (by omega));omega) g1 g2 (by show A.units+1+150 < cLine;omega)) ?_
 rw[e1,e2]
 exact decide_eq_decide.mpr ⟨fun z=>by rw[z],fun z=>aE z⟩
theorem aaD (hu:X.A.units+151 < cLine):lH X (compareOp .NotEq) ala:=by
 intro ag s σ H x y v u Q I rx ry h
 obtain⟨ds,es,hh,hd,q⟩:=h
 have nH:X.A.units < cLine:=by omega
 rcases hh with⟨h1,h2⟩ | ⟨h1,h2⟩
 ·have g1:=yq I.bU h1 rx
  have g2:=yq I.bU h2 ry
  rw[cx]at g1 g2
  obtain⟨a,us,rfl,p,r⟩:=g1
  obtain⟨b,fc,rfl,p',r'⟩:=g2
  refine BN.tuples (e:=fun j=>decide (ds[j]? = es[j]?)) p p' nH (FR hu hd r r') _ _ _ _ ?_
  refine⟨.bl (!decide (ds=es)),H,I,?_,q⟩
  have:=LX ds es
  simp only[aX,hJ r,hJ r']
  rw[this]
  rfl
 ·have g1:=yq I.bU h1 rx
  have g2:=yq I.bU h2 ry
  rw[cx]at g1 g2
  obtain⟨a,us,rfl,p,r⟩:=g1
  obtain⟨b,fc,rfl,p',r'⟩:=g2
  have l1:=hJ r
  have l2:=hJ r'
  by_cases hl:ds.length=es.length
  ·refine BN.lists (e:=fun j=>decide (ds[j]? = es[j]?)) p p' (by simp only[aX];omega) nH (FR hu hd r r') _ _ _ _ ?_
   refine⟨.bl (!decide (ds=es)),H,I,?_,q⟩
   have:=OM ds es hl
   simp only[aX,l1]
   rw[this]
   rfl
  ·refine BN.lists_lengths p p' (by simp only[aX];simp;omega) nH _ _ _ _ ⟨.bl (!decide (ds=es)),H,I,?_,q⟩
   rw[decide_eq_false (fun z=>hl (by rw[z]))]
   rfl
end
section
variable {κ : Type} [DecidableEq κ]
def cX (kvs:List (κ × V)) (k : κ):Option V:=(kvs.find? fun kv=>decide (kv.1=k)).map (·.2)
def hW (kvs:List (κ × V)) (k : κ) (v:V):List (κ × V) :=
 if (kvs.any fun kv=>decide (kv.1=k))=true then kvs.map (fun kv=>if kv.1=k then (kv.1,v) else kv) else kvs ++ [(k,v)]
theorem DE {k : κ}:cX ([]:List (κ × V)) k=none:=rfl
theorem ig {p : κ × V}{r:List (κ × V)}{k : κ} (e:p.1=k):cX (p :: r) k=some p.2:=by simp[cX,fj,e]
theorem ij {p : κ × V}{r:List (κ × V)}{k : κ} (e:¬ p.1=k):cX (p :: r) k=cX r k:=by simp[cX,fj,e]
theorem mM (k : κ):∀ kvs:List (κ × V),(kvs.any fun kv=>decide (kv.1=k))=(cX kvs k).isSome
 | []=>rfl
 | p :: r=>by
  rw[kF]
  by_cases e:p.1=k
  ·simp only[ig e,decide_eq_true e,B0,Option.isSome_some]
  ·rw[ij e,decide_eq_false e,Bool.false_or];exact mM k r
theorem JC (k j : κ) (y:V):∀ kvs:List (κ × V),cX (kvs.map fun kv=>if kv.1=k then (kv.1,y) else kv) j=(cX kvs j).map fun x=>if j=k then y else x
 | []=>rfl
 | p :: r=>by
  have ih:=JC k j y r
  rw[aL]
  by_cases h:p.1=k
  ·rw[if_pos h]
   by_cases e:p.1=j
   ·rw[ig (p:=(p.1,y)) e,ig e,qY,if_pos (e.symm.trans h)]
   ·rw[ij (p:=(p.1,y)) e,ij e,ih]
  ·rw[if_neg h]
   by_cases e:p.1=j
   ·rw[ig (p:=p) e,ig e,qY,if_neg (fun z=>h (e.trans z))]
   ·rw[ij (p:=p) e,ij e,ih]
theorem wK (k j : κ) (y:V):∀ kvs:List (κ × V),cX kvs k=none->cX (kvs ++ [(k,y)]) j=if j=k then some y else cX kvs j
 | [],_=>by
  by_cases e:k=j
  ·rw[if_pos e.symm];exact ig (p:=(k,y)) e
  ·rw[if_neg (fun z=>e z.symm)];exact ij (p:=(k,y)) e
 | p :: r,hn=>by
  rw[gY]
  have hk:¬ p.1=k:=fun z=>by rw[ig z]at hn;cases hn
  rw[ij hk]at hn
  have ih:=wK k j y r hn
  by_cases e:p.1=j
  ·rw[ig e,ig e,if_neg (fun z=>hk (e.trans z))]
  ·rw[ij e,ij e,ih]
theorem mL (kvs:List (κ × V)) (k j : κ) (y:V):cX (hW kvs k y) j=if j=k then some y else cX kvs j:=by
 unfold hW
 by_cases a:(kvs.any fun kv=>decide (kv.1=k))=true
 ·rw[if_pos a,JC]
  rw[mM]at a
  by_cases e:j=k
  ·obtain⟨x,hx⟩:=gi.mp a
   rw[if_pos e,e,hx,qY,if_pos rfl]
  ·rw[if_neg e]
   cases cX kvs j with
   | none=>rfl
   | some x=>rw[qY,if_neg e]
 ·rw[if_neg a]
  refine wK k j y kvs ?_
  rw[mM]at a
  cases q:cX kvs k with
  | none=>rfl
  | some x=>rw[q]at a;exact(a rfl).elim
theorem nS (kvs:List (κ × V)) (k : κ) (v:V):(hW kvs k v).length<=kvs.length+1:=by
 unfold hW
 split
 ·rw[aq];omega
 ·rw[aG,b8,Gg];omega
theorem DZ {kvs:List (κ × V)}{k : κ} (v:V) (h:cX kvs k=none):hW kvs k v=kvs ++ [(k,v)]:=by
 unfold hW
 rw[mM,h]
 exact if_neg (by decide)
theorem mh.Br {o:Option V}{u:Option Value} (r:mh o u):o.isSome=u.isSome:=by
 cases o with
 | none=>cases u with
  | none=>rfl
  | some _=>exact(show False from r).elim
 | some _=>cases u with
  | none=>exact(show False from r).elim
  | some _=>rfl
theorem mh.getD {o:Option V}{u:Option Value}{d:V} {d':Value} (r:mh o u) (rd:RelV d d'):RelV (o.getD d) (u.getD d'):=by
 cases o with
 | none=>cases u with
  | none=>exact rd
  | some _=>exact(show False from r).elim
 | some _=>cases u with
  | none=>exact(show False from r).elim
  | some _=>exact r
theorem KV.val {kvs:List (κ × V)}{vs:List (κ × Value)} (r:KV kvs vs) (k : κ):mh (cX kvs k) (valueAt vs k):=by
 unfold KV at r
 induction r with
 | nil=>exact fU
 | @cons p q ps qs h t ih =>
  obtain⟨h1,h2⟩:=h
  by_cases e:p.1=k
  ·have e':q.1=k:=h1.symm.trans e
   have b:valueAt (q :: qs) k=some q.2:=by simp[valueAt,fj,e']
   rw[ig e,b];exact h2
  ·have e':¬ q.1=k:=fun z=>e (h1.trans z)
   have b:valueAt (q :: qs) k=valueAt qs k:=by simp[valueAt,fj,e']
   rw[ij e,b];exact ih
theorem KV.any {kvs:List (κ × V)}{vs:List (κ × Value)} (r:KV kvs vs) (k : κ):(kvs.any fun kv=>decide (kv.1=k))=vs.any fun kv=>decide (kv.1=k):=by
 unfold KV at r
 induction r with
 | nil=>rfl
 | cons h t ih=>rw[kF,kF,ih,h.1]
theorem KV.Kj {kvs:List (κ × V)}{vs:List (κ × Value)} (r:KV kvs vs) (k : κ) {y:V}{u:Value} (ry:RelV y u) :
  KV (kvs.map fun kv=>if kv.1=k then (kv.1,y) else kv) (vs.map fun kv=>if kv.1=k then (kv.1,u) else kv):=by
 unfold KV at r ⊢
 induction r with
 | nil=>exact .nil
 | @cons p q ps qs h t ih =>
  rw[aL,aL]
  refine .cons ?_ ih
  obtain⟨h1,h2⟩:=h
  by_cases e:p.1=k
  ·rw[if_pos e,if_pos (h1.symm.trans e)];exact⟨h1,ry⟩
  ·rw[if_neg e,if_neg (fun z=>e (h1.trans z))];exact⟨h1,h2⟩
theorem KV.put {kvs:List (κ × V)}{vs:List (κ × Value)} (r:KV kvs vs) (k : κ) {y:V}{u:Value} (ry:RelV y u):KV (hW kvs k y) (stored vs k u):=by
 unfold hW stored
 rw[r.any k]
 by_cases e:(vs.any fun kv=>decide (kv.1=k))=true
 ·rw[if_pos e,if_pos e];exact r.Kj k ry
 ·rw[if_neg e,if_neg e];exact gn r ⟨rfl,ry⟩
theorem KV.length {kvs:List (κ × V)}{vs:List (κ × Value)} (r:KV kvs vs):kvs.length=vs.length:=bj r
end
theorem Co {P:Program}{w:World}{k:Key}{u:Value} (r:RelV (kV k) u):(dO P w).is k u=true:=by
 cases k with
 | inl i=>obtain⟨t,e⟩:=(show ∃ t,u=mJ i t from r);subst e;exact ML P w i t
 | inr x=>obtain⟨t,e⟩:=(show ∃ t,u=ud x t from r);subst e;exact MK P w x t
theorem HW {P:Program}{w:World}:∀ {ks:List Key}{us:List Value},Vals (ks.map kV) us->ItemsAre (dO P w) ks us
 | [],_,r=>by rw[eV]at r;cases r;exact .nil
 | k :: ks,_,r=>by
  rw[aL]at r
  cases r with
  | cons h t=>exact .cons (Co h) (HW t)
abbrev KT (H:Hp):List (List Key × V)->List (List Key × Addr × Value)->Prop:=Paired fun p q=>p.1=q.1∧H q.2.1=some (.tup (p.1.map kV))∧RelV p.2 q.2.2
theorem KT.val {H:Hp}{kvs:List (List Key × V)}{xs:List (List Key × Addr × Value)} (r:KT H kvs xs) (k:List Key):mh (cX kvs k) ((atKey xs k).map (·.2)):=by
 induction r with
 | nil=>exact fU
 | @cons p q ps qs h t ih =>
  obtain⟨h1,_,h2⟩:=h
  by_cases e:p.1=k
  ·have e':q.1=k:=h1.symm.trans e
   have b:atKey (q :: qs) k=some q.2:=by simp[atKey,fj,e']
   rw[ig e,b];exact h2
  ·have e':¬ q.1=k:=fun z=>e (h1.trans z)
   have b:atKey (q :: qs) k=atKey qs k:=by simp[atKey,fj,e']
   rw[ij e,b];exact ih
theorem KT.Kj {H:Hp}{kvs:List (List Key × V)}{xs:List (List Key × Addr × Value)} (r:KT H kvs xs) (k:List Key) {y:V}{u:Value} (ry:RelV y u) :
  KT H (kvs.map fun kv=>if kv.1=k then (kv.1,y) else kv) (xs.map (putAt k u)):=by
 induction r with
 | nil=>exact .nil
 | @cons p q ps qs h t ih =>
  rw[aL,aL]
  refine .cons ?_ ih
  obtain⟨h1,h2,h3⟩:=h
  unfold putAt
  by_cases e:p.1=k
  ·rw[if_pos e,if_pos (h1.symm.trans e)];exact⟨h1,h2,ry⟩
  ·rw[if_neg e,if_neg (fun z=>e (h1.trans z))];exact⟨h1,h2,h3⟩
theorem KT.put {H:Hp}{kvs:List (List Key × V)}{xs:List (List Key × Addr × Value)} (r:KT H kvs xs) (k:List Key) {b:Addr}{y:V}{u:Value} (hb:H b=some (.tup (k.map kV))) (ry:RelV y u) :
  KT H (hW kvs k y) (storedH xs k b u):=by
 have e:(kvs.any fun kv=>decide (kv.1=k))=(atKey xs k).isSome:=by
  rw[mM,(r.val k).Br,lM]
 unfold hW storedH
 rw[e]
 by_cases q:(atKey xs k).isSome=true
 ·rw[if_pos q,if_pos q];exact r.Kj k ry
 ·rw[if_neg q,if_neg q];exact gn r ⟨rfl,hb,ry⟩
theorem KT.keeps {H H':Hp}{kvs:List (List Key × V)}{xs:List (List Key × Addr × Value)} (r:KT H kvs xs) (ht:∀ b ys,H b=some (.tup ys)->H' b=some (.tup ys)):KT H' kvs xs :=
 Paired.pJ r fun _ _ z=>⟨z.1,ht _ _ z.2.1,z.2.2⟩
section
variable {P:Program}{w:World}{H:Hp}{h:Heap}{a:Addr}
theorem W5 {u:HO} (ok:jb P w H h) (e:Rd H a u):d8 P w H h a u:=e.ok ok
theorem FP {kvs:List (Key × V)} (ok:jb P w H h) (e:Rd H a (.dK kvs)):kvs.length<=sizeLine∧(a == sysModules)=false∧∃ vs,KV kvs vs∧h.DictOf (dO P w) a vs :=
 show d8 P w H h a (.dK kvs) from W5 ok e
theorem QJ {kvs:List (Key × V)} (ok:jb P w H h) (e:H a=some (.dK kvs)):kvs.length<=sizeLine∧(a == sysModules)=false∧∃ vs,KV kvs vs∧h.DictOf (dO P w) a vs:=FP ok (.inl e)
theorem Bq {ks:List Key} (ok:jb P w H h) (e:H a=some (.tup (ks.map kV))):(tupleKind (dO P w)).is h ks a:=by
 obtain⟨_,its,r,o,h1,h2,n,h3,_⟩:=(show d8 P w H h a (.tup (ks.map kV)) from ok a _ e)
 exact⟨o,its.toArray,n,h1,h2,h3,by simpa using HW r⟩
theorem FN {kvs:List (List Key × V)} (ok:jb P w H h) (e:Rd H a (.dT kvs)):kvs.length<=sizeLine∧(a == sysModules)=false ∧
  ∃ xs,KT H kvs xs∧h.DictOfH (tupleKind (dO P w)) a xs:=by
 obtain⟨z,y,xs,r,o,es,ep,h1,h2,h3,h4,h5⟩:=(show d8 P w H h a (.dT kvs) from W5 ok e)
 refine⟨z,y,xs,r,o,es,ep,h1,h2,h3,h4,fun x hx => ?_,h5⟩
 have all:∀ {l:List (List Key × V)}{m:List (List Key × Addr × Value)},KT H l m->∀ x∈m,(tupleKind (dO P w)).is h x.1 x.2.1:=by
  intro l m q
  induction q with
  | nil=>intro x hx;exact nomatch hx
  | @cons p q ps qs hq t ih =>
   intro x hx
   rcases bo.mp hx with e | hx
   ·subst e
    exact Bq ok (by rw[<- hq.1];exact hq.2.1)
   ·exact ih x hx
 exact all r x hx
theorem ahV {kvs:List (List Key × V)} (ok:jb P w H h) (e:H a=some (.dT kvs)):kvs.length<=sizeLine∧(a == sysModules)=false ∧
  ∃ xs,KT H kvs xs∧h.DictOfH (tupleKind (dO P w)) a xs:=FN ok (.inl e)
end
def tI (H:Hp) (a:Addr) (y:V) (r:Option V):Prop :=
 (∃ kvs k,Rd H a (.dK kvs)∧y=kV k∧r=cX kvs k)∨∃ kvs k b,Rd H a (.dT kvs)∧y = .ref b∧H b=some (.tup (k.map kV))∧r=cX kvs k
def HC (H:Hp) (a:Addr) (y v:V) (H':Hp):Prop :=
 (∃ kvs k,H a=some (.dK kvs)∧y=kV k∧kvs.length < sizeLine∧H'=aJ H a (.dK (hW kvs k v))) ∨
 ∃ kvs k b,H a=some (.dT kvs)∧y = .ref b∧H b=some (.tup (k.map kV))∧kvs.length < sizeLine∧H'=aJ H a (.dT (hW kvs k v))
theorem tI.k {H:Hp}{a:Addr}{kvs:List (Key × V)}{k:Key} (e:H a=some (.dK kvs)):tI H a (kV k) (cX kvs k) := .inl ⟨kvs,k,.inl e,rfl,rfl⟩
theorem HC.k {H:Hp}{a:Addr}{kvs:List (Key × V)}{k:Key}{v:V} (e:H a=some (.dK kvs)) (hl:kvs.length < sizeLine):HC H a (kV k) v (aJ H a (.dK (hW kvs k v))) := .inl ⟨kvs,k,e,rfl,hl,rfl⟩
section
variable {X:Cx}{ag:List (Addr × Obj)}{σ : St}{H:Hp}{s:Shared}{a:Addr}{y v:V}{u r:Value}{o:Option V}{A:Around}{E:Value->Shared->Prop}
theorem Inv.big (I:Inv X ag σ H s):sysModules < s.heap.objs.size:=by
 have h:mainGlobals < s.heap.objs.size:=(I.mod.glob.keeps I.bk).lt
 exact Nat.lt_trans (by decide) h
theorem TN {Q:Value->Shared->Prop} (hu:A.units+1 < cLine) (I:Inv X ag σ H s) (g:tI H a y (some v)) (ry:RelV y u) (h:∀ w' s',Inv X ag σ H s'->RelV v w'->Q w' s') :
  wpAny (model X.prog X.w) A (getItem (.ref a) u) Q E s:=by
 rcases g with⟨kvs,k,e,ey,l⟩ | ⟨kvs,k,b,e,ey,eb,l⟩
 ·subst ey
  obtain⟨z,hd,vs,gF,dd⟩:=FP I.bU e
  obtain⟨w',hw,mG⟩:=mh.some_of (v:=v) (o:=valueAt vs k) (by rw[l];exact gF.val k)
  exact wpAny_getItem_of (Co ry) dd.mapOf hw (h w' _ (I.tok _) mG)
 ·subst ey
  cases (show u=bA b from ry)
  obtain⟨z,hd,xs,gF,dd⟩:=FN I.bU e
  obtain⟨w',hw,mG⟩:=mh.some_of (v:=v) (o:=(atKey xs k).map (·.2)) (by rw[l];exact gF.val k)
  obtain⟨p,hp,hp2⟩:=b7.mp hw
  refine wpAny_getItem_heap (tupleKind_room_in1 hu) (Bq I.bU eb) dd hp ?_
  rw[hp2]
  exact h w' _ (I.tok _) mG
theorem yr {h':Heap} {t':Nat}{ob:HO} (I:Inv X ag σ H s) (mu:Uo (H a)) (hs:fF a s.heap h') (he:∃ q,h'.get? a=some q) (new:d8 X.prog X.w (aJ H a ob) h' a ob) :
  Inv X ag σ (aJ H a ob) { s with heap:=h',toks:=t' } :=
 I.write (x:=a) (e:=a) mu (.inl rfl) (fun b q hb z=>(hs.2 b hb).trans z) he new
theorem TF {P:Program}{w:World} {H':Hp} {h':Heap}{kvs:List (Key × V)}{vs:List (Key × Value)} (z:kvs.length<=sizeLine) (hd:(a == sysModules)=false) (gF:KV kvs vs) (dd:h'.DictOf (dO P w) a vs) :
  d8 P w H' h' a (.dK kvs):=⟨z,hd,vs,gF,dd⟩
theorem TL {H':Hp}{Q:Unit->Shared->Prop} (hu:A.units+1 < cLine) (I:Inv X ag σ H s) (g:HC H a y v H') (ry:RelV y u) (rv:RelV v r) (h:∀ s',Inv X ag σ H' s'->Q () s') :
  wpAny (model X.prog X.w) A (setItem (.ref a) u r) Q E s:=by
 rcases g with⟨kvs,k,e,ey,l,eH⟩ | ⟨kvs,k,b,e,ey,eb,l,eH⟩
 ·subst ey eH
  obtain⟨z,hd,vs,gF,dd⟩:=QJ I.bU e
  have hz:vs.length<=sizeLine:=by rw[<- gF.length];exact z
  have hl:(hW kvs k v).length<=sizeLine:=by have:=nS kvs k v;omega
  refine wpAny_setItem_pairs (hsz:=hz) (Co ry) dd fun h' BE hs=>h _ ?_
  have he:∃ q,h'.get? a=some q:=let ⟨q,_,_,hq,_⟩:=BE; ⟨q,hq⟩
  exact yr I (by rw[e];exact fU) hs he (TF hl hd (gF.put k rv) BE)
 ·subst ey eH
  cases (show u=bA b from ry)
  obtain⟨z,hd,xs,gF,dd⟩:=ahV I.bU e
  have hz:xs.length<=sizeLine:=by rw[<- bj gF];exact z
  have hl:(hW kvs k v).length<=sizeLine:=by have:=nS kvs k v;omega
  refine wpAny_setItem_heap (hsz:=hz) (tupleKind_room_in1 hu) (Bq I.bU eb) dd fun h' BE hs=>h _ ?_
  obtain⟨q,es,ep,hq,h2,h3,h4,_,h5⟩:=BE
  refine yr I (by rw[e];exact fU) hs ⟨q,hq⟩ ⟨hl,hd,_,(gF.put k eb rv).keeps fun c ys ec => ?_,q,es,ep,hq,h2,h3,h4,h5⟩
  rw[ax (dq ec e (fun z=>nomatch z))]
  exact ec
end
section
variable {X:Cx}{ag:List (Addr × Obj)}{σ : St}{H:Hp}{s:Shared}{a:Addr}{kvs:List (Key × V)}{k:Key}{u:Value}{A:Around}{E:Value->Shared->Prop}
end
def WA (i:Expr):Prop := ∀ ov iv,subscripted i false ov iv=operate [ov,iv] (getItem ov iv)
theorem Nd {prog:Program}{w:World}{A:Around}{E:Value->Shared->Prop}{s:Shared}{env:Env}{value slice:Expr}{pos:Pos}{T id:String}{Q:Value->Shared->Prop}
  (hl:typeLookup (.type T) "__getitem__" = pure (some (.builtin id))) (hs:WA slice)
  (h:wpAny (model prog w) A (eval value env) (fun o fb => wpAny (model prog w) A (eval slice env) (fun i p6 => p6.TypeIs o T∧wpAny (model prog w) A (getItem o i) Q E p6) E fb) E s) :
  wpAny (model prog w) A (eval (.Subscript value slice pos) env) Q E s:=by
 refine Subscript_ (wpAny_mono h (fun o fb oJ => wpAny_mono oJ (fun i p6 D8 => ?_) fun _ _ x=>x) fun _ _ x=>x)
 obtain⟨hT,D8⟩:=D8
 unfold subscriptTail
 refine wpAny_bind ?_
 rw[getitemInPython_of_ne hT.not_modules]
 refine wpAny_bind (wpAny_specialOf hT hl ?_)
 have gO:wpAny (model prog w) A (subscripted slice false o i) (fun r pH => wpAny (model prog w) A (letTemporaryGo value o r >>= fun _=>pure r) Q E pH) E p6 := by
  rw[hs o i]
  exact wpAny_operating (wpAny_mono D8 (fun r pH K4 => wpAny_bind (wpAny_letTemporaryGo (wpAny_pure K4))) fun _ _ x=>x)
 first
  | exact wpAny_pure (wpAny_bind gO)
  | exact wpAny_bind (wpAny_pure (wpAny_bind gO))
  | exact wpAny_bind gO
theorem MQ {X:Cx}{ag:List (Addr × Obj)}{σ : St}{H:Hp}{s:Shared}{a:Addr}{y:V}{o:Option V} (I:Inv X ag σ H s) (g:tI H a y o):s.TypeIs (.ref a) "dict" := by
 rcases g with⟨kvs,k,e,_,_⟩ | ⟨kvs,k,b,e,_,_,_⟩
 ·obtain⟨_,_,vs,_,dd⟩:=FP I.bU e
  exact dd.typeIs
 ·obtain⟨_,_,xs,_,dd⟩:=FN I.bU e
  exact dd.typeIs
inductive OZ (Q:VK) (x:V) (y:V) (H2:Hp):Prop
 | mk:∀ a v,(x = .ref a)->(tI H2 a y (some v))->(Q v H2)->OZ Q x y H2
def aht (td ty:TE):TE:=fun σ H Q=>td σ H fun x H1=>ty σ H1 fun y H2=>OZ Q x y H2
inductive O1 (D:Ends) (σ : St) (v:V) (x:V) (y:V) (H3:Hp):Prop
 | mk:∀ a H4,(x = .ref a)->(HC H3 a y v H4)->(D.nx σ H4)->O1 D σ v x y H3
def ahx (td ty tv:TE):TS:=fun D σ H=>tv σ H fun v H1=>td σ H1 fun x H2=>ty σ H2 fun y H3=>O1 D σ v x y H3
section
variable {X:Cx}{o i e value:Expr}{pos sj aka:Pos}{td ty tv:TE}
theorem NG (hu:X.A.units+1 < cLine) (ho:PE X o td) (hi:PE X i ty) (hs:WA i):PE X (.Subscript o i pos) (aht td ty):=by
 intro ag s σ H Q I h
 refine Nd uT.lookup hs (cf (ho ag s σ H _ I h) fun u s1 ⟨x,H1,I1,rx,q1⟩=>cf (hi ag s1 σ H1 _ I1 q1) fun iv s2 ⟨y,H2,I2,ry,a,v,ex,g,q2⟩ => ?_)
 subst ex
 obtain rfl:u=bA a:=rx
 exact⟨MQ I2 g,TN hu I2 g ry fun w' s3 I3 mG=>⟨v,H2,I3,mG,q2⟩⟩
theorem NB (hu:X.A.units+1 < cLine) (ho:PE X o td) (hi:PE X i ty) (hv:PE X value tv) (hs:swapsWith value (some (.Subscript o i sj)) pos.line X.env=pure false) :
  PS X (.Assign [.Subscript o i sj] value pos) (ahx td ty tv):=by
 intro ag s σ H D I h
 refine wpAny_Assign_Subscript (cf (hv ag s σ H _ I h) fun r s1 ⟨v,H1,I1,rv,q1⟩=>cf (ho ag s1 σ H1 _ I1 q1) fun u s2 ⟨x,H2,I2,rx,q2⟩=>cf (hi ag s2 σ H2 _ I2 q2) fun iv s3 ⟨y,H3,I3,ry,a,H4,ex,g,q3⟩ => ?_) hs
 subst ex
 obtain rfl:u=bA a:=rx
 exact TL hu I3 g ry rv fun s4 I4=>⟨σ,H4,I4,q3⟩
end
theorem Wh {P:Program}{w:World}{H:Hp} (h:Heap) (hb:sysModules < h.objs.size):d8 P w H (h.push { cls := .type "dict",data := .dict #[] }) h.objs.size (.dK []) :=
 ⟨bD _,beq_eq_false_iff_ne.mpr (bV (cU hb)), [],.nil,Heap.DictOf.new h⟩
def Z9:TE:=fun _ H Q=>∀ p,H p=none->Q (.ref p) (aJ H p (.dK []))
section
variable {X:Cx}{pos:Pos}
theorem y7:PE X (.Dict [] [] pos) Z9:=fun ag s σ H Q I h =>
 wpAny_Dict_empty ⟨.ref s.heap.objs.size,_,I.laid (a:=s.heap.objs.size) (o := .dK []) (t':=s.toks) (fun _ _ q=>aU _ q) (aA _) (Wh s.heap I.big),rfl,h _ (I.bU.fresh (aA _))⟩
end
structure M1 (X:Cx) (o:Expr) (m:Str) (eN:Pos) (e:Expr) (gw:Pos):Prop where
 base:attributeBase o m X.env (eval o X.env)=eval o X.env
 gb:((backTo gw (starEach [e] X.env)).all (fun x => !x.1) && (backToKw gw (keywordEach [] X.env)).all (fun x=>x.1.isSome)
  && decide (([e]:List Expr).length+([]:List Keyword).length+(if ([]:List Keyword).isEmpty then 0 else 1) < 30))=true
 line:(eN.endLine == gw.line)=true
 trees:backTo gw (starEach [e] X.env) = [(false,eval e X.env)]
structure M2 (X:Cx) (o:Expr) (m:Str) (eN:Pos) (e f:Expr) (gw:Pos):Prop where
 base:attributeBase o m X.env (eval o X.env)=eval o X.env
 gb:((backTo gw (starEach [e,f] X.env)).all (fun x => !x.1) && (backToKw gw (keywordEach [] X.env)).all (fun x=>x.1.isSome)
  && decide (([e,f]:List Expr).length+([]:List Keyword).length+(if ([]:List Keyword).isEmpty then 0 else 1) < 30))=true
 line:(eN.endLine == gw.line)=true
 trees:backTo gw (starEach [e,f] X.env) = [(false,eval e X.env),(false,eval f X.env)]
def IsD (H:Hp) (a:Addr):Prop:=(∃ kvs,Rd H a (.dK kvs))∨∃ kvs,Rd H a (.dT kvs)
theorem SW {X:Cx}{ag:List (Addr × Obj)}{σ : St}{H:Hp}{s:Shared}{a:Addr} (I:Inv X ag σ H s) (d:IsD H a) :
  s.TypeIs (.ref a) "dict" ∧ (∀ b,bA a = .ref b->∃ ob,s.heap.get? b=some ob∧ob.dict=none)∧(a == sysModules)=false:=by
 rcases d with⟨kvs,e⟩ | ⟨kvs,e⟩
 ·obtain⟨_,hd,vs,_,dd⟩:=FP I.bU e
  refine⟨dd.typeIs,fun b q => ?_,hd⟩
  cases q
  obtain⟨ob,_,_,h1,h2,_⟩:=dd
  exact⟨ob,h1,h2.2.1⟩
 ·obtain⟨_,hd,xs,_,dd⟩:=FN I.bU e
  refine⟨dd.typeIs,fun b q => ?_,hd⟩
  cases q
  obtain⟨ob,_,_,h1,h2,_⟩:=dd
  exact⟨ob,h1,h2.2.1⟩
section
variable {X:Cx}{ag:List (Addr × Obj)}{σ : St}{H:Hp}{s:Shared}{a:Addr}{y d:V}{u r:Value}{o:Option V}{A:Around}{E:Value->Shared->Prop}
theorem aeG {Q:Value->Shared->Prop} (hu:A.units+1 < cLine) (I:Inv X ag σ H s) (g:tI H a y o) (ry:RelV y u) (rd:RelV d r) (h:∀ w' s',Inv X ag σ H s'->RelV (o.getD d) w'->Q w' s') :
  wpAny (model X.prog X.w) A (call (.builtin "dict.get") [.ref a,u,r]) Q E s:=by
 rcases g with⟨kvs,k,e,ey,l⟩ | ⟨kvs,k,b,e,ey,eb,l⟩
 ·subst ey
  obtain⟨z,hd,vs,gF,dd⟩:=FP I.bU e
  refine call_meetsIn jE dd.typeIs pS (wG _ _ _) (meets_dict_get_default (dO X.prog X.w) a (Co ry) hd r) ⟨_,dd.mapOf,h _ _ (I.tok _) ?_⟩
  rw[l]
  exact(gF.val k).getD rd
 ·subst ey
  cases (show u=bA b from ry)
  obtain⟨z,hd,xs,gF,dd⟩:=FN I.bU e
  refine call_meetsIn jE dd.typeIs pS (wG _ _ _) (meetsH_dict_get_default (tupleKind (dO X.prog X.w)) a b hd r) ⟨tupleKind_room_in1 hu,k,xs,Bq I.bU eb,dd,h _ _ (I.tok _) ?_⟩
  rw[l]
  exact(gF.val k).getD rd
end
inductive Mb (ty:TE) (tx:TE) (σ : St) (Q:VK) (x:V) (H1:Hp):Prop
 | mk:∀ a,(x = .ref a)->(IsD H1 a)->(ty σ H1 fun y H2=>tx σ H2 fun z H3=>∃ o,tI H3 a y o∧Q (o.getD z) H3)->Mb ty tx σ Q x H1
def aac (td ty tx:TE):TE:=fun σ H Q=>td σ H fun x H1=>Mb ty tx σ Q x H1
section
variable {X:Cx}{o e f:Expr}{eN gw:Pos}{td ty tx:TE}
theorem D0 (hu:X.A.units+1 < cLine) (ho:PE X o td) (he:PE X e ty) (hf:PE X f tx) (m:M2 X o "get" eN e f gw):PE X (.Call (.Attribute o "get" eN) [e,f] [] gw) (aac td ty tx):=by
 intro ag s σ H Q I h
 refine wpAny_Call_method m.base m.gb m.line iV jE yw (cf (ho ag s σ H _ I h) fun u s1 ⟨x,H1,I1,rx,a,ex,d,q1⟩ => ?_)
 subst ex
 obtain rfl:u=bA a:=rx
 obtain⟨t1,t2,_⟩:=SW I1 d
 refine⟨t1,t2,?_⟩
 rw[m.trees]
 refine gQ rfl (jY (fq (cf (he ag s1 σ H1 _ I1 q1) fun iv s2 ⟨y,H2,I2,ry,q2⟩ =>
  fq (cf (hf ag s2 σ H2 _ I2 q2) fun fv s3 ⟨z,H3,I3,rz,ov,g,q3⟩=>jQ ?_))))
 exact aeG hu I3 g ry rz fun w' s4 I4 mG=>⟨_,H3,I4,mG,q3⟩
end
section
variable {X:Cx}{ag:List (Addr × Obj)}{σ : St}{H:Hp}{s:Shared}{a:Addr}{kvs:List (Key × V)}{A:Around}{E:Value->Shared->Prop}
end
section
variable {X:Cx}{ag:List (Addr × Obj)}{σ : St}{H:Hp}{s:Shared}{a:Addr}{y:V}{u:Value}{A:Around}{E:Value->Shared->Prop}
end
abbrev NK:=List (Sum Key (List Key))
def kD:Key->D
 | .inl i => .int i
 | .inr x => .str x
def iD:Sum Key (List Key)->D
 | .inl k=>kD k
 | .inr l => .tup (l.map kD)
def HR (k:NK):D := .tup (k.map iD)
theorem SS {a b:Key} (e:kD a=kD b):a=b:=by
 cases a with
 | inl i=>cases b with
  | inl j=>have e':D.int i=D.int j:=e;injection e' with e';rw[e']
  | inr y=>exact nomatch (show D.int i=D.str y from e)
 | inr x=>cases b with
  | inl j=>exact nomatch (show D.str x=D.int j from e)
  | inr y=>have e':D.str x=D.str y:=e;injection e' with e';rw[e']
theorem qK {α β : Type}{f : α -> β} (hf:∀ a b,f a=f b->a=b):∀ {x y:List α},x.map f=y.map f->x=y
 | [], [],_=>rfl
 | [],_ :: _,e=>by simp at e
 | _ :: _, [],e=>by simp at e
 | a :: xs,b :: ys,e=>by
  rw[aL,aL]at e
  injection e with e1 e2
  rw[hf _ _ e1,qK hf e2]
theorem acH {a b:Sum Key (List Key)} (e:iD a=iD b):a=b:=by
 cases a with
 | inl i=>cases b with
  | inl j=>rw[SS e]
  | inr y=>cases i <;> exact nomatch e
 | inr x=>cases b with
  | inl j=>cases j <;> exact nomatch e
  | inr y =>
   have e':D.tup (x.map kD)=D.tup (y.map kD):=e
   injection e' with e'
   rw[qK (fun _ _=>SS) e']
theorem Zk {a b:NK} (e:HR a=HR b):a=b:=by
 have e':D.tup (a.map iD)=D.tup (b.map iD):=e
 injection e' with e'
 exact qK (fun _ _=>acH) e'
section
variable (P:Program) (w:World)
def fB (h:Heap):NK->List Value->Prop
 | [],us=>us = []
 | .inl k :: ks,us=>∃ u fc,us=u :: fc∧(dO P w).is k u=true∧fB h ks fc
 | .inr l :: ks,us=>∃ b fc,us=bA b :: fc∧IsTupleKey (dO P w) h l b∧fB h ks fc
def rm (h:Heap) (k:NK) (a:Addr):Prop := ∃ us:List Value,IsTup h a us.toArray∧fB P w h k us
def tK:Sum Key (List Key)->Int
 | .inl k=>(dO P w).hash k
 | .inr l=>tupleKeyHash (dO P w) l
def yg:Sum Key (List Key)->Nat
 | .inl _=>1
 | .inr l=>l.length+1
def KJ (k:NK):Int:=reduceHash (fW (k.map (tK P w)))
def GR (k:NK):Nat:=(k.map yg).sum+1
end
section
variable {P:Program}{w:World} {h h':Heap}
theorem fB.inj:∀ {x y:NK}{us:List Value},fB P w h x us->fB P w h y us->x=y
 | [], [],us,_,_=>rfl
 | [],.inl k :: ks,us,r,q=>by rw[fB]at r;rw[fB]at q;subst r;obtain⟨_,_,z,_⟩:=q;cases z
 | [],.inr k :: ks,us,r,q=>by rw[fB]at r;rw[fB]at q;subst r;obtain⟨_,_,z,_⟩:=q;cases z
 | .inl k :: ks, [],us,r,q=>by rw[fB]at r;rw[fB]at q;subst q;obtain⟨_,_,z,_⟩:=r;cases z
 | .inr k :: ks, [],us,r,q=>by rw[fB]at r;rw[fB]at q;subst q;obtain⟨_,_,z,_⟩:=r;cases z
 | .inl k :: ks,.inl l :: ls,us,r,q=>by
  rw[fB]at r;rw[fB]at q
  obtain⟨u,fc,rfl,r1,r⟩:=r
  obtain⟨u',Pm,z,q1,q⟩:=q
  cases z
  rw[(dO P w).inj _ _ _ r1 q1,fB.inj r q]
 | .inr k :: ks,.inr l :: ls,us,r,q=>by
  rw[fB]at r;rw[fB]at q
  obtain⟨u,fc,rfl,r1,r⟩:=r
  obtain⟨u',Pm,z,q1,q⟩:=q
  cases z
  rw[r1.inj q1,fB.inj r q]
 | .inl k :: ks,.inr l :: ls,us,r,q=>by
  rw[fB]at r;rw[fB]at q
  obtain⟨u,fc,rfl,r1,r⟩:=r
  obtain⟨u',Pm,z,q1,q⟩:=q
  cases z
  rcases gm r1 with⟨i,t,_,e⟩ | ⟨x,t,_,e⟩ <;> cases e
 | .inr k :: ks,.inl l :: ls,us,r,q=>by
  rw[fB]at r;rw[fB]at q
  obtain⟨u,fc,rfl,r1,r⟩:=r
  obtain⟨u',Pm,z,q1,q⟩:=q
  cases z
  rcases gm q1 with⟨i,t,_,e⟩ | ⟨x,t,_,e⟩ <;> cases e
theorem fB.keeps {d:Addr}{o:Obj} {es ep} (ho:h.get? d=some o) (hd:o.data = .dict es ep) (hs:fF d h h'):∀ {k:NK}{us:List Value},fB P w h k us->fB P w h' k us
 | [],us,r=>by rw[fB]at r ⊢;exact r
 | .inl k :: ks,us,r=>by
  rw[fB]at r ⊢
  obtain⟨u,fc,e,r1,r⟩:=r
  exact⟨u,fc,e,r1,fB.keeps ho hd hs r⟩
 | .inr k :: ks,us,r=>by
  rw[fB]at r ⊢
  obtain⟨u,fc,e,r1,r⟩:=r
  exact⟨u,fc,e,r1.keeps ho hd hs,fB.keeps ho hd hs r⟩
theorem rm.inj {x y:NK}{a:Addr} (r:rm P w h x a) (q:rm P w h y a):x=y:=by
 obtain⟨us,p,r⟩:=r
 obtain⟨fc,p',q⟩:=q
 have e:us=fc:=by have:=M7 p p';simpa using this
 subst e
 exact r.inj q
theorem rm.keeps {k:NK}{a d:Addr}{o:Obj} {es ep} (r:rm P w h k a) (ho:h.get? d=some o) (hd:o.data = .dict es ep) (hs:fF d h h'):rm P w h' k a:=by
 obtain⟨us,⟨o',e',c',n',d'⟩,r⟩:=r
 have jO:a≠d:=by
  rintro rfl
  rw[ho]at e';cases e'
  rw[hd]at d';cases d'
 exact⟨us,⟨o',(hs.2 a jO).trans e',c',n',d'⟩,r.keeps ho hd hs⟩
theorem K1 {k:Key}{u:Value} (r:(dO P w).is k u=true):cx h (kD k) u:=by
 rcases gm r with⟨i,t,rfl,rfl⟩ | ⟨x,t,rfl,rfl⟩
 ·show cx h (.int i) _
  rw[cx];exact .inl ⟨t,rfl⟩
 ·show cx h (.str x) _
  rw[cx];exact⟨t,rfl⟩
theorem Ql {ks:List Key}{us:List Value} (r:ItemsAre (dO P w) ks us):gg h (ks.map kD) us:=by
 induction r with
 | nil=>rw[eV,gg]
 | cons r1 _ ih=>rw[aL,gg];exact⟨_,_,rfl,K1 r1,ih⟩
theorem fB.Hg:∀ {k:NK}{us:List Value},fB P w h k us->gg h (k.map iD) us
 | [],us,r=>by rw[fB]at r;rw[eV,gg];exact r
 | .inl k :: ks,us,r=>by
  rw[fB]at r
  obtain⟨u,fc,e,r1,r⟩:=r
  rw[aL,gg]
  exact⟨u,fc,e,K1 r1,fB.Hg r⟩
 | .inr k :: ks,us,r=>by
  rw[fB]at r
  obtain⟨b,fc,e,⟨o,its,n,g,c,d,i⟩,r⟩:=r
  rw[aL,gg]
  refine⟨_,fc,e,?_,fB.Hg r⟩
  show cx h (.tup (k.map kD)) _
  rw[cx]
  exact⟨b,its.toList,rfl,⟨o,g,c,n,by simpa using d⟩,Ql i⟩
theorem rm.Hg {k:NK}{a:Addr} (r:rm P w h k a):cx h (HR k) (.ref a):=by
 obtain⟨us,p,r⟩:=r
 rw[HR,cx]
 exact⟨a,us,rfl,p,r.Hg⟩
theorem D7:∀ l:List Key,D.jV (l.map kD)=0
 | []=>by rw[eV,D.jV]
 | .inl k :: ks=>by rw[aL,D.jV,D7 ks];show max (D.deep (.int k)) 0=0;rw[D.deep];rfl
 | .inr k :: ks=>by rw[aL,D.jV,D7 ks];show max (D.deep (.str k)) 0=0;rw[D.deep];rfl
theorem ze:∀ l:NK,D.jV (l.map iD)<=1
 | []=>by rw[eV,D.jV];omega
 | .inl (.inl k) :: ks=>by rw[aL,D.jV];have:=ze ks;show max (D.deep (.int k)) _<=1;rw[D.deep];omega
 | .inl (.inr k) :: ks=>by rw[aL,D.jV];have:=ze ks;show max (D.deep (.str k)) _<=1;rw[D.deep];omega
 | .inr l :: ks=>by rw[aL,D.jV];have:=ze ks;show max (D.deep (.tup (l.map kD))) _<=1;rw[D.deep,D7];omega
theorem Zj (k:NK):(HR k).deep<=2:=by rw[HR,D.deep];have:=ze k;omega
end
section
variable {P:Program}{w:World}{A:Around}{E:Value->Shared->Prop}{s:Shared}
theorem EI {x y:NK}{a b:Addr}{Q:Bool->Shared->Prop} (hu:A.units+5 < cLine) (hx:rm P w s.heap x a) (hy:rm P w s.heap y b) (h:Q (decide (x=y)) s) :
  wpAny (model P w) A (eqBool (.ref a) (.ref b)) Q E s:=by
 refine Tw 2 (Zj x) hx.Hg hy.Hg (by omega) P w E Q ?_
 have e:decide (HR x=HR y)=decide (x=y):=decide_eq_decide.mpr ⟨Zk,fun z=>by rw[z]⟩
 rw[e];exact h
theorem PR {K:Type} [DecidableEq K] {knd:KeyKind P w K} (n:Nat) {ks:List K}{a:Addr}{Q:Bool->Shared->Prop} (hk:IsTupleKey knd s.heap ks a) (h:Q true s):wpAny (model P w) A (eqIsQuiet (n+1) (.ref a)) Q E s:=by
 have hT:=hk.typeIs
 obtain⟨o,items,m,ho,_,hd,hi⟩:=hk
 unfold eqIsQuiet
 refine wpAny_bind (wpAny_specialOf hT F.slot_tuple_eq.lookup ?_)
 show wpAny _ _ (isInstance (.ref a) (.type "tuple") >>= _) _ _ s
 refine wpAny_bind (wpAny_isInstance hT isSubtype_tuple_tuple ?_)
 simp only[nN,ft,if_false]
 refine wpAny_bind (wpAny_seqItems ho hd ?_)
 refine wpAny_bind ?_
 show wpAny _ _ (forIn items _ _) _ _ s
 rw[<- uq]
 refine wpAny_forIn_list _ (fun rest r s'=>r.1=none∧s'=s∧∀ v∈rest,carriedByValue v=true) _ ?_ ?_ _ _ ⟨rfl,rfl,hi.byValue⟩
 ·rintro v rest r s' ⟨hr,rfl,Qw⟩
  rw[eqIsQuiet_byValue _ (Qw v aT)]
  refine wpAny_bind (wpAny_pure ?_)
  simp only[nN,ft,if_false]
  exact wpAny_pure ⟨rfl,rfl,fun u hu'=>Qw u (aK _ hu')⟩
 ·rintro⟨r1,r2⟩ s' ⟨hr,rfl,_⟩
  simp only at hr
  subst hr
  exact wpAny_pure h
theorem Vh {k:NK}{a:Addr}{Q:Bool->Shared->Prop} (hk:rm P w s.heap k a) (h:Q true s):wpAny (model P w) A (eqIsQuiet 8 (.ref a)) Q E s:=by
 obtain⟨us,p,hi⟩:=hk
 have hT:s.TypeIs (.ref a) "tuple" := p.typeIs
 obtain⟨o,ho,_,m,hd⟩:=p
 unfold eqIsQuiet
 refine wpAny_bind (wpAny_specialOf hT F.slot_tuple_eq.lookup ?_)
 show wpAny _ _ (isInstance (.ref a) (.type "tuple") >>= _) _ _ s
 refine wpAny_bind (wpAny_isInstance hT isSubtype_tuple_tuple ?_)
 simp only[nN,ft,if_false]
 refine wpAny_bind (wpAny_seqItems ho hd ?_)
 refine wpAny_bind ?_
 show wpAny _ _ (forIn us.toArray _ _) _ _ s
 rw[<- uq]
 refine wpAny_forIn_list _ (fun rest r s'=>r.1=none∧s'=s∧∃ left,fB P w s.heap left rest) _ ?_ ?_ _ _ ⟨rfl,rfl,k,by simpa using hi⟩
 ·rintro v rest r s' ⟨hr,rfl,left,hl⟩
  cases left with
  | nil=>rw[fB]at hl;cases hl
  | cons i left =>
   cases i with
   | inl k =>
    rw[fB]at hl
    obtain⟨u,fc,e,r1,hl⟩:=hl
    cases e
    rw[eqIsQuiet_byValue _ ((dO P w).byValue _ _ r1)]
    refine wpAny_bind (wpAny_pure ?_)
    simp only[nN,ft,if_false]
    exact wpAny_pure ⟨rfl,rfl,left,hl⟩
   | inr l =>
    rw[fB]at hl
    obtain⟨b,fc,e,r1,hl⟩:=hl
    cases e
    refine wpAny_bind (PR 6 r1 ?_)
    simp only[nN,ft,if_false]
    exact wpAny_pure ⟨rfl,rfl,left,hl⟩
 ·rintro⟨r1,r2⟩ s' ⟨hr,rfl,_⟩
  simp only at hr
  subst hr
  exact wpAny_pure h
theorem EH {k:NK}{a:Addr}{Q:Int->Shared->Prop} (hu:A.units+5 < cLine) (hk:rm P w s.heap k a) (h:Q (KJ P w k) { s with toks:=s.toks+GR k }) :
  wpAny (model P w) A (pyHash (.ref a)) Q E s:=by
 obtain⟨us,p,hi⟩:=hk
 have hT:s.TypeIs (.ref a) "tuple" := p.typeIs
 obtain⟨o,ho,_,n,hd⟩:=p
 unfold pyHash
 first | unfold pyHashByItsType | skip
 first | refine wpAny_bind (wpAny_cRoomFor_or (.inr (by omega)) ?_) | skip
 refine wpAny_bind (wpAny_specialOf hT pN.lookup ?_)
 show wpAny _ _ (if (some (Value.builtin "tuple.__hash__") == some fT)=true then _ else _) Q E s
 rw[if_neg (by rw[beq_builtin_none];exact bW)]
 refine wpAny_bind (wpAny_specialOf hT pN.lookup ?_)
 show wpAny _ _ (callSpecialIfBoundUnlessNone? (.ref a) "__hash__" _ >>= _) Q E s
 refine wpAny_bind (wpAny_callSpecialIfBoundUnlessNone?_slot hT pN (wpAny_call_entry pN hT F.entry_tuple_hash ?_ (F.args_tuple_hash_1 _)))
 show wpAny _ _ (Builtin.Tuple.tupleItemsOf (.ref a) >>= _) _ _ s
 refine wpAny_bind (wpAny_tupleItemsOf ho hd ?_)
 refine wpAny_bind ?_
 rw[<- uq]
 refine wpAny_forIn_list _
  (fun rest (b:Array Int) s'=>∃ done left:NK,k=done ++ left∧fB P w s.heap left rest∧b.toList=done.map (tK P w)∧s'={ s with toks:=s.toks+(done.map yg).sum })
  _ ?_ ?_ _ _ ⟨[],k,rfl,by simpa using hi,rfl,rfl⟩
 ·rintro x rest b s' ⟨done,left,rfl,hl,hb,rfl⟩
  cases left with
  | nil=>rw[fB]at hl;cases hl
  | cons i left =>
   cases i with
   | inl k =>
    rw[fB]at hl
    obtain⟨u,fc,e,r1,hl⟩:=hl
    cases e
    refine wpAny_bind ((dO P w).pyHash r1 ?_)
    first
     | exact wpAny_pure ⟨done ++ [.inl k],left,by simp,hl,by simp[hb,tK],by simp[jJ,yg]⟩
     | exact wpAny_bind (wpAny_pure (wpAny_pure ⟨done ++ [.inl k],left,by simp,hl,by simp[hb,tK],by simp[jJ,yg]⟩))
   | inr l =>
    rw[fB]at hl
    obtain⟨c,fc,e,r1,hl⟩:=hl
    cases e
    refine wpAny_bind (wpAny_pyHash_tuple (by show A.units+1 < cLine;omega) r1 ?_)
    first
     | exact wpAny_pure ⟨done ++ [.inr l],left,by simp,hl,by simp[hb,tK],by simp[jJ,yg]⟩
     | exact wpAny_bind (wpAny_pure (wpAny_pure ⟨done ++ [.inr l],left,by simp,hl,by simp[hb,tK],by simp[jJ,yg]⟩))
 ·rintro b s' ⟨done,left,rfl,hl,hb,rfl⟩
  have e:left = []:=by
   cases left with
   | nil=>rfl
   | cons i left=>cases i <;> rw[fB]at hl <;> obtain⟨_,_,z,_⟩:=hl <;> cases z
  subst e
  rw[eJ]at h
  show wpAny _ _ (retInt (fW b.toList)) _ _ _
  rw[hb]
  refine wpAny_ret_mkInt ?_
  show wpAny _ _ (if (decide (-(2:Int) ^ 63<=fW (done.map (tK P w))) && decide (fW (done.map (tK P w)) < 2 ^ 63))=true then _ else _) Q E _
  unfold KJ reduceHash GR at h
  by_cases hr:(decide (-(2:Int) ^ 63<=fW (done.map (tK P w))) && decide (fW (done.map (tK P w)) < 2 ^ 63))=true
  ·rw[if_pos hr]
   rw[if_pos hr]at h
   exact wpAny_pure (by simpa [jJ] using h)
  ·rw[if_neg hr]
   rw[if_neg hr]at h
   exact wpAny_bind (wpAny_rule (wpAny_pure (by simpa [jJ] using h)))
end
def tX (P:Program) (w:World):HeapKind P w NK where
 is:=rm P w
 hash:=KJ P w
 draws:=GR
 room:=fun A=>A.units+5 < cLine
 inj:=fun hx hy=>hx.inj hy
 keeps:=fun x ho hd hs=>x.keeps ho hd hs
 pyHash:=fun hu hk h=>EH hu hk h
 eqBool:=fun hu hx hy h=>EI hu hx hy h
 quiet:=fun hk h=>Vh hk h
section
variable {prog:Program}{w:World}{K:Type} [DecidableEq K] {knd:HeapKind prog w K}{A:Around}{E:Value->Shared->Prop}{s:Shared}{d a:Addr}{k:K}{xs:List (K × Addr × Value)}
theorem uK {dflt:Value}{Q:Value->Shared->Prop} (hu:knd.room A) (zo:knd.is s.heap k a) (hm:s.heap.DictOfH knd d xs)
  (acU:∀ p,atKey xs k=some p->Q p.2 { s with toks:=s.toks+knd.draws k })
  (zm:atKey xs k=none->∀ h',h'.DictOfH knd d (xs ++ [(k,a,dflt)])->fF d s.heap h'->Q dflt { s with heap:=h',toks:=s.toks+knd.draws k })
  (hsz:xs.length<=sizeLine):wpAny (model prog w) A (dictSetDefault d (.ref a) dflt) Q E s:=by
 obtain⟨o,es,ep,ho,hc,hd,he,his,hn⟩:=hm
 unfold dictSetDefault
 try with_reducible refine wpAny_holding ?_
 refine wpAny_bind (knd.pyHash hu zo ?_)
 refine wpAny_bind (wpAny_dictFind_heap (s := { s with toks:=s.toks+knd.draws k }) hu zo ho hd he his hn ?_ ?_)
 ·intro Xw
  have aow:k ∉ xs.map (·.1):=not_mem_keys_of_get Xw
  refine wpAny_bind (wpAny_rule (wpAny_bind (wpAny_updateDictKeys (hz:=by have e:=size_of_entries he;omega) (s := { s with toks:=s.toks+knd.draws k }) ho hd (wpAny_pure (zm (atKey_none_of_get Xw) _ ⟨_,_,ep+1,mB _ ho (Obj.isFreed_of_dict (zH hd _)),
   hc.mapDictKeys _,zH hd _,?_,?_,?_⟩ (rQ ..))))))
  ·simp[he,entryOfKey]
  ·intro x hx
   rcases bX.mp hx with hx | hx
   ·exact knd.keeps (his x hx) ho hd (rQ ..)
   ·simp only[bq]at hx
    subst hx
    exact knd.keeps zo ho hd (rQ ..)
  ·rw[dX,lO]
   refine⟨hn,by simp,?_⟩
   intro x hx y hy
   simp only[aL,eV,bq]at hy
   subst hy
   exact fun e=>aow (e ▸ hx)
 ·intro j p hj
  refine wpAny_bind (wpAny_dictEntries (s := { s with toks:=s.toks+knd.draws k }) ho hd ?_)
  rw[entry_at he j,hj]
  exact wpAny_bind (wpAny_rule (wpAny_pure (acU p (atKey_of_get hn hj))))
end
section
variable {prog:Program}{w:World}{K:Type} [DecidableEq K] (knd:HeapKind prog w K) (d a:Addr)
theorem xA (hd:(d == sysModules)=false) (dflt:Value) :
  MeetsIn prog w (Builtin.«dict.setdefault» ⟨[.ref d,.ref a,dflt], []⟩) (fun A R s=>knd.room A.in1∧∃ k xs,knd.is s.heap k a∧s.heap.DictOfH knd d xs∧xs.length<=sizeLine ∧
   (∀ p,atKey xs k=some p->R (.ok (.ret p.2)) { s with toks:=s.toks+knd.draws k }) ∧
   (atKey xs k=none->∀ h',h'.DictOfH knd d (xs ++ [(k,a,dflt)])->fF d s.heap h'->R (.ok (.ret dflt)) { s with heap:=h',toks:=s.toks+knd.draws k })) :=
 .of_wp fun A R s ⟨hu,k,xs,zo,hm,hz,h1,h2⟩=>by
  unfold Builtin.«dict.setdefault»
  refine wpAny_bind ?_
  unfold Builtin.Dict.keyAndDefault
  refine wpAny_bind (wpAny_notOrdered_dict hm.typeIs ?_)
  show wpAny _ _ (pure (d,bA a,some dflt)) _ _ s
  refine wpAny_pure ?_
  show wpAny _ _ (if (d == sysModules)=true then _ else (dictSetDefault d (.ref a) dflt >>= _)) _ _ s
  rw[if_neg (by rw[hd];exact bW)]
  exact wpAny_bind (uK hu zo hm (fun p hp=>wpAny_pure ⟨p.2,rfl,h1 p hp⟩) (fun hn h' Fs pB=>wpAny_pure ⟨dflt,rfl,h2 hn h' Fs pB⟩) hz)
end
section
variable {X:Cx}{scope:Scope}{own:List Str}{caps:List (Str × Nat)}{ag:List (Addr × Obj)}{σ : St}{H:Hp}{s:Shared}{fp:List Addr}
theorem Wk {prog:Program}{w:World}{A:Around}{R:Result->Shared->Prop}{pQ oC gD zQ:Expr}{pos:Pos}{it acc:Value}{env:Env} (Iv:Nat->Shared->Prop)
  (vb:∀ n s,Iv n s->wpAny (model prog w) A (pyNext it) (fun r fb => match r with
   | none=>R (.ok .next) fb
   | some v=>wpAny (model prog w) A (letOwnedTupleGo oC it v) (fun _ p6 => wpAny (model prog w) A (assign oC env v) (fun _ pH => wpAny (model prog w) A (isTrue zQ env (eval zQ env)) (fun ok Pw => if ok=true then wpAny (model prog w) A (eval pQ env) (fun x JN =>
       wpAny (model prog w) A (call (.builtin "list.append") [acc,x]) (fun _ JM => ∃ m,m < n∧Iv m JM) (fun _ _=>False) JN) (fun _ _=>False) Pw else ∃ m,m < n∧Iv m Pw) (fun _ _=>False) pH) (fun _ _=>False) p6) (fun _ _=>False) fb) (fun _ _=>False) s)
  (n:Nat) (h:Iv n s):codeAny (model prog w) A (.compLoop (.ListComp pQ [⟨oC,gD, [zQ],0⟩] scope pos) 0 it acc env) R s:=by
 refine codeAny_loop rfl Iv (fun n s hI => ?_) n h
 show wpAny _ A ((compTurn (.ListComp pQ [⟨oC,gD, [zQ],0⟩] scope pos) 0 it acc env).onRaise (fun x=>do noteFrame x env;theTreesLotGoes x)) _ _ s
 refine wpAny_noted ?_
 rw[compTurn_list]
 refine wpAny_bind (wpAny_standAt (wpAny_bind (wpAny_mono (vb n s hI) (fun r fb oJ => ?_) fun _ _ z=>z.elim)))
 cases r with
 | none=>exact wpAny_pure oJ
 | some v =>
  refine wpAny_bind (wpAny_mono oJ (fun _ p6 D8 => wpAny_bind (wpAny_mono D8 (fun _ pH K4 => wpAny_bind (wpAny_tests_one (wpAny_mono K4 (fun ok Pw acJ => ?_) fun _ _ z=>z.elim))) fun _ _ z=>z.elim)) fun _ _ z=>z.elim)
  cases ok with
  | true =>
   have Qn:=(if_pos rfl:(if true=true then _ else _)=_) ▸ acJ
   exact wpAny_bind (wpAny_bind (wpAny_mono Qn (fun x JN VU => wpAny_bind (wpAny_mono VU (fun _ JM VT => wpAny_pure (wpAny_pure ⟨rfl,VT⟩)) fun _ _ z=>z.elim)) fun _ _ z=>z.elim))
  | false =>
   have Qn:∃ m,m < n∧Iv m Pw := acJ
   exact wpAny_bind (wpAny_pure (wpAny_pure ⟨rfl,Qn⟩))
def xp (J:It) (g:TG) (ct:TT) (te:TE) (ZN:St) (H1:Hp) (Q:VK):Prop := ∀ D,H1 D=none->∃ W:Nat->Nat->St->List V->Hp->Prop,
 (∃ m,W 0 m ZN [] (aJ H1 D (.lst []))) ∧
 ∀ i m τ ys H,W i m τ ys H->H D=some (.lst ys)∧((J.stop i H∧Q (.ref D) H)∨(J.go i H∧ys.length < sizeLine∧∀ x H',J.EF i H x H'->g x τ H' fun Jy H2=>ct Jy H2 fun b H4=>if b=true then te Jy H4 fun y H3 =>
  H3 D=some (.lst ys)∧∃ m',m' < m∧W (i+1) m' Jy (ys ++ [y]) (aJ H3 D (.lst (ys ++ [y]))) else ∃ m',m' < m∧W (i+1) m' Jy ys H4))
def Rh (wi:TI) (g:TG) (ct:TT) (te:TE) (k:Nat) (caps:List (Str × Nat)):TE:=fun σ H Q=>wi σ H fun J H1=>xp J g ct te (bz k none ++ jm σ caps) H1 Q
theorem QK {tg pQ gD zQ:Expr}{wi:TI}{g:TG}{ct:TT}{te:TE}{pos p2:Pos}{use:Option (Value->Sem Unit)}{Q:VK} {Q':Value->Shared->Prop} (S:oX X scope own caps) (hi:PI X tg gD wi) (hc:X.calm=true)
  (hg:∀ fp s H,PG (fo X scope (own ++ caps.map (·.1)) fp s H) tg g) (hct:∀ fp s H,PT (fo X scope (own ++ caps.map (·.1)) fp s H) zQ ct) (he:∀ fp s H,PE (fo X scope (own ++ caps.map (·.1)) fp s H) pQ te)
  (I:Inv X ag σ H s) (h:Rh wi g ct te own.length caps σ H Q)
  (gO:∀ D C H5 s5,Inv X ag σ H5 s5->Q (.ref D) H5->(∃ m,s5.heap.Ns C m)->H5 C=none->C≠X.env.locals->X.lR.heap.objs.size<=C->(∀ x c,X.env.cells.lookup x=some c->c≠C)->(∀ p∈X.pn ++ ag,p.1≠C) ->
   compPost (model X.prog X.w) X.A X.xe use Q' (.ref D) C (.ok .next) s5)
  (hs:∀ x,foldedSetIterable gD X.env x=pure x:=by intro _;rfl) :
  wpAny (model X.prog X.w) X.A (comprehension (.ListComp pQ [⟨tg,gD, [zQ],0⟩] scope pos) scope X.env p2 (newList []) false (eval gD X.env) use) Q' X.xe s:=by
 have Qt:closureFor scope X.env=pure (jz X.env.cells scope.names []):=BF fun y hy hk=>I.ok.has y.1 (.inl (S.frees y hy hk))
 refine wpAny_comprehension_free (g:=⟨tg,gD, [zQ],0⟩) (gs := []) rfl hs Qt S.kind S.locs (cf (hi ag s σ H _ I h) fun v s1 h1=>cf h1 fun Xn s2 h2 => ?_)
 obtain⟨it,fp,tn,J,H2,e,I2,T,dS,f2,R⟩:=h2
 subst e
 refine wpAny_newObj_type (wpAny_newFunctionEnv S.Fb (by intro y hy;simp at hy) (fun oJ Lc K9 => ?_) S.kind)
 have fr2:H2 s2.heap.objs.size=none:=I2.bU.fresh (aA _)
 obtain⟨W,⟨m0,w0⟩,vb⟩:=R s2.heap.objs.size fr2
 have I3:Inv X ag σ (aJ H2 s2.heap.objs.size (.lst [])) { s2 with heap:=s2.heap.push { cls := .type "list",dict:=none,data := .seq ([]:List Value).toArray } }:=I2.VN (its := []) (t':=s2.toks) .nil (bD _)
 have SJ:∀ b∈fp,b < s2.heap.objs.size:=fun b hb=>by
  obtain⟨o,ho,_⟩:=T.obj _ _ dS b hb
  exact br ho
 have f3:∀ b∈fp,rA X ag (aJ H2 s2.heap.objs.size (.lst [])) b:=fun b hb=>⟨by rw[ax (cU (SJ b hb))];exact(f2 b hb).1,(f2 b hb).2⟩
 generalize yh:({ s2 with heap:=s2.heap.push { cls := .type "list",dict:=none,data := .seq ([]:List Value).toArray } }:Shared)=s3 at I3
 have hz3:s3.heap.objs.size=s2.heap.objs.size+1:=by rw[<- yh];exact tG _ _
 have VQ:∀ b o,s2.heap.get? b=some o->s3.heap.get? b=some o:=fun b o e=>by rw[<- yh];exact aU _ e
 have SI:∀ b∈fp,b < s3.heap.objs.size:=fun b hb=>by rw[hz3];exact jP (SJ b hb)
 have G1:oJ.Ns s3.heap.objs.size (fun x=>([]:List (Str × Value)).reverse.lookup x):=by rw[<- yh];exact Lc
 have KU:∀ b o,s3.heap.get? b=some o->oJ.get? b=some o:=fun b o e=>by
  have hb:b≠s3.heap.objs.size:=cU (br e)
  rw[<- yh]at e hb
  exact K9.extBut b o hb (aU _ e)
 have J1:=FT S I3 f3 SI (t:=s2.toks+([]:List (Str × Value)).length) G1 KU
 have qr:tn 0 oJ := T.keep _ _ _ dS fun b hb o e=>KU b o (VQ b o e)
 -- vd loop
 have loop:∀ pH : Shared,pH = { s3 with heap:=oJ,toks:=s2.toks+([]:List (Str × Value)).length } ->
   codeAny (model X.prog X.w) X.A (.compLoop (.ListComp pQ [⟨tg,gD, [zQ],0⟩] scope pos) 0 (.ref it) (.ref s2.heap.objs.size) (fo X scope (own ++ caps.map (·.1)) fp s3 (aJ H2 s2.heap.objs.size (.lst []))).env)
    (compPost (model X.prog X.w) X.A X.xe use Q' (.ref s2.heap.objs.size) s3.heap.objs.size) pH := by
  rintro pH rfl
  refine Wk (fun n s'=>∃ i τ ys H',Inv (fo X scope (own ++ caps.map (·.1)) fp s3 (aJ H2 s2.heap.objs.size (.lst []))) [] τ H' s'∧tn i s'.heap∧(∀ b∈fp,H' b=none)∧W i n τ ys H') ?_ m0
   ⟨0,_, [],_,J1,qr,fun b hb=>(f3 b hb).1,w0⟩
  rintro n s' ⟨i, τ,ys,H',J',aF,Ts,w'⟩
  have fY:∀ {oz:Hp},(∀ b∈fp,oz b=none)->∀ b∈fp,rA (fo X scope (own ++ caps.map (·.1)) fp s3 (aJ H2 s2.heap.objs.size (.lst []))) [] oz b:=fun hn b hb =>
   ⟨hn b hb,cU (SI b hb),fun z=>by
     rcases bo.mp (I3.As b z) with e | e
     ·exact(f3 b hb).2.1 e
     ·exact(f3 b hb).2.2.1 e,.inl hb,fun x c e=>(f3 b hb).2.2.2.2.1 x c (kS e),(fun p hp=>by cases hp)⟩
  obtain⟨hD,tt⟩:=vb i n τ ys H' w'
  rcases tt with⟨stop,qn⟩ | ⟨go,iw,step⟩
  ·refine cf (T.done (fo X scope (own ++ caps.map (·.1)) fp s3 (aJ H2 s2.heap.objs.size (.lst []))) rfl rfl rfl hc i [] s' τ H' (fun _ _=>False) J' (fY Ts) aF stop) fun r s4 ⟨hr,J4⟩ => ?_
   subst hr
   obtain⟨m4,hn4,_⟩:=J4.loc
   have I5:=Io I3 J4 f3
   refine gO _ _ _ s4 I5 qn ⟨m4,hn4⟩ J4.free ?_ ?_ (fun x c e z => ?_) fun p hp z => ?_
   ·exact qZ I3.lt
   ·exact I3.sz
   ·obtain⟨v,q⟩:=I3.cell x c e
    rw[z]at q
    exact absurd q.lt (eT _)
   ·have q:=(I3.pin p hp).1
    rw[z]at q
    exact absurd (br q) (eT _)
  ·refine cf (T.item (fo X scope (own ++ caps.map (·.1)) fp s3 (aJ H2 s2.heap.objs.size (.lst []))) rfl rfl rfl hc i [] s' τ H' (fun _ _=>False) J' (fY Ts) aF go) fun r s4 ⟨u,hr,h4⟩ => ?_
   subst hr
   refine cf h4 fun _ s5 ⟨x,H5,J5,r5,y5,gK,Tq⟩ => ?_
   have J5':=J5.pinned (fY Tq) (T.obj _ _ gK)
   have Fh:∀ {xT:St}{H8:Hp}{s8:Shared},Inv (fo X scope (own ++ caps.map (·.1)) fp s3 (aJ H2 s2.heap.objs.size (.lst []))) ([] ++ Bj fp s5.heap) xT H8 s8->tn (i+1) s8.heap∧∀ b∈fp,H8 b=none:=fun {xT H8 s8} J8=>by
    refine⟨T.keep _ _ _ gK fun b hb o e=>(J8.pin (b,o) (bg _ (bg _ (o8 hb e)))).1,fun b hb => ?_⟩
    obtain⟨o,e,d⟩:=T.obj _ _ gK b hb
    exact(J8.pin (b,o) (bg _ (bg _ (o8 hb e)))).2.1
   refine cf (hg fp s3 _ _ s5 τ H5 x u _ J5' r5 (step x H5 y5)) fun _ s6 ⟨xT,H6,J6,q6⟩ => ?_
   refine cf (hct fp s3 _ _ s6 xT H6 _ J6 q6) fun ok s9 ⟨H9,J9,q9⟩ => ?_
   cases ok with
   | false =>
    obtain⟨m',Fs,w9⟩:=(show ∃ m',m' < n∧W (i+1) m' xT ys H9 from q9)
    exact⟨m',Fs,i+1, xT,ys,_,J9.rT,(Fh J9).1,(Fh J9).2,w9⟩
   | true =>
    refine cf (he fp s3 _ _ s9 xT H9 _ J9 q9) fun yv s7 ⟨y,H7,J7,r7,hD7,m',Fs,w7⟩ => ?_
    refine cf (gG (X:=fo X scope (own ++ caps.map (·.1)) fp s3 (aJ H2 s2.heap.objs.size (.lst []))) _ s7 xT H7 (.ref s2.heap.objs.size) [y] _ [yv] (fun _ H8=>H8=aJ H7 s2.heap.objs.size (.lst (ys ++ [y]))) J7 rfl (.cons r7 .nil) ⟨_,ys,y,rfl,rfl,hD7,iw,rfl⟩) fun _ s8 ⟨_,H8,J8,_,e8⟩ => ?_
    subst e8
    exact⟨m',Fs,i+1, xT,ys ++ [y],_,J8.rT,(Fh J8).1,(Fh J8).2,w7⟩
 have Ft:=loop _ rfl
 subst yh
 exact codeAny_compStart_list Ft (T.self _ 0 _ _ _ qr Ft)
theorem D2 {tg pQ gD zQ:Expr}{wi:TI}{g:TG}{ct:TT}{te:TE}{pos:Pos} (S:oX X scope own caps) (hi:PI X tg gD wi) (hc:X.calm=true)
  (hg:∀ fp s H,PG (fo X scope (own ++ caps.map (·.1)) fp s H) tg g) (hct:∀ fp s H,PT (fo X scope (own ++ caps.map (·.1)) fp s H) zQ ct) (he:∀ fp s H,PE (fo X scope (own ++ caps.map (·.1)) fp s H) pQ te)
  (hs:∀ x,foldedSetIterable gD X.env x=pure x:=by intro _;rfl):PE X (.ListComp pQ [⟨tg,gD, [zQ],0⟩] scope pos) (Rh wi g ct te own.length caps):=by
 intro ag s σ H Q I h
 rw[eval_ListComp]
 refine QK (use:=none) (Q:=Q) S hi hc hg hct he I h (fun D C H5 s5 I5 q ⟨m,hn⟩ hC hL hz xa VY => ?_) hs
 refine⟨m,hn,fun h' pB => ?_⟩
 exact⟨.ref D,H5,I5.turned (t':=s5.toks) (fun b o hb e=>(pB.2 b hb).trans e) hC hL (.inr hz) xa VY,rfl,q⟩
end
def wx (H:Hp):NK->List V->Prop
 | [],vs=>vs = []
 | .inl k :: ks,vs=>∃ va,vs=kV k :: va∧wx H ks va
 | .inr l :: ks,vs=>∃ b va,vs=V.ref b :: va∧H b=some (.tup (l.map kV))∧wx H ks va
def nZ (H:Hp) (k:NK) (a:Addr):Prop := ∃ vs,H a=some (.tup vs)∧wx H k vs
theorem wx.keep {H H':Hp} (ht:∀ b ys,H b=some (.tup ys)->H' b=some (.tup ys)):∀ {k:NK}{vs:List V},wx H k vs->wx H' k vs
 | [],vs,r=>by rw[wx]at r ⊢;exact r
 | .inl k :: ks,vs,r=>by
  rw[wx]at r ⊢
  obtain⟨va,e,r⟩:=r
  exact⟨va,e,wx.keep ht r⟩
 | .inr l :: ks,vs,r=>by
  rw[wx]at r ⊢
  obtain⟨b,va,e,q,r⟩:=r
  exact⟨b,va,e,ht _ _ q,wx.keep ht r⟩
theorem nZ.keep {H H':Hp}{k:NK}{a:Addr} (ht:∀ b ys,H b=some (.tup ys)->H' b=some (.tup ys)) (r:nZ H k a):nZ H' k a:=by
 obtain⟨vs,e,r⟩:=r
 exact⟨vs,ht _ _ e,r.keep ht⟩
section
variable {P:Program}{w:World}{H:Hp}{h:Heap}
theorem KI (ok:jb P w H h):∀ {k:NK}{vs:List V}{us:List Value},wx H k vs->Vals vs us->fB P w h k us
 | [],vs,us,r,q=>by rw[wx]at r;subst r;cases q;rw[fB]
 | .inl k :: ks,vs,us,r,q=>by
  rw[wx]at r
  obtain⟨va,rfl,r⟩:=r
  cases q with
  | cons q1 q2=>rw[fB];exact⟨_,_,rfl,Co q1,KI ok r q2⟩
 | .inr l :: ks,vs,us,r,q=>by
  rw[wx]at r
  obtain⟨b,va,rfl,e,r⟩:=r
  cases q with
  | cons q1 q2 =>
   rw[fB]
   cases (show _=bA b from q1)
   exact⟨b,_,rfl,Bq ok e,KI ok r q2⟩
theorem uZ {k:NK}{a:Addr} (ok:jb P w H h) (r:nZ H k a):rm P w h k a:=by
 obtain⟨vs,e,r⟩:=r
 obtain⟨_,its,rv,p⟩:=(show d8 P w H h a (.tup vs) from ok a _ e)
 exact⟨its,p.tup,KI ok r rv⟩
end
abbrev KN (H:Hp):List (NK × V)->List (NK × Addr × Value)->Prop:=Paired fun p q=>p.1=q.1∧nZ H p.1 q.2.1∧RelV p.2 q.2.2
theorem KN.val {H:Hp}{kvs:List (NK × V)}{xs:List (NK × Addr × Value)} (r:KN H kvs xs) (k:NK):mh (cX kvs k) ((atKey xs k).map (·.2)):=by
 induction r with
 | nil=>exact fU
 | @cons p q ps qs h t ih =>
  obtain⟨h1,_,h2⟩:=h
  by_cases e:p.1=k
  ·have e':q.1=k:=h1.symm.trans e
   have b:atKey (q :: qs) k=some q.2:=by simp[atKey,fj,e']
   rw[ig e,b];exact h2
  ·have e':¬ q.1=k:=fun z=>e (h1.trans z)
   have b:atKey (q :: qs) k=atKey qs k:=by simp[atKey,fj,e']
   rw[ij e,b];exact ih
theorem KN.keeps {H H':Hp}{kvs:List (NK × V)}{xs:List (NK × Addr × Value)} (r:KN H kvs xs) (ht:∀ b ys,H b=some (.tup ys)->H' b=some (.tup ys)):KN H' kvs xs :=
 Paired.pJ r fun _ _ z=>⟨z.1,z.2.1.keep ht,z.2.2⟩
def DN (P:Program) (w:World) (H:Hp) (a:Addr) (kvs:List (NK × V)):Prop:=kvs.length<=sizeLine∧(a == sysModules)=false∧∃ (xs:List (NK × Addr × Value)) (o:Obj) (es:Array DictEntry) (ep:Nat),
 H a=some (.ext fun h=>h.get? a=some o)∧KN H kvs xs∧o.ExactDict∧o.data = .dict es ep∧es.toList=xs.map (entryOfKey (tX P w))∧(xs.map (·.1)).Nodup
theorem DN.keep {P:Program}{w:World} {H H':Hp}{a:Addr}{kvs:List (NK × V)} (d:DN P w H a kvs) (ha:∀ φ,H a=some (.ext φ)->H' a=some (.ext φ)) (ht:∀ b ys,H b=some (.tup ys)->H' b=some (.tup ys)):DN P w H' a kvs:=by
 obtain⟨z,hd,xs,o,es,ep,e,r,q⟩:=d
 exact⟨z,hd,xs,o,es,ep,ha _ e,r.keeps ht,q⟩
theorem DN.same {P:Program}{w:World} {H H':Hp}{a:Addr}{kvs:List (NK × V)} (d:DN P w H a kvs) (sm:bp H H'):DN P w H' a kvs:=d.keep (fun φ => sm _ _) (fun b ys=>sm _ _)
theorem DN.ext {P:Program}{w:World}{H:Hp}{a:Addr}{kvs:List (NK × V)} (d:DN P w H a kvs):∃ φ,H a=some (.ext φ):=by
 obtain⟨_,_,xs,o,es,ep,e,_⟩:=d
 exact⟨_,e⟩
theorem Cu {P:Program}{w:World}{H:Hp}{h:Heap}{a:Addr}{kvs:List (NK × V)} (ok:jb P w H h) (d:DN P w H a kvs):kvs.length<=sizeLine∧(a == sysModules)=false ∧
  ∃ xs,KN H kvs xs∧h.DictOfH (tX P w) a xs:=by
 obtain⟨z,hd,xs,o,es,ep,e,r,h2,h3,h4,h5⟩:=d
 obtain⟨h1,_⟩:=(show d8 P w H h a (.ext fun h=>h.get? a=some o) from ok a _ e)
 refine⟨z,hd,xs,r,o,es,ep,h1,h2,h3,h4,fun x hx => ?_,h5⟩
 have all:∀ {l:List (NK × V)}{m:List (NK × Addr × Value)},KN H l m->∀ x∈m,(tX P w).is h x.1 x.2.1:=by
  intro l m q
  induction q with
  | nil=>intro x hx;exact nomatch hx
  | @cons p q ps qs hq t ih =>
   intro x hx
   rcases bo.mp hx with e | hx
   ·subst e
    exact uZ ok (by rw[<- hq.1];exact hq.2.1)
   ·exact ih x hx
 exact all r x hx
theorem LF {P:Program}{w:World}{H:Hp}{h:Heap}{a:Addr}{o:Obj} (e:h.get? a=some o):d8 P w H h a (.ext fun h=>h.get? a=some o):=⟨e,⟨o,e⟩,fun h1 h2 e1 k=>k o e1⟩
section
variable {X:Cx}{ag:List (Addr × Obj)}{σ : St}{H:Hp}{s:Shared}{a b:Addr}{kvs KR:List (NK × V)}{k:NK}{y v:V}{u r:Value}{A:Around}{E:Value->Shared->Prop}
theorem LJ {h':Heap} {t':Nat}{M5:List (NK × Addr × Value)} (I:Inv X ag σ H s) (d:DN X.prog X.w H a kvs) (hs:fF a s.heap h') (dd:h'.DictOfH (tX X.prog X.w) a M5) (gF:KN H KR M5) (hl:KR.length<=sizeLine) :
  ∃ φ,Inv X ag σ (aJ H a (.ext φ)) { s with heap:=h',toks:=t' }∧DN X.prog X.w (aJ H a (.ext φ)) a KR:=by
 obtain⟨φ0,e0⟩:=d.ext
 have hd:=d.2.1
 obtain⟨q,es,ep,hq,h2,h3,h4,_,h5⟩:=dd
 have ht:∀ c ys,H c=some (.tup ys)->(aJ H a (.ext fun h=>h.get? a=some q)) c=some (.tup ys):=fun c ys ec=>by
  rw[ax (dq ec e0 (fun z=>nomatch z))]
  exact ec
 exact⟨_,yr I (by rw[e0];exact fU) hs ⟨q,hq⟩ (LF hq),hl,hd,M5,q,es,ep,au,gF.keeps ht,h2,h3,h4,h5⟩
theorem KN.snoc {xs:List (NK × Addr × Value)} (gF:KN H kvs xs) (nk:nZ H k b) (rv:RelV v r):KN H (kvs ++ [(k,v)]) (xs ++ [(k,b,r)]):=gn gF ⟨rfl,nk,rv⟩
theorem Jk {Q:Value->Shared->Prop} (hu:A.units+10 < cLine) (I:Inv X ag σ H s) (d:DN X.prog X.w H a kvs) (nk:nZ H k b) (rv:RelV v r) (hl:kvs.length < sizeLine)
  (h1:∀ v' w' s',cX kvs k=some v'->RelV v' w'->Inv X ag σ H s'->Q w' s') (h2:cX kvs k=none->∀ φ s',Inv X ag σ (aJ H a (.ext φ)) s'->DN X.prog X.w (aJ H a (.ext φ)) a (kvs ++ [(k,v)])->Q r s') :
  wpAny (model X.prog X.w) A (call (.builtin "dict.setdefault") [.ref a,.ref b,r]) Q E s:=by
 obtain⟨z,hd,xs,gF,dd⟩:=Cu I.bU d
 have hz:xs.length<=sizeLine:=by rw[<- bj gF];exact z
 have ro:=gF.val k
 refine call_meetsIn jq dd.typeIs rD (qX _ _ _) (xA (tX X.prog X.w) a b hd r)
  ⟨(show A.units+1+5 < cLine by omega),k,xs,uZ I.bU nk,dd,hz,fun p hp => ?_,fun hn h' BE hs => ?_⟩
 ·rw[hp]at ro
  cases e:cX kvs k with
  | none=>rw[e]at ro;exact ro.elim
  | some v'=>rw[e]at ro;exact h1 v' _ _ e ro (I.tok _)
 ·rw[hn]at ro
  cases e:cX kvs k with
  | some v'=>rw[e]at ro;exact ro.elim
  | none =>
   obtain⟨φ,I',d'⟩:=LJ (t':=s.toks+(tX X.prog X.w).draws k) I d hs BE (gF.snoc nk rv) (by rw[aG];exact hl)
   exact h2 e φ _ I' d'
end
def aho (P:Program) (w:World) (td ty tx:TE):TE:=fun σ H Q=>td σ H fun x H1=>∃ a,x = .ref a∧(∃ kvs,DN P w H1 a kvs)∧ty σ H1 fun y H2=>tx σ H2 fun z H3=>∃ kvs k b,DN P w H3 a kvs∧y = .ref b∧nZ H3 k b∧kvs.length < sizeLine ∧
 (∀ v,cX kvs k=some v->Q v H3)∧(cX kvs k=none->∀ φ,DN P w (aJ H3 a (.ext φ)) a (kvs ++ [(k,z)])->Q z (aJ H3 a (.ext φ)))
theorem K3 {X:Cx}{ag:List (Addr × Obj)}{σ : St}{H:Hp}{s:Shared}{a:Addr} (I:Inv X ag σ H s) (d:∃ kvs,DN X.prog X.w H a kvs) :
  s.TypeIs (.ref a) "dict" ∧ (∀ b,bA a = .ref b->∃ ob,s.heap.get? b=some ob∧ob.dict=none)∧(a == sysModules)=false:=by
 obtain⟨kvs,e⟩:=d
 obtain⟨_,hd,xs,_,dd⟩:=Cu I.bU e
 refine⟨dd.typeIs,fun b q => ?_,hd⟩
 cases q
 obtain⟨ob,_,_,h1,h2,_⟩:=dd
 exact⟨ob,h1,h2.2.1⟩
section
variable {X:Cx}{o e f:Expr}{eN gw:Pos}{td ty tx:TE}
theorem YX (hu:X.A.units+10 < cLine) (ho:PE X o td) (he:PE X e ty) (hf:PE X f tx) (m:M2 X o "setdefault" eN e f gw):PE X (.Call (.Attribute o "setdefault" eN) [e,f] [] gw) (aho X.prog X.w td ty tx):=by
 intro ag s σ H Q I h
 refine wpAny_Call_method m.base m.gb m.line iV jq tD (cf (ho ag s σ H _ I h) fun u s1 ⟨x,H1,I1,rx,a,ex,d,q1⟩ => ?_)
 subst ex
 obtain rfl:u=bA a:=rx
 obtain⟨t1,t2,_⟩:=K3 I1 d
 refine⟨t1,t2,?_⟩
 rw[m.trees]
 refine gQ rfl (jY (fq (cf (he ag s1 σ H1 _ I1 q1) fun iv s2 ⟨y,H2,I2,ry,q2⟩ =>
  fq (cf (hf ag s2 σ H2 _ I2 q2) fun fv s3 ⟨z,H3,I3,rz,kvs,k,b,d3,ey,nk,hl,q3,q4⟩=>jQ ?_))))
 subst ey
 obtain rfl:iv=bA b:=ry
 exact Jk hu I3 d3 nk rz hl (fun v' w' s4 e4 r4 I4=>⟨v',H3,I4,r4,q3 v' e4⟩) fun hn φ s4 I4 d4=>⟨z,_,I4,rz,q4 hn φ d4⟩
def Z8 (P:Program) (w:World):TE:=fun _ H Q=>∀ p φ,H p=none->DN P w (aJ H p (.ext φ)) p []->Q (.ref p) (aJ H p (.ext φ))
theorem y6 {pos:Pos}:PE X (.Dict [] [] pos) (Z8 X.prog X.w):=by
 intro ag s σ H Q I h
 have hd:(s.heap.objs.size == sysModules)=false:=beq_eq_false_iff_ne.mpr (bV (cU I.big))
 refine wpAny_Dict_empty ⟨.ref s.heap.objs.size,_,I.laid (a:=s.heap.objs.size) (o := .ext fun h=>h.get? s.heap.objs.size=some { cls := .type "dict",data := .dict #[] }) (t':=s.toks) (fun _ _ q=>aU _ q) (aA _) (LF (bZ _ rfl)),rfl,h _ _ (I.bU.fresh (aA _)) ?_⟩
 exact⟨bD _,hd, [],_, #[],0,au,.nil,⟨rfl,rfl,rfl⟩,rfl,rfl,mv⟩
end
end L2
namespace Sw
inductive TM (S:Type) where
 | num (n:Int) | name (x:S) | of (x:S) (as:List Nat)
section
variable {S:Type}
inductive Eqv (ts:List (TM S)) (es:List (Nat × Nat)):Nat->Nat->Prop where
 | refl (i:Nat):Eqv ts es i i
 | symm {i j:Nat}:Eqv ts es i j->Eqv ts es j i
 | trans {i j k:Nat}:Eqv ts es i j->Eqv ts es j k->Eqv ts es i k
 | BB {i j:Nat}:(i,j)∈es->Eqv ts es i j
 | same {i j:Nat}{t:TM S}:ts[i]? = some t->ts[j]? = some t->Eqv ts es i j
 | Hi {i j:Nat}{x:S}{as bs:List Nat}:ts[i]? = some (.of x as)->ts[j]? = some (.of x bs)->as.length=bs.length->(∀ (k a b:Nat),as[k]? = some a->bs[k]? = some b->Eqv ts es a b)->Eqv ts es i j
def pk (ls:List Nat):Prop := ∀ k v:Nat,ls[k]? = some v->v<=k∧ls[v]? = some v
def nB (hi lo v:Nat):Nat:=if v=hi then lo else v
def jn (ls:List Nat) (hi lo:Nat):List Nat:=ls.map (nB hi lo)
theorem qL {ls:List Nat}{hi lo k:Nat}:(jn ls hi lo)[k]? = (ls[k]?).map (nB hi lo):=by unfold jn;rw[aD]
theorem SU {ls:List Nat}{hi lo:Nat}:(jn ls hi lo).length=ls.length:=by unfold jn;rw[aq]
theorem Oo {ls:List Nat}{hi lo:Nat} (g:pk ls) (Fu:ls[lo]? = some lo) (hl:lo < hi):pk (jn ls hi lo):=by
 intro k v h
 rw[qL]at h
 cases e:ls[k]? with
 | none=>rw[e]at h;cases h
 | some u =>
  rw[e]at h
  have h':nB hi lo u=v:=aE h
  obtain⟨g1,g2⟩:=g k u e
  unfold nB at h'
  by_cases hu:u=hi
  ·rw[if_pos hu]at h'
   subst h'
   refine⟨by omega,?_⟩
   rw[qL,Fu]
   show some (nB hi lo lo)=some lo
   unfold nB
   rw[if_neg (by omega)]
  ·rw[if_neg hu]at h'
   subst h'
   refine⟨g1,?_⟩
   rw[qL,g2]
   show some (nB hi lo u)=some u
   unfold nB
   rw[if_neg hu]
def Sound (ts:List (TM S)) (es:List (Nat × Nat)) (ls:List Nat):Prop := ∀ k v:Nat,ls[k]? = some v->Eqv ts es k v
theorem JW {ts:List (TM S)}{es:List (Nat × Nat)}{ls:List Nat}{hi lo:Nat} (h:Sound ts es ls) (e:Eqv ts es hi lo):Sound ts es (jn ls hi lo):=by
 intro k v q
 rw[qL]at q
 cases z:ls[k]? with
 | none=>rw[z]at q;cases q
 | some u =>
  rw[z]at q
  have h':nB hi lo u=v:=aE q
  have:=h k u z
  unfold nB at h'
  by_cases hu:u=hi
  ·rw[if_pos hu]at h'
   subst h' hu
   exact .trans this e
  ·rw[if_neg hu]at h'
   subst h'
   exact this
def Keeps (ls eI:List Nat):Prop := ∀ i j v:Nat,ls[i]? = some v->ls[j]? = some v->∃ u,eI[i]? = some u∧eI[j]? = some u
theorem Qi (ls:List Nat):Keeps ls ls:=fun i j v h1 h2=>⟨v,h1,h2⟩
theorem Keeps.trans {a b c:List Nat} (h:Keeps a b) (h':Keeps b c):Keeps a c:=fun i j v h1 h2=>by
 obtain⟨u,e1,e2⟩:=h i j v h1 h2
 exact h' i j u e1 e2
theorem VS (ls:List Nat) (hi lo:Nat):Keeps ls (jn ls hi lo):=fun i j v h1 h2=>⟨nB hi lo v,by rw[qL,h1];rfl,by rw[qL,h2];rfl⟩
theorem Nc {hi lo:Nat} (hl:lo<=hi):∀ ls:List Nat,(ls.map (nB hi lo)).sum<=ls.sum
 | []=>aA _
 | v :: ls=>by
  have:=Nc hl ls
  rw[aL,iR,iR]
  have h1:nB hi lo v<=v:=by unfold nB;split <;> omega
  omega
theorem Rl {hi lo:Nat} (hl:lo < hi):∀ {ls:List Nat},hi∈ls->(jn ls hi lo).sum < ls.sum
 | v :: ls,h=>by
  unfold jn
  rw[aL,iR,iR]
  have h1:nB hi lo v<=v:=by unfold nB;split <;> omega
  have h2:=Nc (hi:=hi) (lo:=lo) (by omega) ls
  rcases bo.mp h with e | e
  ·have:nB hi lo v < v:=by unfold nB;rw[if_pos e.symm];omega
   omega
  ·have:=Rl hl e
   unfold jn at this
   omega
def zU (ls:List Nat) (hi lo m:Nat):List Nat:=ls.mapIdx fun k v=>if k < m then nB hi lo v else v
theorem vH {ls:List Nat}{hi lo m k:Nat}:(zU ls hi lo m)[k]? = (ls[k]?).map fun v=>if k < m then nB hi lo v else v:=by unfold zU;rw[List.getElem?_mapIdx]
theorem NY {ls:List Nat}{hi lo m:Nat}:(zU ls hi lo m).length=ls.length:=by unfold zU;rw[List.length_mapIdx]
theorem SH {ls:List Nat}{hi lo:Nat} (g:pk ls):zU ls hi lo hi=ls:=by
 refine dP fun k => ?_
 rw[vH]
 cases e:ls[k]? with
 | none=>rfl
 | some v =>
  have:=(g k v e).1
  show some _=some _
  dsimp only
  by_cases hk:k < hi
  ·rw[if_pos hk];unfold nB;rw[if_neg (by omega)]
  ·rw[if_neg hk]
theorem Zl {ls:List Nat}{hi lo m v:Nat} (h:ls[m]? = some v):(zU ls hi lo m).set m (nB hi lo v)=zU ls hi lo (m+1):=by
 have hm:=(ai.mp h).1
 refine dP fun k => ?_
 rw[CU,vH,vH,NY]
 by_cases hk:m=k
 ·subst hk
  rw[if_pos rfl,if_pos hm,h]
  show some _=some _
  dsimp only
  rw[if_pos (by omega)]
 ·rw[if_neg hk]
  cases e:ls[k]? with
  | none=>rfl
  | some u =>
   show some _=some _
   dsimp only
   by_cases h1:k < m
   ·rw[if_pos h1,if_pos (by omega)]
   ·rw[if_neg h1,if_neg (by omega)]
theorem VI {ls:List Nat}{hi lo m v:Nat} (h:ls[m]? = some v) (hv:v≠hi):zU ls hi lo (m+1)=zU ls hi lo m:=by
 refine dP fun k => ?_
 rw[vH,vH]
 by_cases hk:k=m
 ·subst hk
  rw[h]
  show some _=some _
  dsimp only
  rw[if_pos (by omega),if_neg (by omega)]
  unfold nB
  rw[if_neg hv]
 ·cases e:ls[k]? with
  | none=>rfl
  | some u =>
   show some _=some _
   dsimp only
   by_cases h1:k < m
   ·rw[if_pos h1,if_pos (by omega)]
   ·rw[if_neg h1,if_neg (by omega)]
theorem Zm {ls:List Nat}{hi lo m:Nat} (h:ls.length<=m):zU ls hi lo m=jn ls hi lo:=by
 refine dP fun k => ?_
 rw[vH,qL]
 cases e:ls[k]? with
 | none=>rfl
 | some u =>
  have:=(ai.mp e).1
  show some _=some _
  dsimp only
  rw[if_pos (by omega)]
def mk (ls:List Nat):TM S->TM S
 | .num n => .num n
 | .name x => .name x
 | .of x as => .of x (as.map fun a=>ls.getD a 0)
def F3 (ts:List (TM S)) (es:List (Nat × Nat)):TM S->TM S->Prop
 | .of x as,.of y vs=>x=y∧as.length=vs.length∧∀ k a v:Nat,as[k]? = some a->vs[k]? = some v->Eqv ts es a v
 | t,m=>t=m
theorem wL {ts:List (TM S)}{es:List (Nat × Nat)}{ls:List Nat} (h:Sound ts es ls):∀ {t:TM S},(∀ x as,t = .of x as->∀ a∈as,a < ls.length)->F3 ts es t (mk ls t)
 | .num n,_=>rfl
 | .name x,_=>rfl
 | .of x as,hb=>by
  refine⟨rfl,by rw[aq],fun k a v h1 h2 => ?_⟩
  rw[aD,h1]at h2
  have e:ls.getD a 0=v:=aE h2
  have ha:=hb x as rfl a (aP h1)
  rw[aN,ah ha]at e
  refine h a v ?_
  rw[ah ha, <- e]
  rfl
theorem ET {ts:List (TM S)}{es:List (Nat × Nat)}{i j:Nat}{t u m:TM S} (hi:ts[i]? = some t) (hj:ts[j]? = some u) (h1:F3 ts es t m) (h2:F3 ts es u m):Eqv ts es i j:=by
 cases t with
 | num n =>
  have e:TM.num n=m:=h1
  subst e
  cases u with
  | num k=>cases (show TM.num k=TM.num n from h2);exact .same hi hj
  | name y=>cases (show TM.name y=TM.num n from h2)
  | of y bs=>cases (show TM.of y bs=TM.num n from h2)
 | name x =>
  have e:TM.name x=m:=h1
  subst e
  cases u with
  | num k=>cases (show TM.num k=TM.name x from h2)
  | name y=>cases (show TM.name y=TM.name x from h2);exact .same hi hj
  | of y bs=>cases (show TM.of y bs=TM.name x from h2)
 | of x as =>
  cases m with
  | num k=>cases (show TM.of x as=TM.num k from h1)
  | name y=>cases (show TM.of x as=TM.name y from h1)
  | of y vs =>
   obtain⟨rfl,l1,q1⟩:=h1
   cases u with
   | num k=>cases (show TM.num k=TM.of x vs from h2)
   | name z=>cases (show TM.name z=TM.of x vs from h2)
   | of z bs =>
    obtain⟨rfl,l2,q2⟩:=h2
    refine .Hi hi hj (by omega) fun k a b ha hb => ?_
    have hk:k < vs.length:=by have:=(ai.mp ha).1;omega
    exact .trans (q1 k a _ ha (ah hk)) (.symm (q2 k b _ hb (ah hk)))
def eE (ts:List (TM S)) (es:List (Nat × Nat)) (ls:List Nat):Prop :=
 ls.length=ts.length∧pk ls∧Sound ts es ls∧∀ i j:Nat,i < ts.length->j < ts.length->Eqv ts es i j->ls[i]? = ls[j]?
def ny (ts:List (TM S)):Prop := ∀ (i:Nat) (x:S) (as:List Nat),ts[i]? = some (.of x as)->∀ a∈as,a < i
theorem Wj {ts:List (TM S)}{es:List (Nat × Nat)}{ls:List Nat} (ha:ny ts) (he:∀ a b:Nat,(a,b)∈es->a < ts.length∧b < ts.length) (hl:ls.length=ts.length)
  (h1:∀ a b:Nat,(a,b)∈es->ls[a]? = ls[b]?) (h2:∀ (i j:Nat) (t u:TM S),ts[i]? = some t->ts[j]? = some u->mk ls t=mk ls u->ls[i]? = ls[j]?) {i j:Nat} (h:Eqv ts es i j):ls[i]? = ls[j]? := by
 induction h with
 | refl i=>rfl
 | symm _ ih=>exact ih.symm
 | trans _ _ S0 SY=>exact S0.trans SY
 | BB h=>exact h1 _ _ h
 | same q1 q2=>exact h2 _ _ _ _ q1 q2 rfl
 | @Hi i j x as bs q1 q2 C7 _ ih =>
  refine h2 _ _ _ _ q1 q2 ?_
  have e:as.map (fun a=>ls.getD a 0)=bs.map (fun a=>ls.getD a 0):=by
   refine dP fun k => ?_
   rw[aD,aD]
   by_cases hk:k < as.length
   ·have e1:=ah (l:=as) hk
    have e2:=ah (l:=bs) (show k < bs.length by omega)
    have:=ih k _ _ e1 e2
    rw[e1,e2]
    show some (ls.getD _ 0)=some (ls.getD _ 0)
    rw[aN,aN,this]
   ·rw[b5 (by omega),b5 (by omega)]
  show TM.of x _=TM.of x _
  rw[e]
theorem QM {ts:List (TM S)}{es:List (Nat × Nat)}{ls eI:List Nat} (h:eE ts es ls) (h':eE ts es eI):ls=eI:=by
 obtain⟨l1,g1,s1,c1⟩:=h
 obtain⟨l2,g2,s2,c2⟩:=h'
 refine dP fun k => ?_
 by_cases hk:k < ts.length
 ·have e1:=ah (l:=ls) (show k < ls.length by omega)
  have e2:=ah (l:=eI) (show k < eI.length by omega)
  obtain⟨a1,b1⟩:=g1 k _ e1
  obtain⟨a2,b2⟩:=g2 k _ e2
  have q1:=s1 k _ e1
  have q2:=s2 k _ e2
  have z1:=c2 k (ls[k]'(by omega)) hk (by omega) q1
  have z2:=c1 k (eI[k]'(by omega)) hk (by omega) q2
  rw[e2]at z1
  rw[e1]at z2
  have y1:=(g2 _ _ z1.symm).1
  have y2:=(g1 _ _ z2.symm).1
  rw[e1,e2]
  have:ls[k]'(by omega)=eI[k]'(by omega):=by omega
  rw[this]
 ·rw[b5 (by omega),b5 (by omega)]
theorem Zu (n:Nat):pk (bB n):=fun k v h=>by
 have hk:k < (bB n).length:=(ai.mp h).1
 rw[da]at hk
 rw[fO hk]at h
 cases h
 exact⟨aA _,fO hk⟩
theorem U3 (ts:List (TM S)) (es:List (Nat × Nat)) (n:Nat):Sound ts es (bB n):=fun k v h=>by
 have hk:k < (bB n).length:=(ai.mp h).1
 rw[da]at hk
 rw[fO hk]at h
 cases h
 exact .refl _
end
end Sw
namespace L2
open PySem PySem.Spec PyProof.Rows
section
variable {X:Cx}
inductive yE (xs:List V) (H:Hp) (Q:VK):Prop
 | mk:∀ (j:Int),(xs = [.int j])->(∀ p,H p=none->Q (.ref p) (aJ H p (.CZ 0 j)))->yE xs H Q
theorem LQ:lQ X (.type "range") (fun xs H Q=>yE xs H Q):=by
 intro ag s σ H xs us Q I r h
 obtain⟨j,rfl,q⟩:=h
 obtain⟨u,rfl,ru⟩:=vals1 r
 obtain⟨t,rfl⟩:=ru
 exact call_range_1 ⟨.ref s.heap.objs.size,_,I.laid (a:=s.heap.objs.size) (o := .CZ 0 j) (fun _ _ q=>aU _ q) (aA _) ⟨_,_,_,bZ _ rfl⟩,rfl,q _ (I.bU.fresh (aA _))⟩
inductive xo (xs:List V) (H:Hp) (Q:VK):Prop
 | mk:∀ (p:Addr) (n:Nat),(xs = [.ref p])->(H p=some (.CZ 0 (n:Int)))->(n<=1000000)->(∀ l,H l=none->Q (.ref l) (aJ H l (.lst ((bB n).map fun i:Nat=>V.int (i:Int)))))->xo xs H Q
theorem Jm (hc:X.calm=true):lQ X (.type "list") (fun xs H Q=>xo xs H Q):=by
 intro ag s σ H xs us Q I r h
 obtain⟨p,n,rfl,hp,hn,q⟩:=h
 obtain⟨u,rfl,ru⟩:=vals1 r
 cases (show u=bA p from ru)
 obtain⟨t,t',t'',e⟩:=(show d8 X.prog X.w H s.heap p (.CZ 0 (n:Int)) from I.bU p _ hp)
 have hz:wI 0 (n:Int) 1=n:=by rw[rangeSize_one];split <;> omega
 refine call_list_range (I.ok.hd hc) e (small_one (by omega) (by omega) (by omega) (by omega)) hz (by omega) fun h' tk aq6 c' kp hS V3 => ?_
 refine⟨.ref s.heap.objs.size,_,I.laid kp (aA _) (show d8 X.prog X.w _ h' _ (.lst ((bB n).map fun i:Nat=>V.int (i:Int))) from ⟨?_,aq6.toList,c',?_,by simpa using hS⟩),rfl,q _ (I.bU.fresh (aA _))⟩
 ·rw[aq,da]
  exact cA hn (by decide)
 ·refine Q7 (by rw[aq,da,a8];exact V3.1.symm) fun j x v hx hv => ?_
  obtain⟨t2,ht2⟩:=V3.2 j v (by rw[<- yO];exact hv)
  rw[aD]at hx
  have hj:j < n:=by
   have:=(ai.mp hv).1
   rw[a8,V3.1]at this
   exact this
  rw[fO hj]at hx
  have ex:V.int ((j:Nat):Int)=x:=aE hx
  rw[<- ex,ht2]
  exact⟨t2,by congr 1;omega⟩
where
 Q7:∀ {xs:List V}{us:List Value},xs.length=us.length->(∀ (j:Nat) x u,xs[j]? = some x->us[j]? = some u->RelV x u)->Vals xs us
 | [], [],_,_ => .nil
 | [],_ :: _,h,_=>by cases h
 | _ :: _, [],h,_=>by cases h
 | x :: xs,u :: us,h,f => .cons (f 0 x u rfl rfl) (Q7 (by simpa using h) fun j a b ha hb=>f (j+1) a b (by simpa using ha) (by simpa using hb))
end
theorem yR {k:Nat}{A:Around} (hr:eY k A):A.units+10 < cLine:=by have:=hr.un;omega
theorem ahk {k:Nat}{A:Around} (hr:eY k A):A.units+151 < cLine:=by have:=hr.un;omega
theorem MS {lo:Int}{n:Nat}{ct:TT}{te:TE}{σ : St}{caps:List (Str × Nat)}{H:Hp}{Q:VK} (f:Int->Option V) (hn:n<=1000)
  (ym:∀ (i:Nat),i < n->∀ H',bp H H'->∀ (R:Bool->Hp->Prop),(R (f (lo+i)).isSome H')->ct (some (.int (lo+i)) :: jm σ caps) H' R)
  (hev:∀ (i:Nat) v,i < n->f (lo+i)=some v->∀ H',bp H H'->∀ Q':VK,Q' v H'->te (some (.int (lo+i)) :: jm σ caps) H' Q')
  (hq:∀ D,H D=none->Q (.ref D) (aJ H D (.lst ((bB n).filterMap fun i:Nat=>f (lo+i))))) :
  xp (IW lo n) (cg 0) ct te (bz 1 none ++ jm σ caps) H Q:=by
 intro D hD
 refine⟨fun i m τ zs H'=>m=n - i∧i<=n∧(∃ o, τ = o :: jm σ caps)∧zs=(bB i).filterMap (fun i:Nat=>f (lo+i))∧H'=aJ H D (.lst zs),⟨n,by simp,bD _,⟨none,rfl⟩,by simp,rfl⟩,?_⟩
 rintro i m τ zs H' ⟨rfl,hi,⟨o,rfl⟩,rfl,rfl⟩
 refine⟨au,?_⟩
 have sm:∀ zs,bp H (aJ H D (.lst zs)):=fun zs=>aS hD _
 by_cases eS:i < n
 ·refine .inr ⟨eS,?_,fun x oz y => ?_⟩
  ·refine dE (cA (iM _ _) ?_)
   rw[da];omega
  obtain⟨e,e2⟩:=y
  subst e e2
  show ct (some (.int (lo+(i:Int))) :: jm σ caps) _ _
  refine ym i eS _ (sm _) _ ?_
  have step:(bB (i+1)).filterMap (fun i:Nat=>f (lo+i))=(bB i).filterMap (fun i:Nat=>f (lo+i)) ++ (match f (lo+i) with | some v => [v] | none => []):=by
   rw[ou,hV]
   congr 1
   rw[dN,BU]
   cases f (lo+(i:Int)) <;> rfl
  cases e:f (lo+(i:Int)) with
  | none =>
   rw[e]at step
   refine⟨n - (i+1),by omega,rfl,eS,⟨_,rfl⟩,?_,rfl⟩
   rw[step,eJ]
  | some v =>
   rw[e]at step
   refine hev i v eS e _ (sm _) _ ?_
   refine⟨au,n - (i+1),by omega,rfl,eS,⟨_,rfl⟩,step.symm,?_⟩
   rw[GA]
 ·have e:i=n:=by omega
  subst e
  exact .inl ⟨aA _,hq D hD⟩
section
variable {prog:Program}{w:World}{K:Type} [DecidableEq K] {knd:HeapKind prog w K}{A:Around}{E:Value->Shared->Prop}{s:Shared}{d:Addr}{xs:List (K × Addr × Value)}
end
section
variable {X:Cx}{ag:List (Addr × Obj)}{σ : St}{H:Hp}{s:Shared}{a b:Addr}{kvs KR:List (NK × V)}{k:NK}{y v:V}{u r:Value}{A:Around}{E:Value->Shared->Prop}
theorem KN.Kj {xs:List (NK × Addr × Value)} (r:KN H kvs xs) (k:NK) {y:V}{u:Value} (ry:RelV y u) :
  KN H (kvs.map fun kv=>if kv.1=k then (kv.1,y) else kv) (xs.map (putAt k u)):=by
 induction r with
 | nil=>exact .nil
 | @cons p q ps qs h t ih =>
  rw[aL,aL]
  refine .cons ?_ ih
  obtain⟨h1,h2,h3⟩:=h
  unfold putAt
  by_cases e:p.1=k
  ·rw[if_pos e,if_pos (h1.symm.trans e)];exact⟨h1,h2,ry⟩
  ·rw[if_neg e,if_neg (fun z=>e (h1.trans z))];exact⟨h1,h2,h3⟩
theorem KN.put {xs:List (NK × Addr × Value)} (r:KN H kvs xs) (k:NK) {b:Addr}{y:V}{u:Value} (hb:nZ H k b) (ry:RelV y u) :
  KN H (hW kvs k y) (storedH xs k b u):=by
 have e:(kvs.any fun kv=>decide (kv.1=k))=(atKey xs k).isSome:=by
  rw[mM,(r.val k).Br,lM]
 unfold hW storedH
 rw[e]
 by_cases q:(atKey xs k).isSome=true
 ·rw[if_pos q,if_pos q];exact r.Kj k ry
 ·rw[if_neg q,if_neg q];exact gn r ⟨rfl,hb,ry⟩
theorem QI {Q:Value->Shared->Prop} (hu:A.units+10 < cLine) (I:Inv X ag σ H s) (d:DN X.prog X.w H a kvs) (nk:nZ H k b) (l:cX kvs k=some v) (h:∀ w' s',Inv X ag σ H s'->RelV v w'->Q w' s') :
  wpAny (model X.prog X.w) A (getItem (.ref a) (.ref b)) Q E s:=by
 obtain⟨z,hd,xs,gF,dd⟩:=Cu I.bU d
 obtain⟨w',hw,mG⟩:=mh.some_of (v:=v) (o:=(atKey xs k).map (·.2)) (by rw[<- l];exact gF.val k)
 obtain⟨p,hp,hp2⟩:=b7.mp hw
 refine wpAny_getItem_heap (show A.units+1+5 < cLine by omega) (uZ I.bU nk) dd hp ?_
 rw[hp2]
 exact h w' _ (I.tok _) mG
theorem Wg {Q:Value->Shared->Prop} (hu:A.units+10 < cLine) (I:Inv X ag σ H s) (d:DN X.prog X.w H a kvs) (nk:nZ H k b) (h:∀ s',Inv X ag σ H s'->Q (.bool (!(cX kvs k).isSome)) s') :
  wpAny (model X.prog X.w) A (compareOp .NotIn (.ref b) (.ref a)) Q E s:=by
 obtain⟨z,hd,xs,gF,dd⟩:=Cu I.bU d
 refine wpAny_notIn_heap (show A.units+1+5 < cLine by omega) (uZ I.bU nk) hd dd ?_
 have q:=(gF.val k).Br
 rw[lM]at q
 rw[<- q]
 exact h _ (I.tok _)
theorem QH {Q:Unit->Shared->Prop} (hu:A.units+10 < cLine) (I:Inv X ag σ H s) (d:DN X.prog X.w H a kvs) (nk:nZ H k b) (rv:RelV v r) (hl:kvs.length < sizeLine)
  (h:∀ φ s',Inv X ag σ (aJ H a (.ext φ)) s'->DN X.prog X.w (aJ H a (.ext φ)) a (hW kvs k v)->Q () s') :
  wpAny (model X.prog X.w) A (setItem (.ref a) (.ref b) r) Q E s:=by
 obtain⟨z,hd,xs,gF,dd⟩:=Cu I.bU d
 have hz:xs.length<=sizeLine:=by rw[<- bj gF];exact z
 have C7:(hW kvs k v).length<=sizeLine:=by have:=nS kvs k v;omega
 refine wpAny_setItem_heap (hsz:=hz) (show A.units+1+5 < cLine by omega) (uZ I.bU nk) dd fun h' BE hs => ?_
 obtain⟨φ,I',d'⟩:=LJ (t':=s.toks+(tX X.prog X.w).draws k) I d hs BE (gF.put k nk rv) C7
 exact h φ _ I' d'
theorem ZC {Q:Value->Shared->Prop} (hu:A.units+10 < cLine) (I:Inv X ag σ H s) (d:DN X.prog X.w H a kvs) (nk:nZ H k b) (h:∀ w' s',Inv X ag σ H s'->RelV ((cX kvs k).getD .cQ) w'->Q w' s') :
  wpAny (model X.prog X.w) A (call (.builtin "dict.get") [.ref a,.ref b]) Q E s:=by
 obtain⟨z,hd,xs,gF,dd⟩:=Cu I.bU d
 exact call_meetsIn jE dd.typeIs pS (PySem.F.args_dict_get_2 _ _) (meetsH_dict_get (tX X.prog X.w) a b hd) ⟨(show A.units+1+5 < cLine by omega),k,xs,uZ I.bU nk,dd,h _ _ (I.tok _) ((gF.val k).getD rfl)⟩
end
inductive OX (P:Program) (w:World) (Q:VK) (x:V) (y:V) (H2:Hp):Prop
 | mk:∀ a b kvs k v,(x = .ref a)->(y = .ref b)->(DN P w H2 a kvs)->(nZ H2 k b)->(cX kvs k=some v)->(Q v H2)->OX P w Q x y H2
def ahq (P:Program) (w:World) (td ty:TE):TE:=fun σ H Q=>td σ H fun x H1=>ty σ H1 fun y H2=>OX P w Q x y H2
inductive IK (P:Program) (w:World) (Q:VK) (y:V) (x:V) (H2:Hp):Prop
 | mk:∀ a b kvs k,(x = .ref a)->(y = .ref b)->(DN P w H2 a kvs)->(nZ H2 k b)->(Q (.bl (!(cX kvs k).isSome)) H2)->IK P w Q y x H2
def YE (P:Program) (w:World) (ty td:TE):TE:=fun σ H Q=>ty σ H fun y H1=>td σ H1 fun x H2=>IK P w Q y x H2
inductive O0 (P:Program) (w:World) (D:Ends) (σ : St) (v:V) (x:V) (y:V) (H3:Hp):Prop
 | mk:∀ a b kvs k,(x = .ref a)->(y = .ref b)->(DN P w H3 a kvs)->(nZ H3 k b)->(kvs.length < sizeLine)->(∀ φ,DN P w (aJ H3 a (.ext φ)) a (hW kvs k v)->D.nx σ (aJ H3 a (.ext φ)))->O0 P w D σ v x y H3
def ahw (P:Program) (w:World) (td ty tv:TE):TS:=fun D σ H=>tv σ H fun v H1=>td σ H1 fun x H2=>ty σ H2 fun y H3=>O0 P w D σ v x y H3
inductive Ma (P:Program) (w:World) (ty:TE) (σ : St) (Q:VK) (x:V) (H1:Hp):Prop
 | mk:∀ a,(x = .ref a)->((∃ kvs,DN P w H1 a kvs))->(ty σ H1 fun y H2=>∃ b kvs k,y = .ref b∧DN P w H2 a kvs∧nZ H2 k b∧Q ((cX kvs k).getD .cQ) H2)->Ma P w ty σ Q x H1
def Z6 (P:Program) (w:World) (td ty:TE):TE:=fun σ H Q=>td σ H fun x H1=>Ma P w ty σ Q x H1
section
variable {X:Cx}{o i e f value:Expr}{pos sj eN gw:Pos}{td ty tv:TE}
theorem TB {ag:List (Addr × Obj)}{σ : St}{H:Hp}{s:Shared}{a:Addr}{kvs:List (NK × V)} (I:Inv X ag σ H s) (d:DN X.prog X.w H a kvs):s.TypeIs (.ref a) "dict" := (K3 I ⟨kvs,d⟩).1
theorem YY (hu:X.A.units+10 < cLine) (ho:PE X o td) (hi:PE X i ty) (hs:WA i):PE X (.Subscript o i pos) (ahq X.prog X.w td ty):=by
 intro ag s σ H Q I h
 refine Nd uT.lookup hs (cf (ho ag s σ H _ I h) fun u s1 ⟨x,H1,I1,rx,q1⟩=>cf (hi ag s1 σ H1 _ I1 q1) fun iv s2 ⟨y,H2,I2,ry,a,b,kvs,k,v,ex,ey,d,nk,l,q2⟩ => ?_)
 subst ex ey
 obtain rfl:u=bA a:=rx
 obtain rfl:iv=bA b:=ry
 exact⟨TB I2 d,QI hu I2 d nk l fun w' s3 I3 mG=>⟨v,H2,I3,mG,q2⟩⟩
theorem HL (hu:X.A.units+10 < cLine) (hi:PE X i ty) (ho:PE X o td):PC X .NotIn i o (YE X.prog X.w ty td):=by
 intro ag s σ H Q I h
 refine cf (hi ag s σ H _ I h) fun iv s1 ⟨y,H1,I1,ry,q1⟩=>cf (ho ag s1 σ H1 _ I1 q1) fun u s2 ⟨x,H2,I2,rx,a,b,kvs,k,ex,ey,d,nk,q2⟩ => ?_
 subst ex ey
 obtain rfl:u=bA a:=rx
 obtain rfl:iv=bA b:=ry
 exact Wg hu I2 d nk fun s3 I3=>⟨.bl (!(cX kvs k).isSome),H2,I3,rfl,q2⟩
theorem GJ (hu:X.A.units+10 < cLine) (ho:PE X o td) (hi:PE X i ty) (hv:PE X value tv) (hs:swapsWith value (some (.Subscript o i sj)) pos.line X.env=pure false) :
  PS X (.Assign [.Subscript o i sj] value pos) (ahw X.prog X.w td ty tv):=by
 intro ag s σ H D I h
 refine wpAny_Assign_Subscript (cf (hv ag s σ H _ I h) fun r s1 ⟨v,H1,I1,rv,q1⟩=>cf (ho ag s1 σ H1 _ I1 q1) fun u s2 ⟨x,H2,I2,rx,q2⟩=>cf (hi ag s2 σ H2 _ I2 q2) fun iv s3 ⟨y,H3,I3,ry,a,b,kvs,k,ex,ey,d,nk,hl,q3⟩ => ?_) hs
 subst ex ey
 obtain rfl:u=bA a:=rx
 obtain rfl:iv=bA b:=ry
 exact QH hu I3 d nk rv hl fun φ s4 I4 d4=>⟨σ,_,I4,q3 φ d4⟩
theorem Vn (hu:X.A.units+10 < cLine) (ho:PE X o td) (he:PE X e ty) (m:M1 X o "get" eN e gw):PE X (.Call (.Attribute o "get" eN) [e] [] gw) (Z6 X.prog X.w td ty):=by
 intro ag s σ H Q I h
 refine wpAny_Call_method m.base m.gb m.line iV jE yw (cf (ho ag s σ H _ I h) fun u s1 ⟨x,H1,I1,rx,a,ex,d,q1⟩ => ?_)
 subst ex
 obtain rfl:u=bA a:=rx
 obtain⟨t1,t2,_⟩:=K3 I1 d
 refine⟨t1,t2,?_⟩
 rw[m.trees]
 refine gQ rfl (jY (fq (cf (he ag s1 σ H1 _ I1 q1) fun iv s2 ⟨y,H2,I2,ry,b,kvs,k,ey,d2,nk,q2⟩=>jQ ?_)))
 subst ey
 obtain rfl:iv=bA b:=ry
 exact ZC hu I2 d2 nk fun w' s3 I3 mG=>⟨_,H2,I3,mG,q2⟩
end
theorem M6:∀ {bs:List Bool}{us:List Value},Vals (bs.map V.bl) us->us=bs.map iH
 | [],_,r=>by cases r;rfl
 | b :: bs,_,r=>by
  rw[aL]at r
  cases r with
  | cons h t=>rw[M6 t,aL,show _=iH b from h]
section
variable {X:Cx}
variable {o:Expr}{eN gw:Pos}{td:TE}
end
def DXo (P:Program) (w:World) (a:Addr) (o:Obj) (kvs:List (Key × V)):Prop:=kvs.length<=sizeLine∧(a == sysModules)=false∧∃ (vs:List (Key × Value)) (ep:Nat),KV kvs vs∧∀ h:Heap,h.get? a=some o->h.DictAt (dO P w) a vs ep
def Ext (a:Addr) (o:Obj):HO := .ext fun h=>h.get? a=some o
theorem Inv.freeze {X:Cx}{ag:List (Addr × Obj)}{σ : St}{H:Hp}{s:Shared}{a:Addr}{kvs:List (Key × V)} (I:Inv X ag σ H s) (e:H a=some (.dK kvs)):∃ o,DXo X.prog X.w a o kvs∧Inv X ag σ (aJ H a (Ext a o)) s:=by
 obtain⟨z,hd,vs,gF,dd⟩:=QJ I.bU e
 obtain⟨o,es,ep,ho,r⟩:=dd
 refine⟨o,⟨z,hd,vs,ep,gF,fun h hh=>⟨o,es,hh,r⟩⟩,?_⟩
 exact yr (h':=s.heap) (t':=s.toks) I (by rw[e];exact fU) (fF.refl _ _) ⟨o,ho⟩ (LF ho)
theorem Jw {P:Program}{w:World}{H:Hp}{h:Heap}{a:Addr}{o:Obj} (ok:jb P w H h) (e:H a=some (Ext a o)):h.get? a=some o:=(show d8 P w H h a (.ext fun h=>h.get? a=some o) from ok a _ e).1
section
variable {X:Cx}{tg l:Expr}{tl:TE}
end
section
variable {X:Cx}{ag:List (Addr × Obj)}{σ : St}{H:Hp}{s:Shared}{a:Addr}{kvs:List (Key × V)}{k:Key}{v:V}{u r:Value}{A:Around}{E:Value->Shared->Prop}
theorem Jl {Q:Value->Shared->Prop} (I:Inv X ag σ H s) (e:H a=some (.dK kvs)) (ry:RelV (kV k) u) (rv:RelV v r) (hl:kvs.length < sizeLine)
  (h1:∀ v' w' s',cX kvs k=some v'->RelV v' w'->Inv X ag σ H s'->Q w' s') (h2:cX kvs k=none->∀ s',Inv X ag σ (aJ H a (.dK (kvs ++ [(k,v)]))) s'->Q r s') :
  wpAny (model X.prog X.w) A (call (.builtin "dict.setdefault") [.ref a,u,r]) Q E s:=by
 obtain⟨z,hd,vs,gF,dd⟩:=QJ I.bU e
 have hz:vs.length<=sizeLine:=by rw[<- gF.length];exact z
 have ro:=gF.val k
 refine call_meetsIn jq dd.typeIs rD (qX _ _ _) (kt_meets_setdefault (dO X.prog X.w) a (Co ry) hd r) ?_
 refine⟨vs,dd,hz,fun w' hw => ?_,fun hn h' BE hs => ?_⟩
 ·rw[hw]at ro
  cases e:cX kvs k with
  | none=>rw[e]at ro;exact ro.elim
  | some v'=>rw[e]at ro;exact h1 v' _ _ e ro (I.tok _)
 ·rw[hn]at ro
  cases e':cX kvs k with
  | some v'=>rw[e']at ro;exact ro.elim
  | none =>
   refine h2 e' _ ?_
   have he:∃ q,h'.get? a=some q:=let ⟨q,_,_,hq,_⟩:=BE; ⟨q,hq⟩
   have hp:=gF.put k rv
   rw[DZ v e']at hp
   exact yr I (by rw[e];exact fU) hs he (TF (by rw[aG];exact hl) hd hp BE)
end
def ahn (td ty tx:TE):TE:=fun σ H Q=>td σ H fun x H1=>∃ a,x = .ref a∧IsD H1 a∧ty σ H1 fun y H2=>tx σ H2 fun z H3=>∃ kvs k,H3 a=some (.dK kvs)∧y=kV k∧kvs.length < sizeLine ∧
 (∀ v,cX kvs k=some v->Q v H3)∧(cX kvs k=none->Q z (aJ H3 a (.dK (kvs ++ [(k,z)]))))
section
variable {X:Cx}{o e f:Expr}{eN gw:Pos}{td ty tx:TE}
theorem YW (ho:PE X o td) (he:PE X e ty) (hf:PE X f tx) (m:M2 X o "setdefault" eN e f gw):PE X (.Call (.Attribute o "setdefault" eN) [e,f] [] gw) (ahn td ty tx):=by
 intro ag s σ H Q I h
 refine wpAny_Call_method m.base m.gb m.line iV jq tD (cf (ho ag s σ H _ I h) fun u s1 ⟨x,H1,I1,rx,a,ex,d,q1⟩ => ?_)
 subst ex
 obtain rfl:u=bA a:=rx
 obtain⟨t1,t2,_⟩:=SW I1 d
 refine⟨t1,t2,?_⟩
 rw[m.trees]
 refine gQ rfl (jY (fq (cf (he ag s1 σ H1 _ I1 q1) fun iv s2 ⟨y,H2,I2,ry,q2⟩ =>
  fq (cf (hf ag s2 σ H2 _ I2 q2) fun fv s3 ⟨z,H3,I3,rz,kvs,k,d3,ey,hl,q3,q4⟩=>jQ ?_))))
 subst ey
 exact Jl I3 d3 ry rz hl (fun v' w' s4 e4 r4 I4=>⟨v',H3,I4,r4,q3 v' e4⟩) fun hn s4 I4=>⟨z,_,I4,rz,q4 hn⟩
end
theorem uO {β : Type}{R:Hp->V -> β -> Prop}{K:ak}{a:Addr}{xs:List V}{bs:List β}{te:TE}{σ : St}{caps:List (Str × Nat)}{H:Hp}{Q:VK} (kp:∀ (H H':Hp) v b,(∀ c ys,H c=some (.tup ys)->H' c=some (.tup ys))->R H v b->R H' v b)
  (hS:bb K H a xs) (hz:xs.length<=1000) (hy:bs.length=xs.length)
  (ym:∀ (i:Nat) (x:V) (b : β),xs[i]? = some x->bs[i]? = some b->∀ H',bp H H'->∀ Q':VK,(∀ y oz,bp H' oz->R oz y b->Q' y oz)->te (some x :: jm σ caps) H' Q')
  (hq:∀ D H' ys,H D=none->bp H H'->H' D=some (.lst ys)->Paired (R H') ys bs->Q (.ref D) H') :
  zN (IX K a) (cg 0) te (bz 1 none ++ jm σ caps) H Q:=by
 intro D hD
 refine⟨fun i m τ zs H'=>m=xs.length - i∧i<=xs.length∧(∃ o, τ = o :: jm σ caps)∧Paired (R H') zs (bs.take i)∧bp H H'∧H' D=some (.lst zs),⟨xs.length,by simp,bD _,⟨none,rfl⟩,.nil,aS hD _,au⟩,?_⟩
 rintro i m τ zs H' ⟨rfl,hi,⟨o,rfl⟩,Xo,sm,xb⟩
 refine⟨xb,?_⟩
 have hlz:=bj Xo
 rw[bO]at hlz
 by_cases eS:i < xs.length
 ·refine .inr ⟨⟨xs,xs[i],sm.seq hS,by simp[eS]⟩,dE (by omega),fun x oz y => ?_⟩
  obtain⟨e,y⟩:=y
  subst e
  have hx:=y xs (sm.seq hS)
  have hdi:bs[i]? = some bs[i]:=ah (by omega)
  show te (some x :: jm σ caps) _ _
  refine ym i x bs[i] hx hdi _ sm _ (fun v H2 s2 hv => ?_)
  have hD2:=s2 _ _ xb
  have k2:∀ b ys,H2 b=some (.tup ys)->(aJ H2 D (.lst (zs ++ [v]))) b=some (.tup ys):=fun b ys e=>by rw[ax (dq e hD2 (fun z=>nomatch z))];exact e
  refine⟨hD2,xs.length - (i+1),by omega,rfl,eS,⟨_,rfl⟩,?_,(sm.trans s2).put hD,au⟩
  have e1:bs.take (i+1)=bs.take i ++ [bs[i]]:=by rw[dD,hdi];rfl
  rw[e1]
  exact gn (Paired.pJ Xo fun v b r=>kp _ _ v b k2 (kp _ _ v b (fun c ys=>s2 _ _) r)) (kp _ _ _ _ k2 hv)
 ·have e:i=xs.length:=by omega
  subst e
  refine .inl ⟨⟨xs,sm.seq hS,aA _⟩,?_⟩
  rw[<- hy,d0]at Xo
  exact hq D H' zs hD sm xb Xo
end L2
namespace PySem
section
variable {prog:Program}{w:World}{A:Around}{E:Value->Shared->Prop}{s:Shared}
end
section
variable {prog:Program}{w:World}{A:Around}{s:Shared}{R:Result->Shared->Prop}{I l:Addr}{items:Array Value}
end
section
variable {prog:Program}{w:World}{A:Around}{E:Value->Shared->Prop}{s:Shared}{I l:Addr}{items:Array Value}
end
end PySem
namespace L2
open PySem PySem.Spec PyProof.Rows
theorem gh {X:Cx}:Passes (pU X.prog X.w) X E0:=fun ag σ H s e s' I h=>by
 obtain⟨_,_,_,_,_,_,_,_,_,_,_,_,_,_,q⟩:=h
 exact eW q
theorem yZ {X:Cx}{body:List Stmt}{h0:ExceptHandler}{hs:List ExceptHandler}{tb:TS}{pos:Pos} (hb:pT X.NU body tb):PS X (.Try body (h0 :: hs) [] [] pos) tb:=by
 intro ag s σ H D I h
 refine wpAny_Try_except (show wpAny (model X.prog X.w) X.A (execs body X.env) _ _ s from wpAny_mono (hb ag s σ H D (I.u9 _) h) (fun f s1 q => ?_) fun _ _ z=>eW z)
 cases f with
 | next =>
  obtain⟨bF,H',J,q⟩:=q
  exact wpAny_execs_nil ⟨bF,H',J.nA,q⟩
 | brk =>
  obtain⟨bF,H',J,q⟩:=q
  exact⟨bF,H',J.nA,q⟩
 | cont =>
  obtain⟨bF,H',J,q⟩:=q
  exact⟨bF,H',J.nA,q⟩
 | ret u =>
  obtain⟨v, bF,H',J,r,q⟩:=q
  exact⟨v, bF,H',J.nA,r,q⟩
structure ag0 (K:ak) (x cV:Str) (st:Stmt) (f:Addr) (fd:FuncData):Prop where
 ex:∃ (oc:Value) (od:Option Addr) (dV kV doc pm:Value) (an:Option Addr) (cw ct:Value) (yc:Array (Option Value)),
  fd=aO x cV (bK st) (bw st) (aw st) dV kV doc pm an cw ct∧K.lookup f=some ⟨oc,od,.func fd,yc⟩∧aI K cw cV=true
structure Yu (P:Program) (w:World) (K:ak) (mg:Str->Option Value) (base:Heap) (k:Nat) (C:Addr) (m:Str) (ps:List Str) (fh:List V) (sp:Sp):Prop where
 ex:∃ f fd ds,kz P w K mg base (pU P w) k f fd ps sp∧Meth K C m f∧Binds K fd ps ds∧Vals fh ds
theorem Kr {X:Cx} {k k':Nat}{m:Str}{C:Addr}{ps:List Str}{fh:List V}{sp:Sp}{pos eN:Pos}{e o:Expr}{es:List Expr}{ta:TE}{t:TA}{E:XK}{pl:Sem Bool} (h:Yu X.prog X.w X.K X.mg X.base k C m ps fh sp) (c:nK X.K C) (hr:eY k' X.A) (hk:k<=k') (hx:Passes (pU X.prog X.w) X E) (he:PE X o ta) (ha:PA X (e :: es) t)
  (jZ:starEach (e :: es) X.env=(false,eval e X.env) :: starEach es X.env:=by rfl) (lZ:(backTo pos (starEach es X.env)).any (·.1)=false:=by rfl)
  (ht:eval (.Call (.Attribute o m eN) (e :: es) [] pos) X.env=(do
   let ov <- eval o X.env
   standAt eN.atName
   let (f,first) <- holding [ov] (getMethod ov m pl)
   callWith pos f first (backTo pos (starEach (e :: es) X.env)) (backToKw pos (keywordEach [] X.env))):=by rfl) :
  PE X (.Call (.Attribute o m eN) (e :: es) [] pos) (EO C m sp fh E ta t):=by
 obtain⟨f,fd,ds,F,hm,hb,hv⟩:=h.ex
 exact NF he c hm F (hr.mono hk) hb hv hx ha jZ lZ ht
section
variable {X:Cx}
end
theorem j7 {c:TT}{t u:TS}{D:Ends}{σ : St}{H:Hp} (R:Bool->Hp->Prop) (hc:∀ Q:Bool->Hp->Prop,(∀ b H',R b H'->Q b H')->c σ H Q) (h1:∀ H',R true H'->t D σ H') (h2:∀ H',R false H'->u D σ H'):GC c t u D σ H:=by
 refine hc _ fun b H' r => ?_
 cases b with
 | true=>exact jI (h1 _ r)
 | false=>exact hZ (h2 _ r)
section
variable {P:Program}{w:World}{A:Around}{s:Shared}
open SeqAt MeetsSeq MeetsSeq2 MeetsSeq3 SeqRoads2
open AutoSeq1 (wpAny_loadPart')
end
end L2
namespace L2
open PySem PySem.W PySem.Calls PyProof.Rows
theorem Q6 {ns:List Int}{c:Int}:c∈ns->BK (.int c)<=FX (ns.map xi):=by
 induction ns with
 | nil=>intro h;cases h
 | cons n ns ih =>
  intro h
  rw[aL,FX]
  rcases bo.mp h with rfl | h
  ·omega
  ·have:=ih h;omega
theorem Ws {ns:List Int} (h:WData.layableAll [FY (ns.map xi)]=true):∀ c∈ns,rR c<=1048576:=fun c hc=>by
 have h1:WData.layable (FY (ns.map xi))=true:=nq.mp h _ aT
 have h2:=of_decide_eq_true (gA.mp h1).2
 rw[BK]at h2
 have h3:=Q6 hc
 rw[BK]at h3
 show (if c == 0 then 0 else c.natAbs.log2+1)<=1048576
 have:(2:Nat) ^ 20=1048576:=by decide
 omega
theorem US {l:OpenLaw}{n k:Nat}{q:Program}{loose:List Str}{XP:(Str->Option Value)->Heap->Prop}{YP:World->Heap->Prop}{d:DefRec}{K:Params->Frag}{CX:World->yM}{sp:World->Sp}{x:Str}
  (hn:l.most=some n) (S3:n<=sizeLine) (hdf:d.params.defaults = []) (hr:eY k callerA)
  (hY:∀ (w:World) (h:Heap),YP w h->(K w.params).In h)
  (F:∀ (w:World) (mg:Str->Option Value) (fa:Addr) (h:Heap),(K w.params).In h->h.Ns mainGlobals mg->mg d.name=some (.ref fa) ->
   ∃ fd:FuncData,(∀ (s:Shared) (u:Value),BindsTo s fd ⟨[u], []⟩ [(x,u)])∧∀ base:Heap,(K w.params).In base->base.Ns mainGlobals mg->kz l.prog w (K w.params) mg base (CX w) k fa fd [x] (sp w))
  (wX:∀ (w:World) (H:Hp) (a:Addr) (ns:List Int),ns.length<=n->(∀ c∈ns,rR c<=1048576)->bb (K w.params) H a (ns.map V.int)->sp w [.ref a] H (fun v _=>v = .bl true) fun _ _ _=>False)
  (hCX:∀ (w:World) (H:Hp) (s:Shared) (e:Value) (s':Shared),CX w [] H s (fun _ _ _=>False) e s'->False) :
  WalkO q loose XP YP l.row.toRowW d [] (fun f vs=>PySem.call f vs):=by
 intro w s0 s1 mg mb G Y fa o pm cd doc dV kV ho hd oK hD Fq hg args vals as Qp aoz hrd hwl Fu
 have e1:=Dflts.none hD hdf
 have e2:=Dflts.noKw hD
 subst e1 e2
 obtain⟨a,vs,ns,ev,ea,aov,ahR,iw⟩:=Att.RM hn Qp hwl
 subst ev ea
 have KX:=hY w _ Y
 obtain⟨fd,hb,hF⟩:=F w mg fa _ KX G.T.g Fq
 refine enter_call (codeAny_mono (VP KX G.T.g G.T.b G.T.builtins G.T.nolimit hg aov ahR (cA iw S3) hr hF hb (fun H _ hS=>wX w H a ns iw (Ws aoz) hS) fun H e s'=>hCX w H s1 e s') fun r s' hq => ?_)
 obtain⟨er,h2,h3,h4⟩:=hq
 subst er
 exact⟨.inl ⟨.bool true,.bool true, [],rfl,fun _=>rfl,.bool true,Att.Sa l _,fun _=>⟨uH,fun _ hm=>(nomatch hm)⟩⟩,h2,h3,h4⟩
end L2
namespace L2
open PySem PySem.Spec PyProof.Rows
structure WC (P:Program) (w:World) (K:ak) (mg:Str->Option Value) (base:Heap) (k:Nat) (f:Addr) (ps:List Str) (sp:Sp):Prop where
 ex:∃ fd,kz P w K mg base DB k f fd ps sp∧aB K (.ref f)=true∧Binds K fd ps []
theorem dh.val {P:Program}{w:World}{K:ak}{mg:Str->Option Value}{base:Heap}{k:Nat}{x:Str}{ps:List Str}{sp:Sp} (h:dh P w K mg base k x ps sp):∃ f,mg x=some (.ref f)∧WC P w K mg base k f ps sp:=by
 obtain⟨f,fd,F,hm,hk,hb⟩:=h.ex
 exact⟨f,hm,fd,F,hk,hb⟩
section
variable {X:Cx}{k:Nat}{y:Str}{p pos:Pos}{e:Expr}{es:List Expr}{tv:TE}{t:TA}
inductive Mc (P:Program) (w:World) (K:ak) (mg:Str->Option Value) (base:Heap) (k:Nat) (t:TA) (σ : St) (Q:VK) (x:V) (H1:Hp):Prop
 | mk:∀ f ps sp,(x = .ref f)->(WC P w K mg base k f ps sp)->(yT sp [] E0 t σ H1 Q)->Mc P w K mg base k t σ Q x H1
def aae (P:Program) (w:World) (K:ak) (mg:Str->Option Value) (base:Heap) (k:Nat) (tv:TE) (t:TA):TE:=fun σ H Q=>tv σ H fun x H1=>Mc P w K mg base k t σ Q x H1
theorem Vp (hv:PE X (.Name y p) tv) (hr:eY k X.A) (ha:PA X (e :: es) t)
  (he:starEach (e :: es) X.env=(false,eval e X.env) :: starEach es X.env:=by rfl) (lZ:(backTo pos (starEach es X.env)).any (·.1)=false:=by rfl) :
  PE X (.Call (.Name y p) (e :: es) [] pos) (aae X.prog X.w X.K X.mg X.base k tv t):=by
 intro ag s σ H Q I h
 refine wpAny_Call_Name_kw (cf (hv ag s σ H _ I h) fun u s1 ⟨x,H1,I1,rx,q1⟩ => ?_)
 obtain⟨f,ps,sp,rfl,hf,q1⟩:=q1
 obtain⟨fd,F,hk,hb⟩:=hf.ex
 cases rx
 refine kT (h₀ := X.base) I1.ok.mod.KW hk (cf (ha pos ag s1 σ H1 _ I1 q1) fun us s2 ⟨vs,H2,I2,r,q⟩=>⟨I2.kL,?_⟩) he lZ
 exact AI F hr hb .nil W8 I2 r q
theorem Dj {K:ak}{a:Addr}{xs:List V}{ct:TT}{te:TE}{σ : St}{caps:List (Str × Nat)}{H:Hp}{Q:VK} (f:V->Option V) (hS:bb K H a xs) (hn:xs.length<=1000)
  (ym:∀ x∈xs,∀ H',bp H H'->∀ (R:Bool->Hp->Prop),(∀ oz,bp H' oz->R (f x).isSome oz)->ct (some x :: jm σ caps) H' R)
  (hev:∀ x v,x∈xs->f x=some v->∀ H',bp H H'->∀ Q':VK,(∀ oz,bp H' oz->Q' v oz)->te (some x :: jm σ caps) H' Q')
  (hq:∀ D H',H D=none->bp H H'->H' D=some (.lst (xs.filterMap f))->Q (.ref D) H') :
  xp (IX K a) (cg 0) ct te (bz 1 none ++ jm σ caps) H Q:=by
 intro D hD
 refine⟨fun i m τ zs H'=>m=xs.length - i∧i<=xs.length∧(∃ o, τ = o :: jm σ caps)∧zs=(xs.take i).filterMap f∧bp H H'∧H' D=some (.lst zs),⟨xs.length,by simp,bD _,⟨none,rfl⟩,by simp,aS hD _,au⟩,?_⟩
 rintro i m τ zs H' ⟨rfl,hi,⟨o,rfl⟩,rfl,sm,xb⟩
 refine⟨xb,?_⟩
 by_cases eS:i < xs.length
 ·refine .inr ⟨⟨xs,xs[i],sm.seq hS,by simp[eS]⟩,?_,fun x oz y => ?_⟩
  ·refine dE (cA (iM _ _) ?_)
   rw[bO];omega
  ·obtain⟨e,y⟩:=y
   subst e
   have hx:=y xs (sm.seq hS)
   have er:xs.take (i+1)=xs.take i ++ [x]:=by rw[dD,hx];rfl
   show ct (some x :: jm σ caps) _ _
   refine ym x (aP hx) _ sm _ (fun H2 s2 => ?_)
   cases e:f x with
   | none =>
    refine⟨xs.length - (i+1),by omega,rfl,eS,⟨_,rfl⟩,?_,sm.trans s2,s2 _ _ xb⟩
    rw[er,hV,dN,e];simp
   | some v =>
    refine hev x v (aP hx) e _ (sm.trans s2) _ (fun H3 s3 => ?_)
    have hD3:=s3 _ _ (s2 _ _ xb)
    refine⟨hD3,xs.length - (i+1),by omega,rfl,eS,⟨_,rfl⟩,?_,(sm.trans (s2.trans s3)).put hD,au⟩
    rw[er,hV,dN,e];simp
 ·have e:i=xs.length:=by omega
  subst e
  rw[d0]at xb
  exact .inl ⟨⟨xs,sm.seq hS,aA _⟩,hq D H' hD sm xb⟩
theorem vP:∀ {ns:List Int}{us:List Value},Vals (ns.map V.int) us->IntsAre us ns
 | [],us,r=>by cases r;exact .nil
 | n :: ns,us,r=>by
  cases r with
  | cons h t =>
   obtain⟨tk,rfl⟩:=h
   exact .cons n tk (vP t)
theorem BI:bootBuiltins "sorted" = some (.builtin "sorted"):=by decide +kernel
inductive yC (kK:ak) (xs:List V) (H:Hp) (Q:VK):Prop
 | mk:∀ (p:Addr) (ns:List Int),(xs = [.ref p])->(bb kK H p (ns.map V.int))->(ns.length < 64)->(∀ (lE:List Int) (l:Addr),lE.Perm ns->lE.Pairwise (· <= ·)->H l=none->Q (.ref l) (aJ H l (.lst (lE.map V.int))))->yC kK xs H Q
theorem BH:lQ X (.builtin "sorted") (fun xs H Q=>yC X.K xs H Q):=by
 intro ag s σ H xs us Q I r h
 obtain⟨p,ns,rfl,hS,h64,q⟩:=h
 obtain⟨u,rfl,rx⟩:=vals1 r
 cases rx
 obtain⟨its,r',pl,hz⟩:=I.list hS
 have iw:=r'.length
 rw[aq]at iw
 refine sorted_ints pl.isList (vP r') (by omega) fun out lE a1 a2 a3 => ?_
 obtain⟨e,he⟩:=sortedAll_at s.heap its out
 have hfr:H (s.heap.objs.size+1)=none:=I.bU.fresh (lC _)
 have C7:lE.length=ns.length:=a2.length_eq
 refine⟨.ref (s.heap.objs.size+1),_,I.laid (t':=s.toks) (fun b o e'=>sortedAll_old e') (lC _) (show d8 X.prog X.w _ (sortedAll s.heap its out) _ (.lst (lE.map V.int)) from ⟨?_,out.toList,e,wJ a1,by rw[he]⟩),rfl,q lE _ a2 a3 hfr⟩
 rw[aq,C7]
 rw[aq]at hz
 exact hz
end
section
variable {prog:Program}{w:World}{A:Around}{R:Result->Shared->Prop}{I:Addr}{fp wr:List Addr}{n:Nat}{P:Nat->Value->Prop}{St:Nat->Heap->Prop}{kw:List (Str × Value)}{G:Heap->Prop}
end
section
variable {X:Cx}{e:Expr}{te:TE}{p pos kp cp:Pos}{j:Nat}
end
section
variable {prog:Program}{w:World}{A:Around}{R:Result->Shared->Prop}{I:Addr}{fp wr:List Addr}{n:Nat}{P:Nat->Value->Prop}{St:Nat->Heap->Prop}{kw:List (Str × Value)}{G:Heap->Prop}
end
section
variable {X:Cx}{e:Expr}{te:TE}{p pos kp cp:Pos}{j:Nat}{d:Int}
end
end L2
namespace HT
open PySem PySem.Spec PyProof.Rows
section
variable {prog:Program}{w:World}{A:Around}{E:Value->Shared->Prop}{s:Shared}
end
end HT
namespace L2
open PySem PySem.Spec PyProof.Rows
section
variable {X:Cx}
end
section
variable {prog:Program}{w:World}{A:Around}{E:Value->Shared->Prop}{s:Shared}
end
section
variable {M:Model}{A:Around}{E:Value->Shared->Prop}{qn nm:Str}{N C:Addr}{bm bs:List Value}{V2 ab:Bool}{sn:List Str}{sub:List Value}{col:Option Bool}{dd:Option Addr}{k0 k1 k2 k3 k5:Option Value}{P7:String}
end
section
variable {prog:Program}{w:World}{A:Around}{E:Value->Shared->Prop}{s:Shared}{env:Env}{qn nm:Str}{N C:Addr}{bm bs:List Value}{V2 ab:Bool}{sn:List Str}{sub:List Value}{col:Option Bool}{dd:Option Addr}{k0 k1 k2 k3 k5:Option Value}{P7:String}
end
section
variable {prog:Program}{w:World}{A:Around}{E:Value->Shared->Prop}{s:Shared}{env:Env}{qn nm:Str}{N C:Addr}{bm bs bmB:List Value}{V2 ab:Bool}{sn:List Str}{sub:List Value}{col:Option Bool}{dd:Option Addr}{k0 k1 k2 k3 k5:Option Value}{B P7 as3:String}
end
section
variable {M:Model}{A:Around}{E:Value->Shared->Prop}{s:Shared}
end
section
variable {P:Program}{w:World}{K:ak}{mg:Str->Option Value}{base:Heap}{N:List Str}{cV:Str}{scope:Scope}{f:Addr}{cw:Value}{A:Around}{outer:List Env}{s0:Shared}{H0:Hp}{E:XK}{ea C:Addr}
end
section
variable {X:Cx}{ag:List (Addr × Obj)}{σ : St} {H0 H':Hp} {s0 s':Shared}{ea C:Addr}{a0:Value}{B h5:Heap}{m:Option Addr}
end
section
variable {X:Cx} {k k':Nat}{m:Str}{C:Addr}{ps:List Str}{fh:List V}{sp:Sp}{pos eN:Pos}{e o:Expr}{es:List Expr}{ta:TE}{t:TA}{pl:Sem Bool}
end
section
variable {prog:Program}{w:World}{K:Type} [DecidableEq K] {knd:HeapKind prog w K}{A:Around}{E:Value->Shared->Prop}{s:Shared}{d a:Addr}{k:K}{xs:List (K × Addr × Value)}
end
section
variable {prog:Program}{w:World}{K:Type} [DecidableEq K] (knd:HeapKind prog w K) (d a:Addr)
end
section
variable {X:Cx}{ag:List (Addr × Obj)}{σ : St}{H:Hp}{s:Shared}{a b:Addr}{kvs:List (NK × V)}{k:NK}{v:V}{A:Around}{E:Value->Shared->Prop}
end
section
variable {X:Cx}{o e:Expr}{eN gw:Pos}{td ty:TE}
end
def Gr (a:Addr) (o:Obj) (kvs:List (Key × V)):It :=
 ⟨fun i H=>i < kvs.length∧H a=some (Ext a o),fun i H x H'=>H'=H∧∃ kv,kvs[i]? = some kv∧x=kv.2,fun i H=>kvs.length<=i∧H a=some (Ext a o)⟩
theorem KV.ZT {kvs:List (Key × V)}{vs:List (Key × Value)} (r:KV kvs vs):∀ {i:Nat}{k:Key}{u:Value},vs[i]? = some (k,u)->∃ kv,kvs[i]? = some kv∧RelV kv.2 u:=by
 unfold KV at r
 induction r with
 | nil=>intro i k u h;simp at h
 | @cons p q ps qs h t ih =>
  intro i k u e
  cases i with
  | zero=>simp at e;subst e;exact⟨p,rfl,h.2⟩
  | succ i=>simpa using ih (by simpa using e)
theorem Q9 {P:Program}{w:World}{K:ak}{tg:Expr} (a it:Addr) {o:Obj}{kvs:List (Key × V)}{vs:List (Key × Value)}{ep:Nat} (gF:KV kvs vs) (hx:∀ h:Heap,h.get? a=some o->h.DictAt (dO P w) a vs ep) :
  Turn P w K tg (Gr a o kvs) [it] it (fun i h=>h.IsValIter it a i vs.length ep) where
 mem:=by simp
 obj:=fun i h st b hb=>by
  have e:b=it:=by simpa using hb
  subst e
  obtain⟨o,e,c,d⟩:=st
  exact⟨o,e,fun v z=>by rw[d]at z;cases z⟩
 keep:=fun i h h' st k=>st.at fun o e=>k it (by simp) o e
 item:=by
  intro X hP hw hK hc i ag s σ H E I hf st hg
  subst hP hw hK
  obtain⟨hi,ha⟩:=hg
  have hl:=gF.length
  obtain⟨⟨k,u⟩,hv⟩:∃ p,vs[i]? = some p:=⟨vs[i]'(by omega),ah (by omega)⟩
  obtain⟨kv,N8,ru⟩:=gF.ZT hv
  obtain⟨f0,f1,f2,f3,f4,f5⟩:=hf it (by simp)
  refine wpAny_pyNext_values_item st (hx _ (Jw I.bU ha)) hv fun h' aF sb => ?_
  have I1:Inv X ag σ H { s with heap:=h' }:=I.turned (t':=s.toks) (fun b o hb e=>(sb.2 b hb).trans e) f0 f1 f3 f4 f5
  obtain⟨o,e,c,d⟩:=id aF
  exact⟨u,rfl,Ju (s := { s with heap:=h' }) e c d (by decide) ⟨kv.2,H,I1,ru,⟨rfl,kv,N8,rfl⟩,aF,fun b hb=>(hf b hb).1⟩⟩
 done:=by
   intro X hP hw hK hc i ag s σ H E I hf st hg
   subst hP hw hK
   obtain⟨hi,ha⟩:=hg
   have hl:=gF.length
   obtain⟨f0,f1,f2,f3,f4,f5⟩:=hf it (by simp)
   exact wpAny_pyNext_values_end (I.ok.hd hc) st (hx _ (Jw I.bU ha)) (b5 (by omega)) fun h' eb=>⟨rfl,I.turned (t':=s.toks) (fun b o hb e=>eb b o hb e) f0 f1 f3 f4 f5⟩
 self:=fun _ _ _ _ _ st h=>wpAny_pyIter_valiter st h
inductive O3 (P:Program) (w:World) (R:It->Hp->Prop) (x:V) (H1:Hp):Prop
 | mk (a:Addr) (kvs:List (Key × V)) (e:x = .ref a) (ea:H1 a=some (.dK kvs)) (q:∀ o,DXo P w a o kvs->R (Gr a o kvs) (aJ H1 a (Ext a o))):O3 P w R x H1
def ahJ (P:Program) (w:World) (tl:TE):TI:=fun σ H R=>tl σ H fun x H1=>O3 P w R x H1
theorem YV {X:Cx}{tg o:Expr}{tl:TE}{eN gw:Pos} (ho:PE X o tl) (Qu:attributeBase o "values" X.env (eval o X.env)=eval o X.env:=by rfl) (Qr:(eN.endLine == gw.line)=true:=by rfl) :
  PI X tg (.Call (.Attribute o "values" eN) [] [] gw) (ahJ X.prog X.w tl):=by
 intro ag s σ H R I h
 refine wpAny_Call_method0_late Qu Qr (cf (ho ag s σ H _ I h) fun v s1 ⟨x,H0,I0,r1,q1⟩ => ?_)
 obtain⟨a,kvs,e,ea0,q⟩:=q1
 subst e
 obtain rfl:v=bA a:=r1
 obtain⟨ob,dx,I1⟩:=I0.freeze ea0
 have q:=q ob dx
 have ea:(aJ H0 a (Ext a ob)) a=some (Ext a ob):=au
 generalize aJ H0 a (Ext a ob)=H1 at I1 q ea
 obtain⟨z,hd,vs,ep,gF,hx⟩:=dx
 have Lk:=hx _ (Jw I1.bU ea)
 have hdo:s1.heap.DictOf (dO X.prog X.w) a vs:=by
  obtain⟨o',es,h1,h2,h3,h4,h5,h6⟩:=Lk
  exact⟨o',es,ep,h1,h2,h3,h4,h5,h6⟩
 have hob:∀ b,bA a = .ref b->∃ o',s1.heap.get? b=some o'∧o'.dict=none:=fun b e=>by
  cases e
  obtain⟨o',es,h1,h2,_⟩:=Lk
  exact⟨o',h1,h2.2.1⟩
 refine⟨"dict", "dict.values",iV,wm,PySem.F.type_dict_values,hdo.typeIs,hob,gQ rfl (PySem.evalArgs_none ?_)⟩
 refine call_meetsIn wm hdo.typeIs PySem.F.entry_dict_values (PySem.F.args_dict_values_1 _) (meets_dict_values (dO X.prog X.w) a hd) ⟨⟨vs,hdo⟩,?_⟩
 have kp:∀ b o',s1.heap.get? b=some o'->(s1.heap.push { cls := .type "dict_values",data := .fields #[.ref a] }).get? b=some o':=fun b o' e=>aU _ e
 have I2:Inv X ag σ H1 { s1 with heap:=s1.heap.push { cls := .type "dict_values",data := .fields #[.ref a] } }:=I1.kept (t':=s1.toks) kp
 refine wpAny_pyIter_values (knd:=dO X.prog X.w) (d:=a) (kvs:=vs) (ep:=ep) ⟨_,bZ _ rfl,rfl,rfl⟩ (hx _ (Jw I2.bU ea)) ?_
 refine⟨_, [_],_,_,H1,rfl,I2.kept (t':=s1.toks) fun b o e=>aU _ e,Q9 a _ gF hx,⟨_,bZ _ rfl,rfl,rfl⟩,fun b hb => ?_,q⟩
 have e:b=(s1.heap.push { cls := .type "dict_values",data := .fields #[.ref a] }).objs.size:=by simpa using hb
 subst e
 exact I2.G8 (aA _) (I2.bU.fresh (aA _))
theorem Wb {a:Addr}{o:Obj}{kvs:List (Key × V)}{g:TG}{tb:TS}{D:Ends}{σ : St}{H:Hp} (Pv:Nat->St->Hp->Prop) (h0:Pv 0 σ H) (hl:∀ i σ H,i<=kvs.length->Pv i σ H->H a=some (Ext a o))
  (hs:∀ i (kv:Key × V) σ H,kvs[i]? = some kv->Pv i σ H->g kv.2 σ H fun pz H2=>tb { D with nx:=Pv (i+1),ct:=Pv (i+1),bk:=D.nx } pz H2) (hd:∀ σ H,Pv kvs.length σ H->D.nx σ H) :
  ∃ W:Nat->Nat->St->Hp->Prop,(∃ m,W 0 m σ H)∧∀ i m σ H,W i m σ H ->
   ((Gr a o kvs).stop i H∧D.nx σ H)∨((Gr a o kvs).go i H∧∃ N:St->Hp->Prop,(∀ bF H',N bF H'->∃ m',m' < m∧W (i+1) m' bF H')∧∀ x H',(Gr a o kvs).EF i H x H'->g x σ H' fun pz H2=>tb { D with nx:=N,ct:=N,bk:=D.nx } pz H2):=by
 refine⟨fun i m σ H=>m=kvs.length - i∧i<=kvs.length∧Pv i σ H,⟨kvs.length,by simp,bD _,h0⟩,?_⟩
 rintro i m σ H ⟨rfl,hi,hp⟩
 by_cases eS:i < kvs.length
 ·refine .inr ⟨⟨eS,hl i σ H hi hp⟩,Pv (i+1),fun bF H' h'=>⟨kvs.length - (i+1),by omega,rfl,eS,h'⟩,?_⟩
  rintro x H' ⟨rfl,kv,N8,rfl⟩
  exact hs i kv σ _ N8 hp
 ·have e:i=kvs.length:=by omega
  subst e
  exact .inl ⟨⟨aA _,hl _ σ H hi hp⟩,hd σ H hp⟩
section
variable {prog:Program}{w:World}{A:Around}{E:Value->Shared->Prop}{s:Shared}
end
section
variable {X:Cx}{ag:List (Addr × Obj)}{σ : St}{H:Hp}{s:Shared} {h':Heap}
end
section
variable {X:Cx}
end
section
variable {prog:Program}{w:World}{A:Around}{E:Value->Shared->Prop}{s:Shared}
end
section
variable {P:Program}{w:World}{a:Addr}{o:Obj}{kvs:List (NK × V)}{g:TG}{tb:TS}{D:Ends}{σ : St}{H:Hp}
end
section
variable {X:Cx}{ag:List (Addr × Obj)}{σ : St}{H:Hp}{s:Shared}{a b:Addr}{kvs:List (NK × V)}{k:NK}{v:V}{A:Around}{E:Value->Shared->Prop}
end
end L2
namespace Sw
open PySem L2
abbrev Tm:=TM Str
abbrev nV (n:Nat):V:=V.int (n:Int)
def iS (H:Hp):Tm->V->Prop
 | .num n,v=>∃ a,v = .ref a∧H a=some (.tup [.str "num",.int n])
 | .name x,v=>∃ a,v = .ref a∧H a=some (.tup [.str "name",.str x])
 | .of x as,v=>∃ a b,v = .ref a∧H a=some (.tup [.str "of",.str x,.ref b])∧H b=some (.tup (as.map nV))
theorem iS.keep {H H':Hp} (ht:∀ b ys,H b=some (.tup ys)->H' b=some (.tup ys)):∀ {t:Tm}{v:V},iS H t v->iS H' t v
 | .num n,v,h=>by obtain⟨a,e,h⟩:=h;exact⟨a,e,ht _ _ h⟩
 | .name x,v,h=>by obtain⟨a,e,h⟩:=h;exact⟨a,e,ht _ _ h⟩
 | .of x as,v,h=>by obtain⟨a,b,e,h,h2⟩:=h;exact⟨a,b,e,ht _ _ h,ht _ _ h2⟩
theorem iS.same {H H':Hp}{t:Tm}{v:V} (sm:bp H H') (h:iS H t v):iS H' t v:=h.keep fun b ys=>sm _ _
abbrev om (H:Hp):List V->List Tm->Prop:=Paired fun v t=>iS H t v
theorem mN {H H':Hp}{us:List V}{ts:List Tm} (ht:∀ b ys,H b=some (.tup ys)->H' b=some (.tup ys)) (h:om H us ts):om H' us ts:=Paired.pJ h fun _ _ z=>z.keep ht
theorem gC {H H':Hp}{us:List V}{ts:List Tm} (sm:bp H H') (h:om H us ts):om H' us ts:=mN (fun b ys=>sm _ _) h
theorem tP {H:Hp}:∀ {us:List V}{ts:List Tm}{i:Nat}{v:V},om H us ts->us[i]? = some v->∃ t,ts[i]? = some t∧iS H t v
 | _,_,_,_,.nil,e=>by simp at e
 | _,_,0,_,.cons h _,e=>by simp at e;subst e;exact⟨_,rfl,h⟩
 | _,_,i+1,v,.cons _ r,e=>by
  obtain⟨t,e',h⟩:=tP (i:=i) (v:=v) r (by simpa using e)
  exact⟨t,by simpa using e',h⟩
def dU:Tm->NK
 | .num n => [.inl (.inr "num"),.inl (.inl n)]
 | .name x => [.inl (.inr "name"),.inl (.inr x)]
 | .of x as => [.inl (.inr "of"),.inl (.inr x),.inr (as.map fun n:Nat=>(.inl (n:Int):Key))]
theorem rV:∀ {t u:Tm},dU t=dU u->t=u
 | .num n,.num m,e=>by unfold dU at e;simp at e;rw[e]
 | .name x,.name y,e=>by unfold dU at e;simp at e;rw[e]
 | .of x as,.of y bs,e=>by
  unfold dU at e
  simp only[kZ,Ac,Ab,and_true,true_and]at e
  rw[e.1]
  have:=qK (f:=fun n:Nat=>(.inl (n:Int):Key)) (fun a b h=>by have h:=xP h;omega) e.2
  rw[this]
 | .num n,.name y,e=>by
  unfold dU at e
  simp only[kZ,Ac,Ab]at e
  exact absurd e.1 (by decide)
 | .name n,.num y,e=>by
  unfold dU at e
  simp only[kZ,Ac,Ab]at e
  exact absurd e.1 (by decide)
 | .num n,.of y bs,e=>by unfold dU at e;simp at e
 | .name n,.of y bs,e=>by unfold dU at e;simp at e
 | .of y bs,.num n,e=>by unfold dU at e;simp at e
 | .of y bs,.name n,e=>by unfold dU at e;simp at e
theorem ahF (as:List Nat):as.map nV=(as.map fun n:Nat=>(.inl (n:Int):Key)).map kV:=by
 rw[jB];rfl
theorem iS.key {H:Hp}:∀ {t:Tm}{v:V},iS H t v->∃ b,v = .ref b∧nZ H (dU t) b
 | .num n,v,h=>by
  obtain⟨a,e,h⟩:=h
  refine⟨a,e,_,h,?_⟩
  exact⟨_,rfl,_,rfl,rfl⟩
 | .name x,v,h=>by
  obtain⟨a,e,h⟩:=h
  refine⟨a,e,_,h,?_⟩
  exact⟨_,rfl,_,rfl,rfl⟩
 | .of x as,v,h=>by
  obtain⟨a,b,e,h,h2⟩:=h
  refine⟨a,e,_,h,?_⟩
  rw[ahF]at h2
  exact⟨_,rfl,_,rfl,b,_,rfl,h2,rfl⟩
def kG:Tm->D
 | .num n => .tup [.str "num",.int n]
 | .name x => .tup [.str "name",.str x]
 | .of x as => .tup [.str "of",.str x,.tup (as.map fun n:Nat => .int (n:Int))]
theorem B9:∀ {t u:Tm},kG t=kG u->t=u
 | .num n,.num m,e=>by unfold kG at e;simp at e;rw[e]
 | .name x,.name y,e=>by unfold kG at e;simp at e;rw[e]
 | .of x as,.of y bs,e=>by
  unfold kG at e
  simp only[D.tup.injEq,kZ,D.str.injEq,and_true,true_and]at e
  rw[e.1]
  have:=qK (f:=fun n:Nat=>D.int (n:Int)) (fun a b h=>by have h:=D.int.inj h;omega) e.2
  rw[this]
 | .num n,.name y,e=>by
  unfold kG at e
  simp only[D.tup.injEq,kZ,D.str.injEq]at e
  exact absurd e.1 (by decide)
 | .name n,.num y,e=>by
  unfold kG at e
  simp only[D.tup.injEq,kZ,D.str.injEq]at e
  exact absurd e.1 (by decide)
 | .num n,.of y bs,e=>by unfold kG at e;simp at e
 | .name n,.of y bs,e=>by unfold kG at e;simp at e
 | .of y bs,.num n,e=>by unfold kG at e;simp at e
 | .of y bs,.name n,e=>by unfold kG at e;simp at e
def fe (L:Addr) (H H':Hp):Prop := ∀ c o,c≠L->H c=some o->H' c=some o
theorem fe.refl (L:Addr) (H:Hp):fe L H H:=fun _ _ _ h=>h
theorem fe.same {L:Addr}{H H1 H2:Hp} (a:fe L H H1) (b:bp H1 H2):fe L H H2:=fun c o n h=>b c o (a c o n h)
theorem fe.put {L:Addr}{H H1:Hp}{o:HO} (a:fe L H H1):fe L H (aJ H1 L o):=fun c u n h=>by rw[ax n];exact a c u n h
theorem fe.new {L p:Addr}{H H1:Hp}{o:HO} (a:fe L H H1) (hp:H p=none):fe L H (aJ H1 p o):=fun c u n h=>by rw[ax (fS h hp)];exact a c u n h
theorem fe.tup {L:Addr}{H H1:Hp}{ls:List V} (a:fe L H H1) (hL:H L=some (.lst ls)):∀ b ys,H b=some (.tup ys)->H1 b=some (.tup ys):=fun b ys h=>a b _ (dq h hL (fun z=>nomatch z)) h
def wD (H:Hp) (v:V) (e:Nat × Nat):Prop := ∃ a rest,v = .ref a∧H a=some (.tup (nV e.1 :: nV e.2 :: rest))
theorem wD.keep {H H':Hp}{v:V}{e:Nat × Nat} (ht:∀ b ys,H b=some (.tup ys)->H' b=some (.tup ys)) (h:wD H v e):wD H' v e:=by
 obtain⟨a,r,z,h⟩:=h
 exact⟨a,r,z,ht _ _ h⟩
abbrev zM (H:Hp):List V->List (Nat × Nat)->Prop:=Paired (wD H)
theorem jU {H H':Hp}{us:List V}{es:List (Nat × Nat)} (ht:∀ b ys,H b=some (.tup ys)->H' b=some (.tup ys)) (h:zM H us es):zM H' us es:=Paired.pJ h fun _ _ z=>z.keep ht
theorem LI {H:Hp}:∀ {us:List V}{ts:List (Nat × Nat)}{i:Nat}{v:V},zM H us ts->us[i]? = some v->∃ t,ts[i]? = some t∧wD H v t
 | _,_,_,_,.nil,e=>by simp at e
 | _,_,0,_,.cons h _,e=>by simp at e;subst e;exact⟨_,rfl,h⟩
 | _,_,i+1,v,.cons _ r,e=>by
  obtain⟨t,e',h⟩:=LI (i:=i) (v:=v) r (by simpa using e)
  exact⟨t,by simpa using e',h⟩
theorem ik {t rest:TS}{D:Ends}{σ : St}{H:Hp} (R:St->Hp->Prop) (key:∀ bF H',R bF H'->rest D bF H') (h:∀ {N:St->Hp->Prop},(∀ bF H',R bF H'->N bF H')->t { D with nx:=N } σ H):Z4 t rest D σ H:=h key
theorem gR {ls:List Nat}{k v:Nat} (h:ls[k]? = some v):rM (ls.map nV) (k:Int)=some (nV v):=aR (by rw[aD,h];rfl)
theorem SA {ls:List Nat}{k v:Nat}:(ls.map nV).set k (nV v)=(ls.set k v).map nV:=by rw[List.map_set]
def vI:V->Int
 | .int c=>c
 | _=>0
def abc:Str := "abcdefghijklmnopqrstuvwxyz"
def D3 (i:Int):Str:=⟨#[abc.cps.toList.getD (i % 26).toNat 97]⟩
theorem ZG (i:Int):rM abc.cps.toList (i % 26)=some (abc.cps.toList.getD (i % 26).toNat 97):=by
 have h0:0<=i % 26:=lh _ (by decide)
 have h1:i % 26 < 26:=jC _ (by decide)
 have hl:abc.cps.toList.length=26:=by decide +kernel
 have hi:(i % 26).toNat < abc.cps.toList.length:=by omega
 have z:rM abc.cps.toList (((i % 26).toNat:Nat):Int)=some abc.cps.toList[(i % 26).toNat]:=aR (ah hi)
 have e:(((i % 26).toNat:Nat):Int)=i % 26:=by omega
 rw[e]at z
 rw[z,aN,ah hi]
 rfl
def xO (ts:List Tm):Prop:=ny ts∧(∀ (i:Nat) x as,ts[i]? = some (.of x as)->as.length<=4∧1<=as.length)∧ts.Nodup
theorem UW:xO []:=⟨fun i x as h=>by simp at h,fun i x as h=>by simp at h,mv⟩
theorem xw {α β : Type}{R : α -> β -> Prop}:∀ (n:Nat) {xs:List α}{ys:List β},Paired R xs ys->Paired R (xs.take n) (ys.take n)
 | 0,_,_,_ => .nil
 | _+1,_,_,.nil => .nil
 | n+1,_,_,.cons h r => .cons h (xw n r)
theorem EZ {α β : Type}{R : α -> β -> Prop}:∀ {xs M5:List α} {ys ys':List β},Paired R xs ys->Paired R M5 ys'->Paired R (xs ++ M5) (ys ++ ys')
 | _,_,_,_,.nil,h=>h
 | _,_,_,_,.cons h r,q => .cons h (EZ r q)
theorem getD_at {ls:List Nat}{k:Nat} (h:k < ls.length):ls[k]? = some (ls.getD k 0):=by rw[aN,ah h];rfl
def oj (ms:List Tm) (k:Nat):Bool:=match ms[k]? with | some m => !decide (kG m∈(ms.take k).map kG) | none=>false
def dC (ms:List Tm) (n:Nat):List Nat:=(bB n).filter (oj ms)
theorem tN (ms:List Tm) (n:Nat):dC ms (n+1)=dC ms n ++ (if oj ms n then [n] else []):=by
 unfold dC
 rw[ou,BS]
 congr 1
 cases h:oj ms n <;> simp[h]
theorem qS (ms:List Tm) (n:Nat):(dC ms n).length<=n:=by
 have:=yz (oj ms) (bB n)
 rwa [da]at this
theorem Ij {ms:List Tm}{n k:Nat} (h:k∈dC ms n):k < n:=di.mp (eU.mp h).1
theorem qv {ms:List Tm}{n:Nat}{m:Tm} (h:ms[n]? = some m):oj ms n=false↔∃ i,i < n∧ms[i]? = some m:=by
 unfold oj
 rw[h]
 show (!decide (kG m∈(ms.take n).map kG))=false↔_
 rw[Bool.not_eq_false',decide_eq_true_iff]
 constructor
 ·intro z
  obtain⟨m',Fs,e⟩:=cM.mp z
  have e:=B9 e
  subst e
  obtain⟨i,hi⟩:=my.mp Fs
  rw[BR]at hi
  split at hi
  ·exact⟨i,by assumption,hi⟩
  ·cases hi
 ·rintro⟨i,hi,e⟩
  refine cM.mpr ⟨m,my.mpr ⟨i,?_⟩,rfl⟩
  rw[BR,if_pos hi];exact e
abbrev Row:=Nat × List Nat
def o9 (ps:List Row) (l:Nat):Option (List Nat):=(ps.find? fun p=>decide (p.1=l)).map (·.2)
def qH (ps:List Row) (l:Nat) (zs:List Nat):List Row:=if (ps.any fun p=>decide (p.1=l))=true then ps.map (fun p=>if p.1=l then (p.1,zs) else p) else ps ++ [(l,zs)]
def qo (ps:List Row) (l k:Nat):List Row:=qH ps l ((o9 ps l).getD [] ++ [k])
def oh (ls fs:List Nat):List Row:=fs.foldl (fun ps k=>qo ps (ls.getD k 0) k) []
theorem HJ (ls fs:List Nat) (k:Nat):oh ls (fs ++ [k])=qo (oh ls fs) (ls.getD k 0) k:=by unfold oh;rw[pK];rfl
theorem R5 (ps:List Row) (l:Nat) (zs:List Nat) (h:(ps.map (·.1)).Nodup):((qH ps l zs).map (·.1)).Nodup:=by
 unfold qH
 split
 ·have e:(ps.map (fun p=>if p.1=l then (p.1,zs) else p)).map (·.1)=ps.map (·.1):=by
   rw[jB]
   refine dM fun p _ => ?_
   show (if p.1=l then (p.1,zs) else p).1=p.1
   split <;> rfl
  rw[e];exact h
 ·rename_i q
  rw[dX,lO]
  refine⟨h,by simp,?_⟩
  intro a ha b hb e
  simp only[aL,eV,bq]at hb
  obtain⟨p,hp,rfl⟩:=cM.mp ha
  exact q (nj.mpr ⟨p,hp,decide_eq_true (e.trans hb)⟩)
theorem HK (ls:List Nat):∀ fs:List Nat,((oh ls fs).map (·.1)).Nodup:=by
 have key:∀ (fs:List Nat) (ps:List Row),(ps.map (·.1)).Nodup->((fs.foldl (fun ps k=>qo ps (ls.getD k 0) k) ps).map (·.1)).Nodup:=by
  intro fs
  induction fs with
  | nil=>intro ps h;exact h
  | cons k fs ih=>intro ps h;exact ih _ (R5 _ _ _ h)
 exact fun fs=>key fs [] mv
theorem Vi (ps:List Row) (l:Nat) (zs:List Nat):(qH ps l zs).length<=ps.length+1:=by
 unfold qH
 split
 ·rw[aq];omega
 ·rw[aG];exact aA _
theorem Ve (ls:List Nat):∀ fs:List Nat,(oh ls fs).length<=fs.length:=by
 have key:∀ (fs:List Nat) (ps:List Row),(fs.foldl (fun ps k=>qo ps (ls.getD k 0) k) ps).length<=ps.length+fs.length:=by
  intro fs
  induction fs with
  | nil=>intro ps;exact aA _
  | cons k fs ih =>
   intro ps
   have h1:=ih (qo ps (ls.getD k 0) k)
   have h2:(qo ps (ls.getD k 0) k).length<=ps.length+1:=Vi _ _ _
   rw[b8]
   exact cA h1 (by omega)
 intro fs
 have:=key fs []
 rwa [Gg,eO]at this
theorem PU {ps:List Row}{l:Nat}{zs:List Nat}{n:Nat} (h:∀ p∈ps,p.2.length<=n) (hz:zs.length<=n):∀ p∈qH ps l zs,p.2.length<=n:=by
 intro p hp
 unfold qH at hp
 split at hp
 ·obtain⟨q,hq,rfl⟩:=cM.mp hp
  split
  ·exact hz
  ·exact h q hq
 ·rcases bX.mp hp with hp | hp
  ·exact h p hp
  ·rw[bq.mp hp];exact hz
theorem HV {ps:List Row}{l:Nat}{zs:List Nat} (h:o9 ps l=some zs):(l,zs)∈ps:=by
 unfold o9 at h
 obtain⟨p,hp,rfl⟩:=b7.mp h
 have e0:(fun p:Row=>decide (p.1=l)) p=true:=List.find?_some (p:=fun p:Row=>decide (p.1=l)) hp
 have e:=of_decide_eq_true e0
 have:=ox hp
 rw[<- e];exact this
theorem QP {ps:List Row}{l k n:Nat} (h:∀ p∈ps,p.2.length<=n):∀ p∈qo ps l k,p.2.length<=n+1:=by
 refine PU (fun p hp=>uF (h p hp)) ?_
 rw[aG]
 cases e:o9 ps l with
 | none=>show 0+1<=n+1;omega
 | some zs=>have:=h _ (HV e);show zs.length+1<=n+1;exact wo this
theorem PQ (ls:List Nat):∀ fs:List Nat,∀ p∈oh ls fs,p.2.length<=fs.length:=by
 have key:∀ (fs:List Nat) (ps:List Row) (n:Nat),(∀ p∈ps,p.2.length<=n)->∀ p∈fs.foldl (fun ps k=>qo ps (ls.getD k 0) k) ps,p.2.length<=n+fs.length:=by
  intro fs
  induction fs with
  | nil=>intro ps n h;exact h
  | cons k fs ih =>
   intro ps n h p hp
   have:=ih (qo ps (ls.getD k 0) k) (n+1) (QP h) p hp
   rw[b8];omega
 intro fs p hp
 have:=key fs [] 0 (fun p hp=>by cases hp) p hp
 omega
def uS (H:Hp) (kv:Key × V) (p:Row):Prop:=kv.1 = .inl ((p.1:Nat):Int)∧∃ l,kv.2 = .ref l∧H l=some (.lst (p.2.map nV))
abbrev mf (H:Hp):List (Key × V)->List Row->Prop:=Paired (uS H)
theorem K0 {a b:Nat}:(iP ((a:Nat):Int):Key)=iP ((b:Nat):Int)↔a=b:=by
 constructor
 ·intro h;have:=xP h;omega
 ·intro h;rw[h]
theorem mf.look {H:Hp}{kvs:List (Key × V)}{ps:List Row} (r:mf H kvs ps) (l:Nat):(cX kvs (.inl (l:Int))=none∧o9 ps l=none)∨∃ a zs,cX kvs (.inl (l:Int))=some (.ref a)∧o9 ps l=some zs∧H a=some (.lst (zs.map nV)):=by
 induction r with
 | nil=>exact .inl ⟨rfl,rfl⟩
 | @cons kv p kvs ps h t ih =>
  obtain⟨h1,a,h2,h3⟩:=h
  by_cases e:p.1=l
  ·refine .inr ⟨a,p.2,?_,?_,h3⟩
   ·rw[ig (by rw[h1,e]),h2]
   ·unfold o9;rw[fj,decide_eq_true e];rfl
  ·have n1:¬ kv.1 = .inl (l:Int):=fun z=>e (K0.mp (h1.symm.trans z))
   have n2:o9 (p :: ps) l=o9 ps l:=by unfold o9;rw[fj,decide_eq_false e]
   rw[ij n1,n2]
   exact ih
theorem mf.any {H:Hp}{kvs:List (Key × V)}{ps:List Row} (r:mf H kvs ps) (l:Nat):(kvs.any fun kv=>decide (kv.1 = .inl (l:Int)))=ps.any fun p=>decide (p.1=l):=by
 induction r with
 | nil=>rfl
 | @cons kv p kvs ps h t ih =>
  rw[kF,kF,ih]
  congr 1
  rw[h.1]
  exact decide_eq_decide.mpr K0
theorem mf.keep {H H':Hp}{kvs:List (Key × V)}{ps:List Row} (r:mf H kvs ps) (h:∀ l xs,(∃ kv∈kvs,kv.2 = .ref l)->H l=some (.lst xs)->H' l=some (.lst xs)):mf H' kvs ps:=by
 induction r with
 | nil=>exact .nil
 | @cons kv p kvs ps q t ih =>
  refine .cons ?_ (ih fun l xs ⟨kv,hm,e⟩=>h l xs ⟨kv,aK _ hm,e⟩)
  obtain⟨q1,a,q2,q3⟩:=q
  exact⟨q1,a,q2,h a _ ⟨kv,aT,q2⟩ q3⟩
theorem mf.same {H H':Hp}{kvs:List (Key × V)}{ps:List Row} (r:mf H kvs ps) (sm:bp H H'):mf H' kvs ps:=r.keep fun l xs _ e=>sm _ _ e
theorem mf.grow {H:Hp}{kvs:List (Key × V)}{ps:List Row}{l a:Nat}{zs:List Nat} (r:mf H kvs ps) (nd:(kvs.map (·.2)).Nodup) (nk:(ps.map (·.1)).Nodup) (hv:cX kvs (.inl (l:Int))=some (.ref a)) :
  mf (aJ H a (.lst (zs.map nV))) kvs (qH ps l zs):=by
 have Qv:(ps.any fun p=>decide (p.1=l))=true:=by rw[<- r.any l,mM,hv];rfl
 unfold qH
 rw[if_pos Qv]
 clear Qv
 induction r with
 | nil=>exact .nil
 | @cons kv p kvs ps h t ih =>
  rw[aL]at nd nk
  rw[dW]at nd nk
  rw[aL]
  by_cases e:p.1=l
  ·have ek:kv.1 = .inl (l:Int):=by rw[h.1,e]
   rw[ig ek]at hv
   have e2:kv.2 = .ref a:=aE hv
   rw[if_pos e]
   refine .cons ⟨h.1,a,e2,au⟩ ?_
   have em:ps.map (fun p=>if p.1=l then (p.1,zs) else p)=ps:=by
    rw[show ps=ps.map id from (Dq ps).symm,jB]
    refine dM fun q hq => ?_
    show (if q.1=l then (q.1,zs) else q)=q
    rw[if_neg (fun z=>nk.1 (cM.mpr ⟨q,hq,by rw[z,e]⟩))]
   rw[em]
   refine mf.keep t fun b xs ⟨yf,hm,e3⟩ eb => ?_
   rw[ax (fun z=>nd.1 (cM.mpr ⟨yf,hm,by rw[e3,z,e2]⟩))]
   exact eb
  ·have ek:¬ kv.1 = .inl (l:Int):=fun z=>e (K0.mp (h.1.symm.trans z))
   rw[ij ek]at hv
   rw[if_neg e]
   refine .cons ?_ (ih nd.2 nk.2 hv)
   obtain⟨h1,b,h2,h3⟩:=h
   refine⟨h1,b,h2,?_⟩
   have hm:(.ref a:V)∈kvs.map (·.2):=by
    obtain⟨yf,hf,e4⟩:=b7.mp hv
    exact cM.mpr ⟨yf,ox hf,e4⟩
   rw[ax (fun z=>nd.1 (by rw[h2,z];exact hm))]
   exact h3
def QT (ts:List Tm) (ls:List Nat):Prop := ∀ (i j:Nat) (t u:Tm),ts[i]? = some t->ts[j]? = some u->mk ls t=mk ls u->ls[i]? = ls[j]?
theorem N2 {ts:List Tm}{es:List (Nat × Nat)}{ls:List Nat} (ha:ny ts) (h:eE ts es ls):QT ts ls:=fun i j t u hi hj e=>by
 obtain⟨c1,c2,c3,c4⟩:=h
 have li:=(ai.mp hi).1
 have lj:=(ai.mp hj).1
 have b1:∀ x as,t = .of x as->∀ a∈as,a < ls.length:=fun x as q a hm=>by subst q;have:=ha i x as hi a hm;omega
 have b2:∀ x as,u = .of x as->∀ a∈as,a < ls.length:=fun x as q a hm=>by subst q;have:=ha j x as hj a hm;omega
 refine c4 i j (by omega) (by omega) (ET hi hj (wL c3 b1) ?_)
 rw[e];exact wL c3 b2
theorem Cj {ts:List Tm}{ls:List Nat}{i:Nat}{t:Tm} (h:ts[i]? = some t):(ts.map (mk ls))[i]? = some (mk ls t):=by rw[aD,h];rfl
def FZ (ts:List Tm) (ls:List Nat) (n:Nat) (kvs:List (NK × V)):Prop :=
 (∀ (i:Nat) t,i < n->ts[i]? = some t->cX kvs (dU (mk ls t))=some (nV (ls.getD i 0)))∧(∀ k v,cX kvs k=some v->∃ i t,i < n∧ts[i]? = some t∧k=dU (mk ls t))∧kvs.length=(dC (ts.map (mk ls)) n).length
theorem Vj {κ : Type} [DecidableEq κ] {kvs:List (κ × V)}{k : κ}{v:V} (y:V) (h:cX kvs k=some v):(hW kvs k y).length=kvs.length:=by
 unfold hW
 rw[mM,h]
 show (if true=true then _ else _:List _).length=_
 rw[if_pos rfl,aq]
theorem UX {ts:List Tm}{ls:List Nat}{n:Nat}{kvs:List (NK × V)}{t:Tm} (KQ:QT ts ls) (hl:ls.length=ts.length) (h:FZ ts ls n kvs) (ht:ts[n]? = some t):FZ ts ls (n+1) (hW kvs (dU (mk ls t)) (nV (ls.getD n 0))):=by
 obtain⟨h1,h2,h3⟩:=h
 have hn:=(ai.mp ht).1
 refine⟨fun i u hi hu => ?_,fun k v hv => ?_,?_⟩
 ·rw[mL]
  by_cases e:dU (mk ls u)=dU (mk ls t)
  ·rw[if_pos e]
   have e2:=KQ i n u t hu ht (rV e)
   rw[aN,aN,e2]
  ·rw[if_neg e]
   refine h1 i u ?_ hu
   rcases oU.mp hi with q | q
   ·exact q
   ·subst q;rw[ht]at hu;cases hu;exact absurd rfl e
 ·rw[mL]at hv
  by_cases e:k=dU (mk ls t)
  ·exact⟨n,t,kd n,ht,e⟩
  ·rw[if_neg e]at hv
   obtain⟨i,u,hi,hu,ek⟩:=h2 k v hv
   exact⟨i,u,jP hi,hu,ek⟩
 ·rw[tN,aG]
  cases hv:cX kvs (dU (mk ls t)) with
  | some v =>
   obtain⟨i,u,hi,hu,ek⟩:=h2 _ _ hv
   have hf:oj (ts.map (mk ls)) n=false:=(qv (Cj ht)).mpr ⟨i,hi,by rw[Cj hu,rV ek]⟩
   rw[Vj _ hv,hf,h3];rfl
  | none =>
   have hf:oj (ts.map (mk ls)) n=true:=by
    cases e:oj (ts.map (mk ls)) n with
    | true=>rfl
    | false =>
     obtain⟨i,hi,q⟩:=(qv (Cj ht)).mp e
     rw[aD]at q
     cases e2:ts[i]? with
     | none=>rw[e2]at q;cases q
     | some u =>
      rw[e2]at q
      have q2:mk ls u=mk ls t:=aE q
      have:=h1 i u hi e2
      rw[q2,hv]at this
      cases this
   rw[DZ _ hv,hf,aG,h3];rfl
theorem DN.DG {P:Program}{w:World}{H:Hp}{S a:Addr}{kvs:List (NK × V)}{u o:HO} (d:DN P w H S kvs) (ha:H a=some u) (h1:∀ φ,u ≠ .ext φ) (h2:∀ ys,u ≠ .tup ys):DN P w (aJ H a o) S kvs :=
 d.keep (fun φ e=>by rw[ax (fun z=>by rw[z,ha]at e;exact h1 φ (aE e))];exact e) (fun b ys e=>by rw[ax (fun z=>by rw[z,ha]at e;exact h2 ys (aE e))];exact e)
theorem mf.DG {H:Hp}{a:Addr}{kvs:List (Key × V)}{ps:List Row}{u o:HO} (r:mf H kvs ps) (ha:H a=some u) (h1:∀ xs,u ≠ .lst xs):mf (aJ H a o) kvs ps :=
 r.keep fun l xs _ e=>by rw[ax (fun z=>by rw[z,ha]at e;exact h1 xs (aE e))];exact e
def wg (ts:List Tm) (ls:List Nat) (n:Nat) (kvs:List (NK × V)):Prop :=
 (∀ (i:Nat) t,i < n->ts[i]? = some t->cX kvs (dU (mk ls t))≠none)∧(∀ k v,cX kvs k=some v->∃ i t,i < n∧ts[i]? = some t∧k=dU (mk ls t))∧kvs.length<=n
theorem U7 (ts:List Tm) (ls:List Nat):wg ts ls 0 []:=⟨fun i t hi=>absurd hi (iL _),(fun k v e=>by rw[DE]at e;cases e),aA _⟩
theorem U8 {ts:List Tm}{ls:List Nat}{n:Nat}{kvs:List (NK × V)}{t:Tm} (h:wg ts ls n kvs) (ht:ts[n]? = some t) :
  (cX kvs (dU (mk ls t))=none∧oj (ts.map (mk ls)) n=true)∨((cX kvs (dU (mk ls t))).isSome=true∧oj (ts.map (mk ls)) n=false):=by
 obtain⟨h1,h2,_⟩:=h
 cases hv:cX kvs (dU (mk ls t)) with
 | some v =>
  obtain⟨i,u,hi,hu,ek⟩:=h2 _ _ hv
  exact .inr ⟨rfl,(qv (Cj ht)).mpr ⟨i,hi,by rw[Cj hu,rV ek]⟩⟩
 | none =>
  refine .inl ⟨rfl,?_⟩
  cases e:oj (ts.map (mk ls)) n with
  | true=>rfl
  | false =>
   obtain⟨i,hi,q⟩:=(qv (Cj ht)).mp e
   rw[aD]at q
   cases e2:ts[i]? with
   | none=>rw[e2]at q;cases q
   | some u =>
    rw[e2]at q
    have q2:mk ls u=mk ls t:=aE q
    have:=h1 i u hi e2
    rw[q2]at this
    exact absurd hv this
theorem U6 {ts:List Tm}{ls:List Nat}{n:Nat}{kvs:List (NK × V)}{t:Tm} (y:V) (h:wg ts ls n kvs) (ht:ts[n]? = some t):wg ts ls (n+1) (hW kvs (dU (mk ls t)) y):=by
 obtain⟨h1,h2,h3⟩:=h
 refine⟨fun i u hi hu => ?_,fun k v hv => ?_,?_⟩
 ·rw[mL]
  split
  ·exact fun z=>nomatch z
  ·rename_i e
   refine h1 i u ?_ hu
   rcases oU.mp hi with q | q
   ·exact q
   ·subst q;rw[ht]at hu;cases hu;exact absurd rfl e
 ·rw[mL]at hv
  by_cases e:k=dU (mk ls t)
  ·exact⟨n,t,kd n,ht,e⟩
  ·rw[if_neg e]at hv
   obtain⟨i,u,hi,hu,ek⟩:=h2 k v hv
   exact⟨i,u,jP hi,hu,ek⟩
 ·have:=nS kvs (dU (mk ls t)) y
  omega
theorem RL {ts:List Tm}{ls:List Nat}{n:Nat}{kvs:List (NK × V)}{t:Tm} (h:wg ts ls n kvs) (ht:ts[n]? = some t) (hs:(cX kvs (dU (mk ls t))).isSome=true):wg ts ls (n+1) kvs:=by
 obtain⟨h1,h2,h3⟩:=h
 refine⟨fun i u hi hu => ?_,fun k v hv => ?_,by omega⟩
 ·rcases oU.mp hi with q | q
  ·exact h1 i u q hu
  ·subst q;rw[ht]at hu;cases hu;intro z;rw[z]at hs;cases hs
 ·obtain⟨i,u,hi,hu,ek⟩:=h2 k v hv
  exact⟨i,u,jP hi,hu,ek⟩
def Own (H:Hp) (kvs:List (Key × V)):Prop:=(kvs.map (·.2)).Nodup∧∀ kv∈kvs,∃ l,kv.2 = .ref l∧H l=none
theorem Own.fresh {H:Hp}{kvs:List (Key × V)} (h:Own H kvs) {a:Addr} (hv:(.ref a:V)∈kvs.map (·.2)):H a=none:=by
 obtain⟨kv,hm,e⟩:=cM.mp hv
 obtain⟨l,e2,hl⟩:=h.2 kv hm
 rw[e]at e2
 cases e2
 exact hl
theorem YA {κ : Type} [DecidableEq κ] {kvs:List (κ × V)}{k : κ}{v:V} (h:cX kvs k=some v):v∈kvs.map (·.2):=by
 obtain⟨yf,hf,e4⟩:=b7.mp h
 exact cM.mpr ⟨yf,ox hf,e4⟩
theorem Own.snoc {H H1:Hp}{kvs:List (Key × V)}{ps:List Row}{N:Addr}{k:Key} (h:Own H kvs) (r:mf H1 kvs ps) (hN:H1 N=none) (vX:H N=none):Own H (kvs ++ [(k,.ref N)]):=by
 refine⟨?_,fun kv hm => ?_⟩
 ·rw[dX,lO]
  refine⟨h.1,by simp,?_⟩
  intro x hx y hy e
  simp only[aL,eV,bq]at hy
  subst hy
  subst e
  have:∀ {kvs:List (Key × V)}{ps:List Row},mf H1 kvs ps->(.ref N:V)∈kvs.map (·.2)->False:=by
   intro kvs ps r
   induction r with
   | nil=>intro hm;cases hm
   | @cons kv p kvs ps q t ih =>
    intro hm
    rw[aL]at hm
    rcases bo.mp hm with e | hm
    ·obtain⟨_,l,e2,hl⟩:=q
     rw[<- e]at e2
     cases e2
     rw[hN]at hl
     cases hl
    ·exact ih hm
  exact this r hx
 ·rcases bX.mp hm with hm | hm
  ·exact h.2 kv hm
  ·rw[bq.mp hm];exact⟨N,rfl,vX⟩
theorem RJ (x:Str) (lo hi:Option Int):(hU x lo hi).cps.toList=(x.cps.toList.drop (HT.jN x.length 0 lo)).take (HT.jN x.length x.length hi - HT.jN x.length 0 lo):=by
 have hx:x.cps.toList.length=x.length:=by simp[Str.length]
 obtain⟨h1,h2,h3⟩:=AB lo hi x.length
 have ha:HT.jN x.length 0 lo<=x.length:=HT.RR _ _ (bD _) _
 have hb:HT.jN x.length x.length hi<=x.length:=HT.RR _ _ (aA _) _
 have e:uk lo hi 1 x.length=sliceRange ((HT.jN x.length 0 lo:Nat):Int) ((HT.jN x.length x.length hi:Nat):Int) 1:=by
  rw[<- h1, <- h2]
  unfold uk sliceBounds
  rfl
 have e2:((sliceRange ((HT.jN x.length 0 lo:Nat):Int) ((HT.jN x.length x.length hi:Nat):Int) 1).filterMap (x.cps[·]?))=(x.cps.toList.drop (HT.jN x.length 0 lo)).take (HT.jN x.length x.length hi - HT.jN x.length 0 lo):=by
  rw[sliceRange_one,pick_run]
 unfold hU
 rw[e]
 split
 ·rename_i hc
  have hl:(sliceRange ((HT.jN x.length 0 lo:Nat):Int) ((HT.jN x.length x.length hi:Nat):Int) 1).length=x.length:=by simpa using hc
  rw[sliceRange_one,aq,da]at hl
  have ea:HT.jN x.length 0 lo=0∨x.length=0:=by omega
  rcases ea with ea | ea
  ·rw[ea,wq]at hl ⊢
   rw[Hx,hl, <- hx,d0]
  ·have:x.cps.toList = []:=iW.mp (hx.trans ea)
   rw[this];simp
 ·show (_:List Nat).toArray.toList=_
  rw[e2]
inductive T where
 | num (n:Int)
 | name (w:Str)
 | any (w:Str)
 | of (w:Str) (ts:List T)
mutual
def T.depth:T->Nat
 | .num _=>1
 | .name _=>1
 | .any _=>1
 | .of _ ts=>1+T.md ts
def T.md:List T->Nat
 | []=>0
 | t :: ts=>max t.depth (T.md ts)
end
theorem FQ:∀ {ts:List T}{t:T},t∈ts->t.depth<=T.md ts
 | t' :: ts,t,h=>by
  rw[T.md]
  rcases bo.mp h with rfl | h
  ·exact Nat.le_max_left _ _
  ·exact cA (FQ h) (Nat.le_max_right _ _)
theorem TH:∀ t:T,1<=t.depth
 | .num _=>by rw[T.depth];exact aA _
 | .name _=>by rw[T.depth];exact aA _
 | .any _=>by rw[T.depth];exact aA _
 | .of _ ts=>by rw[T.depth];omega
mutual
def fz (H:Hp):T->V->Prop
 | .num n,v=>∃ a,v = .ref a∧H a=some (.tup [.str "num",.int n])
 | .name w,v=>∃ a,v = .ref a∧H a=some (.tup [.str "name",.str w])
 | .any w,v=>∃ a,v = .ref a∧H a=some (.tup [.str "any",.str w])
 | .of w ts,v=>∃ a b vs,v = .ref a∧H a=some (.tup [.str "of",.str w,.ref b])∧H b=some (.tup vs)∧lg H ts vs
def lg (H:Hp):List T->List V->Prop
 | [],vs=>vs = []
 | t :: ts,vs=>∃ v r,vs=v :: r∧fz H t v∧lg H ts r
end
mutual
theorem je {H H':Hp} (k:∀ a xs,H a=some (.tup xs)->H' a=some (.tup xs)):∀ {t:T}{v:V},fz H t v->fz H' t v
 | .num n,v,h=>by
  rw[fz]at h ⊢
  obtain⟨a,e,h⟩:=h
  exact⟨a,e,k _ _ h⟩
 | .name n,v,h=>by
  rw[fz]at h ⊢
  obtain⟨a,e,h⟩:=h
  exact⟨a,e,k _ _ h⟩
 | .any n,v,h=>by
  rw[fz]at h ⊢
  obtain⟨a,e,h⟩:=h
  exact⟨a,e,k _ _ h⟩
 | .of w ts,v,h=>by
  rw[fz]at h ⊢
  obtain⟨a,b,vs,e,h1,h2,h3⟩:=h
  exact⟨a,b,vs,e,k _ _ h1,k _ _ h2,DI k h3⟩
theorem DI {H H':Hp} (k:∀ a xs,H a=some (.tup xs)->H' a=some (.tup xs)):∀ {ts:List T}{vs:List V},lg H ts vs->lg H' ts vs
 | [],vs,h=>by rw[lg]at h ⊢;exact h
 | t :: ts,vs,h=>by
  rw[lg]at h ⊢
  obtain⟨v,r,e,h1,h2⟩:=h
  exact⟨v,r,e,je k h1,DI k h2⟩
end
theorem B8 {H H':Hp} (s:bp H H') {t:T}{v:V} (h:fz H t v):fz H' t v:=je (fun a xs e=>s _ _ e) h
theorem JE {H H':Hp} (s:bp H H') {ts:List T}{vs:List V} (h:lg H ts vs):lg H' ts vs:=DI (fun a xs e=>s _ _ e) h
def aaP:HO->Prop
 | .tup _=>False
 | _=>True
theorem K2 {H:Hp}{p:Addr} {o o':HO} (hp:H p=some o) (hn:aaP o):∀ a xs,H a=some (.tup xs)->aJ H p o' a=some (.tup xs):=fun a xs e=>by
 have:a≠p:=fun z=>by
  rw[z,hp]at e
  cases e
  exact hn
 rw[ax this];exact e
theorem M9 {H:Hp}:∀ {ts:List T}{vs:List V},lg H ts vs->ts.length=vs.length
 | [],vs,h=>by rw[lg]at h;subst h;rfl
 | t :: ts,vs,h=>by
  rw[lg]at h
  obtain⟨v,r,rfl,_,h2⟩:=h
  rw[b8,b8,M9 h2]
theorem Rf {H:Hp}:∀ {ts:List T}{vs:List V}{i:Nat}{v:V},lg H ts vs->vs[i]? = some v->∃ t,ts[i]? = some t∧fz H t v
 | [],vs,i,v,h,e=>by rw[lg]at h;subst h;simp at e
 | t :: ts,vs,i,v,h,e=>by
  rw[lg]at h
  obtain⟨v',r,rfl,h1,h2⟩:=h
  cases i with
  | zero=>simp at e;subst e;exact⟨t,rfl,h1⟩
  | succ i=>simpa using Rf (i:=i) h2 (by simpa using e)
def dZ:List Tm->Tm->Option Nat
 | [],_=>none
 | u :: ts,t=>if kG u=kG t then some 0 else (dZ ts t).map (· + 1)
theorem nC:∀ {ts:List Tm}{t:Tm}{i:Nat},dZ ts t=some i->ts[i]? = some t
 | [],_,_,h=>by rw[dZ]at h;cases h
 | u :: ts,t,i,h=>by
  rw[dZ]at h
  by_cases e:kG u=kG t
  ·rw[if_pos e]at h;cases h;rw[B9 e];rfl
  ·rw[if_neg e]at h
   cases q:dZ ts t with
   | none=>rw[q]at h;cases h
   | some j=>rw[q]at h;cases h;simpa using nC q
theorem Sb {ts:List Tm}{t:Tm}{i:Nat} (h:dZ ts t=some i):i < ts.length:=(ai.mp (nC h)).1
theorem oH:∀ {ts:List Tm}{t:Tm},dZ ts t=none↔t ∉ ts
 | [],t=>by rw[dZ];simp
 | u :: ts,t=>by
  rw[dZ]
  by_cases e:kG u=kG t
  ·rw[if_pos e,B9 e];simp
  ·rw[if_neg e,Option.map_eq_none_iff,oH,bo,not_or]
   exact⟨fun h=>⟨fun z=>e (by rw[z]),h⟩,fun h=>h.2⟩
theorem GK:∀ (ts:List Tm) (u t:Tm),dZ (ts ++ [u]) t=match dZ ts t with
  | some i=>some i
  | none=>if kG u=kG t then some ts.length else none
 | [],u,t=>by rw[jF,dZ,dZ,dZ];rfl
 | x :: ts,u,t=>by
  rw[gY,dZ,dZ,GK ts u t]
  by_cases e:kG x=kG t
  ·rw[if_pos e,if_pos e]
  ·rw[if_neg e,if_neg e]
   cases dZ ts t with
   | some j=>rfl
   | none =>
    by_cases e2:kG u=kG t
    ·simp[e2]
    ·simp[e2]
theorem Bi:∀ {ts:List Tm}{t:Tm}{i:Nat},dZ ts t=some i->∀ j,j < i->ts[j]? ≠ some t
 | [],_,_,h=>by rw[dZ]at h;cases h
 | u :: ts,t,i,h=>by
  rw[dZ]at h
  by_cases e:kG u=kG t
  ·rw[if_pos e]at h;cases h;intro j hj;omega
  ·rw[if_neg e]at h
   cases q:dZ ts t with
   | none=>rw[q]at h;cases h
   | some k =>
    rw[q]at h;cases h
    intro j hj
    cases j with
    | zero=>simp;exact fun z=>e (by rw[z])
    | succ j=>simpa using Bi q j (Nat.lt_of_succ_lt_succ hj)
theorem aaw {ts:List Tm}{t:Tm}{i:Nat} (h:ts[i]? = some t) (hf:∀ j,j < i->ts[j]? ≠ some t):dZ ts t=some i:=by
 cases q:dZ ts t with
 | none=>exact absurd (aP h) (oH.mp q)
 | some k =>
  have h1:=Bi q
  have h2:=nC q
  rcases CP i k with z | z | z
  ·exact absurd h (h1 i z)
  ·rw[z]
  ·exact absurd h2 (hf k z)
def cF (ts:List Tm) (t:Tm):List Tm × Nat:=match dZ ts t with
 | some i=>(ts,i)
 | none=>(ts ++ [t],ts.length)
theorem sY {ts:List Tm}{t:Tm}{i:Nat} (h:dZ ts t=some i):cF ts t=(ts,i):=by unfold cF;rw[h]
theorem u5 {ts:List Tm}{t:Tm} (h:dZ ts t=none):cF ts t=(ts ++ [t],ts.length):=by unfold cF;rw[h]
theorem Cw (ts:List Tm) (t:Tm):dZ (cF ts t).1 t=some (cF ts t).2:=by
 cases h:dZ ts t with
 | some i=>rw[sY h];exact h
 | none=>rw[u5 h];show dZ (ts ++ [t]) t=some ts.length;rw[GK,h];simp
theorem jo (ts:List Tm) (t:Tm):ts <+: (cF ts t).1:=by
 cases h:dZ ts t with
 | some i=>rw[sY h];exact jr _
 | none=>rw[u5 h];exact List.prefix_append _ _
mutual
def bJ (bf:Str->Nat):List Tm->T->List Tm × Nat
 | ts,.any w=>(ts,bf w)
 | ts,.num n=>cF ts (.num n)
 | ts,.name w=>cF ts (.name w)
 | ts,.of w as=>cF (cD bf ts as).1 (.of w (cD bf ts as).2)
def cD (bf:Str->Nat):List Tm->List T->List Tm × List Nat
 | ts, []=>(ts, [])
 | ts,t :: as=>((cD bf (bJ bf ts t).1 as).1,(bJ bf ts t).2 :: (cD bf (bJ bf ts t).1 as).2)
end
theorem Bh (bf:Str->Nat):∀ (as:List T) (ts:List Tm) (t:T),cD bf ts (as ++ [t])=((bJ bf (cD bf ts as).1 t).1,(cD bf ts as).2 ++ [(bJ bf (cD bf ts as).1 t).2])
 | [],ts,t=>by rw[jF,cD,cD,cD];rfl
 | a :: as,ts,t=>by rw[gY,cD,cD,Bh bf as];rfl
theorem Km (bf:Str->Nat):∀ (as:List T) (ts:List Tm),(cD bf ts as).2.length=as.length
 | [],ts=>by rw[cD];rfl
 | a :: as,ts=>by rw[cD];simp[Km bf as]
mutual
theorem si (bf:Str->Nat):∀ (t:T) (ts:List Tm),ts <+: (bJ bf ts t).1
 | .any w,ts=>by rw[bJ];exact jr _
 | .num n,ts=>by rw[bJ];exact jo _ _
 | .name n,ts=>by rw[bJ];exact jo _ _
 | .of w as,ts=>by rw[bJ];exact(vy bf as ts).trans (jo _ _)
theorem vy (bf:Str->Nat):∀ (as:List T) (ts:List Tm),ts <+: (cD bf ts as).1
 | [],ts=>by rw[cD];exact jr _
 | a :: as,ts=>by rw[cD];exact(si bf a ts).trans (vy bf as _)
end
theorem Kn (bf:Str->Nat):∀ (as bs:List T) (ts:List Tm),(cD bf ts (as ++ bs)).1=(cD bf (cD bf ts as).1 bs).1
 | [],bs,ts=>by rw[jF,cD]
 | a :: as,bs,ts=>by rw[gY,cD,cD];exact Kn bf as bs _
theorem R0 (bf:Str->Nat) (as:List T) (ts:List Tm) (i:Nat):(cD bf ts (as.take i)).1 <+: (cD bf ts as).1:=by
 conv=>rhs;rw[<- dv i as]
 rw[Kn]
 exact vy _ _ _
theorem HP {α : Type}:∀ {S U:List α},S.Nodup->(∀ x∈S,x∈U)->S.length<=U.length
 | [],U,_,_=>bD _
 | x :: S,U,hn,h=>by
  obtain⟨A,B,rfl⟩:=List.append_of_mem (h x aT)
  have hx:=(dW.mp hn).1
  have:=HP (S:=S) (U:=A ++ B) (dW.mp hn).2 fun y hy=>by
   have:=h y (aK _ hy)
   rcases bX.mp this with z | z
   ·exact cO _ z
   ·rcases bo.mp z with z | z
    ·exact absurd (z ▸ hy) hx
    ·exact bg _ z
  rw[aG]at this
  rw[b8,aG,b8]
  omega
def iT (L M:Addr) (H H':Hp):Prop := ∀ c o,c≠L->c≠M->H c=some o->H' c=some o
theorem iT.refl (L M:Addr) (H:Hp):iT L M H H:=fun _ _ _ _ h=>h
theorem iT.trans {L M:Addr}{H H1 H2:Hp} (a:iT L M H H1) (b:iT L M H1 H2):iT L M H H2:=fun c o n m h=>b c o n m (a c o n m h)
theorem iT.same {L M:Addr}{H H1 H2:Hp} (a:iT L M H H1) (b:bp H1 H2):iT L M H H2:=fun c o n m h=>b c o (a c o n m h)
theorem bp.Wo {L M:Addr}{H H1:Hp} (b:bp H H1):iT L M H H1:=fun c o n m h=>b c o h
def fX (P:Program) (w:World) (CB:Addr) (H:Hp) (b dx L M:Addr) (room:Int) (ts:List Tm):Prop :=
 H b=some (.ins CB dx [("room",.int room),("terms",.ref L),("places",.ref M)])∧(∃ us,H L=some (.lst us)∧om H us ts) ∧
 ∃ kvs,DN P w H M kvs∧kvs.length=ts.length∧∀ t,cX kvs (dU t)=(dZ ts t).map nV
theorem fX.same {P:Program}{w:World}{CB:Addr} {H H':Hp}{b dx L M:Addr}{room:Int}{ts:List Tm} (h:fX P w CB H b dx L M room ts) (sm:bp H H'):fX P w CB H' b dx L M room ts:=by
 obtain⟨h1,⟨us,h2,h3⟩,kvs,h4,h5,h6⟩:=h
 exact⟨sm _ _ h1,⟨us,sm _ _ h2,gC sm h3⟩,kvs,h4.same sm,h5,h6⟩
theorem fX.ne {P:Program}{w:World}{CB:Addr}{H:Hp}{b dx L M:Addr}{room:Int}{ts:List Tm} (h:fX P w CB H b dx L M room ts):L≠M∧b≠L∧b≠M:=by
 obtain⟨h1,⟨us,h2,h3⟩,kvs,h4,h5,h6⟩:=h
 obtain⟨φ,e⟩:=h4.ext
 exact⟨dq h2 e (fun z=>nomatch z),dq h1 h2 (fun z=>nomatch z),dq h1 e (fun z=>nomatch z)⟩
theorem fX.tup {P:Program}{w:World}{CB:Addr} {H H':Hp}{b dx L M:Addr}{room:Int}{ts:List Tm} (h:fX P w CB H b dx L M room ts) (bt:iT L M H H'):∀ c ys,H c=some (.tup ys)->H' c=some (.tup ys):=by
 obtain⟨h1,⟨us,h2,h3⟩,kvs,h4,h5,h6⟩:=h
 obtain⟨φ,e⟩:=h4.ext
 exact fun c ys z=>bt c _ (dq z h2 (fun z=>nomatch z)) (dq z e (fun z=>nomatch z)) z
theorem fX.keep {P:Program}{w:World}{CB:Addr} {H H':Hp}{b dx L M:Addr}{room:Int}{ts:List Tm}{R:Addr}{us:List V} (h:fX P w CB H b dx L M room ts) (hR:H R=some (.lst us)) (hn:R≠L) (bt:fe R H H'):fX P w CB H' b dx L M room ts:=by
 obtain⟨h1,⟨us,h2,h3⟩,kvs,h4,h5,h6⟩:=h
 have ht:∀ c ys,H c=some (.tup ys)->H' c=some (.tup ys):=bt.tup hR
 obtain⟨φ,e⟩:=h4.ext
 exact⟨bt _ _ (dq h1 hR (fun z=>nomatch z)) h1,⟨us,bt _ _ (bV hn) h2,mN ht h3⟩,kvs,h4.keep (fun WL z=>bt _ _ (dq z hR (fun z=>nomatch z)) z) ht,h5,h6⟩
mutual
def T.kM:T->List Str
 | .num _ => []
 | .name _ => []
 | .any w => [w]
 | .of _ ts=>T.xC ts
def T.xC:List T->List Str
 | [] => []
 | t :: ts=>t.kM ++ T.xC ts
end
theorem Lb:∀ {ts:List T}{t:T}{w:Str},t∈ts->w∈t.kM->w∈T.xC ts
 | a :: ts,t,w,h,e=>by
  rw[T.xC]
  rcases bo.mp h with z | z
  ·subst z;exact cO _ e
  ·exact bg _ (Lb z e)
def Yy (H:Hp) (bv:V) (bf:Str->Nat) (l:List Str):Prop := ∀ w∈l,∃ D kvs,bv = .ref D∧H D=some (.dK kvs)∧cX kvs (.inr w)=some (nV (bf w))
theorem fX.bok {P:Program}{w:World}{CB:Addr} {H H':Hp}{b dx L M:Addr}{room:Int}{ts:List Tm}{bv:V}{bf:Str->Nat}{l:List Str} (h:fX P w CB H b dx L M room ts) (bt:iT L M H H') (q:Yy H bv bf l):Yy H' bv bf l:=fun x hx=>by
 obtain⟨D,kvs,e,hD,hv⟩:=q x hx
 obtain⟨h1,⟨us,h2,h3⟩,KR,h4,h5,h6⟩:=h
 obtain⟨φ,e4⟩:=h4.ext
 exact⟨D,kvs,e,bt _ _ (dq hD h2 (fun z=>nomatch z)) (dq hD e4 (fun z=>nomatch z)) hD,hv⟩
theorem ahl {H:Hp}{x:Str}{as:List Nat}{a b:Addr} (h:H a=some (.tup [.str "of",.str x,.ref b])) (h2:H b=some (.tup (as.map nV))):iS H (.of x as) (.ref a):=⟨a,b,rfl,h,h2⟩
mutual
def T.kr:T->Prop
 | .num _=>True
 | .name _=>True
 | .any _=>True
 | .of _ ts=>ts.length<=900∧T.Cz ts
def T.Cz:List T->Prop
 | []=>True
 | t :: ts=>t.kr∧T.Cz ts
end
theorem wN:∀ {ts:List T},T.Cz ts↔∀ t∈ts,t.kr
 | []=>by rw[T.Cz];simp
 | t :: ts=>by rw[T.Cz,wN];simp
section
variable {S:Type}
end
section
variable {ts rF:List Tm}{es:List (Nat × Nat)}{ls ls1:List Nat}
end
section
variable {ts:List Tm}{es:List (Nat × Nat)}{ls:List Nat}
end
section
variable (ts:List Tm) (ls:List Nat) (hd:Nat->List Nat)
end
section
variable {ts:List Tm}{ls:List Nat}{hd:Nat->List Nat}
end
def OO:List Row->Nat->Nat->List Row
 | [],l,k => [(l, [k])]
 | q :: ps,l,k=>if q.1=l then (q.1,q.2 ++ [k]) :: ps else q :: OO ps l k
theorem HU (q:Row) (ps:List Row) (l:Nat):o9 (q :: ps) l=if q.1=l then some q.2 else o9 ps l:=by
 unfold o9
 rw[fj]
 by_cases e:q.1=l
 ·rw[decide_eq_true e,if_pos e];rfl
 ·rw[decide_eq_false e,if_neg e]
theorem R6 {q:Row}{ps:List Row}{l:Nat}{zs:List Nat} (e:q.1≠l):qH (q :: ps) l zs=q :: qH ps l zs:=by
 unfold qH
 rw[kF,decide_eq_false e,Bool.false_or,aL,if_neg e]
 split <;> rfl
theorem Ub:∀ (ps:List Row) (l k:Nat),(ps.map (·.1)).Nodup->qo ps l k=OO ps l k
 | [],l,k,_=>rfl
 | q :: ps,l,k,h=>by
  rw[aL,dW]at h
  rw[OO]
  by_cases e:q.1=l
  ·rw[if_pos e]
   unfold qo qH
   rw[HU,if_pos e,kF,decide_eq_true e,B0,if_pos rfl,aL,if_pos e]
   congr 1
   refine(dM fun p hp => ?_).trans (Dq _)
   rw[if_neg];rfl
   exact fun z=>h.1 (by rw[e, <- z];exact cM.mpr ⟨p,hp,rfl⟩)
  ·rw[if_neg e, <- Ub ps l k h.2]
   unfold qo
   rw[HU,if_neg e,R6 e]
theorem LY:∀ (ps:List Row) (l k:Nat),((OO ps l k).flatMap (·.2)).Perm (ps.flatMap (·.2) ++ [k])
 | [],l,k=>by rw[OO];exact tF _
 | q :: ps,l,k=>by
  rw[OO]
  by_cases e:q.1=l
  ·rw[if_pos e,pM,pM,aZ,aZ]
   exact gf _ qB
  ·rw[if_neg e,pM,pM,aZ]
   exact gf _ (LY ps l k)
section
variable (ls:List Nat) (ms:List Tm)
theorem AJ:∀ n,((oh ls (dC ms n)).flatMap (·.2)).Perm (dC ms n)
 | 0=>tF _
 | n+1=>by
  rw[tN]
  cases oj ms n with
  | false=>rw[if_neg (by decide),eJ];exact AJ n
  | true =>
   rw[if_pos rfl,HJ,Ub _ _ _ (HK ls _)]
   exact(LY _ _ _).trans (lD _ (AJ n))
theorem v9 (n:Nat):(dC ms n).Nodup:=rk _ wz
end
section
variable {ts:List Tm}{ls:List Nat}
theorem Tt {k:Nat}:k∈dC (ts.map (mk ls)) ts.length↔∃ u,ts[k]? = some u∧dZ (ts.map (mk ls)) (mk ls u)=some k:=by
 unfold dC
 rw[eU,di]
 constructor
 ·rintro⟨hk,hn⟩
  have hu:=ah hk
  refine⟨ts[k],hu,aaw (by rw[aD,hu];rfl) fun j hj e => ?_⟩
  have:=(qv (ms:=ts.map (mk ls)) (n:=k) (m:=mk ls ts[k]) (by rw[aD,hu];rfl)).mpr ⟨j,hj,e⟩
  rw[hn]at this;cases this
 ·rintro⟨u,hu,hp⟩
  refine⟨(ai.mp hu).1,?_⟩
  cases q:oj (ts.map (mk ls)) k with
  | true=>rfl
  | false =>
   obtain⟨j,hj,e⟩:=(qv (nC hp)).mp q
   exact absurd e (Bi hp j hj)
end
section
variable {ts:List Tm}{ls:List Nat}{hd:Nat->List Nat}{N:Nat}
end
abbrev DK:=List (Key × V)
def lk (l:Nat):Key:=iP (l:Int)
theorem abe {a b:Nat} (h:lk a=lk b):a=b:=by have h:=xP h;omega
def Yc:Tm->List Nat
 | .of _ as=>as
 | _ => []
theorem JO {α : Type}{f g : α -> Int}:∀ {l:List α},(∀ a∈l,f a<=g a)->(l.map f).sum<=(l.map g).sum
 | [],_=>gP _
 | a :: l,h=>by
  rw[aL,aL,iR,iR]
  have h1:=h a aT
  have h2:=JO (l:=l) fun b hb=>h b (aK _ hb)
  omega
theorem Rj {α : Type}{f g : α -> Int}:∀ {l:List α},(∀ a∈l,f a<=g a)->(∃ a∈l,f a < g a)->(l.map f).sum < (l.map g).sum
 | [],_,h=>by obtain⟨a,ha,_⟩:=h;cases ha
 | a :: l,h,q=>by
  rw[aL,aL,iR,iR]
  have h1:=h a aT
  have h2:=JO (l:=l) fun b hb=>h b (aK _ hb)
  obtain⟨b,hb,eS⟩:=q
  rcases bo.mp hb with rfl | hb
  ·omega
  ·have:=Rj (l:=l) (fun b hb=>h b (aK _ hb)) ⟨b,hb,eS⟩
   omega
theorem Ri {α : Type}{f : α -> Int}:∀ {l:List α},(∀ a∈l,0<=f a)->0<=(l.map f).sum
 | [],_=>gP _
 | a :: l,h=>by
  rw[aL,iR]
  have h1:=h a aT
  have h2:=Ri (l:=l) fun b hb=>h b (aK _ hb)
  omega
end Sw
namespace L2
open PySem PySem.Spec PyProof.Rows
structure ahd (K:ak) (C f:Addr) (m:Str):Prop where
 ga:uD K (.ref C) "__getattribute__" = some (some (.builtin "type.__getattribute__"))
 rd:Ga K C (.type "type")=true
 at_:Gb K (.ref C) (.type "type") m=some (.val (.ref f))
structure QV (P:Program) (w:World) (K:ak) (mg:Str->Option Value) (base:Heap) (k:Nat) (x m:Str) (ps:List Str) (sp:Sp):Prop where
 ex:∃ f fd C,kz P w K mg base (pU P w) k f fd ps sp∧mg x=some (.ref C)∧ahd K C f m∧aB K (.ref f)=true∧Binds K fd ps []
structure QX (K:ak) (mg:Str->Option Value) (x m cV:Str) (st:Stmt) (ps:List Str):Prop where
 ex:∃ f fd C,Af K m cV st f fd∧mg x=some (.ref C)∧ahd K C f m∧Binds K fd ps []
section
variable {P:Program}{w:World}{K:ak}{mg:Str->Option Value}{base:Heap}{x m cV:Str}{st:Stmt}{N ps:List Str}{k:Nat}{sp:Sp}
theorem QX.has (D:QX K mg x m cV st ps) (S:bI N ps (aw st)) (len:∀ vs H Q E,sp vs H Q E->vs.length=ps.length)
  (kO:∀ (f:Addr) (cw:Value) (A:Around) (outer:List Env) (s:Shared) (H:Hp) (vs:List V) (Q:VK) (E:XK),eY k (A.deeper (envOfC cV (aw st) s.heap.objs.size f cw))->sp vs H Q E ->
   ∃ t,pT (dj (pU P w) P w K mg base N cV (aw st) f cw A outer s H E) (bw st) t∧t { nx:=fun _ H'=>Q .cQ H',rt:=Q } (start N vs) H):QV P w K mg base (k+1) x m ps sp:=by
 obtain⟨f,fd,C,F,hm,hc,hb⟩:=D.ex
 exact⟨f,fd,C,F.okE S len (kO f),hm,hc,F.kp,hb⟩
end
section
variable {X:Cx} {k k':Nat}{x m:Str}{ps:List Str}{sp:Sp}{p pos eN:Pos}{e:Expr}{es:List Expr}{t:TA}{E:XK}
theorem Vq {pl:Sem Bool} (h:QV X.prog X.w X.K X.mg X.base k x m ps sp) (hr:eY k' X.A) (hk:k<=k') (hx:Passes (pU X.prog X.w) X E) (hg:Gl X x) (ha:PA X (e :: es) t) (t7:(x == ("__debug__" : Str))=false:=by decide)
  (jZ:starEach (e :: es) X.env=(false,eval e X.env) :: starEach es X.env:=by rfl) (lZ:(backTo pos (starEach es X.env)).any (·.1)=false:=by rfl)
  (ht:eval (.Call (.Attribute (.Name x p) m eN) (e :: es) [] pos) X.env=(do
   let ov <- eval (.Name x p) X.env
   standAt eN.atName
   let (f,first) <- holding [ov] (getMethod ov m pl)
   callWith pos f first (backTo pos (starEach (e :: es) X.env)) (backToKw pos (keywordEach [] X.env))):=by rfl) :
  PE X (.Call (.Attribute (.Name x p) m eN) (e :: es) [] pos) (yT sp [] E t):=by
 obtain⟨f,fd,C,F,hm,hc,Fv,hb⟩:=h.ex
 intro ag s σ H Q I h
 refine qA (pl:=pl) (Cm I hg hm ?_ t7) ht
 refine PySem.W.method_cls I.kL hc.ga (PySem.W.cls_value I.kL hc.rd hc.at_ rfl ?_)
 have I':=I.tok (s.toks+1)
 refine kT (first := []) (h₀ := X.base) I.ok.mod.KW Fv (cf (ha pos ag _ σ H _ I' h) fun us s2 ⟨vs,H2,I2,r,q2⟩=>⟨I2.kL,?_⟩) jZ lZ
 exact AI F (hr.mono hk) hb .nil hx I2 r q2
end
theorem Wv (a b:Nat):fJ (a:Int) (b:Int)=((a &&& b:Nat):Int):=by
 unfold fJ
 rw[decide_eq_true (by omega:(0:Int)<=a),decide_eq_true (by omega:(0:Int)<=b)]
 show ((((a:Int).toNat &&& (b:Int).toNat:Nat)):Int)=_
 rw[b6,b6]
theorem OG (a b:Nat):p4 (a:Int) (b:Int)=((a ||| b:Nat):Int):=by
 have e:∀ n:Nat,dY (dY (n:Int))=(n:Int):=fun n=>by unfold dY;omega
 unfold p4 fJ
 rw[decide_eq_false (by unfold dY;omega:¬ (0:Int)<=dY a),decide_eq_false (by unfold dY;omega:¬ (0:Int)<=dY b)]
 dsimp only
 rw[e,e,e,b6,b6]
theorem Wu (a b:Nat):fJ (a:Int) (dY (b:Int))=(((a - (a &&& b):Nat)):Int):=by
 have e:∀ n:Nat,dY (dY (n:Int))=(n:Int):=fun n=>by unfold dY;omega
 unfold fJ
 rw[decide_eq_true (by omega:(0:Int)<=a),decide_eq_false (by unfold dY;omega:¬ (0:Int)<=dY b)]
 dsimp only
 rw[e,b6,b6]
 have:=Nat.and_le_left (n:=a) (m:=b)
 omega
end L2
namespace Sw
open PySem L2
def lK:Tm->Option Str
 | .name z=>some z
 | _=>none
theorem zf {t:Tm}{z:Str} (h:lK t=some z):t = .name z:=by
 cases t with
 | name y=>cases h;rfl
 | num n=>cases h
 | of x as=>cases h
def de (ts:List Tm):List Str:=ts.filterMap lK
def xM (hs:List Str) (w:Str):Nat:=2 ^ hs.idxOf w
theorem Fn:∀ {hs:List Str}{n:Nat}{w:Str},hs.Nodup->hs[n]? = some w->hs.idxOf w=n
 | [],n,w,_,e=>by simp at e
 | x :: hs,0,w,_,e=>by
  rw[List.getElem?_cons_zero]at e
  cases e
  rw[Gh,beq_self_eq_true];rfl
 | x :: hs,n+1,w,hn,e=>by
  rw[List.getElem?_cons_succ]at e
  have hw:=aP e
  have hx:=(dW.mp hn).1
  have jO:(x == w)=false:=beq_eq_false_iff_ne.mpr fun z=>hx (z ▸ hw)
  rw[Gh,jO,Fn (dW.mp hn).2 e];rfl
theorem uN:∀ {ts:List Tm},ts.Nodup->(de ts).Nodup
 | [],_=>mv
 | t :: ts,h=>by
  obtain⟨h1,h2⟩:=dW.mp h
  unfold de
  rw[dN]
  cases e:lK t with
  | none=>exact uN h2
  | some w =>
   refine dW.mpr ⟨fun hm => ?_,uN h2⟩
   obtain⟨t',Fo,e'⟩:=eC.mp hm
   rw[zf e, <- zf e']at h1
   exact h1 Fo
theorem Od {ts:List Tm}{k:Nat}{w:Str} (h:ts[k]? = some (.name w)):∃ n:Nat,(de ts)[n]? = some w:=by
 have hm:w∈de ts:=eC.mpr ⟨_,aP h,rfl⟩
 exact jX hm
theorem zq (ts:List Tm):(de ts).length<=ts.length:=iM _ _
theorem af9 {ts:List Tm} (hn:ts.Nodup) {n:Nat}{w:Str} (h:(de ts)[n]? = some w):xM (de ts) w=2 ^ n:=by
 unfold xM;rw[Fn (uN hn) h]
def lI (hs:List Str) (ts:List Tm) (ls:List Nat) (l:Nat):Nat->Nat
 | 0=>0
 | n+1=>match (ts[n]?).bind lK with
  | some w=>if ls.getD n 0=l then lI hs ts ls l n ||| xM hs w else lI hs ts ls l n
  | none=>lI hs ts ls l n
theorem Pz {hs:List Str}{ts:List Tm}{ls:List Nat}{l n:Nat}{w:Str} (h:ts[n]? = some (.name w)):lI hs ts ls l (n+1)=if ls.getD n 0=l then lI hs ts ls l n ||| xM hs w else lI hs ts ls l n:=by
 rw[lI,h];rfl
theorem PB {hs:List Str}{ts:List Tm}{ls:List Nat}{l n:Nat}{t:Tm} (h:ts[n]? = some t) (ht:lK t=none):lI hs ts ls l (n+1)=lI hs ts ls l n:=by
 rw[lI,h]
 show (match lK t with | some w=>_ | none=>_)=_
 rw[ht]
def aeL (x b:Nat):Nat:=x - (x &&& b)
def E1 (ks:List Nat) (as:List Nat):Nat:=as.foldl (fun acc a=>acc ||| ks.getD a 0) 0
theorem Y1 {ks as:List Nat}{i a:Nat} (h:as[i]? = some a):E1 ks (as.take (i+1))=E1 ks (as.take i) ||| ks.getD a 0:=by
 unfold E1
 rw[dD,h,pK];rfl
def EJ (ts:List Tm) (ls ks:List Nat):Tm->Nat
 | .num _=>0
 | .name w=>xM (de ts) w
 | .of x as=>if x = "bind" ∧ as.length=2 then aeL (ks.getD (as.getD 1 0) 0) (lI (de ts) ts ls (ls.getD (as.getD 0 0) 0) ts.length) else E1 ks as
theorem UQ (ts:List Tm) (ls ks:List Nat) (x:Str) (as:List Nat):EJ ts ls ks (.of x as)=if x = "bind" ∧ as.length=2 then aeL (ks.getD (as.getD 1 0) 0) (lI (de ts) ts ls (ls.getD (as.getD 0 0) 0) ts.length) else E1 ks as:=rfl
structure uo (hs:List Str) (n:Nat) (kvs:DK):Prop where
 at_:∀ i w,i < n->hs[i]? = some w->cX kvs (gx w)=some (nV (2 ^ i))
 len:kvs.length<=n
 only:∀ z,(∀ i,i < n->hs[i]? ≠ some z)->cX kvs (gx z)=none
theorem Wr (hs:List Str):uo hs 0 []:=⟨fun i w h=>absurd h (iL i),aA _,fun z _=>rfl⟩
theorem T9 {hs:List Str}{n:Nat}{kvs:DK}{w:Str} (hn:hs.Nodup) (h:uo hs n kvs) (hw:hs[n]? = some w):uo hs (n+1) (hW kvs (gx w) (nV (2 ^ n))):=by
 refine⟨fun i v hi hv => ?_,cA (nS kvs _ _) (wo h.len),fun z hz=>by
  rw[mL,if_neg (fun e=>hz n (kd n) (by rw[hw,Dn e]))]
  exact h.only z fun i hi=>hz i (jP hi)⟩
 rw[mL]
 by_cases e:v=w
 ·subst e
  have a:=Fn hn hv
  have b:=Fn hn hw
  rw[if_pos rfl, <- a, <- b]
 ·rw[if_neg (fun z=>e (Dn z))]
  refine h.at_ i v ?_ hv
  rcases q8 i n with z | z
  ·exact z
  ·have:i=n:=by omega
   subst this
   rw[hw]at hv
   exact absurd (aE hv).symm e
theorem OH {ts:List Tm} (hn:ts.Nodup) {kvs:DK}{n:Nat}{w:Str} (h:uo (de ts) (de ts).length kvs) (hw:(de ts)[n]? = some w):cX kvs (gx w)=some (nV (xM (de ts) w)):=by
 rw[af9 hn hw]
 exact h.at_ n w (ai.mp hw).1 hw
structure qz (hs:List Str) (ts:List Tm) (ls:List Nat) (n:Nat) (kvs:DK):Prop where
 at_:∀ l,(cX kvs (lk l)).getD (.int 0)=nV (lI hs ts ls l n)
 len:kvs.length<=n
theorem Rr (hs:List Str) (ts:List Tm) (ls:List Nat):qz hs ts ls 0 []:=⟨fun l=>rfl,aA _⟩
theorem Rq {hs:List Str}{ts:List Tm}{ls:List Nat}{n:Nat}{kvs:DK}{w:Str} (h:qz hs ts ls n kvs) (hw:ts[n]? = some (.name w)) :
  qz hs ts ls (n+1) (hW kvs (lk (ls.getD n 0)) (nV (lI hs ts ls (ls.getD n 0) n ||| xM hs w))):=by
 refine⟨fun l => ?_,cA (nS kvs _ _) (wo h.len)⟩
 rw[mL,Pz hw]
 by_cases e:ls.getD n 0=l
 ·rw[if_pos e,if_pos (by rw[e]),e];rfl
 ·rw[if_neg e,if_neg (fun z=>e (abe z).symm)]
  exact h.at_ l
theorem Py {hs:List Str}{ts:List Tm}{ls:List Nat}{n:Nat}{kvs:DK}{t:Tm} (h:qz hs ts ls n kvs) (hw:ts[n]? = some t) (ht:lK t=none):qz hs ts ls (n+1) kvs :=
 ⟨fun l=>by rw[PB hw ht];exact h.at_ l,uF h.len⟩
def fC (ls:List Nat) (k:Nat):List Nat:=(bB ls.length).filter fun i=>decide (ls.getD i 0=ls.getD k 0)
def xy:Tm->Option Int
 | .num n=>some n
 | _=>none
def nF (ts:List Tm) (j:Nat):Option Int:=(ts[j]?).bind xy
def cW (ts:List Tm) (ls:List Nat) (k:Nat):List Int:=(fC ls k).filterMap (nF ts)
theorem VD {t:Tm}{n:Int}:xy t=some n↔t = .num n:=by
 cases t with
 | num m=>exact⟨fun h=>by rw[aE h],fun h=>by cases h;rfl⟩
 | name x=>exact⟨fun h=>(by cases h),fun h=>(by cases h)⟩
 | of x as=>exact⟨fun h=>(by cases h),fun h=>(by cases h)⟩
theorem wQ {ts:List Tm}{j:Nat}{n:Int}:nF ts j=some n↔ts[j]? = some (.num n):=by
 unfold nF
 cases e:ts[j]? with
 | none=>exact⟨fun h=>(by cases h),fun h=>(by cases h)⟩
 | some t =>
  show xy t=some n↔_
  rw[VD]
  exact⟨fun h=>by rw[h],fun h=>aE h⟩
theorem qg {ts:List Tm}{ls:List Nat}{k:Nat}{n:Int}:n∈cW ts ls k↔∃ j,j < ls.length∧ls.getD j 0=ls.getD k 0∧ts[j]? = some (.num n):=by
 unfold cW fC
 rw[eC]
 constructor
 ·rintro⟨j,hj,e⟩
  obtain⟨h1,h2⟩:=eU.mp hj
  exact⟨j,di.mp h1,of_decide_eq_true h2,wQ.mp e⟩
 ·rintro⟨j,h1,h2,h3⟩
  exact⟨j,eU.mpr ⟨di.mpr h1,decide_eq_true h2⟩,wQ.mpr h3⟩
theorem P4 {ts:List Tm}{ls:List Nat}{k:Nat} (hn:ts.Nodup):(cW ts ls k).Nodup:=by
 unfold cW List.Nodup
 rw[List.pairwise_filterMap]
 have h1:(fC ls k).Pairwise (fun a b=>a≠b):=rk _ (wz)
 refine h1.imp fun {a b} Bv x hx y hy e => ?_
 subst e
 have e1:=wQ.mp hx
 have e2:=wQ.mp hy
 obtain⟨l1,g1⟩:=ai.mp e1
 obtain⟨l2,g2⟩:=ai.mp e2
 have key:=ow.mp hn
 rcases CP a b with h | h | h
 ·exact key a b l1 l2 h (g1.trans g2.symm)
 ·exact Bv h
 ·exact key b a l2 l1 h (g2.trans g1.symm)
end Sw
namespace L2
open PySem PySem.Spec PyProof.Rows
section
variable {X:Cx}
end
end L2
namespace Sw
open PySem L2
theorem Il {α : Type}{p q : α -> Bool}:∀ {l:List α},(∀ a∈l,p a=true->q a=true)->(∃ a∈l,q a=true∧p a=false)->l.countP p < l.countP q
 | [],_,h=>by obtain⟨a,h,_⟩:=h;cases h
 | x :: l,h,⟨a,ha,hq,hp⟩=>by
  have le:l.countP p<=l.countP q:=List.countP_mono_left fun b hb=>h b (aK _ hb)
  rw[EA,EA]
  rcases bo.mp ha with rfl | ha
  ·rw[hq,hp,if_pos rfl,if_neg (by decide)];omega
  ·have ih:=Il (l:=l) (fun b hb=>h b (aK _ hb)) ⟨a,ha,hq,hp⟩
   have hx:=h x (aT ..)
   cases e:p x with
   | true=>rw[hx e,if_pos rfl];omega
   | false=>rw[if_neg (by decide)];split <;> omega
def pc (x:Nat):Nat:=(bB 24).countP fun i=>x.testBit i
theorem ahB (x:Nat):pc x<=24:=by
 have:=yA (p:=fun i=>x.testBit i) (l:=bB 24)
 rw[da]at this
 exact this
theorem Sh {x w:Nat} (hx:x < 2 ^ 24) (h:(x &&& w)≠x):pc (x &&& w) < pc x:=by
 refine Il (fun i _ e => ?_) ?_
 ·rw[kX,fA]at e;exact e.1
 ·refine Classical.byContradiction fun hn=>h (zJ fun i => ?_)
  rw[kX]
  cases ex:x.testBit i with
  | false=>rfl
  | true =>
   cases ew:w.testBit i with
   | true=>rfl
   | false =>
    refine absurd ⟨i,di.mpr ?_,ex,by rw[kX,ex,ew];rfl⟩ hn
    rcases q8 i 24 with z | z
    ·exact z
    ·have:x < 2 ^ i:=cm hx (zI (by decide) z)
     rw[Nat.testBit_lt_two_pow this]at ex
     cases ex
def AD (ls:List Nat) (k f:Nat) (ks:List Nat):List Nat:=(bB ks.length).map fun j=>if ls.getD j 0=ls.getD k 0 then f else ks.getD j 0
theorem yW (ls:List Nat) (k f:Nat) (ks:List Nat):(AD ls k f ks).length=ks.length:=by unfold AD;rw[aq,da]
theorem xW {ls:List Nat}{k f:Nat}{ks:List Nat}{j:Nat} (h:j < ks.length):(AD ls k f ks).getD j 0=if ls.getD j 0=ls.getD k 0 then f else ks.getD j 0:=by
 unfold AD
 rw[aN,aD,fO h];rfl
def QW (ls ks:List Nat):Prop := ∀ i j,i < ks.length->j < ks.length->ls.getD i 0=ls.getD j 0->ks.getD i 0=ks.getD j 0
theorem Wd {ls ks:List Nat}{k f:Nat} (h:QW ls ks):QW ls (AD ls k f ks):=fun i j hi hj e=>by
 rw[yW]at hi hj
 rw[xW hi,xW hj,e]
 split
 ·rfl
 ·exact h i j hi hj e
def mu (ks:List Nat):Int:=((bB ks.length).map fun j=>((pc (ks.getD j 0):Nat):Int)).sum
theorem aa5 {ls ks:List Nat}{k f:Nat} (he:QW ls ks) (hk:k < ks.length) (hf:pc f < pc (ks.getD k 0)):mu (AD ls k f ks) < mu ks:=by
 unfold mu
 rw[yW]
 refine Rj (fun j hj => ?_) ⟨k,di.mpr hk,?_⟩
 ·have hj:=di.mp hj
  rw[xW hj]
  by_cases e:ls.getD j 0=ls.getD k 0
  ·rw[if_pos e,he j k hj hk e];omega
  ·rw[if_neg e];exact gP _
 ·rw[xW hk,if_pos rfl];omega
theorem ahG (ks:List Nat):mu ks<=24 * (ks.length:Int):=by
 unfold mu
 have:=JO (l:=bB ks.length) (f:=fun j=>((pc (ks.getD j 0):Nat):Int)) (g:=fun _=>24) (fun j _=>by have:=ahB (ks.getD j 0);omega)
 refine iO this ?_
 have e:∀ n:Nat,((bB n).map fun _=>(24:Int)).sum=24 * (n:Int):=fun n=>by
  induction n with
  | zero=>rfl
  | succ n ih=>rw[ou,dX,List.sum_append,ih];show 24 * (n:Int)+(24+0)=_;omega
 rw[e]
 exact gP _
theorem P9 (ks:List Nat):0<=mu ks:=Ri fun j _=>by omega
def rg (a b:Nat):Prop := ∀ i,a.testBit i=true->b.testBit i=true
theorem VE {a b:Nat}:rg a b↔a &&& b=a:=by
 constructor
 ·intro h
  refine zJ fun i => ?_
  rw[kX]
  cases e:a.testBit i with
  | false=>rfl
  | true=>rw[h i e];rfl
 ·intro h i e
  rw[<- h,kX,fA]at e
  exact e.2
theorem rg.refl (a:Nat):rg a a:=fun _ h=>h
theorem rg.trans {a b c:Nat} (h:rg a b) (h':rg b c):rg a c:=fun i e=>h' i (h i e)
theorem Sx (a b:Nat):rg (a &&& b) a:=fun i e=>by rw[kX,fA]at e;exact e.1
theorem HN (a:Nat):rg 0 a:=fun i e=>by rw[Nat.zero_testBit]at e;cases e
theorem NT {a b:Nat} (h:rg a b):a<=b:=by rw[<- VE.mp h];exact Nat.and_le_right
def nX (ms:List Nat) (f:Nat) (ks:List Nat):List Nat:=(bB ks.length).map fun j=>if j∈ms then f else ks.getD j 0
theorem yV (ms:List Nat) (f:Nat) (ks:List Nat):(nX ms f ks).length=ks.length:=by unfold nX;rw[aq,da]
theorem U5 (f:Nat) (ks:List Nat):nX [] f ks=ks:=by
 refine dP fun j => ?_
 unfold nX
 by_cases h:j < ks.length
 ·rw[aD,fO h,ah h]
  show some (if j∈([]:List Nat) then f else ks.getD j 0)=_
  rw[if_neg (by simp),aN,ah h]
  rfl
 ·rw[b5 (by rw[aq,da];omega),b5 (by omega)]
theorem U4 {ms:List Nat}{f:Nat}{ks:List Nat}{m:Nat} (hm:m < ks.length):(nX ms f ks).set m f=nX (ms ++ [m]) f ks:=by
 refine dP fun j => ?_
 rw[CU]
 by_cases h:j < ks.length
 ·have e2:(nX (ms ++ [m]) f ks)[j]? = some (if j∈ms ++ [m] then f else ks.getD j 0):=by unfold nX;rw[aD,fO h];rfl
  have e1:(nX ms f ks)[j]? = some (if j∈ms then f else ks.getD j 0):=by unfold nX;rw[aD,fO h];rfl
  rw[e2]
  by_cases e:m=j
  ·subst e
   rw[if_pos rfl,if_pos (by rw[yV];exact h),if_pos (bg _ (bq.mpr rfl))]
  ·rw[if_neg e,e1]
   congr 1
   by_cases hj:j∈ms
   ·rw[if_pos hj,if_pos (cO _ hj)]
   ·rw[if_neg hj,if_neg (fun z=>by rcases bX.mp z with z | z;exact hj z;exact e (bq.mp z).symm)]
 ·have n1:(nX (ms ++ [m]) f ks)[j]? = none:=b5 (by rw[yV];omega)
  have n2:(nX ms f ks)[j]? = none:=b5 (by rw[yV];omega)
  rw[n1,if_neg (by omega),n2]
theorem zg {ls:List Nat}{k j:Nat}:j∈fC ls k↔j < ls.length∧ls.getD j 0=ls.getD k 0:=by
 unfold fC
 rw[eU,di,decide_eq_true_iff]
theorem PF {ls ks:List Nat}{k f:Nat} (hl:ls.length=ks.length):nX (fC ls k) f ks=AD ls k f ks:=by
 unfold nX AD
 refine dM fun j hj => ?_
 have hj:=di.mp hj
 by_cases e:ls.getD j 0=ls.getD k 0
 ·rw[if_pos e,if_pos (zg.mpr ⟨by omega,e⟩)]
 ·rw[if_neg e,if_neg fun z=>e (zg.mp z).2]
theorem Kk {n tp i:Nat}:(bz n tp).getD i 0=if i < n then tp else 0:=by
 rw[aN,pD]
 split <;> rfl
end Sw
namespace L2
open PySem PySem.Spec PyProof.Rows
section
variable {X:Cx}
end
end L2
namespace Sw
open PySem L2
def lG (n:Int):Option Int:=if -(10 ^ 60) < n∧n < 10 ^ 60 then some n else none
def fZ (x:Str):List (Option Int)->Option Int
 | [some a,some b]=>if x = "plus" then lG (a+b) else if x = "times" then lG (a * b) else none
 | [some a]=>if x = "neg" then some (-a) else none
 | _=>none
def ev (ρ : Str->Option Int) (vs:List (Option Int)):Tm->Option Int
 | .num n=>some n
 | .name x => ρ x
 | .of x as=>fZ x (as.map fun a=>(vs[a]?).join)
def vals (ρ : Str->Option Int) (ts:List Tm):List (Option Int):=ts.foldl (fun vs t=>vs ++ [ev ρ vs t]) []
theorem Am (ρ : Str->Option Int) (ts:List Tm) (t:Tm):vals ρ (ts ++ [t])=vals ρ ts ++ [ev ρ (vals ρ ts) t]:=by
 unfold vals
 rw[pK]
 rfl
theorem JX {α : Type}{p:List α -> Prop} (h0:p []) (h1:∀ l x,p l->p (l ++ [x])) (l:List α):p l:=by
 rw[<- List.reverse_reverse l]
 induction l.reverse with
 | nil=>exact h0
 | cons x l ih=>rw[CQ];exact h1 _ _ ih
theorem yQ (ρ : Str->Option Int) (ts:List Tm):(vals ρ ts).length=ts.length:=by
 refine JX (p:=fun ts=>(vals ρ ts).length=ts.length) rfl (fun l x ih => ?_) ts
 rw[Am,aG,aG,ih]
 rfl
theorem UT (ρ : Str->Option Int) (ts us:List Tm):∃ r,vals ρ (ts ++ us)=vals ρ ts ++ r:=by
 refine JX (p:=fun us=>∃ r,vals ρ (ts ++ us)=vals ρ ts ++ r) ⟨[],by simp⟩ (fun l x ih => ?_) us
 obtain⟨r,e⟩:=ih
 exact⟨r ++ [ev ρ (vals ρ (ts ++ l)) x],by rw[<- aZ,Am,e,aZ]⟩
def dA (ρ : Str->Option Int) (ts:List Tm) (i:Nat):Option Int:=((vals ρ ts)[i]?).join
theorem DF {ρ : Str->Option Int}{ts:List Tm} (us:List Tm) {i:Nat} (hi:i < ts.length):dA ρ (ts ++ us) i=dA ρ ts i:=by
 obtain⟨r,e⟩:=UT ρ ts us
 unfold dA
 rw[e,eZ (by rw[yQ];exact hi)]
theorem jc {ρ : Str->Option Int}{ts:List Tm} (ha:ny ts) {i:Nat}{t:Tm} (h:ts[i]? = some t):dA ρ ts i=ev ρ (vals ρ ts) t:=by
 have hi:=(ai.mp h).1
 have e:ts=ts.take i ++ (t :: ts.drop (i+1)):=by
  have:=dv i ts
  rw[uU hi,(ai.mp h).2]at this
  exact this.symm
 have el:(ts.take i).length=i:=by rw[bO];omega
 have e2:ts=(ts.take i ++ [t]) ++ ts.drop (i+1):=by rw[aZ];exact e
 have lk:∀ a,a < i->((vals ρ (ts.take i))[a]?).join=((vals ρ ts)[a]?).join:=fun a eS=>by
  have:=DF (ρ := ρ) (ts:=ts.take i) (t :: ts.drop (i+1)) (i:=a) (by omega)
  rw[<- e]at this
  exact this.symm
 have e3:dA ρ ts i=ev ρ (vals ρ (ts.take i)) t:=by
  have:=DF (ρ := ρ) (ts:=ts.take i ++ [t]) (ts.drop (i+1)) (i:=i) (by rw[aG,el];show i < i+1;omega)
  rw[<- e2]at this
  rw[this]
  unfold dA
  rw[Am,dk (by rw[yQ,el];exact aA _),yQ,el,wu]
  rfl
 rw[e3]
 cases t with
 | num n=>rfl
 | name x=>rfl
 | of x as =>
  show fZ x _=fZ x _
  congr 1
  exact dM fun a hm=>lk a (ha i x as h a hm)
theorem Cs {ρ : Str->Option Int}{ts:List Tm} (ha:ny ts) {i:Nat}{x:Str}{as:List Nat} (h:ts[i]? = some (.of x as)):dA ρ ts i=fZ x (as.map (dA ρ ts)):=jc ha h
theorem Zz {ρ : Str->Option Int}{ts:List Tm}{es:List (Nat × Nat)} (ha:ny ts) (he:∀ a b:Nat,(a,b)∈es->dA ρ ts a=dA ρ ts b) {i j:Nat} (h:Eqv ts es i j):dA ρ ts i=dA ρ ts j:=by
 induction h with
 | refl i=>rfl
 | symm _ ih=>exact ih.symm
 | trans _ _ S0 SY=>exact S0.trans SY
 | BB h=>exact he _ _ h
 | same h1 h2=>rw[jc ha h1,jc ha h2]
 | Hi h1 h2 hl _ ih =>
  rw[Cs ha h1,Cs ha h2]
  congr 1
  refine dP fun k => ?_
  rw[aD,aD]
  rename_i as bs _
  by_cases hk:k < as.length
  ·rw[ah hk,ah (by omega)]
   show some _=some _
   rw[ih k _ _ (ah hk) (ah (by omega))]
  ·rw[b5 (by omega),b5 (by omega)]
theorem zh {ts:List Tm}{es:List (Nat × Nat)}{ls:List Nat} (c:eE ts es ls) {j k:Nat} (hj:j < ls.length) (hk:k < ls.length) (h:ls.getD j 0=ls.getD k 0):Eqv ts es j k:=by
 obtain⟨_,_,sd,_⟩:=c
 have e1:ls[j]? = some (ls.getD j 0):=by rw[aN,ah hj];rfl
 have e2:ls[k]? = some (ls.getD j 0):=by rw[h,aN,ah hk];rfl
 exact(sd _ _ e1).trans (sd _ _ e2).symm
theorem KA {ρ : Str->Option Int}{ts:List Tm}{es:List (Nat × Nat)}{ls:List Nat} (ha:ny ts) (he:∀ a b:Nat,(a,b)∈es->dA ρ ts a=dA ρ ts b) (c:eE ts es ls) {k:Nat} (hk:k < ls.length) {n:Int} (h:n∈cW ts ls k):dA ρ ts k=some n:=by
 obtain⟨j,hj,el,et⟩:=qg.mp h
 rw[<- Zz ha he (zh c hj hk el),jc ha et]
 rfl
theorem zc {ρ : Str->Option Int}{ts:List Tm}{es:List (Nat × Nat)}{ls:List Nat} (ha:ny ts) (hn:ts.Nodup) (he:∀ a b:Nat,(a,b)∈es->dA ρ ts a=dA ρ ts b) (c:eE ts es ls) {k:Nat} (hk:k < ls.length):cW ts ls k = []∨∃ n,cW ts ls k = [n]∧dA ρ ts k=some n:=by
 have nd:=P4 (ls:=ls) (k:=k) hn
 have al:=fun n (h:n∈cW ts ls k)=>KA ha he c hk h
 cases e:cW ts ls k with
 | nil=>exact .inl rfl
 | cons n l =>
  rw[e]at nd al
  cases l with
  | nil=>exact .inr ⟨n,rfl,al n aT⟩
  | cons m l =>
   have e1:=al n aT
   have e2:=al m (aK _ aT)
   rw[e1]at e2
   cases e2
   exact absurd aT (dW.mp nd).1
def akl (ts:List Tm) (ls:List Nat):Tm->Option Int
 | .of x as=>fZ x (as.map fun a=>(cW ts ls a).head?)
 | _=>none
def Rest (ts:List Tm) (ls:List Nat):Prop := ∀ (i:Nat) (t:Tm) (r:Int),ts[i]? = some t->akl ts ls t=some r->∃ j,ts[j]? = some (.num r)∧ls.getD j 0=ls.getD i 0
theorem sr {x:Str}{vs:List (Option Int)}{n:Int} (h:fZ x vs=some n):∀ v∈vs,∃ a,v=some a:=by
 unfold fZ at h
 split at h
 ·intro v hv
  rcases bo.mp hv with rfl | hv
  ·exact⟨_,rfl⟩
  ·rw[bq.mp hv];exact⟨_,rfl⟩
 ·intro v hv
  rw[bq.mp hv];exact⟨_,rfl⟩
 ·cases h
theorem Ki {ρ : Str->Option Int}{ts:List Tm}{es:List (Nat × Nat)}{ls:List Nat} (ha:ny ts) (hn:ts.Nodup) (he:∀ a b:Nat,(a,b)∈es->dA ρ ts a=dA ρ ts b) (c:eE ts es ls)
  (vR:∀ (i:Nat) x n,ts[i]? = some (.name x) -> ρ x=some n->∃ j,ts[j]? = some (.num n)∧ls.getD j 0=ls.getD i 0) (hr:Rest ts ls):∀ (m i:Nat),i < m->i < ts.length->∀ n,dA ρ ts i=some n->n∈cW ts ls i
 | 0,i,h,_,_,_=>absurd h (iL _)
 | m+1,i,h,hi,n,hv=>by
  have ll:ls.length=ts.length:=c.1
  have gO:(∃ j,ts[j]? = some (.num n)∧ls.getD j 0=ls.getD i 0)->n∈cW ts ls i:=fun ⟨j,ej,el⟩=>qg.mpr ⟨j,by rw[ll];exact(ai.mp ej).1,el,ej⟩
  have et:ts[i]? = some ts[i]:=ah hi
  generalize ts[i]=t at et
  rw[jc ha et]at hv
  cases t with
  | num k =>
   cases hv
   exact gO ⟨i,et,rfl⟩
  | name x=>exact gO (vR i x n et hv)
  | of x as =>
   have hv:fZ x (as.map (dA ρ ts))=some n:=hv
   refine gO (hr i _ n et ?_)
   show fZ x _=some n
   rw[<- hv]
   congr 1
   refine dM fun a hm => ?_
   have XF:=ha i x as et a hm
   obtain⟨v,ev⟩:=sr hv (dA ρ ts a) (dJ hm)
   have mem:=Ki ha hn he c vR hr m a (by omega) (by omega) v ev
   rcases zc ha hn he c (k:=a) (by omega) with e | ⟨k,e,ek⟩
   ·rw[e]at mem;cases mem
   ·rw[e,ek];rfl
theorem RY {ρ : Str->Option Int}{ts:List Tm}{es:List (Nat × Nat)}{ls:List Nat} (ha:ny ts) (hn:ts.Nodup) (he:∀ a b:Nat,(a,b)∈es->dA ρ ts a=dA ρ ts b) (c:eE ts es ls)
  (vR:∀ (i:Nat) x n,ts[i]? = some (.name x) -> ρ x=some n->∃ j,ts[j]? = some (.num n)∧ls.getD j 0=ls.getD i 0) (hr:Rest ts ls) {i:Nat} (hi:i < ts.length):cW ts ls i=(match dA ρ ts i with | some n => [n] | none => []):=by
 have ll:ls.length=ts.length:=c.1
 rcases zc ha hn he c (k:=i) (by omega) with e | ⟨k,e,ek⟩
 ·rw[e]
  cases ev:dA ρ ts i with
  | none=>rfl
  | some n=>have:=Ki ha hn he c vR hr (i+1) i (kd i) hi n ev;rw[e]at this;cases this
 ·rw[e,ek]
theorem gv {ts bG:List Tm} (p:ts <+: bG) {i:Nat}{t:Tm} (h:ts[i]? = some t):bG[i]? = some t:=by
 obtain⟨r,rfl⟩:=p
 rw[eZ (ai.mp h).1]
 exact h
theorem G9 {ts bG:List Tm}{es dB:List (Nat × Nat)} (p:ts <+: bG) (hs:∀ e∈es,e∈dB) {i j:Nat} (h:Eqv ts es i j):Eqv bG dB i j:=by
 induction h with
 | refl i=>exact .refl i
 | symm _ ih=>exact ih.symm
 | trans _ _ S0 SY=>exact S0.trans SY
 | BB h=>exact .BB (hs _ h)
 | same h1 h2=>exact .same (gv p h1) (gv p h2)
 | Hi h1 h2 hl _ ih=>exact .Hi (gv p h1) (gv p h2) hl ih
def Known (ts:List Tm) (es:List (Nat × Nat)) (i:Nat) (n:Int):Prop := ∃ j,ts[j]? = some (.num n)∧Eqv ts es i j
theorem Known.ext {ts bG:List Tm}{es dB:List (Nat × Nat)}{i:Nat}{n:Int} (p:ts <+: bG) (hs:∀ e∈es,e∈dB) (h:Known ts es i n):Known bG dB i n:=by
 obtain⟨j,e,q⟩:=h
 exact⟨j,gv p e,G9 p hs q⟩
theorem Px {ts bG:List Tm}{es dB:List (Nat × Nat)}{i p q:Nat}{x:Str}{as js:List Nat}{r:Int} (pr:ts <+: bG) (hs:∀ e∈es,e∈dB) (hi:ts[i]? = some (.of x as)) (hl:as.length=js.length) (ha:∀ (k a j:Nat),as[k]? = some a->js[k]? = some j->Eqv ts es a j)
  (hp:bG[p]? = some (.of x js)) (hq:bG[q]? = some (.num r)) (he:(p,q)∈dB):Known bG dB i r :=
 ⟨q,hq,.trans (.Hi (gv pr hi) hp hl fun k a j h1 h2=>G9 pr hs (ha k a j h1 h2)) (.BB he)⟩
theorem UZ {ρ : Str->Option Int}{ts:List Tm} (ha:ny ts) {p q:Nat}{x:Str}{js:List Nat}{vs:List Int}{r:Int} (hp:ts[p]? = some (.of x js)) (hq:ts[q]? = some (.num r)) (hj:js.map (fun j=>ts[j]?)=vs.map fun v=>some (.num v)) (hr:fZ x (vs.map some)=some r):dA ρ ts p=dA ρ ts q:=by
 have e:js.map (dA ρ ts)=vs.map some:=by
  refine dP fun k => ?_
  have:=congrArg (fun l=>l[k]?) hj
  rw[aD,aD]at this ⊢
  cases h1:js[k]? with
  | none =>
   rw[h1]at this
   cases h2:vs[k]? with
   | none=>rfl
   | some v=>rw[h2]at this;cases this
  | some j =>
   rw[h1]at this
   cases h2:vs[k]? with
   | none=>rw[h2]at this;cases this
   | some v =>
    rw[h2]at this
    have ej:ts[j]? = some (.num v):=aE this
    show some (dA ρ ts j)=some (some v)
    rw[jc ha ej]
    rfl
 rw[Cs ha hp,e,hr,jc ha hq]
 rfl
def Fg (ρ : Str->Option Int) (ts:List Tm) (es:List (Nat × Nat)) (i:Nat):Bool := @decide (∃ n,dA ρ ts i=some n∧¬ Known ts es i n) (pG _)
theorem wV {ρ : Str->Option Int}{ts:List Tm}{es:List (Nat × Nat)}{i:Nat}:Fg ρ ts es i=true↔∃ n,dA ρ ts i=some n∧¬ Known ts es i n := @decide_eq_true_iff _ (pG _)
def xB (ρ : Str->Option Int) (ts:List Tm) (es:List (Nat × Nat)):Nat:=(bB ts.length).countP (Fg ρ ts es)
end Sw
namespace L2
open PySem PySem.Spec PyProof.Rows
structure CC (K:ak) (C:Addr) (m cV:Str) (st:Stmt) (ps:List Str) (fh:List V):Prop where
 ex:∃ f fd ds,ag0 K m cV st f fd∧Meth K C m f∧Binds K fd ps ds∧Vals fh ds∧Binds K fd ps []
structure rq (P:Program) (w:World) (K:ak) (mg:Str->Option Value) (base:Heap) (k:Nat) (C:Addr) (m:Str) (ps:List Str) (fh:List V) (sp:Sp):Prop where
 ex:∃ f fd ds,kz P w K mg base (pU P w) k f fd ps sp∧Meth K C m f∧Binds K fd ps ds∧Vals fh ds∧Binds K fd ps []
theorem CC.has {P:Program}{w:World}{K:ak}{mg:Str->Option Value}{base:Heap}{m cV:Str}{C:Addr}{st:Stmt}{N ps:List Str}{k:Nat}{sp:Sp}{fh:List V} (D:CC K C m cV st ps fh) (S:bI N ps (aw st)) (len:∀ vs H Q E,sp vs H Q E->vs.length=ps.length)
  (kO:∀ (f:Addr) (cw:Value) (A:Around) (outer:List Env) (s:Shared) (H:Hp) (vs:List V) (Q:VK) (E:XK),eY k (A.deeper (envOfC cV (aw st) s.heap.objs.size f cw))->sp vs H Q E ->
   ∃ t,pT (dj (pU P w) P w K mg base N cV (aw st) f cw A outer s H E) (bw st) t∧t { nx:=fun _ H'=>Q .cQ H',rt:=Q } (start N vs) H):rq P w K mg base (k+1) C m ps fh sp:=by
 obtain⟨f,fd,ds,F,hm,hb,hv,gH⟩:=D.ex
 obtain⟨oc,od,dV,kV,doc,pm,an,cw,ct,yc,rfl,lk,oK⟩:=F.ex
 exact⟨f,_,ds,Jv lk oK S len fun A outer s H vs Q E hr wX=>kO f cw A outer s H vs Q E hr wX,hm,hb,hv,gH⟩
theorem rq.d {P:Program}{w:World}{K:ak}{mg:Str->Option Value}{base:Heap}{m:Str}{C:Addr}{ps:List Str}{k:Nat}{sp:Sp}{fh:List V} (h:rq P w K mg base k C m ps fh sp):Yu P w K mg base k C m ps fh sp :=
 let ⟨f,fd,ds,F,hm,hb,hv,_⟩:=h.ex; ⟨f,fd,ds,F,hm,hb,hv⟩
theorem rq.a {P:Program}{w:World}{K:ak}{mg:Str->Option Value}{base:Heap}{m:Str}{C:Addr}{ps:List Str}{k:Nat}{sp:Sp}{fh:List V} (h:rq P w K mg base k C m ps fh sp):mC P w K mg base k C m ps sp :=
 let ⟨f,fd,_,F,hm,_,_,hb⟩:=h.ex; ⟨f,fd,F,hm,hb⟩
structure QY (K:ak) (mg:Str->Option Value) (x:Str) (st:Stmt) (ps:List Str) (fh:List V):Prop where
 ex:∃ f fd ds,ag0 K x x st f fd∧mg x=some (.ref f)∧aB K (.ref f)=true∧Binds K fd ps ds∧Vals fh ds∧Binds K fd ps []
structure Md (P:Program) (w:World) (K:ak) (mg:Str->Option Value) (base:Heap) (k:Nat) (x:Str) (ps:List Str) (fh:List V) (sp:Sp):Prop where
 ex:∃ f fd ds,kz P w K mg base (pU P w) k f fd ps sp∧mg x=some (.ref f)∧aB K (.ref f)=true∧Binds K fd ps ds∧Vals fh ds∧Binds K fd ps []
theorem QY.has {P:Program}{w:World}{K:ak}{mg:Str->Option Value}{base:Heap}{x:Str}{st:Stmt}{N ps:List Str}{k:Nat}{sp:Sp}{fh:List V} (D:QY K mg x st ps fh) (S:bI N ps (aw st)) (len:∀ vs H Q E,sp vs H Q E->vs.length=ps.length)
  (kO:∀ (f:Addr) (cw:Value) (A:Around) (outer:List Env) (s:Shared) (H:Hp) (vs:List V) (Q:VK) (E:XK),eY k (A.deeper (envOfC x (aw st) s.heap.objs.size f cw))->sp vs H Q E ->
   ∃ t,pT (dj (pU P w) P w K mg base N x (aw st) f cw A outer s H E) (bw st) t∧t { nx:=fun _ H'=>Q .cQ H',rt:=Q } (start N vs) H):Md P w K mg base (k+1) x ps fh sp:=by
 obtain⟨f,fd,ds,F,hm,Fv,hb,hv,gH⟩:=D.ex
 obtain⟨oc,od,dV,kV,doc,pm,an,cw,ct,yc,rfl,lk,oK⟩:=F.ex
 exact⟨f,_,ds,Jv lk oK S len fun A outer s H vs Q E hr wX=>kO f cw A outer s H vs Q E hr wX,hm,Fv,hb,hv,gH⟩
section
variable {X:Cx} {k k':Nat}{x:Str}{ps:List Str}{fh:List V}{sp:Sp}{p pos:Pos}{e:Expr}{es:List Expr}{t:TA}
theorem Sg (h:Md X.prog X.w X.K X.mg X.base k x ps fh sp) (hr:eY k' X.A) (hk:k<=k') (hg:Gl X x) (ha:PA X (e :: es) t) (t7:(x == ("__debug__" : Str))=false:=by decide)
  (he:starEach (e :: es) X.env=(false,eval e X.env) :: starEach es X.env:=by rfl) (lZ:(backTo pos (starEach es X.env)).any (·.1)=false:=by rfl) :
  PE X (.Call (.Name x p) (e :: es) [] pos) (yT sp [] E0 t):=by
 obtain⟨f,fd,ds,F,hm,Fv,_,_,hb⟩:=h.ex
 exact GL F (hr.mono hk) hg hm Fv hb .nil gh ha t7 he lZ
theorem Sf (h:Md X.prog X.w X.K X.mg X.base k x ps fh sp) (hr:eY k' X.A) (hk:k<=k') (hg:Gl X x) (ha:PA X (e :: es) t) (t7:(x == ("__debug__" : Str))=false:=by decide)
  (he:starEach (e :: es) X.env=(false,eval e X.env) :: starEach es X.env:=by rfl) (lZ:(backTo pos (starEach es X.env)).any (·.1)=false:=by rfl) :
  PE X (.Call (.Name x p) (e :: es) [] pos) (yT sp fh E0 t):=by
 obtain⟨f,fd,ds,F,hm,Fv,hb,hv,_⟩:=h.ex
 exact GL F (hr.mono hk) hg hm Fv hb hv gh ha t7 he lZ
end
theorem aak {n:Nat} (h:n<=100000):n < sizeLine:=oW h (by decide)
end L2
namespace Sw
open PySem L2
def Pa (ts:List Tm):Prop:=ts.length<=150∧(de ts).length<=24
def p5 (ts:List Tm) (ls:List Nat) (r:Int):Option Nat:=(dZ ts (.num r)).map fun i=>ls.getD i 0
def dH (ts:List Tm) (ls:List Nat) (k:Nat):Option (Str × List Int × Int):=match ts[k]? with
 | some (.of x as)=>(match fZ x (as.map fun a=>(cW ts ls a).head?) with
  | some r=>if p5 ts ls r=some (ls.getD k 0) then none else some (x,(as.map fun a=>(cW ts ls a).head?).filterMap id,r)
  | none=>none)
 | _=>none
theorem EK {H:Hp}{vs:List V}{ts:List T} (h:Paired (fun v t=>fz H t v) vs ts):lg H ts vs:=by
 induction h with
 | nil=>rw[lg]
 | cons e _ ih=>rw[lg];exact⟨_,_,rfl,e,ih⟩
def b0:Str->Nat:=fun _=>0
theorem Ko {ts:List Tm}:∀ {ns:List Int},(∀ n∈ns,(TM.num n:Tm)∈ts)->∃ js,cD b0 ts (ns.map T.num)=(ts,js)∧js.map (fun j=>ts[j]?)=ns.map fun n=>some (TM.num n:Tm)
 | [],_=>⟨[],by rw[eV,cD],rfl⟩
 | n :: ns,h=>by
  obtain⟨js,e1,e2⟩:=Ko (ns:=ns) fun m hm=>h m (aK _ hm)
  cases e:dZ ts (.num n) with
  | none=>exact absurd (h n aT) (oH.mp e)
  | some i=>exact⟨i :: js,by rw[aL,cD,bJ,sY e,e1],by rw[aL,aL,e2,nC e]⟩
def Yx (n:Nat) (t:Tm):Prop := ∀ x as,t = .of x as->(∀ a∈as,a < n)∧as.length<=4∧1<=as.length
theorem uc (ts:List Tm) (t:Tm):(cF ts t).1[(cF ts t).2]? = some t:=nC (Cw ts t)
theorem xh (ts:List Tm) (t:Tm):(cF ts t).1=ts∨(cF ts t=(ts ++ [t],ts.length)∧t ∉ ts):=by
 cases e:dZ ts t with
 | some i=>rw[sY e];exact .inl rfl
 | none=>rw[u5 e];exact .inr ⟨rfl,oH.mp e⟩
theorem oQ {ts:List Tm}{t:Tm}{i:Nat} (h:ts.length<=i) (hi:i < (cF ts t).1.length):i=(cF ts t).2:=by
 rcases xh ts t with e | ⟨e,_⟩
 ·rw[e]at hi;omega
 ·rw[e]at hi ⊢
  rw[aG,mz]at hi
  show i=ts.length
  omega
theorem qx (ts:List Tm) (t:Tm):(cF ts t).1.length<=ts.length+1:=by
 rcases xh ts t with e | ⟨e,_⟩
 ·rw[e];omega
 ·rw[e,aG,mz];omega
theorem DH {ts:List Tm}{t:Tm} (h:xO ts) (f:Yx ts.length t):xO (cF ts t).1:=by
 rcases xh ts t with e | ⟨e,hn⟩
 ·rw[e];exact h
 ·rw[e]
  have OJ:∀ i u,(ts ++ [t])[i]? = some u->ts[i]? = some u∨(i=ts.length∧u=t):=fun i u z=>by
   by_cases hi:i < ts.length
   ·rw[eZ hi]at z;exact .inl z
   ·have hl:=(ai.mp z).1
    rw[aG,mz]at hl
    have:i=ts.length:=by omega
    subst this
    rw[dk (aA _),wu]at z
    cases z
    exact .inr ⟨rfl,rfl⟩
  refine⟨fun i x as z => ?_,fun i x as z => ?_,?_⟩
  ·rcases OJ i _ z with z | ⟨rfl,y⟩
   ·exact h.1 i x as z
   ·exact(f x as y.symm).1
  ·rcases OJ i _ z with z | ⟨rfl,y⟩
   ·exact h.2.1 i x as z
   ·exact(f x as y.symm).2
  ·refine lO.mpr ⟨h.2.2,dW.mpr ⟨List.not_mem_nil,mv⟩,fun a ha b hb z => ?_⟩
   rw[bq.mp hb]at z
   exact hn (z ▸ ha)
structure Gd (ρ : Str->Option Int) (ts:List Tm) (es:List (Nat × Nat)):Prop where
 ok:xO ts
 ends:∀ a b:Nat,(a,b)∈es->a < ts.length∧b < ts.length
 vals:∀ a b:Nat,(a,b)∈es->dA ρ ts a=dA ρ ts b
 names:∀ (i:Nat) x n,ts[i]? = some (.name x) -> ρ x=some n->Known ts es i n
 nums:∀ (i:Nat) n,ts[i]? = some (.num n)->lG n=some n
 held:(de ts).length<=24
theorem nO {ρ : Str->Option Int}{ts bG:List Tm} (p:ts <+: bG) {i:Nat} (hi:i < ts.length):dA ρ bG i=dA ρ ts i:=by
 obtain⟨r,rfl⟩:=p
 exact DF r hi
theorem An {ρ : Str->Option Int}{ts:List Tm}{i:Nat}{n:Int} (h:dA ρ ts i=some n):i < ts.length:=by
 unfold dA at h
 rcases q8 i ts.length with z | z
 ·exact z
 ·rw[b5 (by rw[yQ];exact z)]at h;cases h
theorem FL {ρ : Str->Option Int}{ts:List Tm}{es:List (Nat × Nat)}{t:Tm} (g:Gd ρ ts es) (f:Yx ts.length t) (hn:∀ n,t = .num n->lG n=some n) (hx:∀ x,t ≠ .name x):Gd ρ (cF ts t).1 es:=by
 have pre:=jo ts t
 have le:=pre.length_le
 refine⟨DH g.ok f,fun a b h => ?_,fun a b h => ?_,fun i x n h r => ?_,fun i n h => ?_,?_⟩
 ·have:=g.ends a b h;omega
 ·have:=g.ends a b h
  rw[nO pre this.1,nO pre this.2]
  exact g.vals a b h
 ·by_cases hi:i < ts.length
  ·have h2:ts[i]? = some ts[i]:=ah hi
   rw[gv pre h2]at h
   exact(g.names i x n (h2.trans h) r).ext pre fun e he=>he
  ·have:=oQ (by omega) (ai.mp h).1
   rw[this,uc]at h
   exact absurd (aE h) (hx x)
 ·by_cases hi:i < ts.length
  ·have h2:ts[i]? = some ts[i]:=ah hi
   rw[gv pre h2]at h
   exact g.nums i n (h2.trans h)
  ·have:=oQ (by omega) (ai.mp h).1
   rw[this,uc]at h
   exact hn n (aE h)
 ·rcases xh ts t with e | ⟨e,_⟩
  ·rw[e];exact g.held
  ·rw[e]
   show ((ts ++ [t]).filterMap lK).length<=24
   have en:lK t=none:=by
    cases t with
    | num n=>rfl
    | name x=>exact absurd rfl (hx x)
    | of x as=>rfl
   rw[hV,iN en,BU,eJ]
   exact g.held
theorem Zx {ρ : Str->Option Int}{ts:List Tm}{es:List (Nat × Nat)}{p q:Nat} (g:Gd ρ ts es) (hp:p < ts.length) (hq:q < ts.length) (hv:dA ρ ts p=dA ρ ts q):Gd ρ ts (es ++ [(p,q)]):=by
 have mem:∀ a b,(a,b)∈es ++ [(p,q)]->(a,b)∈es∨(a=p∧b=q):=fun a b h=>by
  rcases bX.mp h with z | z
  ·exact .inl z
  ·have:=bq.mp z
   cases this
   exact .inr ⟨rfl,rfl⟩
 refine⟨g.ok,fun a b h => ?_,fun a b h => ?_,fun i x n h r => ?_,g.nums,g.held⟩
 ·rcases mem a b h with z | ⟨rfl,rfl⟩
  ·exact g.ends a b z
  ·exact⟨hp,hq⟩
 ·rcases mem a b h with z | ⟨rfl,rfl⟩
  ·exact g.vals a b z
  ·exact hv
 ·exact(g.names i x n h r).ext (jr _) fun e he=>cO _ he
abbrev me:=Str × List Int × Int
structure QQ (ts:List Tm) (s:me):Prop where
 held:∀ n∈s.2.1,(TM.num n:Tm)∈ts
 out:fZ s.1 (s.2.1.map some)=some s.2.2
 Fm:lG s.2.2=some s.2.2
def eF (ts:List Tm) (s:me):List Tm × (Nat × Nat) :=
 ((bJ b0 (bJ b0 ts (.of s.1 (s.2.1.map T.num))).1 (.num s.2.2)).1,((bJ b0 ts (.of s.1 (s.2.1.map T.num))).2,(bJ b0 (bJ b0 ts (.of s.1 (s.2.1.map T.num))).1 (.num s.2.2)).2))
theorem NJ {x:Str}{ns:List Int}{r:Int} (h:fZ x (ns.map some)=some r):ns.length<=2∧1<=ns.length:=by
 match ns with
 | []=>cases h
 | [a]=>exact⟨(show 1<=2 by decide),(show 1<=1 by decide)⟩
 | [a,b]=>exact⟨(show 2<=2 by decide),(show 1<=2 by decide)⟩
 | a :: b :: c :: l=>cases h
structure Pk (bG:List Tm) (dB:List (Nat × Nat)) (s:me) (p q:Nat) (js:List Nat):Prop where
 hp:bG[p]? = some (.of s.1 js)
 hq:bG[q]? = some (.num s.2.2)
 hj:js.map (fun j=>bG[j]?)=s.2.1.map fun n=>some (TM.num n:Tm)
 he:(p,q)∈dB
theorem NZ {ts bG:List Tm} (p:ts <+: bG) {js:List Nat}{ns:List Int} (h:js.map (fun j=>ts[j]?)=ns.map fun n=>some (TM.num n:Tm)):js.map (fun j=>bG[j]?)=ns.map fun n=>some (TM.num n:Tm):=by
 rw[<- h]
 refine dM fun j hj => ?_
 have:ts[j]? ∈ ns.map fun n=>some (TM.num n:Tm):=by rw[<- h];exact dJ hj
 obtain⟨n,_,e⟩:=cM.mp this
 rw[<- e]
 exact gv p e.symm
theorem Pk.ext {ts bG:List Tm}{es dB:List (Nat × Nat)}{s:me}{p q:Nat}{js:List Nat} (h:Pk ts es s p q js) (pr:ts <+: bG) (hs:∀ e∈es,e∈dB):Pk bG dB s p q js :=
 ⟨gv pr h.hp,gv pr h.hq,NZ pr h.hj,hs _ h.he⟩
theorem YG {ρ : Str->Option Int}{ts:List Tm}{es:List (Nat × Nat)}{s:me} (g:Gd ρ ts es) (h:QQ ts s) :
  Gd ρ (eF ts s).1 (es ++ [(eF ts s).2])∧ts <+: (eF ts s).1∧(eF ts s).1.length<=ts.length+2∧(∃ js,Pk (eF ts s).1 (es ++ [(eF ts s).2]) s (eF ts s).2.1 (eF ts s).2.2 js) ∧
   ∀ i n,ts.length<=i->dA ρ (eF ts s).1 i=some n->Known (eF ts s).1 (es ++ [(eF ts s).2]) i n:=by
 obtain⟨x,ns,r⟩:=s
 obtain⟨js,e1,e2⟩:=Ko h.held
 have l2:ns.length<=2∧1<=ns.length:=NJ h.out
 have ll:js.length=ns.length:=by have:=congrArg ie e2;rw[aq,aq]at this;exact this
 have ef:bJ b0 ts (.of x (ns.map T.num))=cF ts (.of x js):=by rw[bJ,e1]
 have eg:bJ b0 (cF ts (.of x js)).1 (.num r)=cF (cF ts (.of x js)).1 (.num r):=by rw[bJ]
 have dB:eF ts (x,ns,r)=((cF (cF ts (.of x js)).1 (.num r)).1,((cF ts (.of x js)).2,(cF (cF ts (.of x js)).1 (.num r)).2)):=by unfold eF;rw[ef,eg]
 rw[dB]
 have jl:∀ j∈js,j < ts.length:=fun j hj=>by
  have:ts[j]? ∈ ns.map fun n=>some (TM.num n:Tm):=by rw[<- e2];exact dJ hj
  obtain⟨n,_,e⟩:=cM.mp this
  exact(ai.mp e.symm).1
 have aoY:Yx ts.length (.of x js):=fun y as e=>by cases e;exact⟨jl,by omega,by omega⟩
 have g1:=FL g aoY (fun n z=>by cases z) (fun y z=>by cases z)
 have aoX:Yx (cF ts (.of x js)).1.length (.num r):=fun y as e=>by cases e
 have g2:=FL g1 aoX (fun n z=>by cases z;exact h.Fm) (fun y z=>by cases z)
 have p1:=jo ts (.of x js)
 have p2:=jo (cF ts (.of x js)).1 (.num r)
 have i1:=uc ts (.of x js)
 have i2:=uc (cF ts (.of x js)).1 (.num r)
 have o1:=qx ts (.of x js)
 have o2:=qx (cF ts (.of x js)).1 (.num r)
 have a1:=fun i h hi=>oQ (ts:=ts) (t := .of x js) (i:=i) h hi
 have a2:=fun i h hi=>oQ (ts:=(cF ts (.of x js)).1) (t := .num r) (i:=i) h hi
 generalize (cF ts (.of x js)).1=t1 at p1 p2 i1 i2 o1 o2 a1 a2 g1 g2 ⊢
 generalize (cF ts (.of x js)).2=p at i1 a1 ⊢
 generalize (cF t1 (.num r)).1=t2 at p2 i2 o2 a2 g2 ⊢
 generalize (cF t1 (.num r)).2=q at i2 a2 ⊢
 have hp:=gv p2 i1
 have hj:=NZ (p1.trans p2) e2
 have hv:dA ρ t2 p=dA ρ t2 q:=UZ g2.ok.1 hp i2 (hj.trans (by rfl)) h.out
 have vq:dA ρ t2 q=some r:=by rw[jc g2.ok.1 i2];rfl
 have g3:=Zx g2 (ai.mp hp).1 (ai.mp i2).1 hv
 refine⟨g3,p1.trans p2,(by omega),⟨js,hp,i2,hj,bg _ (d6 _)⟩,fun i n hi rG => ?_⟩
 have il:=An rG
 have kq:Known t2 (es ++ [(p,q)]) q r:=⟨q,i2,.refl q⟩
 by_cases uC:i < t1.length
 ·have:=a1 i hi uC
  subst this
  rw[hv,vq]at rG
  cases rG
  exact⟨q,i2,.BB (bg _ (d6 _))⟩
 ·have:=a2 i (by omega) il
  subst this
  rw[vq]at rG
  cases rG
  exact kq
def d7:List Tm->List me->List Tm × List (Nat × Nat)
 | ts, []=>(ts, [])
 | ts,s :: ss=>((d7 (eF ts s).1 ss).1,(eF ts s).2 :: (d7 (eF ts s).1 ss).2)
theorem Oz:∀ (ss:List me) (ts:List Tm) (s:me),d7 ts (ss ++ [s])=((eF (d7 ts ss).1 s).1,(d7 ts ss).2 ++ [(eF (d7 ts ss).1 s).2])
 | [],ts,s=>by rw[jF,d7,d7,d7];rfl
 | a :: ss,ts,s=>by rw[gY,d7,d7,Oz ss];rfl
theorem X7 {ρ : Str->Option Int}:∀ (ss:List me) {ts:List Tm}{es:List (Nat × Nat)},Gd ρ ts es->(∀ s∈ss,QQ ts s) ->
  Gd ρ (d7 ts ss).1 (es ++ (d7 ts ss).2)∧ts <+: (d7 ts ss).1∧(d7 ts ss).1.length<=ts.length+2 * ss.length∧(∀ s∈ss,∃ p q js,Pk (d7 ts ss).1 (es ++ (d7 ts ss).2) s p q js) ∧
   ∀ i n,ts.length<=i->dA ρ (d7 ts ss).1 i=some n->Known (d7 ts ss).1 (es ++ (d7 ts ss).2) i n
 | [],ts,es,g,_=>by
  rw[d7,eJ]
  exact⟨g,jr _,by show ts.length<=ts.length+2 * 0;omega,(fun s h=>nomatch h),fun i n hi hv=>absurd (An hv) (by show ¬ i < ts.length;omega)⟩
 | s :: ss,ts,es,g,h=>by
  obtain⟨g1,p1,l1,⟨js,d1⟩,n1⟩:=YG g (h s aT)
  obtain⟨g2,p2,l2,d2,n2⟩:=X7 ss g1 fun u hu=>by
   have:=h u (aK _ hu)
   exact⟨fun n hn=>p1.subset (this.held n hn),this.out,this.Fm⟩
  rw[d7]
  have ee:es ++ (eF ts s).2 :: (d7 (eF ts s).1 ss).2=es ++ [(eF ts s).2] ++ (d7 (eF ts s).1 ss).2:=by rw[aZ];rfl
  show Gd ρ (d7 (eF ts s).1 ss).1 (es ++ (eF ts s).2 :: (d7 (eF ts s).1 ss).2)∧_
  rw[ee]
  have inc:∀ e∈es ++ [(eF ts s).2],e∈es ++ [(eF ts s).2] ++ (d7 (eF ts s).1 ss).2:=fun e he=>cO _ he
  refine⟨g2,p1.trans p2,?_,fun u hu => ?_,fun i n hi hv => ?_⟩
  ·show (d7 (eF ts s).1 ss).1.length<=_
   rw[b8];omega
  ·rcases bo.mp hu with rfl | hu
   ·exact⟨_,_,js,d1.ext p2 inc⟩
   ·exact d2 u hu
  ·by_cases uC:i < (eF ts s).1.length
   ·have rG:dA ρ (d7 (eF ts s).1 ss).1 i=some n:=hv
    rw[nO p2 uC]at rG
    exact(n1 i n hi rG).ext p2 inc
   ·exact n2 i n (by omega) hv
theorem QF:∀ {l:List (Option Int)},(∀ v∈l,∃ a,v=some a)->(l.filterMap id).map some=l
 | [],_=>rfl
 | v :: l,h=>by
  obtain⟨a,rfl⟩:=h v aT
  show some a :: (l.filterMap id).map some=some a :: l
  rw[QF fun w hw=>h w (aK _ hw)]
structure Cy (ts:List Tm) (ls:List Nat) (k:Nat) (s:me) (as:List Nat):Prop where
 tm:ts[k]? = some (.of s.1 as)
 hd:as.map (fun a=>(cW ts ls a).head?)=s.2.1.map some
 out:fZ s.1 (s.2.1.map some)=some s.2.2
 tab:p5 ts ls s.2.2≠some (ls.getD k 0)
theorem Ar {ts:List Tm}{ls:List Nat}{k:Nat}{s:me} (h:dH ts ls k=some s):∃ as,Cy ts ls k s as:=by
 unfold dH at h
 split at h
 ·rename_i x as et
  split at h
  ·rename_i r eo
   split at h
   ·cases h
   ·rename_i nt
    cases h
    have e:=QF (sr eo)
    exact⟨as,et,e.symm,by show fZ x (List.map some _)=some r;rw[e];exact eo,nt⟩
  ·cases h
 ·cases h
theorem Li {ts:List Tm}{ls:List Nat}{k:Nat}{s:me}{as:List Nat} (h:Cy ts ls k s as):∀ n∈s.2.1,∃ a∈as,n∈cW ts ls a:=fun n hn=>by
 have:some n∈as.map (fun a=>(cW ts ls a).head?):=by rw[h.hd];exact dJ hn
 obtain⟨a,ha,ea⟩:=cM.mp this
 exact⟨a,ha,mw (by rw[ea];exact rfl)⟩
theorem yt {n:Int}:lG n=some n ↔ -(10 ^ 60) < n∧n < 10 ^ 60:=by
 unfold lG
 split
 ·rename_i h;exact⟨fun _=>h,fun _=>rfl⟩
 ·rename_i h;exact⟨fun z=>(by cases z),fun z=>absurd z h⟩
theorem LU {n r:Int} (h:lG n=some r):lG r=some r:=by
 unfold lG at h
 split at h
 ·cases h;unfold lG;rw[if_pos (by assumption)]
 ·cases h
theorem NL {x:Str}{ns:List Int}{r:Int} (h:fZ x (ns.map some)=some r) (hb:∀ n∈ns,lG n=some n):lG r=some r:=by
 match ns with
 | []=>cases h
 | [a] =>
  have h:(if x = "neg" then some (-a) else none)=some r:=h
  split at h
  ·cases h
   have:=yt.mp (hb a (d6 _))
   exact yt.mpr ⟨by omega,by omega⟩
  ·cases h
 | [a,b] =>
  have h:(if x = "plus" then lG (a+b) else if x = "times" then lG (a * b) else none)=some r:=h
  split at h
  ·exact LU h
  ·split at h
   ·exact LU h
   ·cases h
 | a :: b :: c :: l=>cases h
theorem aai {ρ : Str->Option Int}{ts:List Tm}{es:List (Nat × Nat)}{ls:List Nat}{k:Nat}{s:me}{as:List Nat} (g:Gd ρ ts es) (h:Cy ts ls k s as):QQ ts s:=by
 refine⟨fun n hn => ?_,h.out,NL h.out fun n hn => ?_⟩
 ·obtain⟨a,_,hm⟩:=Li h n hn
  obtain⟨j,_,_,ej⟩:=qg.mp hm
  exact aP ej
 ·obtain⟨a,_,hm⟩:=Li h n hn
  obtain⟨j,_,_,ej⟩:=qg.mp hm
  exact g.nums j n ej
theorem Nb {ρ : Str->Option Int}{ts:List Tm}{es:List (Nat × Nat)}{ls:List Nat}{k:Nat}{s:me}{as:List Nat} (g:Gd ρ ts es) (c:eE ts es ls) (h:Cy ts ls k s as):dA ρ ts k=some s.2.2:=by
 rw[Cs g.ok.1 h.tm, <- h.out, <- h.hd]
 congr 1
 refine dM fun a ha => ?_
 have:(cW ts ls a).head? ∈ s.2.1.map some:=by rw[<- h.hd];exact dJ (f:=fun a=>(cW ts ls a).head?) ha
 obtain⟨n,_,en⟩:=cM.mp this
 have kl:=(ai.mp h.tm).1
 have al:=g.ok.1 k _ as h.tm a ha
 rw[<- en]
 exact KA g.ok.1 g.vals c (by rw[c.1];omega) (mw (by rw[<- en];exact rfl))
theorem zi {ts:List Tm}{es:List (Nat × Nat)}{ls:List Nat}{k:Nat}{n:Int} (c:eE ts es ls) (hk:k < ts.length) (h:Known ts es k n):∃ j,ts[j]? = some (.num n)∧ls.getD j 0=ls.getD k 0:=by
 obtain⟨j,ej,q⟩:=h
 refine⟨j,ej,?_⟩
 have:=c.2.2.2 k j hk (ai.mp ej).1 q
 rw[aN,aN,this]
theorem Qh {ts:List Tm}{es:List (Nat × Nat)}{ls:List Nat}{k j:Nat}{n:Int} (c:eE ts es ls) (hk:k < ts.length) (ej:ts[j]? = some (.num n)) (h:ls.getD j 0=ls.getD k 0):Known ts es k n :=
 ⟨j,ej,(zh c (by rw[c.1];exact(ai.mp ej).1) (by rw[c.1];exact hk) h).symm⟩
theorem GP {ts:List Tm} (nd:ts.Nodup) {i j:Nat}{t:Tm} (hi:ts[i]? = some t) (hj:ts[j]? = some t):i=j:=by
 obtain⟨l1,e1⟩:=ai.mp hi
 obtain⟨l2,e2⟩:=ai.mp hj
 exact(Ez nd).mp (e1.trans e2.symm)
theorem YB {ts:List Tm}{ls:List Nat} (nd:ts.Nodup) {j:Nat}{n:Int} (ej:ts[j]? = some (.num n)):p5 ts ls n=some (ls.getD j 0):=by
 unfold p5
 cases e:dZ ts (.num n) with
 | none=>exact absurd (aP ej) (oH.mp e)
 | some i=>rw[GP nd (nC e) ej];rfl
theorem HF {ρ : Str->Option Int}{ts:List Tm}{es:List (Nat × Nat)}{ls:List Nat}{k:Nat}{s:me}{as:List Nat} (g:Gd ρ ts es) (c:eE ts es ls) (h:Cy ts ls k s as):¬ Known ts es k s.2.2:=fun q=>by
 obtain⟨j,ej,el⟩:=zi c (ai.mp h.tm).1 q
 exact h.tab (by rw[YB g.ok.2.2 ej,el])
theorem Rk {ρ : Str->Option Int}{ts bG:List Tm}{es dB:List (Nat × Nat)}{ls:List Nat}{k p q:Nat}{s:me}{as js:List Nat} (g:Gd ρ ts es) (c:eE ts es ls) (h:Cy ts ls k s as) (nd:bG.Nodup) (pr:ts <+: bG) (hs:∀ e∈es,e∈dB) (d:Pk bG dB s p q js):Known bG dB k s.2.2:=by
 have l1:=congrArg ie h.hd
 have l2:=congrArg ie d.hj
 rw[aq,aq]at l1 l2
 have kl:=(ai.mp h.tm).1
 refine Px pr hs h.tm (by omega) (fun i a j ea ej => ?_) d.hp d.hq d.he
 have e1:=congrArg (fun l=>l[i]?) h.hd
 have e2:=congrArg (fun l=>l[i]?) d.hj
 rw[aD,aD,ea]at e1
 rw[aD,aD,ej]at e2
 cases en:s.2.1[i]? with
 | none=>rw[en]at e1;cases e1
 | some n =>
  rw[en]at e1 e2
  have e1:(cW ts ls a).head? = some n:=aE e1
  have e2:bG[j]? = some (.num n):=aE e2
  have al:=g.ok.1 k _ as h.tm a (aP ea)
  obtain⟨m,ml,em,et⟩:=qg.mp (mw (by rw[e1];exact rfl):n∈cW ts ls a)
  have:j=m:=GP nd e2 (gv pr et)
  rw[this]
  exact(zh c ml (by rw[c.1];omega) em).symm
theorem SO {ρ : Str->Option Int}{ts bG:List Tm}{es dB:List (Nat × Nat)} (p:ts <+: bG) (hs:∀ e∈es,e∈dB) (zm:∀ i n,ts.length<=i->dA ρ bG i=some n->Known bG dB i n) {ks:List Nat} (nd:ks.Nodup)
  (hk:∀ k∈ks,∃ n,dA ρ ts k=some n∧¬ Known ts es k n∧Known bG dB k n):xB ρ bG dB+ks.length<=xB ρ ts es:=by
 unfold xB
 rw[tE,tE, <- aG]
 have sub:∀ i,Fg ρ bG dB i=true->i < ts.length∧Fg ρ ts es i=true:=fun i h=>by
  obtain⟨m,v,nk⟩:=wV.mp h
  have il:i < ts.length:=by
   rcases q8 i ts.length with z | z
   ·exact z
   ·exact absurd (zm i m z v) nk
  rw[nO p il]at v
  exact⟨il,wV.mpr ⟨m,v,fun q=>nk (q.ext p hs)⟩⟩
 refine HP (lO.mpr ⟨rk _ wz,nd,fun a ha b hb z => ?_⟩) fun i hi => ?_
 ·subst z
  obtain⟨m,v,nk⟩:=wV.mp (eU.mp ha).2
  obtain⟨n,v',_,kn⟩:=hk a hb
  rw[nO p (An v')]at v
  rw[v']at v
  cases v
  exact nk kn
 ·rcases bX.mp hi with z | z
  ·obtain⟨l,y⟩:=sub i (eU.mp z).2
   exact eU.mpr ⟨di.mpr l,y⟩
  ·obtain⟨n,v',nk,_⟩:=hk i z
   exact eU.mpr ⟨di.mpr (An v'),wV.mpr ⟨n,v',nk⟩⟩
theorem G7 {f:Nat->Option me}:∀ ns:List Nat,((ns.filterMap fun k=>(f k).map fun s=>(k,s)).map (·.1)).Sublist ns
 | [] => .slnil
 | k :: ns=>by
  cases e:f k with
  | none=>rw[iN (by rw[e];rfl)];exact .cons _ (G7 ns)
  | some s=>rw[kg (b:=(k,s)) (by rw[e];rfl)];exact .cons₂ _ (G7 ns)
theorem GF {f:Nat->Option me}:∀ ns:List Nat,(ns.filterMap fun k=>(f k).map fun s=>(k,s)).map (·.2)=ns.filterMap f
 | []=>rfl
 | k :: ns=>by
  cases e:f k with
  | none=>rw[iN (by rw[e];rfl),iN e];exact GF ns
  | some s=>rw[kg (b:=(k,s)) (by rw[e];rfl),kg e,aL,GF ns]
structure CA (ρ : Str->Option Int) (ts:List Tm) (es:List (Nat × Nat)) (ls ns:List Nat) (ss:List me) (bG:List Tm) (dB:List (Nat × Nat)):Prop where
 gd:Gd ρ bG dB
 pre:ts <+: bG
 inc:∀ e∈es,e∈dB
 len:bG.length<=ts.length+2 * ss.length
 lk:xB ρ bG dB+ss.length<=xB ρ ts es
 X8:∀ k s,dH ts ls k=some s->s∈ss->Known bG dB k s.2.2
 new:∀ i n,ts.length<=i->dA ρ bG i=some n->Known bG dB i n
theorem round {ρ : Str->Option Int}{ts:List Tm}{es:List (Nat × Nat)}{ls ns:List Nat} (g:Gd ρ ts es) (c:eE ts es ls) (nd:ns.Nodup) (m:Nat) :
  CA ρ ts es ls ns ((ns.filterMap (dH ts ls)).take m) (d7 ts ((ns.filterMap (dH ts ls)).take m)).1 (es ++ (d7 ts ((ns.filterMap (dH ts ls)).take m)).2):=by
 have jZ:∀ s∈(ns.filterMap (dH ts ls)).take m,QQ ts s:=fun s hs=>by
  obtain⟨k,_,e⟩:=eC.mp (gy hs)
  obtain⟨as,h⟩:=Ar e
  exact aai g h
 obtain⟨g',p,l,d,n⟩:=X7 _ g jZ
 have inc:∀ e∈es,e∈es ++ (d7 ts ((ns.filterMap (dH ts ls)).take m)).2:=fun e he=>cO _ he
 have X8:∀ k s,dH ts ls k=some s->s∈(ns.filterMap (dH ts ls)).take m->Known (d7 ts ((ns.filterMap (dH ts ls)).take m)).1 (es ++ (d7 ts ((ns.filterMap (dH ts ls)).take m)).2) k s.2.2:=fun k s e hs=>by
  obtain⟨as,h⟩:=Ar e
  obtain⟨pp,q,js,dd⟩:=d s hs
  exact Rk g c h g'.ok.2.2 p inc dd
 refine⟨g',p,inc,l,?_,X8,n⟩
 have e1:(ns.filterMap (dH ts ls)).take m=((ns.filterMap fun k=>(dH ts ls k).map fun s=>(k,s)).take m).map (·.2):=by rw[List.map_take,GF]
 have kl:((ns.filterMap (dH ts ls)).take m).length=(((ns.filterMap fun k=>(dH ts ls k).map fun s=>(k,s)).take m).map (·.1)).length:=by rw[e1,aq,aq]
 rw[kl]
 refine SO p inc n ?_ fun k hk => ?_
 ·rw[List.map_take]
  exact((G7 ns).nodup nd).sublist (uG _ _)
 ·obtain⟨⟨k',s⟩,hm,rfl⟩:=cM.mp hk
  obtain⟨k0,_,e0⟩:=eC.mp (gy hm)
  obtain⟨s',dB,e⟩:=b7.mp e0
  cases e
  obtain⟨as,h⟩:=Ar dB
  exact⟨s.2.2,Nb g c h,HF g c h,X8 _ s dB (by rw[e1];exact dJ (f:=(·.2)) hm)⟩
theorem Sv {ts:List Tm}{ls:List Nat}{a b:Nat} (h:ls.getD a 0=ls.getD b 0):cW ts ls a=cW ts ls b:=by
 unfold cW fC
 rw[h]
theorem UY {ts:List Tm}{es:List (Nat × Nat)}{ls:List Nat} (ha:ny ts) (c:eE ts es ls) {i:Nat}{x:Str}{as:List Nat} (h:ts[i]? = some (.of x as)) :
  ∃ k bs,k∈dC (ts.map (mk ls)) ts.length∧ts[k]? = some (.of x bs)∧ls.getD k 0=ls.getD i 0∧bs.map (fun a=>(cW ts ls a).head?)=as.map (fun a=>(cW ts ls a).head?):=by
 have hm:(mk ls (.of x as):Tm)∈ts.map (mk ls):=dJ (aP h)
 cases e:dZ (ts.map (mk ls)) (mk ls (.of x as)) with
 | none=>exact absurd hm (oH.mp e)
 | some k =>
  have kl:k < ts.length:=by have:=Sb e;rw[aq]at this;exact this
  have ek:ts[k]? = some ts[k]:=ah kl
  have em:=nC e
  rw[aD,ek]at em
  have em:mk ls ts[k]=mk ls (.of x as):=aE em
  have KQ:=N2 ha c k i _ _ ek h em
  have el:ls.getD k 0=ls.getD i 0:=by rw[aN,aN,KQ]
  have fm:k∈dC (ts.map (mk ls)) ts.length:=Tt.mpr ⟨_,ek,by rw[em];exact e⟩
  generalize ts[k]=u at ek em
  cases u with
  | num n=>cases em
  | name n=>cases em
  | of y bs =>
   have e2:(TM.of y (bs.map fun a=>ls.getD a 0):Tm) = .of x (as.map fun a=>ls.getD a 0):=em
   injection e2 with e3 e4
   subst e3
   refine⟨k,bs,fm,ek,el,?_⟩
   refine dP fun j => ?_
   have e5:=congrArg (fun l=>l[j]?) e4
   rw[aD,aD]at e5 ⊢
   cases h1:bs[j]? with
   | none =>
    cases h2:as[j]? with
    | none=>rfl
    | some a=>rw[h1,h2]at e5;cases e5
   | some b =>
    cases h2:as[j]? with
    | none=>rw[h1,h2]at e5;cases e5
    | some a =>
     rw[h1,h2]at e5
     show some (cW ts ls b).head? = some (cW ts ls a).head?
     rw[Sv (a:=b) (b:=a) (aE e5)]
theorem HQ {ts:List Tm}{es:List (Nat × Nat)}{ls:List Nat} (ha:ny ts) (c:eE ts es ls) {i:Nat}{x:Str}{as:List Nat}{r:Int} (h:ts[i]? = some (.of x as)) (ho:fZ x (as.map fun a=>(cW ts ls a).head?)=some r) :
  (∃ j,ts[j]? = some (.num r)∧ls.getD j 0=ls.getD i 0)∨∃ k s,k∈dC (ts.map (mk ls)) ts.length∧dH ts ls k=some s∧s.2.2=r∧ls.getD k 0=ls.getD i 0:=by
 obtain⟨k,bs,fm,ek,el,eh⟩:=UY ha c h
 by_cases ht:p5 ts ls r=some (ls.getD k 0)
 ·unfold p5 at ht
  obtain⟨j,ej,e⟩:=b7.mp ht
  exact .inl ⟨j,nC ej,e.trans el⟩
 ·refine .inr ⟨k,(x,(bs.map fun a=>(cW ts ls a).head?).filterMap id,r),fm,?_,rfl,el⟩
  unfold dH
  rw[ek]
  show (match fZ x (bs.map fun a=>(cW ts ls a).head?) with | some r=>if p5 ts ls r=some (ls.getD k 0) then none else some (x,(bs.map fun a=>(cW ts ls a).head?).filterMap id,r) | none=>none)=_
  rw[eh,ho]
  exact if_neg ht
theorem YQ {ts:List Tm}{es:List (Nat × Nat)}{ls ns:List Nat} (ha:ny ts) (c:eE ts es ls) (pm:ns.Perm (dC (ts.map (mk ls)) ts.length)) (h:ns.filterMap (dH ts ls) = []):Rest ts ls:=fun i t r et hs=>by
 cases t with
 | num n=>cases hs
 | name n=>cases hs
 | of x as =>
  rcases HQ ha c et hs with z | ⟨k,s,fm,e,_,_⟩
  ·exact z
  ·have:s∈ns.filterMap (dH ts ls):=eC.mpr ⟨k,pm.mem_iff.mpr fm,e⟩
   rw[h]at this
   cases this
theorem QE {ρ : Str->Option Int}{ts bG:List Tm}{es dB:List (Nat × Nat)}{ls ns:List Nat} (g:Gd ρ ts es) (c:eE ts es ls) (pm:ns.Perm (dC (ts.map (mk ls)) ts.length)) (ro:CA ρ ts es ls ns (ns.filterMap (dH ts ls)) bG dB) {i:Nat}{x:Str}{as:List Nat} (h:ts[i]? = some (.of x as)) (ka:∀ a∈as,∀ n,dA ρ ts a=some n->Known ts es a n) {n:Int} (hv:dA ρ ts i=some n):Known bG dB i n:=by
 have il:=(ai.mp h).1
 have ho:fZ x (as.map fun a=>(cW ts ls a).head?)=some n:=by
  rw[Cs g.ok.1 h]at hv
  rw[<- hv]
  congr 1
  refine dM fun a ha => ?_
  obtain⟨m,em⟩:=sr hv (dA ρ ts a) (dJ ha)
  have al:=g.ok.1 i x as h a ha
  obtain⟨j,ej,el⟩:=zi c (by omega) (ka a ha m em)
  have mem:m∈cW ts ls a:=qg.mpr ⟨j,by rw[c.1];exact(ai.mp ej).1,el,ej⟩
  rcases zc g.ok.1 g.ok.2.2 g.vals c (k:=a) (by rw[c.1];omega) with e | ⟨k,e,ek⟩
  ·rw[e]at mem;cases mem
  ·rw[e,ek];rfl
 rcases HQ g.ok.1 c h ho with⟨j,ej,el⟩ | ⟨k,s,fm,e,er,el⟩
 ·exact(Qh c il ej el).ext ro.pre ro.inc
 ·subst er
  have kn:=ro.X8 k s e (eC.mpr ⟨k,pm.mem_iff.mpr fm,e⟩)
  have kl:=Ij fm
  have q:Eqv ts es i k:=zh c (by rw[c.1];exact il) (by rw[c.1];exact kl) el.symm
  obtain⟨j,ej,qj⟩:=kn
  exact⟨j,ej,(G9 ro.pre ro.inc q).trans qj⟩
def Dp (ts:List Tm):Nat->Nat->Prop
 | 0,_=>False
 | d+1,i=>∃ t,ts[i]? = some t∧∀ x as,t = .of x as->∀ a∈as,Dp ts d a
theorem Ox {ts:List Tm}:∀ {d i:Nat},Dp ts d i->Dp ts (d+1) i
 | 0,_,h=>eW h
 | d+1,_,⟨t,e,h⟩=>⟨t,e,fun x as z a ha=>Ox (h x as z a ha)⟩
theorem Ct {ts:List Tm} {d d' i:Nat} (h:Dp ts d i) (hd:d<=d'):Dp ts d' i:=by
 induction hd with
 | refl=>exact h
 | step _ ih=>exact Ox ih
theorem BC {ts bG:List Tm} (p:ts <+: bG):∀ {d i:Nat},Dp ts d i->Dp bG d i
 | 0,_,h=>eW h
 | d+1,_,⟨t,e,h⟩=>⟨t,gv p e,fun x as z a ha=>BC p (h x as z a ha)⟩
theorem Oy {ts bG:List Tm} (ha:ny ts) (p:ts <+: bG):∀ {d i:Nat},i < ts.length->Dp bG d i->Dp ts d i
 | 0,_,_,h=>eW h
 | d+1,i,hi,⟨t,e,h⟩=>by
  have e2:ts[i]? = some ts[i]:=ah hi
  rw[gv p e2]at e
  cases e
  exact⟨_,e2,fun x as z b hb=>Oy ha p (Nat.lt_trans (ha i x as (by rw[e2,z]) b hb) hi) (h x as z b hb)⟩
theorem GU (ρ : Str->Option Int) (ts:List Tm) (es:List (Nat × Nat)):xB ρ ts es<=ts.length:=by
 have:=yA (p:=Fg ρ ts es) (l:=bB ts.length)
 rw[da]at this
 exact this
def zF (ρ : Str->Option Int) (t:Nat) (ts:List Tm) (es:List (Nat × Nat)):Prop:=xB ρ ts es+t<=36∧ts.length+2 * xB ρ ts es<=108
def zG (ρ : Str->Option Int) (t:Nat) (ts:List Tm) (es:List (Nat × Nat)):Prop:=(∀ i,Dp ts (t+1) i->∀ n,dA ρ ts i=some n->Known ts es i n)∧(∀ i,i < ts.length->Dp ts 5 i∨∀ n,dA ρ ts i=some n->Known ts es i n)∧ts.length+2 * xB ρ ts es<=108
theorem Vt {ρ : Str->Option Int}{t:Nat}{ts bG:List Tm}{es dB:List (Nat × Nat)}{ls ns:List Nat}{ss:List me} (h:zF ρ t ts es) (ro:CA ρ ts es ls ns ss bG dB) (hl:ss.length=1):t+1 < 100∧zF ρ (t+1) bG dB:=by
 have l1:=ro.lk
 have l2:=ro.len
 obtain⟨h1,h2⟩:=h
 exact⟨by omega,by omega,by omega⟩
theorem Wx {ρ : Str->Option Int}{t:Nat}{ts bG:List Tm}{es dB:List (Nat × Nat)}{ls ns:List Nat} (g:Gd ρ ts es) (c:eE ts es ls) (pm:ns.Perm (dC (ts.map (mk ls)) ts.length)) (h:zG ρ t ts es) (ro:CA ρ ts es ls ns (ns.filterMap (dH ts ls)) bG dB) (jO:ns.filterMap (dH ts ls) ≠ []):t+1 < 8∧zG ρ (t+1) bG dB:=by
 have l1:=ro.lk
 have l2:=ro.len
 obtain⟨h1,h2,h3⟩:=h
 refine⟨?_,fun i hd n hv => ?_,fun i hi => ?_,by omega⟩
 ·obtain⟨s,hs⟩:=List.exists_mem_of_ne_nil _ jO
  obtain⟨k,_,e⟩:=eC.mp hs
  obtain⟨as,sa⟩:=Ar e
  have kv:=Nb g c sa
  have nk:=HF g c sa
  rcases h2 k (An kv) with z | z
  ·rcases q8 (t+1) 5 with y | y
   ·omega
   ·exact absurd (h1 k (Ct z y) _ kv) nk
  ·exact absurd (z _ kv) nk
 ·by_cases hi:i < ts.length
  ·rw[nO ro.pre hi]at hv
   obtain⟨u,eu,hu⟩:=Oy g.ok.1 ro.pre hi hd
   cases u with
   | num m =>
    rw[jc g.ok.1 eu]at hv
    cases hv
    exact Known.ext ro.pre ro.inc ⟨i,eu,.refl i⟩
   | name x =>
    rw[jc g.ok.1 eu]at hv
    exact(g.names i x n eu hv).ext ro.pre ro.inc
   | of x as=>exact QE g c pm ro eu (fun a ha m hm=>h1 a (hu x as rfl a ha) m hm) hv
  ·exact ro.new i n (by omega) hv
 ·by_cases hl:i < ts.length
  ·rcases h2 i hl with z | z
   ·exact .inl (BC ro.pre z)
   ·exact .inr fun n hv=>(z n (by rw[<- nO ro.pre hl];exact hv)).ext ro.pre ro.inc
  ·exact .inr fun n hv=>ro.new i n (by omega) hv
theorem U0 (ts:List Tm) (s:me):ts <+: (eF ts s).1:=(si b0 _ ts).trans (si b0 _ _)
theorem Tx:∀ (ss:List me) (ts:List Tm),ts <+: (d7 ts ss).1
 | [],ts=>by rw[d7];exact jr _
 | s :: ss,ts=>by rw[d7];exact(U0 ts s).trans (Tx ss _)
theorem Tz:∀ (as bs:List me) (ts:List Tm),(d7 ts (as ++ bs)).1=(d7 (d7 ts as).1 bs).1
 | [],bs,ts=>by rw[jF,d7]
 | a :: as,bs,ts=>by rw[gY,d7,d7];exact Tz as bs _
theorem ZA (ss:List me) (ts:List Tm) (i:Nat):(d7 ts (ss.take i)).1 <+: (d7 ts ss).1:=by
 conv=>rhs;rw[<- dv i ss]
 rw[Tz]
 exact Tx _ _
theorem FO:∀ (ss:List me) (ts:List Tm),(d7 ts ss).2.length=ss.length
 | [],ts=>by rw[d7];rfl
 | s :: ss,ts=>by rw[d7,b8,b8,FO ss]
theorem KC:∀ ns:List Int,T.xC (ns.map T.num) = []
 | []=>by rw[eV,T.xC]
 | n :: ns=>by rw[aL,T.xC,T.kM,KC ns];rfl
theorem HM:∀ ns:List Int,T.md (ns.map T.num)<=1
 | []=>by rw[eV,T.md];omega
 | n :: ns=>by rw[aL,T.md,T.depth];have:=HM ns;omega
theorem Su (ns:List Int):T.Cz (ns.map T.num):=wN.mpr fun t h=>by
 obtain⟨n,_,rfl⟩:=cM.mp h
 rw[T.kr]
 trivial
theorem OE {xs:List V}{k:Nat}:Hh xs none (some (k:Int))=xs.take k:=by
 unfold Hh
 rw[HT.YO,HT.Vb,Hx,wq]
 rcases mj k xs.length with h | h
 ·rw[kY h]
 ·rw[kc h,fH (aA _),fH h]
theorem m8 {ts:List Tm}{t:Tm}{k:Nat}:cF ts t=(ts,k)↔dZ ts t=some k:=by
 cases e:dZ ts t with
 | some i =>
  rw[sY e]
  exact⟨fun h=>by cases h;rfl,fun h=>by cases h;rfl⟩
 | none =>
  rw[u5 e]
  refine⟨fun h => ?_,fun h=>by cases h⟩
  have:=congrArg (fun z:List Tm × Nat=>z.1.length) h
  simp at this
theorem Cf {ts bG:List Tm} (pr:ts <+: bG) (nd:bG.Nodup) {t:Tm}{k:Nat} (h:dZ ts t=some k):dZ bG t=some k:=by
 have h':=gv pr (nC h)
 cases e:dZ bG t with
 | none=>exact absurd (aP h') (oH.mp e)
 | some i=>rw[GP nd (nC e) h']
theorem R9 {α : Type}{a b:List α} (h:a <+: b) (h':b <+: a):a=b:=h.eq_of_length (Nat.le_antisymm h.length_le h'.length_le)
theorem R4 {ts:List Tm}{x:Str}{as:List T}{k:Nat} (h:bJ b0 ts (.of x as)=(ts,k)):cD b0 ts as=(ts,(cD b0 ts as).2)∧dZ ts (.of x (cD b0 ts as).2)=some k:=by
 rw[bJ]at h
 have e1:(cF (cD b0 ts as).1 (.of x (cD b0 ts as).2)).1=ts:=by rw[h]
 have p1:=jo (cD b0 ts as).1 (.of x (cD b0 ts as).2)
 rw[e1]at p1
 have e2:(cD b0 ts as).1=ts:=R9 p1 (vy b0 as ts)
 refine⟨Prod.ext e2 rfl,?_⟩
 rw[e2]at h
 exact m8.mp h
mutual
theorem Lh {ts bG:List Tm} (pr:ts <+: bG) (nd:bG.Nodup):∀ (p:T) {k:Nat},bJ b0 ts p=(ts,k)->bJ b0 bG p=(bG,k)
 | .any x,k,h=>by
  rw[bJ]at h ⊢
  cases h
  rfl
 | .num n,k,h=>by
  rw[bJ]at h ⊢
  exact m8.mpr (Cf pr nd (m8.mp h))
 | .name n,k,h=>by
  rw[bJ]at h ⊢
  exact m8.mpr (Cf pr nd (m8.mp h))
 | .of x as,k,h=>by
  obtain⟨e1,e2⟩:=R4 h
  have e3:=Bu pr nd as e1
  rw[bJ,e3]
  exact m8.mpr (Cf pr nd e2)
theorem Bu {ts bG:List Tm} (pr:ts <+: bG) (nd:bG.Nodup):∀ (as:List T) {js:List Nat},cD b0 ts as=(ts,js)->cD b0 bG as=(bG,js)
 | [],js,h=>by
  rw[cD]at h ⊢
  cases h
  rfl
 | a :: as,js,h=>by
  rw[cD]at h
  have e1:(cD b0 (bJ b0 ts a).1 as).1=ts:=by rw[congrArg Prod.fst h]
  have p1:=vy b0 as (bJ b0 ts a).1
  rw[e1]at p1
  have e2:(bJ b0 ts a).1=ts:=R9 p1 (si b0 a ts)
  have e3:bJ b0 ts a=(ts,(bJ b0 ts a).2):=Prod.ext e2 rfl
  have e4:=Lh pr nd a e3
  rw[e2]at h
  have h1:(cD b0 ts as).1=ts:=congrArg (fun z:List Tm × List Nat=>z.1) h
  have h2:(bJ b0 ts a).2 :: (cD b0 ts as).2=js:=congrArg (fun z:List Tm × List Nat=>z.2) h
  have e5:cD b0 ts as=(ts,(cD b0 ts as).2):=Prod.ext h1 rfl
  have e6:=Bu pr nd as e5
  rw[cD,e4]
  show ((cD b0 bG as).1,(bJ b0 ts a).2 :: (cD b0 bG as).2)=(bG,js)
  rw[e6, <- h2]
end
theorem LL:∀ {as:List T}{m:Nat},(∀ t∈as,t.depth<=m)->T.md as<=m
 | [],m,_=>by rw[T.md];omega
 | a :: as,m,h=>by
  rw[T.md]
  have h1:=h a aT
  have h2:=LL (as:=as) fun t ht=>h t (aK _ ht)
  omega
theorem La:∀ {as:List T},(∀ t∈as,t.kM = [])->T.xC as = []
 | [],_=>by rw[T.xC]
 | a :: as,h=>by rw[T.xC,h a aT,La fun t ht=>h t (aK _ ht)];rfl
abbrev R3:=T × Option Int × Nat
inductive Built (eR kj:List R3) (r:R3):Prop
 | num (n:Int) (h:lG n=some n) (e:r=(.num n,some n,1)):Built eR kj r
 | name (h:r∈eR):Built eR kj r
 | of (x:Str) (as:List R3) (m:Nat) (l1:1<=as.length) (l2:as.length<=2) (hm:∀ a∈as,a∈kj) (hd:∀ a∈as,a.2.2<=m) (e:r=(.of x (as.map (·.1)),fZ x (as.map (·.2.1)),1+m)):Built eR kj r
structure oo (ρ : Str->Option Int) (ts:List Tm) (r:R3) (k:Nat):Prop where
 put:bJ b0 ts r.1=(ts,k)
 val:dA ρ ts k=r.2.1
 lt:k < ts.length
 dp:Dp ts r.2.2 k
 deep:r.1.depth<=r.2.2
 slim:r.1.kr
 kM:r.1.kM = []
 Fm:∀ n,r.2.1=some n->lG n=some n
theorem oo.ext {ρ : Str->Option Int}{ts bG:List Tm}{r:R3}{k:Nat} (h:oo ρ ts r k) (pr:ts <+: bG) (nd:bG.Nodup):oo ρ bG r k :=
 ⟨Lh pr nd _ h.put,by rw[nO pr h.lt];exact h.val,cm h.lt pr.length_le,BC pr h.dp,h.deep,h.slim,h.kM,h.Fm⟩
theorem OL {ρ : Str->Option Int}{ts:List Tm}:∀ {as:List R3},(∀ a∈as,∃ k,oo ρ ts a k)->∃ js,cD b0 ts (as.map (·.1))=(ts,js)∧Paired (oo ρ ts) as js
 | [],_=>⟨[],by rw[eV,cD],.nil⟩
 | a :: as,h=>by
  obtain⟨k,hk⟩:=h a aT
  obtain⟨js,e,p⟩:=OL (as:=as) fun b hb=>h b (aK _ hb)
  exact⟨k :: js,by rw[aL,cD,hk.put,e],.cons hk p⟩
theorem kJ {α β : Type}{R : α -> β -> Prop}{xs:List α}{ys:List β} (h:Paired R xs ys):(∀ x∈xs,∃ y∈ys,R x y)∧∀ y∈ys,∃ x∈xs,R x y:=by
 induction h with
 | nil=>exact⟨fun x h=>(nomatch h),fun y h=>(nomatch h)⟩
 | cons e _ ih =>
  refine⟨fun x hx => ?_,fun y hy => ?_⟩
  ·rcases bo.mp hx with rfl | hx
   ·exact⟨_,aT,e⟩
   ·obtain⟨y,hy,r⟩:=ih.1 x hx;exact⟨y,aK _ hy,r⟩
  ·rcases bo.mp hy with rfl | hy
   ·exact⟨_,aT,e⟩
   ·obtain⟨x,hx,r⟩:=ih.2 y hy;exact⟨x,aK _ hx,r⟩
theorem My {ρ : Str->Option Int}{ts:List Tm}{as:List R3}{js:List Nat} (h:Paired (oo ρ ts) as js):js.map (dA ρ ts)=as.map (·.2.1):=by
 induction h with
 | nil=>rfl
 | cons e _ ih=>rw[aL,aL,e.val,ih]
structure Jx (ρ : Str->Option Int) (ts:List Tm) (es:List (Nat × Nat)) (r:R3) (bG:List Tm) (k:Nat):Prop where
 gd:Gd ρ bG es
 len:bG.length<=ts.length+1
 row:oo ρ bG r k
 last:∀ i,ts.length<=i->i < bG.length->i=k
theorem YT {ρ : Str->Option Int}{ts:List Tm}{es:List (Nat × Nat)}{eR kj:List R3}{r:R3} (g:Gd ρ ts es) (hp:∀ a∈kj,∃ k,oo ρ ts a k) (hn:∀ a∈eR,a∈kj) (h:Built eR kj r):Jx ρ ts es r (bJ b0 ts r.1).1 (bJ b0 ts r.1).2:=by
 cases h with
 | num n hb e =>
  subst e
  have ep:bJ b0 ts (.num n)=cF ts (.num n):=by rw[bJ]
  have g1:=FL (t := .num n) g (fun x as z=>by cases z) (fun m z=>by cases z;exact hb) (fun x z=>by cases z)
  have ia:=uc ts (.num n)
  show Jx ρ ts es _ (bJ b0 ts (.num n)).1 (bJ b0 ts (.num n)).2
  rw[ep]
  refine⟨g1,qx _ _,⟨?_,?_,(ai.mp ia).1,⟨_,ia,fun x as z=>by cases z⟩,?_,?_,?_,fun m z=>by cases z;exact hb⟩,fun i a b=>oQ a b⟩
  ·show bJ b0 _ (.num n)=_
   rw[bJ]
   exact m8.mpr (Cw _ _)
  ·rw[jc g1.ok.1 ia];rfl
  ·show (T.num n).depth<=1
   rw[T.depth];exact aA _
  ·show (T.num n).kr
   rw[T.kr];trivial
  ·show (T.num n).kM = []
   rw[T.kM]
 | name hm =>
  obtain⟨k,hk⟩:=hp r (hn r hm)
  rw[hk.put]
  exact⟨g,lC _,hk,fun i a b=>absurd b (by show ¬ i < ts.length;omega)⟩
 | of x as m l1 l2 hm hd e =>
  subst e
  obtain⟨js,ej,pj⟩:=OL fun a ha=>hp a (hm a ha)
  have lj:=bj pj
  have jl:∀ j∈js,j < ts.length:=fun j hj=>by
   obtain⟨a,_,ra⟩:=(kJ pj).2 j hj
   exact ra.lt
  have ep:bJ b0 ts (.of x (as.map (·.1)))=cF ts (.of x js):=by rw[bJ,ej]
  have g1:=FL (t := .of x js) g (fun y bs z=>by cases z;exact⟨jl,by omega,by omega⟩) (fun m z=>by cases z) (fun x z=>by cases z)
  have ia:=uc ts (.of x js)
  have pr:=jo ts (.of x js)
  have ap:=Cw ts (.of x js)
  show Jx ρ ts es _ (bJ b0 ts (.of x (as.map (·.1)))).1 (bJ b0 ts (.of x (as.map (·.1)))).2
  rw[ep]
  have l1':=qx ts (.of x js)
  have al:=fun i a b=>oQ (ts:=ts) (t := .of x js) (i:=i) a b
  generalize (cF ts (.of x js)).1=t1 at g1 ia pr ap l1' al ⊢
  generalize (cF ts (.of x js)).2=k at ia ap al ⊢
  have pj':Paired (oo ρ t1) as js:=Paired.pJ pj fun a j ra=>ra.ext pr g1.ok.2.2
  have dpk:Dp t1 (1+m) k:=by
   rw[Nat.add_comm]
   refine⟨_,ia,fun y bs z j hj => ?_⟩
   cases z
   obtain⟨a,ha,ra⟩:=(kJ pj').2 j hj
   exact Ct ra.dp (hd a ha)
  refine⟨g1,l1',⟨?_,?_,(ai.mp ia).1,dpk,?_,?_,?_,fun n z => ?_⟩,al⟩
  ·show bJ b0 t1 (.of x (as.map (·.1)))=_
   rw[bJ,Bu pr g1.ok.2.2 _ ej]
   exact m8.mpr ap
  ·rw[Cs g1.ok.1 ia,My pj']
  ·show (T.of x (as.map (·.1))).depth<=1+m
   rw[T.depth]
   have:T.md (as.map (·.1))<=m:=LL fun t ht=>by
    obtain⟨a,ha,rfl⟩:=cM.mp ht
    obtain⟨j,_,ra⟩:=(kJ pj).1 a ha
    exact cA ra.deep (hd a ha)
   omega
  ·show (T.of x (as.map (·.1))).kr
   rw[T.kr,aq]
   refine⟨by omega,wN.mpr fun t ht => ?_⟩
   obtain⟨a,ha,rfl⟩:=cM.mp ht
   obtain⟨j,_,ra⟩:=(kJ pj).1 a ha
   exact ra.slim
  ·show (T.of x (as.map (·.1))).kM = []
   rw[T.kM]
   exact La fun t ht=>by
    obtain⟨a,ha,rfl⟩:=cM.mp ht
    obtain⟨j,_,ra⟩:=(kJ pj).1 a ha
    exact ra.kM
  ·have z:fZ x (as.map (·.2.1))=some n:=z
   obtain⟨ns,en⟩:∃ ns:List Int,as.map (·.2.1)=ns.map some:=⟨_,(QF (sr z)).symm⟩
   rw[en]at z
   refine NL z fun y hy => ?_
   have:some y∈as.map (·.2.1):=by rw[en];exact dJ hy
   obtain⟨a,ha,ea⟩:=cM.mp this
   obtain⟨j,_,ra⟩:=(kJ pj).1 a ha
   exact ra.Fm y ea
theorem Zw {ρ : Str->Option Int}{ts:List Tm}{es:List (Nat × Nat)}{x:Str}{n:Int} (g:Gd ρ ts es) (hr : ρ x=some n) (hb:lG n=some n) (hl:ts.length<=20) :
  Gd ρ (cF (cF ts (.name x)).1 (.num n)).1 (es ++ [((cF ts (.name x)).2,(cF (cF ts (.name x)).1 (.num n)).2)])∧oo ρ (cF (cF ts (.name x)).1 (.num n)).1 (.name x,some n,1) (cF ts (.name x)).2∧∀ i,i < (cF (cF ts (.name x)).1 (.num n)).1.length->ts.length<=i->Dp (cF (cF ts (.name x)).1 (.num n)).1 1 i:=by
 have ok1:xO (cF ts (.name x)).1:=DH g.ok fun y as z=>by cases z
 have NP:xO (cF (cF ts (.name x)).1 (.num n)).1:=DH ok1 fun y as z=>by cases z
 have p1:=jo ts (.name x)
 have p2:=jo (cF ts (.name x)).1 (.num n)
 have i1:=uc ts (.name x)
 have i2:=uc (cF ts (.name x)).1 (.num n)
 have q1:=Cw ts (.name x)
 have o1:=qx ts (.name x)
 have o2:=qx (cF ts (.name x)).1 (.num n)
 have a1:=fun i h hi=>oQ (ts:=ts) (t := .name x) (i:=i) h hi
 have a2:=fun i h hi=>oQ (ts:=(cF ts (.name x)).1) (t := .num n) (i:=i) h hi
 generalize (cF ts (.name x)).1=t1 at p1 p2 i1 i2 q1 o1 o2 a1 a2 ok1 NP ⊢
 generalize (cF ts (.name x)).2=p at i1 q1 a1 ⊢
 generalize (cF t1 (.num n)).1=t2 at p2 i2 o2 a2 NP ⊢
 generalize (cF t1 (.num n)).2=q at i2 a2 ⊢
 have pr:=p1.trans p2
 have hp:=gv p2 i1
 have vp:dA ρ t2 p=some n:=by rw[jc NP.1 hp];exact hr
 have vq:dA ρ t2 q=some n:=by rw[jc NP.1 i2];rfl
 have pl:=(ai.mp hp).1
 have ql:=(ai.mp i2).1
 have le:=pr.length_le
 have OJ:∀ i,ts.length<=i->i < t2.length->i=p∨i=q:=fun i h hi=>by
  by_cases z:i < t1.length
  ·exact .inl (a1 i h z)
  ·exact .inr (a2 i (by omega) hi)
 have mem:∀ a b,(a,b)∈es ++ [(p,q)]->(a,b)∈es∨(a=p∧b=q):=fun a b h=>by
  rcases bX.mp h with z | z
  ·exact .inl z
  ·have:=bq.mp z
   cases this
   exact .inr ⟨rfl,rfl⟩
 refine⟨⟨NP,fun a b h => ?_,fun a b h => ?_,fun i y m h r => ?_,fun i m h => ?_,?_⟩,⟨?_,vp,pl,⟨_,hp,fun y as z=>by cases z⟩,?_,?_,?_,fun m z=>by cases z;exact hb⟩,fun i hi h => ?_⟩
 ·rcases mem a b h with z | ⟨rfl,rfl⟩
  ·have:=g.ends a b z;omega
  ·exact⟨pl,ql⟩
 ·rcases mem a b h with z | ⟨rfl,rfl⟩
  ·have:=g.ends a b z
   rw[nO pr this.1,nO pr this.2]
   exact g.vals a b z
  ·rw[vp,vq]
 ·by_cases hi:i < ts.length
  ·have h2:ts[i]? = some ts[i]:=ah hi
   rw[gv pr h2]at h
   exact(g.names i y m (h2.trans h) r).ext pr fun e he=>cO _ he
  ·rcases OJ i (by omega) (ai.mp h).1 with rfl | rfl
   ·rw[hp]at h
    cases h
    rw[hr]at r
    cases r
    exact⟨q,i2,.BB (bg _ (d6 _))⟩
   ·rw[i2]at h;cases h
 ·by_cases hi:i < ts.length
  ·have h2:ts[i]? = some ts[i]:=ah hi
   rw[gv pr h2]at h
   exact g.nums i m (h2.trans h)
  ·rcases OJ i (by omega) (ai.mp h).1 with rfl | rfl
   ·rw[hp]at h;cases h
   ·rw[i2]at h;cases h;exact hb
 ·have:=zq t2;omega
 ·show bJ b0 t2 (.name x)=_
  rw[bJ]
  exact m8.mpr (Cf p2 NP.2.2 q1)
 ·show (T.name x).depth<=1
  rw[T.depth];exact aA _
 ·show (T.name x).kr
  rw[T.kr];trivial
 ·show (T.name x).kM = []
  rw[T.kM]
 ·rcases OJ i h hi with rfl | rfl
  ·exact⟨_,hp,fun y as z=>by cases z⟩
  ·exact⟨_,i2,fun y as z=>by cases z⟩
theorem Ww {ρ : Str->Option Int}{ts:List Tm}{es:List (Nat × Nat)} (g:Gd ρ ts es) (hd:∀ i,i < ts.length->Dp ts 5 i) (hl:ts.length<=36):zG ρ 0 ts es:=by
 have:=GU ρ ts es
 refine⟨fun i h n hv => ?_,fun i hi => .inl (hd i hi),by omega⟩
 obtain⟨t,et,ht⟩:=h
 cases t with
 | num m =>
  rw[jc g.ok.1 et]at hv
  cases hv
  exact⟨i,et,.refl i⟩
 | name x =>
  rw[jc g.ok.1 et]at hv
  exact g.names i x n et hv
 | of x as =>
  have l:=(g.ok.2.1 i x as et).2
  match as,l with
  | a :: as,_=>exact(ht x _ rfl a aT).elim
theorem Vs {ρ : Str->Option Int}{ts:List Tm}{es:List (Nat × Nat)} (hl:ts.length<=36):zF ρ 0 ts es:=by
 have:=GU ρ ts es
 exact⟨by omega,by omega⟩
theorem agb {ρ : Str->Option Int}{fQ t:Nat}{ts:List Tm}{es:List (Nat × Nat)}{ls ns:List Nat} (hr:8<=fQ) (g:Gd ρ ts es) (c:eE ts es ls) (pm:ns.Perm (dC (ts.map (mk ls)) ts.length)) (pr:zG ρ t ts es) (jO:ns.filterMap (dH ts ls) ≠ []) :
  t+1 < fQ∧zG ρ (t+1) (d7 ts ((ns.filterMap (dH ts ls)).take 100)).1 (es ++ (d7 ts ((ns.filterMap (dH ts ls)).take 100)).2):=by
 have nd:ns.Nodup:=pm.nodup_iff.mpr (v9 _ _)
 have r0:=round g c nd (ns.filterMap (dH ts ls)).length
 have lk:=r0.lk
 rw[d0]at lk
 have h3:=pr.2.2
 have e:(ns.filterMap (dH ts ls)).take 100=ns.filterMap (dH ts ls):=fH (by omega)
 have ro:=round g c nd 100
 rw[e]at ro ⊢
 obtain⟨a,b⟩:=Wx g c pm pr ro jO
 exact⟨by omega,b⟩
theorem aaG {ρ : Str->Option Int}{t:Nat}{ts:List Tm}{es:List (Nat × Nat)}{ls ns:List Nat} (g:Gd ρ ts es) (c:eE ts es ls) (pm:ns.Perm (dC (ts.map (mk ls)) ts.length)) (pr:zF ρ t ts es) (jO:ns.filterMap (dH ts ls) ≠ []) :
  t+1 < 100∧zF ρ (t+1) (d7 ts ((ns.filterMap (dH ts ls)).take 1)).1 (es ++ (d7 ts ((ns.filterMap (dH ts ls)).take 1)).2):=by
 have nd:ns.Nodup:=pm.nodup_iff.mpr (v9 _ _)
 refine Vt pr (round g c nd 1) ?_
 rw[bO]
 have:0 < (ns.filterMap (dH ts ls)).length:=List.length_pos_iff.mpr jO
 omega
end Sw
namespace L2
open PySem PySem.Spec PyProof.Rows
section
variable {X:Cx}
inductive Du (kK:ak) (xs:List V) (H:Hp) (Q:VK):Prop
 | mk:∀ (p:Addr) (bs:List Bool),(xs = [.ref p])->(bb kK H p (bs.map V.bl))->(Q (.bl (bs.any id)) H)->Du kK xs H Q
theorem T3 (hc:X.calm=true):lQ X (.builtin "any") (fun xs H Q=>Du X.K xs H Q):=by
 intro ag s σ H xs us Q I r h
 obtain⟨p,bs,rfl,hq,q⟩:=h
 obtain⟨u,rfl,ru⟩:=vals1 r
 cases ru
 obtain⟨its,rv,pl,hz⟩:=I.list hq
 have e:=M6 rv
 subst e
 have eS:p < s.heap.objs.size:=by obtain⟨_,e,_⟩:=pl.isList;exact br e
 refine call_any_walk (wpAny_pyIter_list pl.isList ?_)
 refine⟨_,_,_,_,_,_,fun i=>bs.getD i false,rfl,Walks.list (A:=X.A.in1) (I.ok.hd hc) _ p (cU eS) (bs.map iH).toArray,⟨⟨_,bZ _ rfl,rfl,rfl⟩,pl.isList.push _⟩,fun i v s' Q' E' hv hQ' => ?_,fun h' tk hk => ?_⟩
 ·have rG:(bs.map iH)[i]? = some v:=by simpa using hv
  rw[aD]at rG
  cases e:bs[i]? with
  | none=>rw[e]at rG;cases rG
  | some b =>
   rw[e]at rG
   have e1:iH b=v:=aE rG
   subst e1
   have e2:bs.getD i false=b:=by rw[aN,e];rfl
   have hQ2:Q' b s':=e2 ▸ hQ'
   exact wpAny_truthy_bool hQ2
 ·have ea:(bB (bs.map iH).toArray.size).any (fun i=>bs.getD i false)=bs.any id:=by
   have hs:(bs.map iH).toArray.size=bs.length:=by simp
   rw[hs,lp,nj,nj]
   constructor
   ·rintro⟨i,hi,e⟩
    have hl:=di.mp hi
    rw[aN,ah hl]at e
    exact⟨_,nh hl,e⟩
   ·rintro⟨b,hb,e⟩
    obtain⟨i,hi⟩:=my.mp hb
    refine⟨i,di.mpr (ai.mp hi).1,?_⟩
    rw[aN,hi]
    exact e
  rw[ea]
  exact⟨.bl (bs.any id),H,I.kept fun b o e=>old_kept hk b o e,rfl,q⟩
theorem T7:bootBuiltins "any" = some (.builtin "any"):=by decide +kernel
theorem NM:lH X (binaryOp .Mult) (rI IntMulOk fun i j => .int (i * j)):=NO fun _ _ _ _ _ _ _ hc q=>mul_int q hc
end
theorem MU (a d:Value):argsOk "min" ⟨[a], [("default",d)]⟩:=by unfold argsOk;kernel_rfl
section
variable {X:Cx}{e:Expr}{te:TE}{p pos kp cp:Pos}{j:Nat}
inductive Uw (x:V) (H:Hp) (Q:VK):Prop
 | mk (a:Addr) (hx:x = .ref a) (ha:H a=some (.lst [])) (q:Q .cQ H):Uw x H Q
def ahr (te:TE):TE:=fun σ H Q=>te σ H fun x H1=>Uw x H1 Q
theorem YZ (hu:X.A.units+10 < cLine) (hc:X.calm=true) (hg:Gl X "min") (hm:X.mg "min" = none) (he:PE X e te) (jZ:starEach [e] X.env = [(false,eval e X.env)]:=by rfl) :
  PE X (.Call (.Name "min" p) [e] [⟨some "default",.Constant .none j cp,kp⟩] pos) (ahr te):=by
 intro ag s σ H Q I h
 refine wpAny_Call_Name_kw (vN I hg hm Iu ?_ (by decide) (by decide))
 refine callWith_kw ?_ (by rw[jZ];rfl) (by rw[jZ];rfl)
 rw[jZ]
 refine fq (cf (he ag s σ H _ I h) fun u s1 ⟨x,H1,I1,r1,q1⟩ => ?_)
 refine jQ ?_
 refine kws_cons (cf (nD (X:=X) ag s1 σ H1 (fun v H2=>v = .cQ∧H2=H1) I1 ⟨rfl,rfl⟩) fun d s2 ⟨y,H2,I2,r2,q2⟩ => ?_)
 refine kws_nil ?_
 obtain⟨rfl,rfl⟩:=q2
 obtain rfl:d=fT:=r2
 obtain⟨a,rfl,ha,q0⟩:=q1
 obtain rfl:u=bA a:=r1
 obtain⟨z,its,c0,rv,e0⟩:=(show d8 X.prog X.w H2 s2.heap a (.lst []) from I2.bU a _ ha)
 have hl:s2.heap.IsList a its.toArray:=⟨_,e0,rfl,_,rfl⟩
 have hh:=I2.ok.hd hc
 have en:its.toArray.size=0:=by have:=rv.length;simpa using this.symm
 show wpAny _ _ (call (.builtin "min") [.ref a] [("default",.none)]) _ _ s2
 have ahP:(toString "min" ++ toString ".loop" : String) = "min.loop" := by decide
 refine kmk_tree PySem.F.kind_min PySem.F.plain_min PySem.F.entry_min (MU _ _) ?_
 show wpAny _ X.A.in1 (um "min" ["key", "default"] 0 ⟨[], [("default",.none)]⟩ >>= _) _ _ s2
 refine wpAny_bind (wpAny_of_eq (show um "min" ["key", "default"] 0 ⟨[], [("default",.none)]⟩=pure [none,some .none] from rfl) ?_)
 refine wpAny_bind (wpAny_pure ?_)
 refine wpAny_bind (wpAny_pyIter_list hl ?_)
 refine wpAny_bind (wpAny_newList ?_ (bD _))
 rw[ahP]
 have hlI:a≠s2.heap.objs.size:=cU (br e0)
 have oI:∀ b o,s2.heap.get? b=some o->((s2.heap.push { cls := .type "list_iterator",data := .fields #[.ref a,.int 0 0] }).push (seqObj "list" #[] 0)).get? b=some o:=fun b o e=>aU _ (aU _ e)
 have gI:((s2.heap.push { cls := .type "list_iterator",data := .fields #[.ref a,.int 0 0] }).push (seqObj "list" #[] 0)).get? s2.heap.objs.size=some { cls := .type "list_iterator",data := .fields #[.ref a,.int 0 0] } :=
  aU _ (bZ _ rfl)
 refine wpAny_pure ⟨plainId_quiet PySem.F.plain_min_loop _,?_⟩
 refine codeAny_builtin F.entry_min_loop ?_
 rw[Around.under_plainId F.plain_min_loop _]
 show wpAny _ X.A.in1 (seqItems? (.ref _) >>= _) _ _ _
 refine wpAny_bind (wpAny_seqItems (bZ _ rfl) rfl ?_)
 show wpAny _ X.A.in1 (tryCatch (pyNext (.ref _)) _ >>= _) _ _ _
 have W:=Walks.list (prog:=X.prog) (w:=X.w) (A:=X.A.in1) hh s2.heap.objs.size a hlI its.toArray
 refine wpAny_bind (wpAny_tryCatch (W.done _ _ _ ?_ fun h' tk C8 => ?_))
 ·rw[en]
  exact⟨⟨_,gI,rfl,rfl⟩,⟨_,oI _ _ e0,rfl,_,rfl⟩⟩
 exact wpAny_bind (wpAny_rule (wpAny_pure ⟨.cQ,H2,I2.kept fun b o e=>C8 b o (fun hm=>by rw[bq.mp hm]at e;exact absurd (br e) (eT _)) (oI b o e),rfl,q0⟩))
end
end L2
namespace TS
open PySem PyProof.Rows
section
variable {prog:Program}{w:World}{A:Around}{E:Value->Shared->Prop}{s:Shared}
theorem EG {st:SortSt}{x y:Keyed}{a b:Int}{t u:Tok}{Q:Option Bool->SortSt->Prop} (hk:kindOf st=oneType') (hx:x.1 = .int a t) (hy:y.1 = .int b u) (h:Q (some (decide (a < b))) st) :
  wpS (model prog w) A E s (lt' x y) Q st:=by
 rw[lt'_eq]
 refine wpS_bind (wpS_get ?_)
 rw[hk,keyLt'_oneType,hx,hy]
 refine wpS_bind (wpS_lift (wpAny_attempt (oneLt_int ⟨rfl,?_⟩)))
 exact wpS_pure h
theorem bM {st:SortSt}{arr:Array Keyed}{i:Nat}{x:Keyed}{Q:Keyed->SortSt->Prop} (hx:arr[i]? = some x) (h:Q x st):wpS (model prog w) A E s (elem' arr i) Q st:=by
 rw[elem'_eq,hx]
 exact wpS_pure h
def ahead (left:Bool) (k x:Int):Bool:=if left then decide (x < k) else !decide (k < x)
theorem Q4 {st:SortSt}{left:Bool}{key x:Keyed}{k a:Int}{t u:Tok}{Q:Option Bool->SortSt->Prop} (hk:kindOf st=oneType') (hx:x.1 = .int a t) (hy:key.1 = .int k u) (h:Q (some (ahead left k a)) st) :
  wpS (model prog w) A E s (if left=true then lt' x key else (lt' key x >>= fun r=>pure (r.map (!·)))) Q st:=by
 cases left with
 | true=>exact EG hk hx hy h
 | false=>exact wpS_bind (EG hk hy hx (wpS_pure h))
def Zy:Bool->Keyed->Array Keyed->Nat->Nat->Nat->StateT SortSt Sem (Option Nat):=sortPriv% PySem.Builtin.gallop
structure Run (arr:Array Keyed) (base n:Nat):Prop where
 at_:∀ i,i < n->∃ x t,arr[base+i]? = some x∧x.1 = .int (aj arr (base+i)) t
 le:∀ i j,i<=j->j < n->aj arr (base+i)<=aj arr (base+j)
theorem fP {st:SortSt}{left:Bool}{key:Keyed}{k:Int}{u:Tok}{arr:Array Keyed}{base n hint:Nat}{Q:Option Nat->SortSt->Prop} (hk:kindOf st=oneType') (hy:key.1 = .int k u) (R:Run arr base n) (hn:hint < n)
  (h:∀ m,m<=n->(∀ i,i < m->ahead left k (aj arr (base+i))=true)->(∀ i,m<=i->i < n->ahead left k (aj arr (base+i))=false)->Q (some m) st) :
  wpS (model prog w) A E s (Zy left key arr base n hint) Q st:=by
 let P:Nat->Bool:=fun i=>ahead left k (aj arr (base+i))
 have Ua:∀ {i:Nat}{Q:Option Bool->SortSt->Prop},i < n->Q (some (ahead left k (aj arr (base+i)))) st->wpS (model prog w) A E s (elem' arr (base+i) >>= fun x=>if left=true then lt' x key else (lt' key x >>= fun r=>pure (r.map (!·)))) Q st:=fun {i Q} hi h=>by
  obtain⟨x,t,e1,e2⟩:=R.at_ i hi
  exact wpS_bind (bM e1 (Q4 hk e2 hy h))
 have mono:∀ i j,i<=j->j < n->ahead left k (aj arr (base+j))=true->ahead left k (aj arr (base+i))=true:=fun i j lF hj h=>by
  have le:=R.le i j lF hj
  unfold ahead at h ⊢
  cases left with
  | true =>
   have:=of_decide_eq_true (show decide _=true from h)
   exact decide_eq_true (by omega)
  | false =>
   have h:(!decide (k < aj arr (base+j)))=true:=h
   have:=of_decide_eq_false (show decide (k < aj arr (base+j))=false by rw[<- Bool.not_eq_true'];exact h)
   show (!decide (k < aj arr (base+i)))=true
   rw[decide_eq_false (by omega)]
   rfl
 refine wpS_bind (Ua hn ?_)
 dsimp only
 have no:∀ {i:Nat},P i=false->∀ j,i<=j->j < n->P j=false:=fun {i} hi j lF hj=>by
  cases hq:P j with
  | false=>rfl
  | true=>exact absurd ((mono i j lF hj hq).symm.trans hi) (by decide)
 cases hr:P hint with
 | true =>
  rw[if_pos (show ahead left k (aj arr (base+hint))=true from hr)]
  refine wpS_bind (wpS_mono (wpS_forRange (I:=fun x c aF=>st=aF∧∃ la of,c=(none,la,of)∧la < of∧x+1<=of∧la < n - hint∧P (hint+la)=true)
   (Q:=fun c aF=>st=aF∧∃ la of,c=(none,la,of)∧la < of∧la < n - hint∧P (hint+la)=true∧(n - hint<=of∨P (hint+of)=false)) (fun x c aF _ hx => ?_) (fun c aF => ?_) ⟨rfl,0,1,rfl,by omega,by omega,by omega,hr⟩) (fun c aF => ?_))
  ·rintro⟨rfl,la,of,rfl,a1,a2,a3,a4⟩
   dsimp only
   by_cases qN:of ≥ n - hint
   ·rw[if_pos qN]
    exact wpS_pure ⟨rfl,la,of,rfl,a1,a3,a4,.inl qN⟩
   ·rw[if_neg qN]
    refine wpS_bind (Ua (i:=hint+of) (by omega) ?_)
    dsimp only
    cases hp:ahead left k (aj arr (base+(hint+of))) with
    | true =>
     rw[if_neg (by decide)]
     exact wpS_pure ⟨rfl,of,2 * of+1,rfl,by omega,by omega,by omega,hp⟩
    | false =>
     rw[if_pos (by decide)]
     exact wpS_pure ⟨rfl,la,of,rfl,a1,a3,a4,.inr hp⟩
  ·rintro⟨rfl,la,of,rfl,a1,a2,a3,a4⟩
   exact⟨rfl,la,of,rfl,a1,a3,a4,.inl (by omega)⟩
  ·rintro⟨rfl,la,of,rfl,a1,a3,a4,a5⟩
   dsimp only
   have b1:hint+la+1<=hint+min of (n - hint):=by omega
   have b2:hint+min of (n - hint)<=n:=by omega
   have b3:∀ i,i < hint+la+1->P i=true:=fun i hi=>mono i (hint+la) (by omega) (by omega) a4
   have b4:∀ i,hint+min of (n - hint)<=i->i < n->P i=false:=fun i hi yl=>by
    rcases a5 with z | z
    ·omega
    ·by_cases hz:hint+of < n
     ·exact no z i (by omega) yl
     ·omega
   refine wpS_bind (wpS_mono (wpS_forRange (I:=fun x c aF=>st=aF∧∃ lo hi,c=(none,lo,hi)∧lo<=hi∧hi<=n∧hi - lo<=n - x∧(∀ i,i < lo->P i=true)∧(∀ i,hi<=i->i < n->P i=false))
    (Q:=fun c aF=>st=aF∧∃ lo hi,c=(none,lo,hi)∧hi<=n∧(∀ i,i < hi->P i=true)∧(∀ i,hi<=i->i < n->P i=false)) (fun x c aF _ hx => ?_) (fun c aF => ?_) ⟨rfl,_,_,rfl,b1,b2,by omega,b3,b4⟩) (fun c aF => ?_))
   ·rintro⟨rfl,lo,hi,rfl,l1,l2,l3,l4,l5⟩
    dsimp only
    by_cases qN:lo ≥ hi
    ·rw[if_pos qN]
     have:lo=hi:=by omega
     subst this
     exact wpS_pure ⟨rfl,lo,lo,rfl,l2,l4,l5⟩
    ·rw[if_neg qN]
     refine wpS_bind (Ua (i:=lo+(hi - lo) / 2) (by omega) ?_)
     dsimp only
     cases hp:ahead left k (aj arr (base+(lo+(hi - lo) / 2))) with
     | true =>
      rw[if_pos rfl]
      refine wpS_pure ⟨rfl,_,_,rfl,by omega,l2,by omega,fun i Oa => ?_,l5⟩
      exact mono i (lo+(hi - lo) / 2) (by omega) (by omega) hp
     | false =>
      rw[if_neg (by decide)]
      refine wpS_pure ⟨rfl,_,_,rfl,by omega,by omega,by omega,l4,fun i Oa yl => ?_⟩
      cases hq:P i with
      | false=>rfl
      | true=>exact absurd ((mono _ i Oa yl hq).symm.trans hp) (by decide)
   ·rintro⟨rfl,lo,hi,rfl,l1,l2,l3,l4,l5⟩
    have:lo=hi:=by omega
    subst this
    exact⟨rfl,lo,lo,rfl,l2,l4,l5⟩
   ·rintro⟨rfl,lo,hi,rfl,l2,l4,l5⟩
    exact wpS_pure (h hi l2 l4 l5)
 | false =>
  rw[if_neg (show ¬ ahead left k (aj arr (base+hint))=true by rw[show ahead left k (aj arr (base+hint))=false from hr];decide)]
  refine wpS_bind (wpS_mono (wpS_forRange (I:=fun x c aF=>st=aF∧∃ la of,c=(none,la,of)∧la < of∧x+1<=of∧la<=hint∧P (hint - la)=false)
   (Q:=fun c aF=>st=aF∧∃ la of,c=(none,la,of)∧la < of∧la<=hint∧P (hint - la)=false∧(hint+1<=of∨(of<=hint∧P (hint - of)=true))) (fun x c aF _ hx => ?_) (fun c aF => ?_) ⟨rfl,0,1,rfl,by omega,by omega,by omega,hr⟩) (fun c aF => ?_))
  ·rintro⟨rfl,la,of,rfl,a1,a2,a3,a4⟩
   dsimp only
   by_cases qN:of ≥ hint+1
   ·rw[if_pos qN]
    exact wpS_pure ⟨rfl,la,of,rfl,a1,a3,a4,.inl qN⟩
   ·rw[if_neg qN]
    refine wpS_bind (Ua (i:=hint - of) (by omega) ?_)
    dsimp only
    cases hp:ahead left k (aj arr (base+(hint - of))) with
    | true =>
     rw[if_pos rfl]
     exact wpS_pure ⟨rfl,la,of,rfl,a1,a3,a4,.inr ⟨by omega,hp⟩⟩
    | false =>
     rw[if_neg (by decide)]
     exact wpS_pure ⟨rfl,of,2 * of+1,rfl,by omega,by omega,by omega,hp⟩
  ·rintro⟨rfl,la,of,rfl,a1,a2,a3,a4⟩
   exact⟨rfl,la,of,rfl,a1,a3,a4,.inl (by omega)⟩
  ·rintro⟨rfl,la,of,rfl,a1,a3,a4,a5⟩
   dsimp only
   have b1:hint+1 - min of (hint+1)<=hint - la:=by omega
   have b2:hint - la<=n:=by omega
   have b3:∀ i,i < hint+1 - min of (hint+1)->P i=true:=fun i hi=>by
    rcases a5 with z | ⟨z0,z⟩
    ·omega
    ·exact mono i (hint - of) (by omega) (by omega) z
   have b4:∀ i,hint - la<=i->i < n->P i=false:=fun i hi yl=>no a4 i hi yl
   refine wpS_bind (wpS_mono (wpS_forRange (I:=fun x c aF=>st=aF∧∃ lo hi,c=(none,lo,hi)∧lo<=hi∧hi<=n∧hi - lo<=n - x∧(∀ i,i < lo->P i=true)∧(∀ i,hi<=i->i < n->P i=false))
    (Q:=fun c aF=>st=aF∧∃ lo hi,c=(none,lo,hi)∧hi<=n∧(∀ i,i < hi->P i=true)∧(∀ i,hi<=i->i < n->P i=false)) (fun x c aF _ hx => ?_) (fun c aF => ?_) ⟨rfl,_,_,rfl,b1,b2,by omega,b3,b4⟩) (fun c aF => ?_))
   ·rintro⟨rfl,lo,hi,rfl,l1,l2,l3,l4,l5⟩
    dsimp only
    by_cases qN:lo ≥ hi
    ·rw[if_pos qN]
     have:lo=hi:=by omega
     subst this
     exact wpS_pure ⟨rfl,lo,lo,rfl,l2,l4,l5⟩
    ·rw[if_neg qN]
     refine wpS_bind (Ua (i:=lo+(hi - lo) / 2) (by omega) ?_)
     dsimp only
     cases hp:ahead left k (aj arr (base+(lo+(hi - lo) / 2))) with
     | true =>
      rw[if_pos rfl]
      refine wpS_pure ⟨rfl,_,_,rfl,by omega,l2,by omega,fun i Oa => ?_,l5⟩
      exact mono i (lo+(hi - lo) / 2) (by omega) (by omega) hp
     | false =>
      rw[if_neg (by decide)]
      refine wpS_pure ⟨rfl,_,_,rfl,by omega,by omega,by omega,l4,fun i Oa yl => ?_⟩
      cases hq:P i with
      | false=>rfl
      | true=>exact absurd ((mono _ i Oa yl hq).symm.trans hp) (by decide)
   ·rintro⟨rfl,lo,hi,rfl,l1,l2,l3,l4,l5⟩
    have:lo=hi:=by omega
    subst this
    exact⟨rfl,lo,lo,rfl,l2,l4,l5⟩
   ·rintro⟨rfl,lo,hi,rfl,l2,l4,l5⟩
    exact wpS_pure (h hi l2 l4 l5)
end
def kv (x:Keyed):Int:=numOf x.1
def gq (l:List Keyed):Prop:=l.Pairwise fun x y=>kv x<=kv y
theorem fE {a:Array Keyed}{i:Nat}{x:Keyed} (h:a[i]? = some x):aj a i=kv x:=by
 unfold aj kv
 rw[h]
theorem dG {a:Array Keyed}{i:Nat}:a[i]? = a.toList[i]? := by simp
theorem oE {l:List Keyed} (h:gq l) {i j:Nat}{x y:Keyed} (lF:i<=j) (hx:l[i]? = some x) (hy:l[j]? = some y):kv x<=kv y:=by
 by_cases e:i=j
 ·subst e
  rw[hx]at hy
  cases hy
  exact gP _
 ·obtain⟨h1,e1⟩:=ai.mp hx
  obtain⟨h2,e2⟩:=ai.mp hy
  have:=ow.mp h i j h1 h2 (by omega)
  rw[e1,e2]at this
  exact this
theorem gk {l:List Keyed}{i:Nat}{y:Keyed} (h:y∈l.drop i):∃ j,i<=j∧l[j]? = some y:=by
 obtain⟨k,hk⟩:=jX h
 rw[ug]at hk
 exact⟨i+k,by omega,hk⟩
theorem vv {a:Array Keyed} (ha:IntKeys a) (sa:gq a.toList) (base:Nat):Run a base (a.size - base):=by
 refine⟨fun i hi => ?_,fun i j lF hj => ?_⟩
 ·have hl:base+i < a.size:=by omega
  have e:a[base+i]? = some a[base+i]:=getElem?_pos a _ hl
  obtain⟨n,t,hn⟩:=ha a[base+i] (by simp)
  refine⟨_,t,e,?_⟩
  rw[fE e,hn]
  unfold kv
  rw[hn]
  rfl
 ·have hl1:base+i < a.size:=by omega
  have t5:base+j < a.size:=by omega
  have e1:a[base+i]? = some a[base+i]:=getElem?_pos a _ hl1
  have e2:a[base+j]? = some a[base+j]:=getElem?_pos a _ t5
  rw[fE e1,fE e2]
  exact oE sa (by omega) (dG ▸ e1) (dG ▸ e2)
structure MI (a b o:Array Keyed) (ia ib:Nat):Prop where
 pm:(o.toList ++ (a.toList.drop ia ++ b.toList.drop ib)).Perm (a.toList ++ b.toList)
 so:gq o.toList
 le:∀ x∈o.toList,∀ y,y∈a.toList.drop ia∨y∈b.toList.drop ib->kv x<=kv y
structure BP (a b m:Array Keyed):Prop where
 pm:m.toList.Perm (a.toList ++ b.toList)
 so:gq m.toList
theorem zw (a:Array Keyed) (i:Nat):(a.extract i a.size).toList=a.toList.drop i:=by
 rw[gB]
 simp only[rj]
 exact fH (by rw[ke,a8];omega)
variable {a b o:Array Keyed}{ia ib:Nat}
theorem lU {l m:List Keyed} (h1:gq l) (h2:gq m) (h:∀ x∈l,∀ y∈m,kv x<=kv y):gq (l ++ m):=zK.mpr ⟨h1,h2,h⟩
theorem rX {l:List Keyed} (h:gq l) (i:Nat):gq (l.drop i):=yB (List.drop_sublist i l) h
theorem MI.done (h:MI a b o ia ib) (sa:gq a.toList) (sb:gq b.toList) (he:a.size<=ia∨b.size<=ib):BP a b (o ++ a.extract ia a.size ++ b.extract ib b.size):=by
 have e:(o ++ a.extract ia a.size ++ b.extract ib b.size).toList=o.toList ++ (a.toList.drop ia ++ b.toList.drop ib):=by
  rw[dw,dw,zw,zw,aZ]
 refine⟨by rw[e];exact h.pm,?_⟩
 rw[e]
 refine lU h.so ?_ fun x hx y hy=>h.le x hx y (bX.mp hy)
 rcases he with z | z
 ·rw[xS (as:=a.toList) (by rw[a8];exact z),jF]
  exact rX sb _
 ·rw[xS (as:=b.toList) (by rw[a8];exact z),eJ]
  exact rX sa _
theorem MI.last (h:MI a b o ia ib) (sa:gq a.toList) (sb:gq b.toList) (he:ia+1=a.size) (la:∀ y∈b.toList,∀ z,a.toList[a.size - 1]? = some z->kv y<=kv z):BP a b (o ++ b.extract ib b.size ++ a.extract ia a.size):=by
 have e:(o ++ b.extract ib b.size ++ a.extract ia a.size).toList=o.toList ++ (b.toList.drop ib ++ a.toList.drop ia):=by
  rw[dw,dw,zw,zw,aZ]
 refine⟨?_,?_⟩
 ·rw[e]
  exact(gf _ qB).trans h.pm
 rw[e]
 refine lU h.so (lU (rX sb _) (rX sa _) fun x hx y hy => ?_) fun x hx y hy=>h.le x hx y ((bX.mp hy).symm)
 obtain⟨j,hj,ej⟩:=gk hy
 have w4:=(ai.mp ej).1
 have:j=a.size - 1:=by rw[a8]at w4;omega
 subst this
 exact la x (rh hx) y ej
theorem Hb {l:List Keyed}{i:Nat}{y:Keyed} (h:l[i]? = some y):l.drop i=y :: l.drop (i+1):=by
 obtain⟨h1,e⟩:=ai.mp h
 rw[uU h1,e]
theorem MI.iU {y:Keyed} (h:MI a b o ia ib) (sa:gq a.toList) (hy:a[ia]? = some y) (pP:∀ z∈b.toList.drop ib,kv y<=kv z):MI a b (o.push y) (ia+1) ib:=by
 have vQ:a.toList[ia]? = some y:=dG ▸ hy
 have ed:=Hb vQ
 refine⟨?_,?_,fun x hx z hz => ?_⟩
 ·have:=h.pm
  rw[ed]at this
  rw[dr,aZ]
  exact this
 ·rw[dr]
  refine lU h.so (wH _ _) fun x hx z hz => ?_
  rw[bq.mp hz]
  exact h.le x hx y (.inl (by rw[ed];exact aT))
 ·rw[dr]at hx
  rcases bX.mp hx with hx | hx
  ·refine h.le x hx z (hz.imp (fun q => ?_) id)
   rw[ed]
   exact aK _ q
  ·rw[bq.mp hx]
   rcases hz with q | q
   ·obtain⟨j,hj,ej⟩:=gk q
    exact oE sa (by omega) vQ ej
   ·exact pP z q
theorem MI.oi {y:Keyed} (h:MI a b o ia ib) (sb:gq b.toList) (hy:b[ib]? = some y) (pP:∀ z∈a.toList.drop ia,kv y<=kv z):MI a b (o.push y) ia (ib+1):=by
 have vQ:b.toList[ib]? = some y:=dG ▸ hy
 have ed:=Hb vQ
 refine⟨?_,?_,fun x hx z hz => ?_⟩
 ·have:=h.pm
  rw[ed]at this
  rw[dr,aZ]
  refine oy ?_ this
  show (o.toList ++ (y :: (a.toList.drop ia ++ b.toList.drop (ib+1)))).Perm _
  exact gf _ Ex.symm
 ·rw[dr]
  refine lU h.so (wH _ _) fun x hx z hz => ?_
  rw[bq.mp hz]
  exact h.le x hx y (.inr (by rw[ed];exact aT))
 ·rw[dr]at hx
  rcases bX.mp hx with hx | hx
  ·refine h.le x hx z (hz.imp id (fun q => ?_))
   rw[ed]
   exact aK _ q
  ·rw[bq.mp hx]
   rcases hz with q | q
   ·exact pP z q
   ·obtain⟨j,hj,ej⟩:=gk q
    exact oE sb (by omega) vQ ej
theorem LD {o a:Array Keyed}{i k:Nat}{y:Keyed} (hy:a[i+k]? = some y):o ++ a.extract i (i+(k+1))=(o ++ a.extract i (i+k)).push y:=by
 obtain⟨h1,e⟩:=jM.mp hy
 apply EE.mp
 rw[dr,dw,dw,gB,gB,aZ]
 congr 1
 simp only[rj]
 rw[show i+(k+1) - i=k+1 by omega,show i+k - i=k by omega,dD,ug, <- dG,hy]
 rfl
theorem MI.yS (h:MI a b o ia ib) (sa:gq a.toList):∀ k,ia+k<=a.size->(∀ i x,i < k->a[ia+i]? = some x->∀ z∈b.toList.drop ib,kv x<=kv z)->MI a b (o ++ a.extract ia (ia+k)) (ia+k) ib
 | 0,_,_=>by
  have:o ++ a.extract ia (ia+0)=o:=by rw[rf,ju (by omega),B1]
  rw[this]
  exact h
 | k+1,hk,pP=>by
  have e:a[ia+k]? = some a[ia+k]:=getElem?_pos a _ (by omega)
  rw[LD e]
  exact(MI.yS h sa k (by omega) fun i x hi=>pP i x (by omega)).iU sa e (pP k _ (by omega) e)
theorem MI.qD (h:MI a b o ia ib) (sb:gq b.toList):∀ k,ib+k<=b.size->(∀ i x,i < k->b[ib+i]? = some x->∀ z∈a.toList.drop ia,kv x<=kv z)->MI a b (o ++ b.extract ib (ib+k)) ia (ib+k)
 | 0,_,_=>by
  have:o ++ b.extract ib (ib+0)=o:=by rw[rf,ju (by omega),B1]
  rw[this]
  exact h
 | k+1,hk,pP=>by
  have e:b[ib+k]? = some b[ib+k]:=getElem?_pos b _ (by omega)
  rw[LD e]
  exact(MI.qD h sb k (by omega) fun i x hi=>pP i x (by omega)).oi sb e (pP k _ (by omega) e)
theorem qw {y x:Keyed} (sa:gq a.toList) (hx:a[ia]? = some x) (h:kv y<=kv x):∀ z∈a.toList.drop ia,kv y<=kv z:=fun z hz=>by
 obtain⟨j,hj,ej⟩:=gk hz
 exact iO h (oE sa hj (dG ▸ hx) ej)
end TS
namespace TS
open PySem PyProof.Rows
structure SG (st aF:SortSt):Prop where
 kind:kindOf aF=kindOf st
 arr:arrOf aF=arrOf st
 pend:pendingOf aF=pendingOf st
 fail:failedOf aF=failedOf st
inductive Ys {γ : Type} (a b:Array Keyed) (n:Nat):(Option (Array Keyed) × Array Keyed × Nat × Nat × γ)->Prop
 | go (o:Array Keyed) (ia ib:Nat) (z : γ) (M:MI a b o ia ib) (h1:ia+1 < a.size) (h2:ib < b.size) (h3:n<=ia+ib):Ys a b n (none,o,ia,ib,z)
 | end_ (r o:Array Keyed) (ia ib:Nat) (z : γ) (h:BP a b r):Ys a b n (some r,o,ia,ib,z)
theorem lX {b:Bool} (h:(!b)=true):b=false:=by cases b <;> first | rfl | cases h
theorem lY {b:Bool} (h:(!b)=false):b=true:=by cases b <;> first | rfl | cases h
theorem gM {a:Array Keyed}{i:Nat}{x:Keyed} (ka:IntKeys a) (h:a[i]? = some x):∃ t,x.1 = .int (kv x) t:=by
 obtain⟨n,t,e⟩:=ka x (aP (dG ▸ h))
 exact⟨t,by unfold kv;rw[e];rfl⟩
section
variable {prog:Program}{w:World}{A:Around}{E:Value->Shared->Prop}{s:Shared}
def ahv:Nat->StateT SortSt Sem Unit:=sortPriv% PySem.Builtin.setMinGallop
theorem rS {st:SortSt}{g:Nat}{Q:Unit->SortSt->Prop} (h:Q () (fV (kindOf st) (arrOf st) (pendingOf st) g (failedOf st))):wpS (model prog w) A E s (ahv g) Q st:=wpS_modify h
def VJ:Array Keyed->Array Keyed->StateT SortSt Sem (Array Keyed):=sortPriv% PySem.Builtin.mergeLo
theorem Mv {st:SortSt}{a b:Array Keyed}{Q:Array Keyed->SortSt->Prop} (hk:kindOf st=oneType') (ka:IntKeys a) (kb:IntKeys b) (sa:gq a.toList) (sb:gq b.toList) (pa:0 < a.size) (pb:0 < b.size)
  (h1:∀ y,b[0]? = some y->∀ z∈a.toList,kv y<=kv z) (la:∀ y∈b.toList,∀ z,a.toList[a.size - 1]? = some z->kv y<=kv z) (h:∀ m aF,SG st aF->BP a b m->Q m aF):wpS (model prog w) A E s (VJ a b) Q st:=by
 have e0:b[0]? = some b[0]:=getElem?_pos b 0 pb
 have M0:MI a b #[b[0]] 0 1:=MI.oi (o := #[]) (ia:=0) (ib:=0) ⟨tF _,uH,fun x hx=>by cases hx⟩ sb e0 (h1 _ e0)
 have s0:SG st st:=⟨rfl,rfl,rfl,rfl⟩
 refine wpS_bind (wpS_lift (wpAny_rule ⟨rfl,?_⟩))
 refine wpS_bind (bM e0 ?_)
 dsimp only
 by_cases c1:(1 == b.size)=true
 ·rw[if_pos c1]
  exact wpS_pure (h _ _ s0 (M0.done sa sb (.inr (eP (beq_iff_eq.mp c1).symm))))
 rw[if_neg c1]
 have c1':1≠b.size:=fun z=>c1 (beq_iff_eq.mpr z)
 by_cases c2:(0+1 == a.size)=true
 ·rw[if_pos c2]
  exact wpS_pure (h _ _ s0 (M0.last sa sb (beq_iff_eq.mp c2) la))
 rw[if_neg c2]
 have c2':0+1≠a.size:=fun z=>c2 (beq_iff_eq.mpr z)
 refine wpS_bind (wpS_get ?_)
 refine wpS_bind (wpS_mono (wpS_forRange (I:=fun x c aF=>SG st aF∧∃ o ia ib z,c=(none,o,ia,ib,z)∧MI a b o ia ib∧ia+1 < a.size∧ib < b.size∧x<=ia+ib)
  (Q:=fun c aF=>SG st aF∧∃ r o ia ib z,c=(some r,o,ia,ib,z)∧BP a b r) (fun x c qr _ hx => ?_) (fun c qr => ?_) ⟨s0,_,_,_,_,rfl,M0,by omega,by omega,by omega⟩) (fun c qr => ?_))
 ·rintro⟨yi,o,ia,ib,mg,rfl,M,b1,b2,b3⟩
  dsimp only
  refine wpS_bind (wpS_mono (wpS_forRange (I:=fun x' c aF=>SG st aF∧∃ o ia ib z,c=(none,o,ia,ib,z)∧MI a b o ia ib∧ia+1 < a.size∧ib < b.size∧x+x'<=ia+ib)
   (Q:=fun c aF=>SG st aF∧Ys a b (x+1) c) (fun x' c dS _ zW => ?_) (fun c dS => ?_) ⟨yi,_,_,_,_,rfl,M,b1,b2,by omega⟩) (fun c dS => ?_))
  ·rintro⟨hs,o,ia,ib,z,rfl,M,b1,b2,b3⟩
   obtain⟨ac,bc⟩:=z
   dsimp only
   obtain⟨y,eb⟩:∃ y,b[ib]? = some y:=⟨_,getElem?_pos b ib b2⟩
   obtain⟨v,ea⟩:∃ v,a[ia]? = some v:=⟨_,getElem?_pos a ia (by omega)⟩
   obtain⟨ty,ey⟩:=gM kb eb
   obtain⟨tv,ev⟩:=gM ka ea
   refine wpS_bind (bM eb (wpS_bind (bM ea (wpS_bind (EG (hs.kind.trans hk) ey ev ?_)))))
   dsimp only
   by_cases eS:kv y < kv v
   ·rw[decide_eq_true eS,if_pos rfl]
    have M2:=M.oi sb eb (qw sa ea (by omega))
    refine wpS_bind (bM eb ?_)
    try dsimp only
    by_cases cb:(ib+1 == b.size)=true
    ·rw[if_pos cb]
     exact wpS_pure ⟨hs,.end_ _ _ _ _ _ (M2.done sa sb (.inr (eP (beq_iff_eq.mp cb).symm)))⟩
    ·rw[if_neg cb]
     have BG:ib+1≠b.size:=fun z=>cb (beq_iff_eq.mpr z)
     split
     ·exact wpS_pure ⟨hs,.go _ _ _ _ M2 (by omega) (by omega) (by omega)⟩
     ·exact wpS_pure ⟨hs,_,_,_,_,rfl,M2,by omega,by omega,by omega⟩
   ·rw[decide_eq_false eS,if_neg (by decide)]
    have M2:=M.iU sa ea (qw sb eb (by omega))
    refine wpS_bind (bM ea ?_)
    try dsimp only
    by_cases cb:(ia+1+1 == a.size)=true
    ·rw[if_pos cb]
     exact wpS_pure ⟨hs,.end_ _ _ _ _ _ (M2.last sa sb (beq_iff_eq.mp cb) la)⟩
    ·rw[if_neg cb]
     have BG:ia+1+1≠a.size:=fun z=>cb (beq_iff_eq.mpr z)
     split
     ·exact wpS_pure ⟨hs,.go _ _ _ _ M2 (by omega) (by omega) (by omega)⟩
     ·exact wpS_pure ⟨hs,_,_,_,_,rfl,M2,by omega,by omega,by omega⟩
  ·rintro⟨hs,o,ia,ib,z,rfl,M,b1,b2,b3⟩
   omega
  ·rintro⟨hs,hc⟩
   cases hc with
   | end_ r o ia ib z hm =>
    try dsimp only
    exact wpS_pure ⟨hs,r,_,_,_,_,rfl,hm⟩
   | go o ia ib z M b1 b2 b3 =>
    try dsimp only
    refine wpS_bind (wpS_lift (wpAny_rule ⟨rfl,?_⟩))
    refine wpS_bind (wpS_mono (wpS_forRange (I:=fun x' c aF=>SG st aF∧∃ o ia ib z,c=(none,o,ia,ib,z)∧MI a b o ia ib∧ia+1 < a.size∧ib < b.size∧x+1<=ia+ib)
     (Q:=fun c aF=>SG st aF∧Ys a b (x+1) c) (fun x' c dS _ zW => ?_) (fun c dS => ?_) ⟨hs,_,_,_,_,rfl,M,b1,b2,b3⟩) (fun c dS => ?_))
    ·rintro⟨hs,o,ia,ib,z,rfl,M,b1,b2,b3⟩
     obtain⟨mg,ac,bc⟩:=z
     dsimp only
     by_cases Fq:mg > 1
     ·rw[if_pos Fq]
      refine wpS_bind (rS ?_)
      have cI:SG st (fV (kindOf dS) (arrOf dS) (pendingOf dS) (mg - 1) (failedOf dS)):=⟨hs.kind,hs.arr,hs.pend,hs.fail⟩
      have uB:kindOf (fV (kindOf dS) (arrOf dS) (pendingOf dS) (mg - 1) (failedOf dS))=oneType':=cI.kind.trans hk
      obtain⟨y,eb⟩:∃ y,b[ib]? = some y:=⟨_,getElem?_pos b ib (by omega)⟩
      obtain⟨ty,ey⟩:=gM kb eb
      refine wpS_bind (bM eb (wpS_bind (fP uB ey (vv ka sa ia) (by omega) fun k l1 lo1 uC => ?_)))
      try dsimp only
      have QA:∀ i z,i < k->a[ia+i]? = some z->∀ v∈b.toList.drop ib,kv z<=kv v:=fun i z hi ez=>qw sb eb (by
       have:=of_decide_eq_false (lX (show (!decide (kv y < aj a (ia+i)))=true from lo1 i hi))
       rw[fE ez]at this
       omega)
      have BO:∀ v∈a.toList.drop (ia+k),kv y<=kv v:=fun v hv=>by
       obtain⟨j,hj,ej⟩:=gk hv
       have w4:=(ai.mp ej).1
       rw[a8]at w4
       have:=of_decide_eq_true (lY (show (!decide (kv y < aj a (ia+(j - ia))))=false from uC (j - ia) (by omega) (by omega)))
       rw[show ia+(j - ia)=j by omega,fE (show a[j]? = some v by rw[dG];exact ej)]at this
       omega
      by_cases yk:k > 0
      ·rw[if_pos yk]
       have MA:=M.yS sa k (by omega) QA
       by_cases ca:(ia+k+1 == a.size)=true
       ·rw[if_pos ca]
        exact wpS_pure ⟨cI,.end_ _ _ _ _ _ (MA.last sa sb (beq_iff_eq.mp ca) la)⟩
       ·rw[if_neg ca]
        have ca':ia+k+1≠a.size:=fun z=>ca (beq_iff_eq.mpr z)
        by_cases cz:(ia+k == a.size)=true
        ·rw[if_pos cz]
         exact wpS_pure ⟨cI,.end_ _ _ _ _ _ (MA.done sa sb (.inl (eP (beq_iff_eq.mp cz).symm)))⟩
        ·rw[if_neg cz]
         have cz':ia+k≠a.size:=fun z=>cz (beq_iff_eq.mpr z)
         refine wpS_bind (bM eb ?_)
         try dsimp only
         have M2:=MA.oi sb eb BO
         by_cases cb:(ib+1 == b.size)=true
         ·rw[if_pos cb]
          exact wpS_pure ⟨cI,.end_ _ _ _ _ _ (M2.done sa sb (.inr (eP (beq_iff_eq.mp cb).symm)))⟩
         ·rw[if_neg cb]
          have BG:ib+1≠b.size:=fun z=>cb (beq_iff_eq.mpr z)
          obtain⟨x,ea⟩:∃ x,a[(ia+k)]? = some x:=⟨_,getElem?_pos a (ia+k) (by omega)⟩
          obtain⟨tx,ex⟩:=gM ka ea
          refine wpS_bind (bM ea (wpS_bind (fP uB ex (vv kb sb (ib+1)) (by omega) fun k2 l2 tZ qM => ?_)))
          dsimp only
          have QB:∀ i z,i < k2->b[ib+1+i]? = some z->∀ v∈a.toList.drop (ia+k),kv z<=kv v:=fun i z hi ez=>qw sa ea (by
           have:=of_decide_eq_true (show decide (aj b (ib+1+i) < kv x)=true from tZ i hi)
           rw[fE ez]at this
           omega)
          have QR:∀ v∈b.toList.drop (ib+1+k2),kv x<=kv v:=fun v hv=>by
           obtain⟨j,hj,ej⟩:=gk hv
           have w4:=(ai.mp ej).1
           rw[a8]at w4
           have:=of_decide_eq_false (show decide (aj b (ib+1+(j - (ib+1))) < kv x)=false from qM (j - (ib+1)) (by omega) (by omega))
           rw[show ib+1+(j - (ib+1))=j by omega,fE (show b[j]? = some v by rw[dG];exact ej)]at this
           omega
          by_cases ck:k2 > 0
          ·rw[if_pos ck]
           have MB:=M2.qD sb k2 (by omega) QB
           by_cases iG:(ib+1+k2 == b.size)=true
           ·rw[if_pos iG]
            exact wpS_pure ⟨cI,.end_ _ _ _ _ _ (MB.done sa sb (.inr (eP (beq_iff_eq.mp iG).symm)))⟩
           ·rw[if_neg iG]
            have Eg:ib+1+k2≠b.size:=fun z=>iG (beq_iff_eq.mpr z)
            refine wpS_bind (bM ea ?_)
            try dsimp only
            have M3:=MB.iU sa ea QR
            by_cases cl:((ia+k)+1+1 == a.size)=true
            ·rw[if_pos cl]
             exact wpS_pure ⟨cI,.end_ _ _ _ _ _ (M3.last sa sb (beq_iff_eq.mp cl) la)⟩
            ·rw[if_neg cl]
             have wb:(ia+k)+1+1≠a.size:=fun z=>cl (beq_iff_eq.mpr z)
             split
             ·exact wpS_pure ⟨cI,.go _ _ _ _ M3 (by omega) (by omega) (by omega)⟩
             ·exact wpS_pure ⟨cI,_,_,_,_,rfl,M3,by omega,by omega,by omega⟩
          ·rw[if_neg ck]
           have k0:k2=0:=by omega
           subst k0
           have MB:=M2
           refine wpS_bind (bM ea ?_)
           try dsimp only
           have M3:=MB.iU sa ea QR
           by_cases cl:((ia+k)+1+1 == a.size)=true
           ·rw[if_pos cl]
            exact wpS_pure ⟨cI,.end_ _ _ _ _ _ (M3.last sa sb (beq_iff_eq.mp cl) la)⟩
           ·rw[if_neg cl]
            have wb:(ia+k)+1+1≠a.size:=fun z=>cl (beq_iff_eq.mpr z)
            split
            ·exact wpS_pure ⟨cI,.go _ _ _ _ M3 (by omega) (by omega) (by omega)⟩
            ·exact wpS_pure ⟨cI,_,_,_,_,rfl,M3,by omega,by omega,by omega⟩
      ·rw[if_neg yk]
       have k0:k=0:=by omega
       subst k0
       have MA:=M
       refine wpS_bind (bM eb ?_)
       try dsimp only
       have M2:=MA.oi sb eb BO
       by_cases cb:(ib+1 == b.size)=true
       ·rw[if_pos cb]
        exact wpS_pure ⟨cI,.end_ _ _ _ _ _ (M2.done sa sb (.inr (eP (beq_iff_eq.mp cb).symm)))⟩
       ·rw[if_neg cb]
        have BG:ib+1≠b.size:=fun z=>cb (beq_iff_eq.mpr z)
        obtain⟨x,ea⟩:∃ x,a[ia]? = some x:=⟨_,getElem?_pos a ia (by omega)⟩
        obtain⟨tx,ex⟩:=gM ka ea
        refine wpS_bind (bM ea (wpS_bind (fP uB ex (vv kb sb (ib+1)) (by omega) fun k2 l2 tZ qM => ?_)))
        dsimp only
        have QB:∀ i z,i < k2->b[ib+1+i]? = some z->∀ v∈a.toList.drop ia,kv z<=kv v:=fun i z hi ez=>qw sa ea (by
         have:=of_decide_eq_true (show decide (aj b (ib+1+i) < kv x)=true from tZ i hi)
         rw[fE ez]at this
         omega)
        have QR:∀ v∈b.toList.drop (ib+1+k2),kv x<=kv v:=fun v hv=>by
         obtain⟨j,hj,ej⟩:=gk hv
         have w4:=(ai.mp ej).1
         rw[a8]at w4
         have:=of_decide_eq_false (show decide (aj b (ib+1+(j - (ib+1))) < kv x)=false from qM (j - (ib+1)) (by omega) (by omega))
         rw[show ib+1+(j - (ib+1))=j by omega,fE (show b[j]? = some v by rw[dG];exact ej)]at this
         omega
        by_cases ck:k2 > 0
        ·rw[if_pos ck]
         have MB:=M2.qD sb k2 (by omega) QB
         by_cases iG:(ib+1+k2 == b.size)=true
         ·rw[if_pos iG]
          exact wpS_pure ⟨cI,.end_ _ _ _ _ _ (MB.done sa sb (.inr (eP (beq_iff_eq.mp iG).symm)))⟩
         ·rw[if_neg iG]
          have Eg:ib+1+k2≠b.size:=fun z=>iG (beq_iff_eq.mpr z)
          refine wpS_bind (bM ea ?_)
          try dsimp only
          have M3:=MB.iU sa ea QR
          by_cases cl:(ia+1+1 == a.size)=true
          ·rw[if_pos cl]
           exact wpS_pure ⟨cI,.end_ _ _ _ _ _ (M3.last sa sb (beq_iff_eq.mp cl) la)⟩
          ·rw[if_neg cl]
           have wb:ia+1+1≠a.size:=fun z=>cl (beq_iff_eq.mpr z)
           split
           ·exact wpS_pure ⟨cI,.go _ _ _ _ M3 (by omega) (by omega) (by omega)⟩
           ·exact wpS_pure ⟨cI,_,_,_,_,rfl,M3,by omega,by omega,by omega⟩
        ·rw[if_neg ck]
         have k0:k2=0:=by omega
         subst k0
         have MB:=M2
         refine wpS_bind (bM ea ?_)
         try dsimp only
         have M3:=MB.iU sa ea QR
         by_cases cl:(ia+1+1 == a.size)=true
         ·rw[if_pos cl]
          exact wpS_pure ⟨cI,.end_ _ _ _ _ _ (M3.last sa sb (beq_iff_eq.mp cl) la)⟩
         ·rw[if_neg cl]
          have wb:ia+1+1≠a.size:=fun z=>cl (beq_iff_eq.mpr z)
          split
          ·exact wpS_pure ⟨cI,.go _ _ _ _ M3 (by omega) (by omega) (by omega)⟩
          ·exact wpS_pure ⟨cI,_,_,_,_,rfl,M3,by omega,by omega,by omega⟩
     ·rw[if_neg Fq]
      refine wpS_bind (rS ?_)
      have cI:SG st (fV (kindOf dS) (arrOf dS) (pendingOf dS) mg (failedOf dS)):=⟨hs.kind,hs.arr,hs.pend,hs.fail⟩
      have uB:kindOf (fV (kindOf dS) (arrOf dS) (pendingOf dS) mg (failedOf dS))=oneType':=cI.kind.trans hk
      obtain⟨y,eb⟩:∃ y,b[ib]? = some y:=⟨_,getElem?_pos b ib (by omega)⟩
      obtain⟨ty,ey⟩:=gM kb eb
      refine wpS_bind (bM eb (wpS_bind (fP uB ey (vv ka sa ia) (by omega) fun k l1 lo1 uC => ?_)))
      try dsimp only
      have QA:∀ i z,i < k->a[ia+i]? = some z->∀ v∈b.toList.drop ib,kv z<=kv v:=fun i z hi ez=>qw sb eb (by
       have:=of_decide_eq_false (lX (show (!decide (kv y < aj a (ia+i)))=true from lo1 i hi))
       rw[fE ez]at this
       omega)
      have BO:∀ v∈a.toList.drop (ia+k),kv y<=kv v:=fun v hv=>by
       obtain⟨j,hj,ej⟩:=gk hv
       have w4:=(ai.mp ej).1
       rw[a8]at w4
       have:=of_decide_eq_true (lY (show (!decide (kv y < aj a (ia+(j - ia))))=false from uC (j - ia) (by omega) (by omega)))
       rw[show ia+(j - ia)=j by omega,fE (show a[j]? = some v by rw[dG];exact ej)]at this
       omega
      by_cases yk:k > 0
      ·rw[if_pos yk]
       have MA:=M.yS sa k (by omega) QA
       by_cases ca:(ia+k+1 == a.size)=true
       ·rw[if_pos ca]
        exact wpS_pure ⟨cI,.end_ _ _ _ _ _ (MA.last sa sb (beq_iff_eq.mp ca) la)⟩
       ·rw[if_neg ca]
        have ca':ia+k+1≠a.size:=fun z=>ca (beq_iff_eq.mpr z)
        by_cases cz:(ia+k == a.size)=true
        ·rw[if_pos cz]
         exact wpS_pure ⟨cI,.end_ _ _ _ _ _ (MA.done sa sb (.inl (eP (beq_iff_eq.mp cz).symm)))⟩
        ·rw[if_neg cz]
         have cz':ia+k≠a.size:=fun z=>cz (beq_iff_eq.mpr z)
         refine wpS_bind (bM eb ?_)
         try dsimp only
         have M2:=MA.oi sb eb BO
         by_cases cb:(ib+1 == b.size)=true
         ·rw[if_pos cb]
          exact wpS_pure ⟨cI,.end_ _ _ _ _ _ (M2.done sa sb (.inr (eP (beq_iff_eq.mp cb).symm)))⟩
         ·rw[if_neg cb]
          have BG:ib+1≠b.size:=fun z=>cb (beq_iff_eq.mpr z)
          obtain⟨x,ea⟩:∃ x,a[(ia+k)]? = some x:=⟨_,getElem?_pos a (ia+k) (by omega)⟩
          obtain⟨tx,ex⟩:=gM ka ea
          refine wpS_bind (bM ea (wpS_bind (fP uB ex (vv kb sb (ib+1)) (by omega) fun k2 l2 tZ qM => ?_)))
          dsimp only
          have QB:∀ i z,i < k2->b[ib+1+i]? = some z->∀ v∈a.toList.drop (ia+k),kv z<=kv v:=fun i z hi ez=>qw sa ea (by
           have:=of_decide_eq_true (show decide (aj b (ib+1+i) < kv x)=true from tZ i hi)
           rw[fE ez]at this
           omega)
          have QR:∀ v∈b.toList.drop (ib+1+k2),kv x<=kv v:=fun v hv=>by
           obtain⟨j,hj,ej⟩:=gk hv
           have w4:=(ai.mp ej).1
           rw[a8]at w4
           have:=of_decide_eq_false (show decide (aj b (ib+1+(j - (ib+1))) < kv x)=false from qM (j - (ib+1)) (by omega) (by omega))
           rw[show ib+1+(j - (ib+1))=j by omega,fE (show b[j]? = some v by rw[dG];exact ej)]at this
           omega
          by_cases ck:k2 > 0
          ·rw[if_pos ck]
           have MB:=M2.qD sb k2 (by omega) QB
           by_cases iG:(ib+1+k2 == b.size)=true
           ·rw[if_pos iG]
            exact wpS_pure ⟨cI,.end_ _ _ _ _ _ (MB.done sa sb (.inr (eP (beq_iff_eq.mp iG).symm)))⟩
           ·rw[if_neg iG]
            have Eg:ib+1+k2≠b.size:=fun z=>iG (beq_iff_eq.mpr z)
            refine wpS_bind (bM ea ?_)
            try dsimp only
            have M3:=MB.iU sa ea QR
            by_cases cl:((ia+k)+1+1 == a.size)=true
            ·rw[if_pos cl]
             exact wpS_pure ⟨cI,.end_ _ _ _ _ _ (M3.last sa sb (beq_iff_eq.mp cl) la)⟩
            ·rw[if_neg cl]
             have wb:(ia+k)+1+1≠a.size:=fun z=>cl (beq_iff_eq.mpr z)
             split
             ·exact wpS_pure ⟨cI,.go _ _ _ _ M3 (by omega) (by omega) (by omega)⟩
             ·exact wpS_pure ⟨cI,_,_,_,_,rfl,M3,by omega,by omega,by omega⟩
          ·rw[if_neg ck]
           have k0:k2=0:=by omega
           subst k0
           have MB:=M2
           refine wpS_bind (bM ea ?_)
           try dsimp only
           have M3:=MB.iU sa ea QR
           by_cases cl:((ia+k)+1+1 == a.size)=true
           ·rw[if_pos cl]
            exact wpS_pure ⟨cI,.end_ _ _ _ _ _ (M3.last sa sb (beq_iff_eq.mp cl) la)⟩
           ·rw[if_neg cl]
            have wb:(ia+k)+1+1≠a.size:=fun z=>cl (beq_iff_eq.mpr z)
            split
            ·exact wpS_pure ⟨cI,.go _ _ _ _ M3 (by omega) (by omega) (by omega)⟩
            ·exact wpS_pure ⟨cI,_,_,_,_,rfl,M3,by omega,by omega,by omega⟩
      ·rw[if_neg yk]
       have k0:k=0:=by omega
       subst k0
       have MA:=M
       refine wpS_bind (bM eb ?_)
       try dsimp only
       have M2:=MA.oi sb eb BO
       by_cases cb:(ib+1 == b.size)=true
       ·rw[if_pos cb]
        exact wpS_pure ⟨cI,.end_ _ _ _ _ _ (M2.done sa sb (.inr (eP (beq_iff_eq.mp cb).symm)))⟩
       ·rw[if_neg cb]
        have BG:ib+1≠b.size:=fun z=>cb (beq_iff_eq.mpr z)
        obtain⟨x,ea⟩:∃ x,a[ia]? = some x:=⟨_,getElem?_pos a ia (by omega)⟩
        obtain⟨tx,ex⟩:=gM ka ea
        refine wpS_bind (bM ea (wpS_bind (fP uB ex (vv kb sb (ib+1)) (by omega) fun k2 l2 tZ qM => ?_)))
        dsimp only
        have QB:∀ i z,i < k2->b[ib+1+i]? = some z->∀ v∈a.toList.drop ia,kv z<=kv v:=fun i z hi ez=>qw sa ea (by
         have:=of_decide_eq_true (show decide (aj b (ib+1+i) < kv x)=true from tZ i hi)
         rw[fE ez]at this
         omega)
        have QR:∀ v∈b.toList.drop (ib+1+k2),kv x<=kv v:=fun v hv=>by
         obtain⟨j,hj,ej⟩:=gk hv
         have w4:=(ai.mp ej).1
         rw[a8]at w4
         have:=of_decide_eq_false (show decide (aj b (ib+1+(j - (ib+1))) < kv x)=false from qM (j - (ib+1)) (by omega) (by omega))
         rw[show ib+1+(j - (ib+1))=j by omega,fE (show b[j]? = some v by rw[dG];exact ej)]at this
         omega
        by_cases ck:k2 > 0
        ·rw[if_pos ck]
         have MB:=M2.qD sb k2 (by omega) QB
         by_cases iG:(ib+1+k2 == b.size)=true
         ·rw[if_pos iG]
          exact wpS_pure ⟨cI,.end_ _ _ _ _ _ (MB.done sa sb (.inr (eP (beq_iff_eq.mp iG).symm)))⟩
         ·rw[if_neg iG]
          have Eg:ib+1+k2≠b.size:=fun z=>iG (beq_iff_eq.mpr z)
          refine wpS_bind (bM ea ?_)
          try dsimp only
          have M3:=MB.iU sa ea QR
          by_cases cl:(ia+1+1 == a.size)=true
          ·rw[if_pos cl]
           exact wpS_pure ⟨cI,.end_ _ _ _ _ _ (M3.last sa sb (beq_iff_eq.mp cl) la)⟩
          ·rw[if_neg cl]
           have wb:ia+1+1≠a.size:=fun z=>cl (beq_iff_eq.mpr z)
           split
           ·exact wpS_pure ⟨cI,.go _ _ _ _ M3 (by omega) (by omega) (by omega)⟩
           ·exact wpS_pure ⟨cI,_,_,_,_,rfl,M3,by omega,by omega,by omega⟩
        ·rw[if_neg ck]
         have k0:k2=0:=by omega
         subst k0
         have MB:=M2
         refine wpS_bind (bM ea ?_)
         try dsimp only
         have M3:=MB.iU sa ea QR
         by_cases cl:(ia+1+1 == a.size)=true
         ·rw[if_pos cl]
          exact wpS_pure ⟨cI,.end_ _ _ _ _ _ (M3.last sa sb (beq_iff_eq.mp cl) la)⟩
         ·rw[if_neg cl]
          have wb:ia+1+1≠a.size:=fun z=>cl (beq_iff_eq.mpr z)
          split
          ·exact wpS_pure ⟨cI,.go _ _ _ _ M3 (by omega) (by omega) (by omega)⟩
          ·exact wpS_pure ⟨cI,_,_,_,_,rfl,M3,by omega,by omega,by omega⟩
    ·rintro⟨hs,o,ia,ib,z,rfl,M,b1,b2,b3⟩
     exact⟨hs,.go _ _ _ _ M b1 b2 b3⟩
    ·rintro⟨hs,hc⟩
     cases hc with
     | end_ r o ia ib z hm =>
      dsimp only
      exact wpS_pure ⟨hs,r,_,_,_,_,rfl,hm⟩
     | go o ia ib z M b1 b2 b3 =>
      obtain⟨mg,ac,bc⟩:=z
      dsimp only
      refine wpS_bind (rS (wpS_pure ⟨⟨hs.kind,hs.arr,hs.pend,hs.fail⟩,_,_,_,_,rfl,M,b1,b2,b3⟩))
 ·rintro⟨hs,o,ia,ib,z,rfl,M,b1,b2,b3⟩
  omega
 ·rintro⟨hs,r,o,ia,ib,z,rfl,hm⟩
  exact wpS_pure (h r _ hs hm)
end
structure MH (a b o:Array Keyed) (na nb:Nat):Prop where
 la:na<=a.size
 lb:nb<=b.size
 pm:(a.toList.take na ++ (b.toList.take nb ++ o.toList.reverse)).Perm (a.toList ++ b.toList)
 so:gq o.toList.reverse
 le:∀ x∈o.toList,∀ y,y∈a.toList.take na∨y∈b.toList.take nb->kv y<=kv x
variable {a b o:Array Keyed}{na nb:Nat}
theorem y3 (a:Array Keyed) (n:Nat):(a.extract 0 n).toList=a.toList.take n:=by
 rw[gB]
 simp[rj]
theorem rW {l:List Keyed} (h:gq l) (i:Nat):gq (l.take i):=yB (uG i l) h
theorem gj {l:List Keyed}{i:Nat}{y:Keyed} (h:y∈l.take i):∃ j,j < i∧l[j]? = some y:=by
 obtain⟨k,hk⟩:=jX h
 have hl:=(ai.mp hk).1
 rw[bO]at hl
 rw[kf (by omega)]at hk
 exact⟨k,by omega,hk⟩
theorem MH.done (h:MH a b o na nb) (sa:gq a.toList) (sb:gq b.toList) (he:na=0∨nb=0):BP a b (a.extract 0 na ++ b.extract 0 nb ++ o.reverse):=by
 have e:(a.extract 0 na ++ b.extract 0 nb ++ o.reverse).toList=a.toList.take na ++ (b.toList.take nb ++ o.toList.reverse):=by
  rw[dw,dw,y3,y3,nv,aZ]
 refine⟨by rw[e];exact h.pm,?_⟩
 rw[e, <- aZ]
 refine lU ?_ h.so fun x hx y hy=>h.le y (qp.mp hy) x (bX.mp hx)
 rcases he with z | z
 ·subst z
  exact rW sb _
 ·subst z
  rw[mq,eJ]
  exact rW sa _
theorem MH.first (h:MH a b o na nb) (sa:gq a.toList) (sb:gq b.toList) (he:nb=1) (h1:∀ y,b[0]? = some y->∀ z∈a.toList,kv y<=kv z):BP a b (b.extract 0 nb ++ a.extract 0 na ++ o.reverse):=by
 have e:(b.extract 0 nb ++ a.extract 0 na ++ o.reverse).toList=b.toList.take nb ++ (a.toList.take na ++ o.toList.reverse):=by
  rw[dw,dw,y3,y3,nv,aZ]
 refine⟨?_,?_⟩
 ·rw[e]
  refine oy ?_ h.pm
  rw[<- aZ, <- aZ]
  exact lD _ qB
 rw[e, <- aZ]
 refine lU (lU (rW sb _) (rW sa _) fun x hx y hy => ?_) h.so fun x hx y hy=>h.le y (qp.mp hy) x ((bX.mp hx).symm)
 obtain⟨j,hj,ej⟩:=gj hx
 have:j=0:=by omega
 subst this
 exact h1 x (by rw[dG];exact ej) y (gy hy)
theorem Na {l:List Keyed}{n:Nat}{y:Keyed} (hn:1<=n) (h:l[n - 1]? = some y):l.take n=l.take (n - 1) ++ [y]:=by
 have:=dD (l:=l) (i:=n - 1)
 rw[show n - 1+1=n by omega,h]at this
 exact this
theorem MH.iU {y:Keyed} (h:MH a b o na nb) (sa:gq a.toList) (hn:1<=na) (hy:a[na - 1]? = some y) (pP:∀ z∈b.toList.take nb,kv z<=kv y):MH a b (o.push y) (na - 1) nb:=by
 have vQ:a.toList[na - 1]? = some y:=dG ▸ hy
 have ed:=Na hn vQ
 have hl:=h.la
 refine⟨by omega,h.lb,?_,?_,fun x hx z hz => ?_⟩
 ·have:=h.pm
  rw[ed,aZ]at this
  rw[dr,n5]
  refine oy ?_ this
  refine gf _ ?_
  show (b.toList.take nb ++ (y :: o.toList.reverse)).Perm (y :: (b.toList.take nb ++ o.toList.reverse))
  exact Ex
 ·rw[dr,n5]
  refine BQ.mpr ⟨fun z hz => ?_,h.so⟩
  exact h.le z (qp.mp hz) y (.inl (by rw[ed];exact bg _ aT))
 ·rw[dr]at hx
  rcases bX.mp hx with hx | hx
  ·exact h.le x hx z (hz.imp (fun q=>by rw[ed];exact cO _ q) id)
  ·rw[bq.mp hx]
   rcases hz with q | q
   ·obtain⟨j,hj,ej⟩:=gj q
    exact oE sa (by omega) ej vQ
   ·exact pP z q
theorem MH.oi {y:Keyed} (h:MH a b o na nb) (sb:gq b.toList) (hn:1<=nb) (hy:b[nb - 1]? = some y) (pP:∀ z∈a.toList.take na,kv z<=kv y):MH a b (o.push y) na (nb - 1):=by
 have vQ:b.toList[nb - 1]? = some y:=dG ▸ hy
 have ed:=Na hn vQ
 have hl:=h.lb
 refine⟨h.la,by omega,?_,?_,fun x hx z hz => ?_⟩
 ·have:=h.pm
  rw[ed,aZ]at this
  rw[dr,n5]
  exact this
 ·rw[dr,n5]
  refine BQ.mpr ⟨fun z hz => ?_,h.so⟩
  exact h.le z (qp.mp hz) y (.inr (by rw[ed];exact bg _ aT))
 ·rw[dr]at hx
  rcases bX.mp hx with hx | hx
  ·exact h.le x hx z (hz.imp id (fun q=>by rw[ed];exact cO _ q))
  ·rw[bq.mp hx]
   rcases hz with q | q
   ·exact pP z q
   ·obtain⟨j,hj,ej⟩:=gj q
    exact oE sb (by omega) ej vQ
theorem Ow {o a:Array Keyed}{n k:Nat}{y:Keyed} (hk:k+1<=n) (hn:n<=a.size) (hy:a[n - k - 1]? = some y):o ++ (a.extract (n - (k+1)) n).reverse=(o ++ (a.extract (n - k) n).reverse).push y:=by
 apply EE.mp
 rw[dr,dw,dw,nv,nv,gB,gB,aZ]
 congr 1
 simp only[rj]
 have e:a.toList.drop (n - (k+1))=y :: a.toList.drop (n - k):=by
  have:=Hb (l:=a.toList) (i:=n - (k+1)) (y:=y) (by rw[<- dG];exact hy)
  rw[this,show n - (k+1)+1=n - k by omega]
 rw[e,show n - (n - (k+1))=(n - (n - k))+1 by omega,List.take_succ_cons,CQ]
theorem MH.yS (h:MH a b o na nb) (sa:gq a.toList):∀ k,k<=na->(∀ j x,na - k<=j->j < na->a[j]? = some x->∀ z∈b.toList.take nb,kv z<=kv x)->MH a b (o ++ (a.extract (na - k) na).reverse) (na - k) nb
 | 0,_,_=>by
  have:o ++ (a.extract (na - 0) na).reverse=o:=by rw[wq,ju (by omega)];simp
  rw[this]
  exact h
 | k+1,hk,pP=>by
  have hl:=h.la
  have e:a[na - k - 1]? = some a[na - k - 1]:=getElem?_pos a _ (by omega)
  rw[Ow hk h.la e]
  exact(MH.yS h sa k (by omega) fun j x h1 h2=>pP j x (by omega) h2).iU sa (by omega) e (pP _ _ (by omega) (by omega) e)
theorem MH.qD (h:MH a b o na nb) (sb:gq b.toList):∀ k,k<=nb->(∀ j x,nb - k<=j->j < nb->b[j]? = some x->∀ z∈a.toList.take na,kv z<=kv x)->MH a b (o ++ (b.extract (nb - k) nb).reverse) na (nb - k)
 | 0,_,_=>by
  have:o ++ (b.extract (nb - 0) nb).reverse=o:=by rw[wq,ju (by omega)];simp
  rw[this]
  exact h
 | k+1,hk,pP=>by
  have hl:=h.lb
  have e:b[nb - k - 1]? = some b[nb - k - 1]:=getElem?_pos b _ (by omega)
  rw[Ow hk h.lb e]
  exact(MH.qD h sb k (by omega) fun j x h1 h2=>pP j x (by omega) h2).oi sb (by omega) e (pP _ _ (by omega) (by omega) e)
theorem t4 {y x:Keyed} (sa:gq a.toList) (hn:1<=na) (hx:a[na - 1]? = some x) (h:kv x<=kv y):∀ z∈a.toList.take na,kv z<=kv y:=fun z hz=>by
 obtain⟨j,hj,ej⟩:=gj hz
 exact iO (oE sa (by omega) ej (dG ▸ hx)) h
theorem uW {a:Array Keyed} (ha:IntKeys a) (sa:gq a.toList) {n:Nat} (hn:n<=a.size):Run a 0 n:=by
 have r:=vv ha sa 0
 exact⟨fun i hi=>r.at_ i (by omega),fun i j lF hj=>r.le i j lF (by omega)⟩
end TS
namespace TS
open PySem PyProof.Rows
inductive Yt {γ : Type} (a b:Array Keyed) (n:Nat):(Option (Array Keyed) × Nat × Nat × Array Keyed × γ)->Prop
 | go (na nb:Nat) (o:Array Keyed) (z : γ) (M:MH a b o na nb) (h1:1<=na) (h2:2<=nb) (h3:n+na+nb<=a.size+b.size):Yt a b n (none,na,nb,o,z)
 | end_ (r:Array Keyed) (na nb:Nat) (o:Array Keyed) (z : γ) (h:BP a b r):Yt a b n (some r,na,nb,o,z)
section
variable {prog:Program}{w:World}{A:Around}{E:Value->Shared->Prop}{s:Shared}
def VL:Array Keyed->Array Keyed->StateT SortSt Sem (Array Keyed):=sortPriv% PySem.Builtin.mergeHi
theorem Mw {st:SortSt}{a b:Array Keyed}{Q:Array Keyed->SortSt->Prop} (hk:kindOf st=oneType') (ka:IntKeys a) (kb:IntKeys b) (sa:gq a.toList) (sb:gq b.toList) (pa:0 < a.size) (pb:0 < b.size)
  (h1:∀ y,b[0]? = some y->∀ z∈a.toList,kv y<=kv z) (la:∀ y∈b.toList,∀ z,a.toList[a.size - 1]? = some z->kv y<=kv z) (h:∀ m aF,SG st aF->BP a b m->Q m aF):wpS (model prog w) A E s (VL a b) Q st:=by
 have e0:a[a.size - 1]? = some a[a.size - 1]:=getElem?_pos a (a.size - 1) (by omega)
 have M0:MH a b #[a[a.size - 1]] (a.size - 1) b.size:=MH.iU (o := #[]) (na:=a.size) (nb:=b.size) ⟨aA _,aA _,by
  rw[fH (by rw[a8];exact aA _),fH (by rw[a8];exact aA _)]
  simp,uH,fun x hx=>by cases hx⟩ sa (by omega) e0 (fun z hz=>la z (gy hz) _ (dG ▸ e0))
 have s0:SG st st:=⟨rfl,rfl,rfl,rfl⟩
 refine wpS_bind (wpS_lift (wpAny_rule ⟨rfl,?_⟩))
 refine wpS_bind (bM e0 ?_)
 dsimp only
 by_cases c1:(a.size - 1 == 0)=true
 ·rw[if_pos c1]
  exact wpS_pure (h _ _ s0 (M0.done sa sb (.inl (beq_iff_eq.mp c1))))
 rw[if_neg c1]
 have c1':a.size - 1≠0:=fun z=>c1 (beq_iff_eq.mpr z)
 by_cases c2:(b.size == 1)=true
 ·rw[if_pos c2]
  exact wpS_pure (h _ _ s0 (M0.first sa sb (beq_iff_eq.mp c2) h1))
 rw[if_neg c2]
 have c2':b.size≠1:=fun z=>c2 (beq_iff_eq.mpr z)
 refine wpS_bind (wpS_get ?_)
 refine wpS_bind (wpS_mono (wpS_forRange (I:=fun x c aF=>SG st aF∧∃ na nb o z,c=(none,na,nb,o,z)∧MH a b o na nb∧1<=na∧2<=nb∧x+na+nb<=a.size+b.size)
  (Q:=fun c aF=>SG st aF∧∃ r na nb o z,c=(some r,na,nb,o,z)∧BP a b r) (fun x c qr _ hx => ?_) (fun c qr => ?_) ⟨s0,_,_,_,_,rfl,M0,by omega,by omega,by omega⟩) (fun c qr => ?_))
 ·rintro⟨yi,na,nb,o,mg,rfl,M,b1,b2,b3⟩
  dsimp only
  refine wpS_bind (wpS_mono (wpS_forRange (I:=fun x' c aF=>SG st aF∧∃ na nb o z,c=(none,na,nb,o,z)∧MH a b o na nb∧1<=na∧2<=nb∧x+x'+na+nb<=a.size+b.size)
   (Q:=fun c aF=>SG st aF∧Yt a b (x+1) c) (fun x' c dS _ zW => ?_) (fun c dS => ?_) ⟨yi,_,_,_,_,rfl,M,b1,b2,by omega⟩) (fun c dS => ?_))
  ·rintro⟨hs,na,nb,o,z,rfl,M,b1,b2,b3⟩
   obtain⟨ac,bc⟩:=z
   dsimp only
   have la':=M.la
   have lb':=M.lb
   obtain⟨y,eb⟩:∃ y,b[nb - 1]? = some y:=⟨_,getElem?_pos b (nb - 1) (by omega)⟩
   obtain⟨v,ea⟩:∃ v,a[na - 1]? = some v:=⟨_,getElem?_pos a (na - 1) (by omega)⟩
   obtain⟨ty,ey⟩:=gM kb eb
   obtain⟨tv,ev⟩:=gM ka ea
   refine wpS_bind (bM eb (wpS_bind (bM ea (wpS_bind (EG (hs.kind.trans hk) ey ev ?_)))))
   dsimp only
   by_cases eS:kv y < kv v
   ·rw[decide_eq_true eS,if_pos rfl]
    have M2:=M.iU sa (by omega) ea (t4 sb (by omega) eb (by omega))
    refine wpS_bind (bM ea ?_)
    try dsimp only
    by_cases cb:(na - 1 == 0)=true
    ·rw[if_pos cb]
     exact wpS_pure ⟨hs,.end_ _ _ _ _ _ (M2.done sa sb (.inl (beq_iff_eq.mp cb)))⟩
    ·rw[if_neg cb]
     have BG:na - 1≠0:=fun z=>cb (beq_iff_eq.mpr z)
     split
     ·exact wpS_pure ⟨hs,.go _ _ _ _ M2 (by omega) (by omega) (by omega)⟩
     ·exact wpS_pure ⟨hs,_,_,_,_,rfl,M2,by omega,by omega,by omega⟩
   ·rw[decide_eq_false eS,if_neg (by decide)]
    have M2:=M.oi sb (by omega) eb (t4 sa (by omega) ea (by omega))
    refine wpS_bind (bM eb ?_)
    try dsimp only
    by_cases cb:(nb - 1 == 1)=true
    ·rw[if_pos cb]
     exact wpS_pure ⟨hs,.end_ _ _ _ _ _ (M2.first sa sb (beq_iff_eq.mp cb) h1)⟩
    ·rw[if_neg cb]
     have BG:nb - 1≠1:=fun z=>cb (beq_iff_eq.mpr z)
     split
     ·exact wpS_pure ⟨hs,.go _ _ _ _ M2 (by omega) (by omega) (by omega)⟩
     ·exact wpS_pure ⟨hs,_,_,_,_,rfl,M2,by omega,by omega,by omega⟩
  ·rintro⟨hs,na,nb,o,z,rfl,M,b1,b2,b3⟩
   omega
  ·rintro⟨hs,hc⟩
   cases hc with
   | end_ r na nb o z hm =>
    dsimp only
    exact wpS_pure ⟨hs,r,_,_,_,_,rfl,hm⟩
   | go na nb o z M b1 b2 b3 =>
    dsimp only
    refine wpS_bind (wpS_lift (wpAny_rule ⟨rfl,?_⟩))
    refine wpS_bind (wpS_mono (wpS_forRange (I:=fun x' c aF=>SG st aF∧∃ na nb o z,c=(none,na,nb,o,z)∧MH a b o na nb∧1<=na∧2<=nb∧x+1+na+nb<=a.size+b.size)
     (Q:=fun c aF=>SG st aF∧Yt a b (x+1) c) (fun x' c dS _ zW => ?_) (fun c dS => ?_) ⟨hs,_,_,_,_,rfl,M,b1,b2,b3⟩) (fun c dS => ?_))
    ·rintro⟨hs,na,nb,o,z,rfl,M,b1,b2,b3⟩
     obtain⟨mg,ac,bc⟩:=z
     dsimp only
     by_cases Fq:mg > 1
     ·rw[if_pos Fq]
      refine wpS_bind (rS ?_)
      have cI:SG st (fV (kindOf dS) (arrOf dS) (pendingOf dS) (mg - 1) (failedOf dS)):=⟨hs.kind,hs.arr,hs.pend,hs.fail⟩
      have uB:kindOf (fV (kindOf dS) (arrOf dS) (pendingOf dS) (mg - 1) (failedOf dS))=oneType':=cI.kind.trans hk
      have la':=M.la
      have lb':=M.lb
      obtain⟨y,eb⟩:∃ y,b[nb - 1]? = some y:=⟨_,getElem?_pos b (nb - 1) (by omega)⟩
      obtain⟨ty,ey⟩:=gM kb eb
      refine wpS_bind (bM eb (wpS_bind (fP uB ey (uW ka sa (n:=na) (by omega)) (by omega) fun m l1 lo1 uC => ?_)))
      dsimp only
      have QA:∀ j z,m<=j->j < na->a[j]? = some z->∀ v∈b.toList.take nb,kv v<=kv z:=fun j z hj Bt ez=>t4 sb (by omega) eb (by
       have:=of_decide_eq_true (lY (show (!decide (kv y < aj a (0+j)))=false from uC j hj Bt))
       rw[eO,fE ez]at this
       omega)
      have BO:∀ v∈a.toList.take m,kv v<=kv y:=fun v hv=>by
       obtain⟨j,hj,ej⟩:=gj hv
       have:=of_decide_eq_false (lX (show (!decide (kv y < aj a (0+j)))=true from lo1 j hj))
       rw[eO,fE (show a[j]? = some v by rw[dG];exact ej)]at this
       omega
      by_cases yk:na - m > 0
      ·rw[if_pos yk]
       have MA:=M.yS sa (na - m) (by omega) (fun j z q1 q2=>QA j z (by omega) q2)
       rw[show na - (na - m)=m by omega]at MA
       by_cases ca:(m == 0)=true
       ·rw[if_pos ca]
        exact wpS_pure ⟨cI,.end_ _ _ _ _ _ (MA.done sa sb (.inl (beq_iff_eq.mp ca)))⟩
       ·rw[if_neg ca]
        have ca':m≠0:=fun z=>ca (beq_iff_eq.mpr z)
        refine wpS_bind (bM eb ?_)
        try dsimp only
        have M2:=MA.oi sb (by omega) eb BO
        by_cases cb:(nb - 1 == 1)=true
        ·rw[if_pos cb]
         exact wpS_pure ⟨cI,.end_ _ _ _ _ _ (M2.first sa sb (beq_iff_eq.mp cb) h1)⟩
        ·rw[if_neg cb]
         have BG:nb - 1≠1:=fun z=>cb (beq_iff_eq.mpr z)
         obtain⟨x,ea⟩:∃ x,a[m - 1]? = some x:=⟨_,getElem?_pos a (m - 1) (by omega)⟩
         obtain⟨tx,ex⟩:=gM ka ea
         refine wpS_bind (bM ea (wpS_bind (fP uB ex (uW kb sb (n:=nb - 1) (by omega)) (by omega) fun m2 l2 tZ qM => ?_)))
         dsimp only
         have QB:∀ j z,m2<=j->j < nb - 1->b[j]? = some z->∀ v∈a.toList.take m,kv v<=kv z:=fun j z hj Bt ez=>t4 sa (by omega) ea (by
          have:=of_decide_eq_false (show decide (aj b (0+j) < kv x)=false from qM j hj Bt)
          rw[eO,fE ez]at this
          omega)
         have QR:∀ v∈b.toList.take m2,kv v<=kv x:=fun v hv=>by
          obtain⟨j,hj,ej⟩:=gj hv
          have:=of_decide_eq_true (show decide (aj b (0+j) < kv x)=true from tZ j hj)
          rw[eO,fE (show b[j]? = some v by rw[dG];exact ej)]at this
          omega
         by_cases ck:nb - 1 - m2 > 0
         ·rw[if_pos ck]
          have MB:=M2.qD sb (nb - 1 - m2) (by omega) (fun j z q1 q2=>QB j z (by omega) q2)
          rw[show nb - 1 - (nb - 1 - m2)=m2 by omega]at MB
          by_cases iG:(m2 == 1)=true
          ·rw[if_pos iG]
           exact wpS_pure ⟨cI,.end_ _ _ _ _ _ (MB.first sa sb (beq_iff_eq.mp iG) h1)⟩
          ·rw[if_neg iG]
           have Eg:m2≠1:=fun z=>iG (beq_iff_eq.mpr z)
           by_cases qT:(m2 == 0)=true
           ·rw[if_pos qT]
            exact wpS_pure ⟨cI,.end_ _ _ _ _ _ (MB.done sa sb (.inr (beq_iff_eq.mp qT)))⟩
           ·rw[if_neg qT]
            have Wn:m2≠0:=fun z=>qT (beq_iff_eq.mpr z)
            refine wpS_bind (bM ea ?_)
            try dsimp only
            have M3:=MB.iU sa (by omega) ea QR
            by_cases cl:(m - 1 == 0)=true
            ·rw[if_pos cl]
             exact wpS_pure ⟨cI,.end_ _ _ _ _ _ (M3.done sa sb (.inl (beq_iff_eq.mp cl)))⟩
            ·rw[if_neg cl]
             have wb:m - 1≠0:=fun z=>cl (beq_iff_eq.mpr z)
             split
             ·exact wpS_pure ⟨cI,.go _ _ _ _ M3 (by omega) (by omega) (by omega)⟩
             ·exact wpS_pure ⟨cI,_,_,_,_,rfl,M3,by omega,by omega,by omega⟩
         ·rw[if_neg ck]
          have k0:m2=nb - 1:=by omega
          subst k0
          have MB:=M2
          refine wpS_bind (bM ea ?_)
          try dsimp only
          have M3:=MB.iU sa (by omega) ea QR
          by_cases cl:(m - 1 == 0)=true
          ·rw[if_pos cl]
           exact wpS_pure ⟨cI,.end_ _ _ _ _ _ (M3.done sa sb (.inl (beq_iff_eq.mp cl)))⟩
          ·rw[if_neg cl]
           have wb:m - 1≠0:=fun z=>cl (beq_iff_eq.mpr z)
           split
           ·exact wpS_pure ⟨cI,.go _ _ _ _ M3 (by omega) (by omega) (by omega)⟩
           ·exact wpS_pure ⟨cI,_,_,_,_,rfl,M3,by omega,by omega,by omega⟩
      ·rw[if_neg yk]
       have k0:m=na:=by omega
       subst k0
       have MA:=M
       refine wpS_bind (bM eb ?_)
       try dsimp only
       have M2:=MA.oi sb (by omega) eb BO
       by_cases cb:(nb - 1 == 1)=true
       ·rw[if_pos cb]
        exact wpS_pure ⟨cI,.end_ _ _ _ _ _ (M2.first sa sb (beq_iff_eq.mp cb) h1)⟩
       ·rw[if_neg cb]
        have BG:nb - 1≠1:=fun z=>cb (beq_iff_eq.mpr z)
        obtain⟨x,ea⟩:∃ x,a[m - 1]? = some x:=⟨_,getElem?_pos a (m - 1) (by omega)⟩
        obtain⟨tx,ex⟩:=gM ka ea
        refine wpS_bind (bM ea (wpS_bind (fP uB ex (uW kb sb (n:=nb - 1) (by omega)) (by omega) fun m2 l2 tZ qM => ?_)))
        dsimp only
        have QB:∀ j z,m2<=j->j < nb - 1->b[j]? = some z->∀ v∈a.toList.take m,kv v<=kv z:=fun j z hj Bt ez=>t4 sa (by omega) ea (by
         have:=of_decide_eq_false (show decide (aj b (0+j) < kv x)=false from qM j hj Bt)
         rw[eO,fE ez]at this
         omega)
        have QR:∀ v∈b.toList.take m2,kv v<=kv x:=fun v hv=>by
         obtain⟨j,hj,ej⟩:=gj hv
         have:=of_decide_eq_true (show decide (aj b (0+j) < kv x)=true from tZ j hj)
         rw[eO,fE (show b[j]? = some v by rw[dG];exact ej)]at this
         omega
        by_cases ck:nb - 1 - m2 > 0
        ·rw[if_pos ck]
         have MB:=M2.qD sb (nb - 1 - m2) (by omega) (fun j z q1 q2=>QB j z (by omega) q2)
         rw[show nb - 1 - (nb - 1 - m2)=m2 by omega]at MB
         by_cases iG:(m2 == 1)=true
         ·rw[if_pos iG]
          exact wpS_pure ⟨cI,.end_ _ _ _ _ _ (MB.first sa sb (beq_iff_eq.mp iG) h1)⟩
         ·rw[if_neg iG]
          have Eg:m2≠1:=fun z=>iG (beq_iff_eq.mpr z)
          by_cases qT:(m2 == 0)=true
          ·rw[if_pos qT]
           exact wpS_pure ⟨cI,.end_ _ _ _ _ _ (MB.done sa sb (.inr (beq_iff_eq.mp qT)))⟩
          ·rw[if_neg qT]
           have Wn:m2≠0:=fun z=>qT (beq_iff_eq.mpr z)
           refine wpS_bind (bM ea ?_)
           try dsimp only
           have M3:=MB.iU sa (by omega) ea QR
           by_cases cl:(m - 1 == 0)=true
           ·rw[if_pos cl]
            exact wpS_pure ⟨cI,.end_ _ _ _ _ _ (M3.done sa sb (.inl (beq_iff_eq.mp cl)))⟩
           ·rw[if_neg cl]
            have wb:m - 1≠0:=fun z=>cl (beq_iff_eq.mpr z)
            split
            ·exact wpS_pure ⟨cI,.go _ _ _ _ M3 (by omega) (by omega) (by omega)⟩
            ·exact wpS_pure ⟨cI,_,_,_,_,rfl,M3,by omega,by omega,by omega⟩
        ·rw[if_neg ck]
         have k0:m2=nb - 1:=by omega
         subst k0
         have MB:=M2
         refine wpS_bind (bM ea ?_)
         try dsimp only
         have M3:=MB.iU sa (by omega) ea QR
         by_cases cl:(m - 1 == 0)=true
         ·rw[if_pos cl]
          exact wpS_pure ⟨cI,.end_ _ _ _ _ _ (M3.done sa sb (.inl (beq_iff_eq.mp cl)))⟩
         ·rw[if_neg cl]
          have wb:m - 1≠0:=fun z=>cl (beq_iff_eq.mpr z)
          split
          ·exact wpS_pure ⟨cI,.go _ _ _ _ M3 (by omega) (by omega) (by omega)⟩
          ·exact wpS_pure ⟨cI,_,_,_,_,rfl,M3,by omega,by omega,by omega⟩
     ·rw[if_neg Fq]
      refine wpS_bind (rS ?_)
      have cI:SG st (fV (kindOf dS) (arrOf dS) (pendingOf dS) mg (failedOf dS)):=⟨hs.kind,hs.arr,hs.pend,hs.fail⟩
      have uB:kindOf (fV (kindOf dS) (arrOf dS) (pendingOf dS) mg (failedOf dS))=oneType':=cI.kind.trans hk
      have la':=M.la
      have lb':=M.lb
      obtain⟨y,eb⟩:∃ y,b[nb - 1]? = some y:=⟨_,getElem?_pos b (nb - 1) (by omega)⟩
      obtain⟨ty,ey⟩:=gM kb eb
      refine wpS_bind (bM eb (wpS_bind (fP uB ey (uW ka sa (n:=na) (by omega)) (by omega) fun m l1 lo1 uC => ?_)))
      dsimp only
      have QA:∀ j z,m<=j->j < na->a[j]? = some z->∀ v∈b.toList.take nb,kv v<=kv z:=fun j z hj Bt ez=>t4 sb (by omega) eb (by
       have:=of_decide_eq_true (lY (show (!decide (kv y < aj a (0+j)))=false from uC j hj Bt))
       rw[eO,fE ez]at this
       omega)
      have BO:∀ v∈a.toList.take m,kv v<=kv y:=fun v hv=>by
       obtain⟨j,hj,ej⟩:=gj hv
       have:=of_decide_eq_false (lX (show (!decide (kv y < aj a (0+j)))=true from lo1 j hj))
       rw[eO,fE (show a[j]? = some v by rw[dG];exact ej)]at this
       omega
      by_cases yk:na - m > 0
      ·rw[if_pos yk]
       have MA:=M.yS sa (na - m) (by omega) (fun j z q1 q2=>QA j z (by omega) q2)
       rw[show na - (na - m)=m by omega]at MA
       by_cases ca:(m == 0)=true
       ·rw[if_pos ca]
        exact wpS_pure ⟨cI,.end_ _ _ _ _ _ (MA.done sa sb (.inl (beq_iff_eq.mp ca)))⟩
       ·rw[if_neg ca]
        have ca':m≠0:=fun z=>ca (beq_iff_eq.mpr z)
        refine wpS_bind (bM eb ?_)
        try dsimp only
        have M2:=MA.oi sb (by omega) eb BO
        by_cases cb:(nb - 1 == 1)=true
        ·rw[if_pos cb]
         exact wpS_pure ⟨cI,.end_ _ _ _ _ _ (M2.first sa sb (beq_iff_eq.mp cb) h1)⟩
        ·rw[if_neg cb]
         have BG:nb - 1≠1:=fun z=>cb (beq_iff_eq.mpr z)
         obtain⟨x,ea⟩:∃ x,a[m - 1]? = some x:=⟨_,getElem?_pos a (m - 1) (by omega)⟩
         obtain⟨tx,ex⟩:=gM ka ea
         refine wpS_bind (bM ea (wpS_bind (fP uB ex (uW kb sb (n:=nb - 1) (by omega)) (by omega) fun m2 l2 tZ qM => ?_)))
         dsimp only
         have QB:∀ j z,m2<=j->j < nb - 1->b[j]? = some z->∀ v∈a.toList.take m,kv v<=kv z:=fun j z hj Bt ez=>t4 sa (by omega) ea (by
          have:=of_decide_eq_false (show decide (aj b (0+j) < kv x)=false from qM j hj Bt)
          rw[eO,fE ez]at this
          omega)
         have QR:∀ v∈b.toList.take m2,kv v<=kv x:=fun v hv=>by
          obtain⟨j,hj,ej⟩:=gj hv
          have:=of_decide_eq_true (show decide (aj b (0+j) < kv x)=true from tZ j hj)
          rw[eO,fE (show b[j]? = some v by rw[dG];exact ej)]at this
          omega
         by_cases ck:nb - 1 - m2 > 0
         ·rw[if_pos ck]
          have MB:=M2.qD sb (nb - 1 - m2) (by omega) (fun j z q1 q2=>QB j z (by omega) q2)
          rw[show nb - 1 - (nb - 1 - m2)=m2 by omega]at MB
          by_cases iG:(m2 == 1)=true
          ·rw[if_pos iG]
           exact wpS_pure ⟨cI,.end_ _ _ _ _ _ (MB.first sa sb (beq_iff_eq.mp iG) h1)⟩
          ·rw[if_neg iG]
           have Eg:m2≠1:=fun z=>iG (beq_iff_eq.mpr z)
           by_cases qT:(m2 == 0)=true
           ·rw[if_pos qT]
            exact wpS_pure ⟨cI,.end_ _ _ _ _ _ (MB.done sa sb (.inr (beq_iff_eq.mp qT)))⟩
           ·rw[if_neg qT]
            have Wn:m2≠0:=fun z=>qT (beq_iff_eq.mpr z)
            refine wpS_bind (bM ea ?_)
            try dsimp only
            have M3:=MB.iU sa (by omega) ea QR
            by_cases cl:(m - 1 == 0)=true
            ·rw[if_pos cl]
             exact wpS_pure ⟨cI,.end_ _ _ _ _ _ (M3.done sa sb (.inl (beq_iff_eq.mp cl)))⟩
            ·rw[if_neg cl]
             have wb:m - 1≠0:=fun z=>cl (beq_iff_eq.mpr z)
             split
             ·exact wpS_pure ⟨cI,.go _ _ _ _ M3 (by omega) (by omega) (by omega)⟩
             ·exact wpS_pure ⟨cI,_,_,_,_,rfl,M3,by omega,by omega,by omega⟩
         ·rw[if_neg ck]
          have k0:m2=nb - 1:=by omega
          subst k0
          have MB:=M2
          refine wpS_bind (bM ea ?_)
          try dsimp only
          have M3:=MB.iU sa (by omega) ea QR
          by_cases cl:(m - 1 == 0)=true
          ·rw[if_pos cl]
           exact wpS_pure ⟨cI,.end_ _ _ _ _ _ (M3.done sa sb (.inl (beq_iff_eq.mp cl)))⟩
          ·rw[if_neg cl]
           have wb:m - 1≠0:=fun z=>cl (beq_iff_eq.mpr z)
           split
           ·exact wpS_pure ⟨cI,.go _ _ _ _ M3 (by omega) (by omega) (by omega)⟩
           ·exact wpS_pure ⟨cI,_,_,_,_,rfl,M3,by omega,by omega,by omega⟩
      ·rw[if_neg yk]
       have k0:m=na:=by omega
       subst k0
       have MA:=M
       refine wpS_bind (bM eb ?_)
       try dsimp only
       have M2:=MA.oi sb (by omega) eb BO
       by_cases cb:(nb - 1 == 1)=true
       ·rw[if_pos cb]
        exact wpS_pure ⟨cI,.end_ _ _ _ _ _ (M2.first sa sb (beq_iff_eq.mp cb) h1)⟩
       ·rw[if_neg cb]
        have BG:nb - 1≠1:=fun z=>cb (beq_iff_eq.mpr z)
        obtain⟨x,ea⟩:∃ x,a[m - 1]? = some x:=⟨_,getElem?_pos a (m - 1) (by omega)⟩
        obtain⟨tx,ex⟩:=gM ka ea
        refine wpS_bind (bM ea (wpS_bind (fP uB ex (uW kb sb (n:=nb - 1) (by omega)) (by omega) fun m2 l2 tZ qM => ?_)))
        dsimp only
        have QB:∀ j z,m2<=j->j < nb - 1->b[j]? = some z->∀ v∈a.toList.take m,kv v<=kv z:=fun j z hj Bt ez=>t4 sa (by omega) ea (by
         have:=of_decide_eq_false (show decide (aj b (0+j) < kv x)=false from qM j hj Bt)
         rw[eO,fE ez]at this
         omega)
        have QR:∀ v∈b.toList.take m2,kv v<=kv x:=fun v hv=>by
         obtain⟨j,hj,ej⟩:=gj hv
         have:=of_decide_eq_true (show decide (aj b (0+j) < kv x)=true from tZ j hj)
         rw[eO,fE (show b[j]? = some v by rw[dG];exact ej)]at this
         omega
        by_cases ck:nb - 1 - m2 > 0
        ·rw[if_pos ck]
         have MB:=M2.qD sb (nb - 1 - m2) (by omega) (fun j z q1 q2=>QB j z (by omega) q2)
         rw[show nb - 1 - (nb - 1 - m2)=m2 by omega]at MB
         by_cases iG:(m2 == 1)=true
         ·rw[if_pos iG]
          exact wpS_pure ⟨cI,.end_ _ _ _ _ _ (MB.first sa sb (beq_iff_eq.mp iG) h1)⟩
         ·rw[if_neg iG]
          have Eg:m2≠1:=fun z=>iG (beq_iff_eq.mpr z)
          by_cases qT:(m2 == 0)=true
          ·rw[if_pos qT]
           exact wpS_pure ⟨cI,.end_ _ _ _ _ _ (MB.done sa sb (.inr (beq_iff_eq.mp qT)))⟩
          ·rw[if_neg qT]
           have Wn:m2≠0:=fun z=>qT (beq_iff_eq.mpr z)
           refine wpS_bind (bM ea ?_)
           try dsimp only
           have M3:=MB.iU sa (by omega) ea QR
           by_cases cl:(m - 1 == 0)=true
           ·rw[if_pos cl]
            exact wpS_pure ⟨cI,.end_ _ _ _ _ _ (M3.done sa sb (.inl (beq_iff_eq.mp cl)))⟩
           ·rw[if_neg cl]
            have wb:m - 1≠0:=fun z=>cl (beq_iff_eq.mpr z)
            split
            ·exact wpS_pure ⟨cI,.go _ _ _ _ M3 (by omega) (by omega) (by omega)⟩
            ·exact wpS_pure ⟨cI,_,_,_,_,rfl,M3,by omega,by omega,by omega⟩
        ·rw[if_neg ck]
         have k0:m2=nb - 1:=by omega
         subst k0
         have MB:=M2
         refine wpS_bind (bM ea ?_)
         try dsimp only
         have M3:=MB.iU sa (by omega) ea QR
         by_cases cl:(m - 1 == 0)=true
         ·rw[if_pos cl]
          exact wpS_pure ⟨cI,.end_ _ _ _ _ _ (M3.done sa sb (.inl (beq_iff_eq.mp cl)))⟩
         ·rw[if_neg cl]
          have wb:m - 1≠0:=fun z=>cl (beq_iff_eq.mpr z)
          split
          ·exact wpS_pure ⟨cI,.go _ _ _ _ M3 (by omega) (by omega) (by omega)⟩
          ·exact wpS_pure ⟨cI,_,_,_,_,rfl,M3,by omega,by omega,by omega⟩
    ·rintro⟨hs,na,nb,o,z,rfl,M,b1,b2,b3⟩
     exact⟨hs,.go _ _ _ _ M b1 b2 b3⟩
    ·rintro⟨hs,hc⟩
     cases hc with
     | end_ r na nb o z hm =>
      dsimp only
      exact wpS_pure ⟨hs,r,_,_,_,_,rfl,hm⟩
     | go na nb o z M b1 b2 b3 =>
      obtain⟨mg,ac,bc⟩:=z
      dsimp only
      refine wpS_bind (rS (wpS_pure ⟨⟨hs.kind,hs.arr,hs.pend,hs.fail⟩,_,_,_,_,rfl,M,b1,b2,b3⟩))
 ·rintro⟨hs,na,nb,o,z,rfl,M,b1,b2,b3⟩
  omega
 ·rintro⟨hs,r,na,nb,o,z,rfl,hm⟩
  exact wpS_pure (h r _ hs hm)
end
theorem seg_at {arr:Array Keyed}{P X S:List Keyed} (h:arr.toList=P ++ (X ++ S)) {i:Nat} (hi:i < X.length):arr[P.length+i]? = X[i]? := by
 rw[dG,h,dk (by omega),ky,eZ hi]
theorem Nz {arr:Array Keyed}{P X S:List Keyed} (ha:IntKeys arr) (h:arr.toList=P ++ (X ++ S)) (sx:gq X):Run arr P.length X.length:=by
 refine⟨fun i hi => ?_,fun i j lF hj => ?_⟩
 ·have e:arr[P.length+i]? = some X[i]:=by rw[seg_at h hi,ah hi]
  obtain⟨t,ht⟩:=gM ha e
  exact⟨_,t,e,by rw[fE e];exact ht⟩
 ·have e1:arr[P.length+i]? = some X[i]:=by rw[seg_at h (by omega),ah (by omega)]
  have e2:arr[P.length+j]? = some X[j]:=by rw[seg_at h hj,ah hj]
  rw[fE e1,fE e2]
  exact oE sx lF (ah (by omega)) (ah hj)
theorem Ov {arr:Array Keyed}{P X S:List Keyed} (h:arr.toList=P ++ (X ++ S)):(arr.extract P.length (P.length+X.length)).toList=X:=by
 rw[gB]
 simp only[rj]
 rw[h,List.drop_left,ky,List.take_left]
theorem LW {sa:Nat}:∀ (l:List Keyed) (Ky:Nat) (arr:Array Keyed) (P X S:List Keyed),arr.toList=P ++ (X ++ S)->X.length=l.length->P.length=sa+Ky ->
  ((l.zipIdx Ky).foldl (fun a q=>a.setIfInBounds (sa+q.2) q.1) arr).toList=P ++ (l ++ S)
 | [],Ky,arr,P,X,S,h,hx,hp=>by
  have:X = []:=iW.mp hx
  subst this
  exact h
 | p :: l,Ky,arr,P,X,S,h,hx,hp=>by
  cases X with
  | nil=>cases hx
  | cons x X =>
   rw[List.zipIdx_cons,Gi]
   have e:(arr.setIfInBounds (sa+Ky) p).toList=(P ++ [p]) ++ (X ++ S):=by
    rw[uA,h, <- hp,List.set_append_right _ _ (aA _),wu]
    simp
   have:=LW l (Ky+1) (arr.setIfInBounds (sa+Ky) p) (P ++ [p]) X S e (by simpa using hx) (by rw[aG,hp];rfl)
   rw[this]
   simp
theorem HG {l m:List Keyed} (h:gq (l ++ m)):∀ x∈l,∀ y∈m,kv x<=kv y:=(zK.mp h).2.2
theorem KZ {arr x:Array Keyed} (ha:IntKeys arr) (h:∀ p∈x.toList,p∈arr.toList):IntKeys x:=fun p hp=>ha p (h p hp)
section
variable {prog:Program}{w:World}{A:Around}{E:Value->Shared->Prop}{s:Shared}
theorem Yz {M:Model}{σ : Type}{st aF : σ}{Q:PUnit -> σ -> Prop} (h:Q ⟨⟩ aF):wpS M A E s (set aF:StateT σ Sem PUnit) Q st:=by
 unfold wpS;rw[StateT.run_set];exact wpAny_pure ⟨rfl,h⟩
structure SP (st aF:SortSt):Prop where
 kind:kindOf aF=kindOf st
 fail:failedOf aF=failedOf st
theorem Mx {st:SortSt}{i pw pw2:Nat}{P X Y S:List Keyed}{Q:Bool->SortSt->Prop} (hk:kindOf st=oneType') (hf:failedOf st=none) (ka:IntKeys (arrOf st)) (ha:(arrOf st).toList=P ++ (X ++ (Y ++ S))) (sx:gq X) (sy:gq Y) (px:0 < X.length) (py:0 < Y.length)
  (hi:(pendingOf st)[i]? = some (P.length,X.length,pw)) (hj:(pendingOf st)[i+1]? = some (P.length+X.length,Y.length,pw2))
  (h:∀ aF M,SP st aF->(arrOf aF).toList=P ++ (M ++ S)->M.Perm (X ++ Y)->gq M->pendingOf aF=((pendingOf st).setIfInBounds i (P.length,X.length+Y.length,pw)).eraseIdxIfInBounds (i+1)->Q true aF) :
  wpS (model prog w) A E s (mergeAt' i) Q st:=by
 refine wpS_bind (wpS_get ?_)
 rw[show (sortPriv% PySem.Builtin.SortState.pending) st=pendingOf st from rfl,hi,hj]
 dsimp only
 refine wpS_bind (Yz ?_)
 have yi:SP st (fV (kindOf st) (arrOf st) (((pendingOf st).setIfInBounds i (P.length,X.length+Y.length,pw)).eraseIdxIfInBounds (i+1)) (gallopOf st) (failedOf st)):=⟨rfl,rfl⟩
 have S6:kindOf (fV (kindOf st) (arrOf st) (((pendingOf st).setIfInBounds i (P.length,X.length+Y.length,pw)).eraseIdxIfInBounds (i+1)) (gallopOf st) (failedOf st))=oneType':=hk
 have XG:(arrOf st).toList=(P ++ X) ++ (Y ++ S):=by rw[ha,aZ]
 have Xe:(P ++ X).length=P.length+X.length:=aG
 have e0:(arrOf st)[P.length+X.length]? = some Y[0]:=by
  have:=seg_at XG (i:=0) py
  rw[Xe,rf,ah py]at this
  exact this
 obtain⟨ty,ey⟩:=gM ka e0
 refine wpS_bind (bM e0 (wpS_bind (fP S6 ey (Nz ka ha sx) px fun k l1 lo1 uC => ?_)))
 dsimp only
 have KX:∀ j (hj:j < X.length),aj (arrOf st) (P.length+j)=kv X[j]:=fun j hj=>fE (by rw[seg_at ha hj,ah hj])
 have KY:∀ j (hj:j < Y.length),aj (arrOf st) (P.length+X.length+j)=kv Y[j]:=fun j hj=>fE (by
  have:=seg_at XG hj
  rw[Xe,ah hj]at this
  exact this)
 have xlo:∀ x∈X.take k,kv x<=kv Y[0]:=fun x hx=>by
  obtain⟨j,hj,ej⟩:=gj hx
  obtain⟨hl,e⟩:=ai.mp ej
  have:=of_decide_eq_false (lX (show (!decide (kv Y[0] < aj (arrOf st) (P.length+j)))=true from lo1 j hj))
  rw[KX j hl,e]at this
  omega
 have xhi:∀ x∈X.drop k,kv Y[0]<=kv x:=fun x hx=>by
  obtain⟨j,hj,ej⟩:=gk hx
  obtain⟨hl,e⟩:=ai.mp ej
  have:=of_decide_eq_true (lY (show (!decide (kv Y[0] < aj (arrOf st) (P.length+j)))=false from uC j hj hl))
  rw[KX j hl,e]at this
  omega
 have y0:∀ y∈Y,kv Y[0]<=kv y:=fun y hy=>by
  obtain⟨j,ej⟩:=jX hy
  exact oE sy (bD _) (ah py) ej
 have plain:(∀ x∈X,∀ y∈Y,kv x<=kv y)->Q true (fV (kindOf st) (arrOf st) (((pendingOf st).setIfInBounds i (P.length,X.length+Y.length,pw)).eraseIdxIfInBounds (i+1)) (gallopOf st) (failedOf st)):=fun c =>
  h _ (X ++ Y) yi (by rw[aZ];exact ha) (tF _) (lU sx sy c) rfl
 by_cases c1:(X.length - k == 0)=true
 ·rw[if_pos c1]
  have kx:X.length<=k:=by have:=beq_iff_eq.mp c1;omega
  refine wpS_pure (plain fun x hx y hy=>iO (xlo x ?_) (y0 y hy))
  rw[fH kx]
  exact hx
 rw[if_neg c1]
 have c1':X.length - k≠0:=fun z=>c1 (beq_iff_eq.mpr z)
 have Xp:X.length - 1 < X.length:=by omega
 have el:(arrOf st)[P.length+k+(X.length - k) - 1]? = some X[X.length - 1]:=by
  rw[show P.length+k+(X.length - k) - 1=P.length+(X.length - 1) by omega,seg_at ha Xp,ah Xp]
 obtain⟨tx,ex⟩:=gM ka el
 have rY:Run (arrOf st) (P.length+X.length) Y.length:=by
  have:=Nz ka XG sy
  rw[Xe]at this
  exact this
 refine wpS_bind (bM el (wpS_bind (fP S6 ex rY (by omega) fun n l2 tZ qM => ?_)))
 dsimp only
 have ylo:∀ y∈Y.take n,kv y<=kv X[X.length - 1]:=fun y hy=>by
  obtain⟨j,hj,ej⟩:=gj hy
  obtain⟨hl,e⟩:=ai.mp ej
  have:=of_decide_eq_true (show decide (aj (arrOf st) (P.length+X.length+j) < kv X[X.length - 1])=true from tZ j hj)
  rw[KY j hl,e]at this
  omega
 have yhi:∀ y∈Y.drop n,kv X[X.length - 1]<=kv y:=fun y hy=>by
  obtain⟨j,hj,ej⟩:=gk hy
  obtain⟨hl,e⟩:=ai.mp ej
  have:=of_decide_eq_false (show decide (aj (arrOf st) (P.length+X.length+j) < kv X[X.length - 1])=false from qM j hj hl)
  rw[KY j hl,e]at this
  omega
 have xl:∀ x∈X,kv x<=kv X[X.length - 1]:=fun x hx=>by
  obtain⟨j,ej⟩:=jX hx
  have hl:=(ai.mp ej).1
  exact oE sx (by omega) ej (ah Xp)
 by_cases c2:(n == 0)=true
 ·rw[if_pos c2]
  have n0:=beq_iff_eq.mp c2
  subst n0
  exact wpS_pure (plain fun x hx y hy=>iO (xl x hx) (yhi y hy))
 rw[if_neg c2]
 have c2':n≠0:=fun z=>c2 (beq_iff_eq.mpr z)
 have ltk:(X.take k).length=k:=by rw[bO];omega
 have ha3:(arrOf st).toList=(P ++ X.take k) ++ (X.drop k ++ (Y ++ S)):=by
  rw[ha,aZ, <- aZ (X.take k),dv]
 have ha4:(arrOf st).toList=(P ++ X) ++ (Y.take n ++ (Y.drop n ++ S)):=by
  rw[XG, <- aZ (Y.take n),dv]
 have ltn:(Y.take n).length=n:=by rw[bO];omega
 have eA:((arrOf st).extract (P.length+k) (P.length+X.length)).toList=X.drop k:=by
  have:=Ov ha3
  rw[aG,ltk,ke,show P.length+k+(X.length - k)=P.length+X.length by omega]at this
  exact this
 have eB:((arrOf st).extract (P.length+X.length) (P.length+X.length+n)).toList=Y.take n:=by
  have:=Ov ha4
  rw[Xe,ltn]at this
  exact this
 generalize hA:(arrOf st).extract (P.length+k) (P.length+X.length)=a2 at eA
 generalize hB:(arrOf st).extract (P.length+X.length) (P.length+X.length+n)=b1 at eB
 have kA:IntKeys a2:=KZ ka fun p hp=>by rw[eA]at hp;rw[ha3];exact bg _ (cO _ hp)
 have kB:IntKeys b1:=KZ ka fun p hp=>by rw[eB]at hp;rw[ha4];exact bg _ (cO _ hp)
 have sA:gq a2.toList:=by rw[eA];exact rX sx _
 have sB:gq b1.toList:=by rw[eB];exact rW sy _
 have zA:a2.size=X.length - k:=by rw[<- a8,eA,ke]
 have zB:b1.size=n:=by rw[<- a8,eB,ltn]
 have q1:∀ y,b1[0]? = some y->∀ z∈a2.toList,kv y<=kv z:=fun y hy z hz=>by
  rw[dG,eB,kf (by omega),ah py]at hy
  cases hy
  rw[eA]at hz
  exact xhi z hz
 have q2:∀ y∈b1.toList,∀ z,a2.toList[a2.size - 1]? = some z->kv y<=kv z:=fun y hy z hz=>by
  rw[eB]at hy
  rw[eA,zA,ug,show k+(X.length - k - 1)=X.length - 1 by omega,ah Xp]at hz
  cases hz
  exact ylo y hy
 have gO:∀ (m:Array Keyed) (dS:SortSt),SG (fV (kindOf st) (arrOf st) (((pendingOf st).setIfInBounds i (P.length,X.length+Y.length,pw)).eraseIdxIfInBounds (i+1)) (gallopOf st) (failedOf st)) dS->BP a2 b1 m ->
   Q (failedOf dS).isNone (fV (kindOf dS) (m.toList.zipIdx.foldl (fun a q=>a.setIfInBounds (P.length+k+q.2) q.1) (arrOf dS)) (pendingOf dS) (gallopOf dS) (failedOf dS)):=fun m dS g hm=>by
  have f2:failedOf dS=none:=g.fail.trans hf
  rw[f2]
  have ar:arrOf dS=arrOf st:=g.arr
  have W6:m.toList.Perm (X.drop k ++ Y.take n):=by have:=hm.pm;rw[eA,eB]at this;exact this
  have bk:=LW (sa:=P.length+k) m.toList 0 (arrOf dS) (P ++ X.take k) (X.drop k ++ Y.take n) (Y.drop n ++ S) (by
   rw[ar,ha3]
   congr 1
   rw[aZ, <- aZ (Y.take n),dv]) (W6.length_eq.symm) (by rw[aG,ltk];rfl)
  refine h _ (X.take k ++ (m.toList ++ Y.drop n)) ⟨g.kind,hf.symm⟩ ?_ ?_ ?_ g.pend
  ·show (m.toList.zipIdx.foldl (fun a q=>a.setIfInBounds (P.length+k+q.2) q.1) (arrOf dS)).toList=_
   rw[bk]
   simp only[aZ]
  ·refine oy (gf _ (lD _ W6)) (Gk ?_)
   rw[aZ (X.drop k),dv, <- aZ,dv]
  ·refine lU (rW sx k) (lU hm.so (rX sy n) fun x hx y hy => ?_) fun x hx y hy => ?_
   ·rcases bX.mp (W6.mem_iff.mp hx) with z | z
    ·exact iO (xl x (rh z)) (yhi y hy)
    ·have:=HG (l:=Y.take n) (m:=Y.drop n) (by rw[dv];exact sy)
     exact this x z y hy
   ·have yy:∀ v∈Y,kv x<=kv v:=fun v hv=>iO (xlo x hx) (y0 v hv)
    rcases bX.mp hy with z | z
    ·rcases bX.mp (W6.mem_iff.mp z) with q | q
     ·have:=HG (l:=X.take k) (m:=X.drop k) (by rw[dv];exact sx)
      exact this x hx y q
     ·exact yy y (gy q)
    ·exact yy y (rh z)
 by_cases c3:X.length - k<=n
 ·rw[if_pos c3]
  exact wpS_bind (Mv S6 kA kB sA sB (by omega) (by omega) q1 q2 fun m dS g hm=>wpS_bind (wpS_modify (wpS_bind (wpS_get (wpS_pure (gO m dS g hm))))))
 ·rw[if_neg c3]
  exact wpS_bind (Mw S6 kA kB sA sB (by omega) (by omega) q1 q2 fun m dS g hm=>wpS_bind (wpS_modify (wpS_bind (wpS_get (wpS_pure (gO m dS g hm))))))
end
def j9 (xs:Array Keyed) (lo n:Nat):Prop := ∀ i j,i<=j->j < n->aj xs (lo+i)<=aj xs (lo+j)
def m9 (xs:Array Keyed) (lo n:Nat):Prop := ∀ i j,i<=j->j < n->aj xs (lo+j)<=aj xs (lo+i)
theorem j9.snoc {xs:Array Keyed}{lo n:Nat} (h:j9 xs lo n) (h1:1<=n) (hl:aj xs (lo+(n - 1))<=aj xs (lo+n)):j9 xs lo (n+1):=fun i j lF hj=>by
 by_cases e:j < n
 ·exact h i j lF e
 ·have:j=n:=by omega
  subst this
  by_cases e2:i=j
  ·rw[e2];exact gP _
  ·exact iO (h i (j - 1) (by omega) (by omega)) hl
theorem m9.snoc {xs:Array Keyed}{lo n:Nat} (h:m9 xs lo n) (h1:1<=n) (hl:aj xs (lo+n)<=aj xs (lo+(n - 1))):m9 xs lo (n+1):=fun i j lF hj=>by
 by_cases e:j < n
 ·exact h i j lF e
 ·have:j=n:=by omega
  subst this
  by_cases e2:i=j
  ·rw[e2];exact gP _
  ·exact iO hl (h i (j - 1) (by omega) (by omega))
theorem m9.congr {xs ys:Array Keyed}{lo n:Nat} (h:m9 xs lo n) (e:∀ k,aj ys k=aj xs k):m9 ys lo n:=fun i j lF hj=>by rw[e,e];exact h i j lF hj
structure mK (st aF:SortSt) (lo hi:Nat):Prop where
 perm:(arrOf aF).Perm (arrOf st)
 out:∀ k,k < lo∨hi<=k->(arrOf aF)[k]? = (arrOf st)[k]?
 kind:kindOf aF=kindOf st
 fail:failedOf aF=failedOf st
 pend:pendingOf aF=pendingOf st
theorem mK.refl (st:SortSt) (lo hi:Nat):mK st st lo hi:=⟨Gy _,fun _ _=>rfl,rfl,rfl,rfl⟩
theorem mK.size {st aF:SortSt}{lo hi:Nat} (h:mK st aF lo hi):(arrOf aF).size=(arrOf st).size:=h.perm.size_eq
theorem mK.keys {st aF:SortSt}{lo hi:Nat} (h:mK st aF lo hi) (ka:IntKeys (arrOf st)):IntKeys (arrOf aF):=fun p hp=>ka p ((jL.mp h.perm).mem_iff.mp hp)
theorem mK.rev {st aF:SortSt}{lo hi i j:Nat} (h:mK st aF lo hi) (uC:lo<=i) (hj:j<=hi) (hz:hi<=(arrOf st).size):mK st (setArr aF (mirror (arrOf aF) i j ((j - i) / 2))) lo hi:=by
 refine⟨(mirror_perm _ _ _ _).trans h.perm,fun k hk => ?_,h.kind,h.fail,h.pend⟩
 show (mirror (arrOf aF) i j ((j - i) / 2))[k]? = _
 rw[getElem?_mirror_all (by rw[h.size];omega),if_neg (by omega)]
 exact h.out k hk
section
variable {prog:Program}{w:World}{A:Around}{E:Value->Shared->Prop}{s:Shared}
theorem wpS_ltK {st:SortSt}{i j:Nat}{Q:Option Bool->SortSt->Prop} (hk:kindOf st=oneType') (ka:IntKeys (arrOf st)) (hi:i < (arrOf st).size) (hj:j < (arrOf st).size)
  (h:Q (some (decide (aj (arrOf st) i < aj (arrOf st) j))) st):wpS (model prog w) A E s (ltAt' i j) Q st:=by
 have e1:(arrOf st)[i]? = some (arrOf st)[i]:=getElem?_pos _ i hi
 have e2:(arrOf st)[j]? = some (arrOf st)[j]:=getElem?_pos _ j hj
 obtain⟨t,p1⟩:=gM ka e1
 obtain⟨u,p2⟩:=gM ka e2
 rw[fE e1,fE e2]at h
 refine wpS_ltAt (t:=t) (u:=u) (p:=(arrOf st)[i].2) (q:=(arrOf st)[j].2) hk ?_ ?_ h
 ·rw[e1, <- p1]
 ·rw[e2, <- p2]
theorem Gz {st:SortSt}{lo dI:Nat}{Q:Option Nat->SortSt->Prop} (hk:kindOf st=oneType') (ka:IntKeys (arrOf st)) (hz:lo+dI<=(arrOf st).size) (h1:1<=dI)
  (h:∀ m aF,mK st aF lo (lo+dI)->1<=m->m<=dI->j9 (arrOf aF) lo m->Q (some m) aF):wpS (model prog w) A E s (countRun' lo dI) Q st:=by
 rw[countRun'_eq]
 refine wpS_bind (wpS_mono (wpS_forRange (I:=fun x c aF=>st=aF∧c=(none,x)∧j9 (arrOf st) lo x) (Q:=fun c aF=>st=aF∧∃ x,c=(none,x)∧1<=x∧x<=dI∧j9 (arrOf st) lo x∧(x=dI∨aj (arrOf st) (lo+x) < aj (arrOf st) (lo+x - 1))) (fun x c aF HX N6 => ?_) (fun c aF => ?_) ⟨rfl,rfl,fun i j lF hj=>by rw[show i=j by omega];exact gP _⟩) (fun c aF => ?_))
 ·rintro⟨rfl,rfl,so⟩
  dsimp only
  refine wpS_bind (wpS_ltK hk ka (by omega) (by omega) ?_)
  dsimp only
  by_cases hl:aj (arrOf st) (lo+x) < aj (arrOf st) (lo+x - 1)
  ·rw[decide_eq_true hl,if_pos rfl]
   exact wpS_pure ⟨rfl,x,rfl,HX,by omega,so,.inr hl⟩
  ·rw[decide_eq_false hl,if_neg (by decide)]
   exact wpS_pure ⟨rfl,rfl,so.snoc HX (by rw[show lo+(x - 1)=lo+x - 1 by omega];omega)⟩
 ·rintro⟨rfl,rfl,so⟩
  rw[show max 1 dI=dI by omega]at so
  exact⟨rfl,dI,by rw[show max 1 dI=dI by omega],h1,aA _,so,.inl rfl⟩
 ·rintro⟨rfl,n,rfl,n1,n2,so,or⟩
  dsimp only
  by_cases hn:(n == dI)=true
  ·rw[if_pos hn]
   exact wpS_pure (h n st (mK.refl _ _ _) n1 n2 so)
  rw[if_neg hn]
  have hn':n≠dI:=fun z=>hn (beq_iff_eq.mpr z)
  have eS:=or.resolve_left hn'
  by_cases hg:n > 1
  ·rw[if_pos hg]
   refine wpS_bind (wpS_ltK hk ka (by omega) (by omega) ?_)
   dsimp only
   by_cases hr:aj (arrOf st) lo < aj (arrOf st) (lo+n - 1)
   ·rw[decide_eq_true hr,if_pos rfl]
    exact wpS_pure (h n st (mK.refl _ _ _) n1 n2 so)
   ·rw[decide_eq_false hr,if_neg (by decide)]
    refine wpS_bind (wpS_reverse ?_)
    have all:∀ k,lo<=k->k < lo+n->aj (arrOf st) k=aj (arrOf st) (lo+n - 1):=fun k k1 k2=>by
     have a1:=so 0 (k - lo) (by omega) (by omega)
     have a2:=so (k - lo) (n - 1) (by omega) (by omega)
     rw[rf,show lo+(k - lo)=k by omega]at a1
     rw[show lo+(k - lo)=k by omega,show lo+(n - 1)=lo+n - 1 by omega]at a2
     omega
    have B3:=(mK.refl st lo (lo+dI)).rev (i:=lo) (j:=lo+n) (aA _) (by omega) hz
    have eK:∀ k,aj (mirror (arrOf st) lo (lo+n) ((lo+n - lo) / 2)) k=aj (arrOf st) k:=K_mirror_equal (by omega) all
    have Xa:m9 (arrOf (setArr st (mirror (arrOf st) lo (lo+n) ((lo+n - lo) / 2)))) lo (n+1):=m9.congr (xs:=arrOf st) (m9.snoc (fun i j lF hj=>by rw[all (lo+i) (by omega) (by omega),all (lo+j) (by omega) (by omega)];exact gP _) n1 (by rw[show lo+(n - 1)=lo+n - 1 by omega];omega)) eK
    generalize setArr st (mirror (arrOf st) lo (lo+n) ((lo+n - lo) / 2))=Ng at B3 Xa
    refine wpS_bind (wpS_lift (wpAny_rule ⟨rfl,?_⟩))
    refine wpS_bind (wpS_mono (wpS_forRange (I:=fun x c aF=>∃ hG,c=(none,x,hG)∧mK st aF lo (lo+dI)∧m9 (arrOf aF) lo x∧hG+1<=x∧(∀ i,x - (hG+1)<=i->i < x->aj (arrOf aF) (lo+i)=aj (arrOf aF) (lo+(x - 1))))
     (Q:=fun c aF=>∃ m hG,c=(none,m,hG)∧n+1<=m∧m<=dI∧mK st aF lo (lo+dI)∧m9 (arrOf aF) lo m∧hG+1<=m∧(∀ i,m - (hG+1)<=i->i < m->aj (arrOf aF) (lo+i)=aj (arrOf aF) (lo+(m - 1)))) (fun x c aF HX N6 => ?_) (fun c aF => ?_) ⟨0,rfl,B3,Xa,by omega,fun i q1 q2=>by rw[show i=n+1 - 1 by omega]⟩) (fun c aF => ?_))
    ·rintro⟨hG,rfl,B,ni,q,t9⟩
     dsimp only
     have sz:=B.size
     refine wpS_bind (wpS_ltK (B.kind.trans hk) (B.keys ka) (by omega) (by omega) ?_)
     dsimp only
     by_cases hl:aj (arrOf aF) (lo+x) < aj (arrOf aF) (lo+x - 1)
     ·rw[decide_eq_true hl,if_pos rfl]
      have qr:∀ xs:Array Keyed,(∀ k,aj xs k=aj (arrOf aF) k)->m9 xs lo (x+1):=fun xs e=>(ni.snoc (by omega) (by rw[show lo+(x - 1)=lo+x - 1 by omega];omega)).congr e
      by_cases hq:hG > 0
      ·rw[if_pos hq]
       refine wpS_bind (wpS_reverse (wpS_pure ⟨0,rfl,B.rev (by omega) (by omega) hz,qr _ (K_mirror_equal (by omega) fun k q1 q2 => ?_),by omega,fun i q1 q2=>by rw[show i=x+1 - 1 by omega]⟩))
       have:=t9 (k - lo) (by omega) (by omega)
       rw[show lo+(k - lo)=k by omega,show lo+(x - 1)=lo+x - 1 by omega]at this
       exact this
      ·rw[if_neg hq]
       exact wpS_pure ⟨0,rfl,B,qr _ (fun _=>rfl),by omega,fun i q1 q2=>by rw[show i=x+1 - 1 by omega]⟩
     ·rw[decide_eq_false hl,if_neg (by decide)]
      refine wpS_bind (wpS_ltK (B.kind.trans hk) (B.keys ka) (by omega) (by omega) ?_)
      dsimp only
      by_cases hg:aj (arrOf aF) (lo+x - 1) < aj (arrOf aF) (lo+x)
      ·rw[decide_eq_true hg,if_pos rfl]
       exact wpS_pure ⟨x,hG,rfl,by omega,by omega,B,ni,q,t9⟩
      ·rw[decide_eq_false hg,if_neg (by decide)]
       have ex:aj (arrOf aF) (lo+x)=aj (arrOf aF) (lo+(x - 1)):=by rw[show lo+(x - 1)=lo+x - 1 by omega];omega
       refine wpS_pure ⟨hG+1,rfl,B,ni.snoc (by omega) (by omega),by omega,fun i q1 q2 => ?_⟩
       rw[show x+1 - 1=x by omega]
       by_cases hix:i=x
       ·rw[hix]
       ·rw[ex];exact t9 i (by omega) (by omega)
    ·rintro⟨hG,rfl,B,ni,q,t9⟩
     rw[show max (n+1) dI=dI by omega]at ni q t9
     exact⟨dI,hG,by rw[show max (n+1) dI=dI by omega],by omega,aA _,B,ni,q,t9⟩
    ·rintro⟨m,hG,rfl,m1,m2,B,ni,q,t9⟩
     dsimp only
     have sz:=B.size
     by_cases hq:hG > 0
     ·rw[if_pos hq]
      refine wpS_bind (wpS_reverse ?_)
      have B4:=B.rev (i:=lo+m - (hG+1)) (j:=lo+m) (by omega) (by omega) hz
      have Bm:m9 (arrOf (setArr aF (mirror (arrOf aF) (lo+m - (hG+1)) (lo+m) ((lo+m - (lo+m - (hG+1))) / 2)))) lo m:=ni.congr (K_mirror_equal (by omega) fun k q1 q2=>by
       have:=t9 (k - lo) (by omega) (by omega)
       rw[show lo+(k - lo)=k by omega,show lo+(m - 1)=lo+m - 1 by omega]at this
       exact this)
      generalize setArr aF (mirror (arrOf aF) (lo+m - (hG+1)) (lo+m) ((lo+m - (lo+m - (hG+1))) / 2))=lS at B4 Bm
      refine wpS_bind (wpS_reverse ?_)
      have B5:=B4.rev (i:=lo) (j:=lo+m) (aA _) (by omega) hz
      have Az:j9 (arrOf (setArr lS (mirror (arrOf lS) lo (lo+m) ((lo+m - lo) / 2)))) lo m:=fun i j lF hj=>by
       show aj (mirror (arrOf lS) lo (lo+m) ((lo+m - lo) / 2)) (lo+i)<=aj (mirror (arrOf lS) lo (lo+m) ((lo+m - lo) / 2)) (lo+j)
       rw[K_mirror (by rw[B4.size];omega),K_mirror (by rw[B4.size];omega),if_pos (by omega),if_pos (by omega),show lo+(lo+m) - 1 - (lo+i)=lo+(m - 1 - i) by omega,show lo+(lo+m) - 1 - (lo+j)=lo+(m - 1 - j) by omega]
       exact Bm _ _ (by omega) (by omega)
      generalize setArr lS (mirror (arrOf lS) lo (lo+m) ((lo+m - lo) / 2))=gK at B5 Az
      refine wpS_bind (wpS_mono (wpS_forRange (I:=fun x c aF=>gK=aF∧c=(none,x)∧j9 (arrOf gK) lo x) (Q:=fun c aF=>gK=aF∧∃ x,c=(none,x)∧1<=x∧x<=dI∧j9 (arrOf gK) lo x) (fun x c aF HX N6 => ?_) (fun c aF => ?_) ⟨rfl,rfl,Az⟩) (fun c aF => ?_))
      ·rintro⟨rfl,rfl,so⟩
       dsimp only
       refine wpS_bind (wpS_ltK (B5.kind.trans hk) (B5.keys ka) (by rw[B5.size];omega) (by rw[B5.size];omega) ?_)
       dsimp only
       by_cases hl:aj (arrOf gK) (lo+x) < aj (arrOf gK) (lo+x - 1)
       ·rw[decide_eq_true hl,if_pos rfl]
        exact wpS_pure ⟨rfl,x,rfl,by omega,by omega,so⟩
       ·rw[decide_eq_false hl,if_neg (by decide)]
        exact wpS_pure ⟨rfl,rfl,so.snoc (by omega) (by rw[show lo+(x - 1)=lo+x - 1 by omega];omega)⟩
      ·rintro⟨rfl,rfl,so⟩
       rw[show max m dI=dI by omega]at so
       exact⟨rfl,dI,by rw[show max m dI=dI by omega],by omega,aA _,so⟩
      ·rintro⟨rfl,x,rfl,x1,x2,so⟩
       exact wpS_pure (h x gK B5 x1 x2 so)
     ·rw[if_neg hq]
      have B4:=B
      have Bm:=ni
      generalize aF=lS at B4 Bm
      refine wpS_bind (wpS_reverse ?_)
      have B5:=B4.rev (i:=lo) (j:=lo+m) (aA _) (by omega) hz
      have Az:j9 (arrOf (setArr lS (mirror (arrOf lS) lo (lo+m) ((lo+m - lo) / 2)))) lo m:=fun i j lF hj=>by
       show aj (mirror (arrOf lS) lo (lo+m) ((lo+m - lo) / 2)) (lo+i)<=aj (mirror (arrOf lS) lo (lo+m) ((lo+m - lo) / 2)) (lo+j)
       rw[K_mirror (by rw[B4.size];omega),K_mirror (by rw[B4.size];omega),if_pos (by omega),if_pos (by omega),show lo+(lo+m) - 1 - (lo+i)=lo+(m - 1 - i) by omega,show lo+(lo+m) - 1 - (lo+j)=lo+(m - 1 - j) by omega]
       exact Bm _ _ (by omega) (by omega)
      generalize setArr lS (mirror (arrOf lS) lo (lo+m) ((lo+m - lo) / 2))=gK at B5 Az
      refine wpS_bind (wpS_mono (wpS_forRange (I:=fun x c aF=>gK=aF∧c=(none,x)∧j9 (arrOf gK) lo x) (Q:=fun c aF=>gK=aF∧∃ x,c=(none,x)∧1<=x∧x<=dI∧j9 (arrOf gK) lo x) (fun x c aF HX N6 => ?_) (fun c aF => ?_) ⟨rfl,rfl,Az⟩) (fun c aF => ?_))
      ·rintro⟨rfl,rfl,so⟩
       dsimp only
       refine wpS_bind (wpS_ltK (B5.kind.trans hk) (B5.keys ka) (by rw[B5.size];omega) (by rw[B5.size];omega) ?_)
       dsimp only
       by_cases hl:aj (arrOf gK) (lo+x) < aj (arrOf gK) (lo+x - 1)
       ·rw[decide_eq_true hl,if_pos rfl]
        exact wpS_pure ⟨rfl,x,rfl,by omega,by omega,so⟩
       ·rw[decide_eq_false hl,if_neg (by decide)]
        exact wpS_pure ⟨rfl,rfl,so.snoc (by omega) (by rw[show lo+(x - 1)=lo+x - 1 by omega];omega)⟩
      ·rintro⟨rfl,rfl,so⟩
       rw[show max m dI=dI by omega]at so
       exact⟨rfl,dI,by rw[show max m dI=dI by omega],by omega,aA _,so⟩
      ·rintro⟨rfl,x,rfl,x1,x2,so⟩
       exact wpS_pure (h x gK B5 x1 x2 so)
  ·rw[if_neg hg]
   have e1:n=1:=by omega
   have B3:=mK.refl st lo (lo+dI)
   have Xa:m9 (arrOf st) lo (n+1):=m9.snoc (fun i j lF hj=>by rw[show i=j by omega];exact gP _) n1 (by rw[show lo+(n - 1)=lo+n - 1 by omega];omega)
   refine wpS_bind (wpS_lift (wpAny_rule ⟨rfl,?_⟩))
   refine wpS_bind (wpS_mono (wpS_forRange (I:=fun x c aF=>∃ hG,c=(none,x,hG)∧mK st aF lo (lo+dI)∧m9 (arrOf aF) lo x∧hG+1<=x∧(∀ i,x - (hG+1)<=i->i < x->aj (arrOf aF) (lo+i)=aj (arrOf aF) (lo+(x - 1))))
    (Q:=fun c aF=>∃ m hG,c=(none,m,hG)∧n+1<=m∧m<=dI∧mK st aF lo (lo+dI)∧m9 (arrOf aF) lo m∧hG+1<=m∧(∀ i,m - (hG+1)<=i->i < m->aj (arrOf aF) (lo+i)=aj (arrOf aF) (lo+(m - 1)))) (fun x c aF HX N6 => ?_) (fun c aF => ?_) ⟨0,rfl,B3,Xa,by omega,fun i q1 q2=>by rw[show i=n+1 - 1 by omega]⟩) (fun c aF => ?_))
   ·rintro⟨hG,rfl,B,ni,q,t9⟩
    dsimp only
    have sz:=B.size
    refine wpS_bind (wpS_ltK (B.kind.trans hk) (B.keys ka) (by omega) (by omega) ?_)
    dsimp only
    by_cases hl:aj (arrOf aF) (lo+x) < aj (arrOf aF) (lo+x - 1)
    ·rw[decide_eq_true hl,if_pos rfl]
     have qr:∀ xs:Array Keyed,(∀ k,aj xs k=aj (arrOf aF) k)->m9 xs lo (x+1):=fun xs e=>(ni.snoc (by omega) (by rw[show lo+(x - 1)=lo+x - 1 by omega];omega)).congr e
     by_cases hq:hG > 0
     ·rw[if_pos hq]
      refine wpS_bind (wpS_reverse (wpS_pure ⟨0,rfl,B.rev (by omega) (by omega) hz,qr _ (K_mirror_equal (by omega) fun k q1 q2 => ?_),by omega,fun i q1 q2=>by rw[show i=x+1 - 1 by omega]⟩))
      have:=t9 (k - lo) (by omega) (by omega)
      rw[show lo+(k - lo)=k by omega,show lo+(x - 1)=lo+x - 1 by omega]at this
      exact this
     ·rw[if_neg hq]
      exact wpS_pure ⟨0,rfl,B,qr _ (fun _=>rfl),by omega,fun i q1 q2=>by rw[show i=x+1 - 1 by omega]⟩
    ·rw[decide_eq_false hl,if_neg (by decide)]
     refine wpS_bind (wpS_ltK (B.kind.trans hk) (B.keys ka) (by omega) (by omega) ?_)
     dsimp only
     by_cases hg:aj (arrOf aF) (lo+x - 1) < aj (arrOf aF) (lo+x)
     ·rw[decide_eq_true hg,if_pos rfl]
      exact wpS_pure ⟨x,hG,rfl,by omega,by omega,B,ni,q,t9⟩
     ·rw[decide_eq_false hg,if_neg (by decide)]
      have ex:aj (arrOf aF) (lo+x)=aj (arrOf aF) (lo+(x - 1)):=by rw[show lo+(x - 1)=lo+x - 1 by omega];omega
      refine wpS_pure ⟨hG+1,rfl,B,ni.snoc (by omega) (by omega),by omega,fun i q1 q2 => ?_⟩
      rw[show x+1 - 1=x by omega]
      by_cases hix:i=x
      ·rw[hix]
      ·rw[ex];exact t9 i (by omega) (by omega)
   ·rintro⟨hG,rfl,B,ni,q,t9⟩
    rw[show max (n+1) dI=dI by omega]at ni q t9
    exact⟨dI,hG,by rw[show max (n+1) dI=dI by omega],by omega,aA _,B,ni,q,t9⟩
   ·rintro⟨m,hG,rfl,m1,m2,B,ni,q,t9⟩
    dsimp only
    have sz:=B.size
    by_cases hq:hG > 0
    ·rw[if_pos hq]
     refine wpS_bind (wpS_reverse ?_)
     have B4:=B.rev (i:=lo+m - (hG+1)) (j:=lo+m) (by omega) (by omega) hz
     have Bm:m9 (arrOf (setArr aF (mirror (arrOf aF) (lo+m - (hG+1)) (lo+m) ((lo+m - (lo+m - (hG+1))) / 2)))) lo m:=ni.congr (K_mirror_equal (by omega) fun k q1 q2=>by
      have:=t9 (k - lo) (by omega) (by omega)
      rw[show lo+(k - lo)=k by omega,show lo+(m - 1)=lo+m - 1 by omega]at this
      exact this)
     generalize setArr aF (mirror (arrOf aF) (lo+m - (hG+1)) (lo+m) ((lo+m - (lo+m - (hG+1))) / 2))=lS at B4 Bm
     refine wpS_bind (wpS_reverse ?_)
     have B5:=B4.rev (i:=lo) (j:=lo+m) (aA _) (by omega) hz
     have Az:j9 (arrOf (setArr lS (mirror (arrOf lS) lo (lo+m) ((lo+m - lo) / 2)))) lo m:=fun i j lF hj=>by
      show aj (mirror (arrOf lS) lo (lo+m) ((lo+m - lo) / 2)) (lo+i)<=aj (mirror (arrOf lS) lo (lo+m) ((lo+m - lo) / 2)) (lo+j)
      rw[K_mirror (by rw[B4.size];omega),K_mirror (by rw[B4.size];omega),if_pos (by omega),if_pos (by omega),show lo+(lo+m) - 1 - (lo+i)=lo+(m - 1 - i) by omega,show lo+(lo+m) - 1 - (lo+j)=lo+(m - 1 - j) by omega]
      exact Bm _ _ (by omega) (by omega)
     generalize setArr lS (mirror (arrOf lS) lo (lo+m) ((lo+m - lo) / 2))=gK at B5 Az
     refine wpS_bind (wpS_mono (wpS_forRange (I:=fun x c aF=>gK=aF∧c=(none,x)∧j9 (arrOf gK) lo x) (Q:=fun c aF=>gK=aF∧∃ x,c=(none,x)∧1<=x∧x<=dI∧j9 (arrOf gK) lo x) (fun x c aF HX N6 => ?_) (fun c aF => ?_) ⟨rfl,rfl,Az⟩) (fun c aF => ?_))
     ·rintro⟨rfl,rfl,so⟩
      dsimp only
      refine wpS_bind (wpS_ltK (B5.kind.trans hk) (B5.keys ka) (by rw[B5.size];omega) (by rw[B5.size];omega) ?_)
      dsimp only
      by_cases hl:aj (arrOf gK) (lo+x) < aj (arrOf gK) (lo+x - 1)
      ·rw[decide_eq_true hl,if_pos rfl]
       exact wpS_pure ⟨rfl,x,rfl,by omega,by omega,so⟩
      ·rw[decide_eq_false hl,if_neg (by decide)]
       exact wpS_pure ⟨rfl,rfl,so.snoc (by omega) (by rw[show lo+(x - 1)=lo+x - 1 by omega];omega)⟩
     ·rintro⟨rfl,rfl,so⟩
      rw[show max m dI=dI by omega]at so
      exact⟨rfl,dI,by rw[show max m dI=dI by omega],by omega,aA _,so⟩
     ·rintro⟨rfl,x,rfl,x1,x2,so⟩
      exact wpS_pure (h x gK B5 x1 x2 so)
    ·rw[if_neg hq]
     have B4:=B
     have Bm:=ni
     generalize aF=lS at B4 Bm
     refine wpS_bind (wpS_reverse ?_)
     have B5:=B4.rev (i:=lo) (j:=lo+m) (aA _) (by omega) hz
     have Az:j9 (arrOf (setArr lS (mirror (arrOf lS) lo (lo+m) ((lo+m - lo) / 2)))) lo m:=fun i j lF hj=>by
      show aj (mirror (arrOf lS) lo (lo+m) ((lo+m - lo) / 2)) (lo+i)<=aj (mirror (arrOf lS) lo (lo+m) ((lo+m - lo) / 2)) (lo+j)
      rw[K_mirror (by rw[B4.size];omega),K_mirror (by rw[B4.size];omega),if_pos (by omega),if_pos (by omega),show lo+(lo+m) - 1 - (lo+i)=lo+(m - 1 - i) by omega,show lo+(lo+m) - 1 - (lo+j)=lo+(m - 1 - j) by omega]
      exact Bm _ _ (by omega) (by omega)
     generalize setArr lS (mirror (arrOf lS) lo (lo+m) ((lo+m - lo) / 2))=gK at B5 Az
     refine wpS_bind (wpS_mono (wpS_forRange (I:=fun x c aF=>gK=aF∧c=(none,x)∧j9 (arrOf gK) lo x) (Q:=fun c aF=>gK=aF∧∃ x,c=(none,x)∧1<=x∧x<=dI∧j9 (arrOf gK) lo x) (fun x c aF HX N6 => ?_) (fun c aF => ?_) ⟨rfl,rfl,Az⟩) (fun c aF => ?_))
     ·rintro⟨rfl,rfl,so⟩
      dsimp only
      refine wpS_bind (wpS_ltK (B5.kind.trans hk) (B5.keys ka) (by rw[B5.size];omega) (by rw[B5.size];omega) ?_)
      dsimp only
      by_cases hl:aj (arrOf gK) (lo+x) < aj (arrOf gK) (lo+x - 1)
      ·rw[decide_eq_true hl,if_pos rfl]
       exact wpS_pure ⟨rfl,x,rfl,by omega,by omega,so⟩
      ·rw[decide_eq_false hl,if_neg (by decide)]
       exact wpS_pure ⟨rfl,rfl,so.snoc (by omega) (by rw[show lo+(x - 1)=lo+x - 1 by omega];omega)⟩
     ·rintro⟨rfl,rfl,so⟩
      rw[show max m dI=dI by omega]at so
      exact⟨rfl,dI,by rw[show max m dI=dI by omega],by omega,aA _,so⟩
     ·rintro⟨rfl,x,rfl,x1,x2,so⟩
      exact wpS_pure (h x gK B5 x1 x2 so)
end
theorem mK.move {st aF:SortSt}{lo hi WY d:Nat} (h:mK st aF lo hi) (h1:lo+d<=WY) (h2:WY < hi) (hz:hi<=(arrOf st).size):mK st (setArr aF (bubble (arrOf aF) WY d)) lo hi:=by
 refine⟨(bubble_perm _ _ _).trans h.perm,fun k hk => ?_,h.kind,h.fail,h.pend⟩
 show (bubble (arrOf aF) WY d)[k]? = _
 rw[getElem?_bubble (by rw[h.size];omega) d (by omega),if_neg (by omega),if_neg (by omega)]
 exact h.out k hk
section
variable {prog:Program}{w:World}{A:Around}{E:Value->Shared->Prop}{s:Shared}
theorem DC {st:SortSt}{lo n ok:Nat}{Q:Bool->SortSt->Prop} (hk:kindOf st=oneType') (ka:IntKeys (arrOf st)) (hz:lo+n<=(arrOf st).size) (bU:ok<=n) (so:j9 (arrOf st) lo ok)
  (h:∀ aF,mK st aF lo (lo+n)->j9 (arrOf aF) lo n->Q true aF):wpS (model prog w) A E s (binarySort' lo n ok) Q st:=by
 rw[binarySort'_eq]
 refine wpS_bind (wpS_mono (wpS_forRange (I:=fun k c aF=>c=(none,())∧mK st aF lo (lo+n)∧j9 (arrOf aF) lo (min k n))
  (Q:=fun c aF=>c=(none,())∧mK st aF lo (lo+n)∧j9 (arrOf aF) lo n) (fun k c aF S6 uB => ?_) (fun c aF => ?_) ⟨rfl,mK.refl _ _ _,fun i j lF hj => ?_⟩) (fun c aF => ?_))
 ·rintro⟨rfl,B,xV⟩
  rw[show min k n=k by omega]at xV
  have sz:=B.size
  refine wpS_bind (wpS_mono (wpS_forRange (I:=fun x c lT=>aF=lT∧∃ l r,c=(none,l,r)∧l<=r∧r<=k∧r - l<=k - x ∧
    (∀ i,i < l->aj (arrOf aF) (lo+i)<=aj (arrOf aF) (lo+k))∧(∀ i,r<=i->i < k->aj (arrOf aF) (lo+k) < aj (arrOf aF) (lo+i)))
   (Q:=fun c lT=>aF=lT∧∃ l r,c=(none,l,r)∧l<=k ∧
    (∀ i,i < l->aj (arrOf aF) (lo+i)<=aj (arrOf aF) (lo+k))∧(∀ i,l<=i->i < k->aj (arrOf aF) (lo+k) < aj (arrOf aF) (lo+i))) (fun x c lT _ hx => ?_) (fun c lT => ?_) ⟨rfl,0,k,rfl,by omega,by omega,by omega,fun i hi=>by omega,fun i q1 q2=>by omega⟩) (fun c lT => ?_))
  ·rintro⟨rfl,l,r,rfl,l1,l2,l3,l4,l5⟩
   dsimp only
   by_cases qN:l ≥ r
   ·rw[if_pos qN]
    have:l=r:=by omega
    subst this
    exact wpS_pure ⟨rfl,l,l,rfl,l2,l4,l5⟩
   ·rw[if_neg qN]
    refine wpS_bind (wpS_ltK (B.kind.trans hk) (B.keys ka) (by omega) (by omega) ?_)
    dsimp only
    by_cases Jt:aj (arrOf aF) (lo+k) < aj (arrOf aF) (lo+(l+r) / 2)
    ·rw[decide_eq_true Jt,if_pos rfl]
     refine wpS_pure ⟨rfl,l,(l+r) / 2,rfl,by omega,by omega,by omega,l4,fun i q1 q2 => ?_⟩
     exact Int.lt_of_lt_of_le Jt (xV _ _ q1 q2)
    ·rw[decide_eq_false Jt,if_neg (by decide)]
     refine wpS_pure ⟨rfl,(l+r) / 2+1,r,rfl,by omega,by omega,by omega,fun i q1 => ?_,l5⟩
     exact iO (xV i ((l+r) / 2) (by omega) (by omega)) (Int.not_lt.mp Jt)
  ·rintro⟨rfl,l,r,rfl,l1,l2,l3,l4,l5⟩
   have:l=r:=by omega
   subst this
   exact⟨rfl,l,l,rfl,l2,l4,l5⟩
  ·rintro⟨rfl,l,r,rfl,lk,l4,l5⟩
   show wpS _ _ _ _ (do moveDown' (lo+k) (lo+l);pure (oA (none,()))) _ _
   rw[moveDown'_eq]
   have hks:lo+k < (arrOf aF).size:=by omega
   refine wpS_bind (wpS_modify (wpS_pure ⟨rfl,B.move (by omega) (by omega) (by omega),?_⟩))
   rw[show min (k+1) n=k+1 by omega]
   intro i j lF hj
   show aj (bubble (arrOf aF) (lo+k) (lo+k - (lo+l))) (lo+i)<=aj (bubble (arrOf aF) (lo+k) (lo+k - (lo+l))) (lo+j)
   rw[K_bubble hks (by omega),K_bubble hks (by omega),show lo+k - (lo+k - (lo+l))=lo+l by omega]
   have sub:∀ q,1<=q->lo+q - 1=lo+(q - 1):=fun q hq=>by omega
   repeat' split
   all_goals first
    | (exfalso;omega)
    | exact gP _
    | exact l4 _ (by omega)
    | exact xV _ _ (by omega) (by omega)
    | (rw[sub _ (by omega)];exact Int.le_of_lt (l5 _ (by omega) (by omega)))
    | (rw[sub _ (by omega),sub _ (by omega)];exact xV _ _ (by omega) (by omega))
    | (rw[sub _ (by omega)];exact xV _ _ (by omega) (by omega))
 ·rintro⟨rfl,B,xV⟩
  rw[show min (max (max ok 1) n) n=n by omega]at xV
  exact⟨rfl,B,xV⟩
 ·by_cases h0:ok=0
  ·rw[show i=j by omega];exact gP _
  ·exact so i j lF (by omega)
 ·rintro⟨rfl,B,xV⟩
  exact wpS_pure (h aF B xV)
end
def mT:Nat->List (List Keyed)->List (Nat × Nat)
 | _, [] => []
 | o,x :: l=>(o,x.length) :: mT (o+x.length) l
def pr (q:Nat × Nat × Nat):Nat × Nat:=(q.1,q.2.1)
theorem za:∀ (A B:List (List Keyed)) (o:Nat),mT o (A ++ B)=mT o A ++ mT (o+A.flatten.length) B
 | [],B,o=>by simp[mT]
 | x :: A,B,o=>by
  rw[gY,mT,mT,za A B,iQ,aG,jJ]
  rfl
theorem qf:∀ (A:List (List Keyed)) (o:Nat),(mT o A).length=A.length
 | [],o=>rfl
 | x :: A,o=>by rw[mT,b8,b8,qf A]
structure RI (a₀ : List Keyed) (st:SortSt) (segs:List (List Keyed)) (R:List Keyed):Prop where
 kind:kindOf st=oneType'
 fail:failedOf st=none
 perm:(arrOf st).toList.Perm a₀
 ar:(arrOf st).toList=segs.flatten ++ R
 pd:(pendingOf st).toList.map pr=mT 0 segs
 so:∀ x∈segs,gq x∧0 < x.length
variable {a₀ : List Keyed}{st:SortSt}{segs:List (List Keyed)}{R:List Keyed}
theorem RI.keys (h:RI a₀ st segs R) (ka:∀ p∈a₀,∃ n t,p.1=mJ n t):IntKeys (arrOf st):=fun p hp=>ka p (h.perm.mem_iff.mp hp)
theorem RI.size (h:RI a₀ st segs R):(arrOf st).size=a₀.length:=by rw[<- a8];exact h.perm.length_eq
theorem RI.Kq (h:RI a₀ st segs R):(pendingOf st).size=segs.length:=by
 have:=congrArg ie h.pd
 rw[aq,qf,a8]at this
 exact this
theorem Nv:∀ {segs:List (List Keyed)},(∀ x∈segs,gq x∧0 < x.length)->segs.length<=segs.flatten.length
 | [],_=>bD _
 | x :: l,h=>by
  have ih:=Nv (segs:=l) fun y hy=>h y (aK _ hy)
  have:=(h x aT).2
  rw[iQ,aG,b8]
  omega
theorem OD:∀ (l:List (List Keyed)) (i:Nat),i+1 < l.length->∃ A X Y B,l=A ++ (X :: Y :: B)∧A.length=i
 | x :: y :: l,0,_=>⟨[],x,y,l,rfl,rfl⟩
 | [x],0,h=>by simp at h
 | [],i,h=>by simp at h
 | x :: l,i+1,h=>by
  obtain⟨A,X,Y,B,e,n⟩:=OD l i (by simpa using h)
  exact⟨x :: A,X,Y,B,by rw[e];rfl,by rw[b8,n]⟩
theorem ND (h:RI a₀ st segs R) {i o n:Nat} (e:(mT 0 segs)[i]? = some (o,n)):∃ c,(pendingOf st)[i]? = some (o,n,c):=by
 rw[<- h.pd,aD]at e
 obtain⟨q,hq,e2⟩:=b7.mp e
 refine⟨q.2.2,?_⟩
 have e3:(pendingOf st)[i]? = some q:=by rw[<- yO];exact hq
 rw[e3]
 cases q with
 | mk q1 q2=>cases e2;rfl
theorem HS {α β : Type} (f : α -> β):∀ (l:List α) (i:Nat),(l.eraseIdx i).map f=(l.map f).eraseIdx i
 | [],i=>rfl
 | x :: l,0=>rfl
 | x :: l,i+1=>by rw[pF,aL,aL,pF,HS f l i]
theorem HH {α : Type}:∀ (A B:List α) (x y v : α) ,((A ++ (x :: y :: B)).set A.length v).eraseIdx (A.length+1)=A ++ (v :: B)
 | [],B,x,y,v=>rfl
 | a :: A,B,x,y,v=>by
  have:=HH A B x y v
  simp only[gY,b8,List.set_cons_succ,pF,this]
section
variable {prog:Program}{w:World}{A:Around}{E:Value->Shared->Prop}{s:Shared}
theorem xq {i:Nat}{Q:Bool->SortSt->Prop} (h:RI a₀ st segs R) (ka:∀ p∈a₀,∃ n t,p.1=mJ n t) (hi:i+1 < segs.length)
  (q:∀ aF PH,RI a₀ aF PH R->PH.length+1=segs.length->PH.flatten.length=segs.flatten.length->Q true aF):wpS (model prog w) A E s (mergeAt' i) Q st:=by
 obtain⟨C,X,Y,D,e,hc⟩:=OD segs i hi
 subst hc
 subst e
 have hX:=h.so X (by simp)
 have hY:=h.so Y (by simp)
 have ha:(arrOf st).toList=C.flatten ++ (X ++ (Y ++ (D.flatten ++ R))):=by rw[h.ar];simp
 have eo:mT 0 (C ++ (X :: Y :: D))=mT 0 C ++ ((C.flatten.length,X.length) :: (C.flatten.length+X.length,Y.length) :: mT (C.flatten.length+X.length+Y.length) D):=by
  rw[za,eO,mT,mT]
 obtain⟨c1,p1⟩:=ND h (i:=C.length) (by rw[eo,dk (by rw[qf];exact aA _),qf,wu];rfl)
 obtain⟨c2,p2⟩:=ND h (i:=C.length+1) (by rw[eo,dk (by rw[qf];omega),qf,ky];rfl)
 refine Mx h.kind h.fail (h.keys ka) ha hX.1 hY.1 hX.2 hY.2 p1 p2 fun aF M sp ar' pm xV pd' => ?_
 have lm:M.length=X.length+Y.length:=by rw[pm.length_eq,aG]
 refine q aF (C ++ (M :: D)) ⟨sp.kind.trans h.kind,sp.fail.trans h.fail,?_,by rw[ar'];simp,?_,fun x hx => ?_⟩ (by simp;omega) (by simp[lm];omega)
 ·refine oy ?_ h.perm
  rw[ar',ha]
  refine gf _ ?_
  rw[<- aZ X]
  exact lD _ pm
 ·rw[pd',Array.toList_eraseIdxIfInBounds,uA,HS,List.map_set,h.pd,eo]
  have:=HH (mT 0 C) (mT (C.flatten.length+X.length+Y.length) D) (C.flatten.length,X.length) (C.flatten.length+X.length,Y.length) (C.flatten.length,X.length+Y.length)
  rw[qf]at this
  refine this.trans ?_
  rw[za,eO,mT,lm,jJ]
 ·rcases bX.mp hx with z | z
  ·exact h.so x (cO _ z)
  ·rcases bo.mp z with z | z
   ·subst z
    have:=hX.2
    exact⟨xV,by omega⟩
   ·exact h.so x (bg _ (aK _ (aK _ z)))
theorem Qf {l m:List Keyed}{n:Nat} (h:l.take n=m):l=m ++ l.drop n:=by rw[<- h,dv]
theorem RF {arr:Array Keyed} {L R':List Keyed}{n:Nat} (h:arr.toList=L ++ R') (hn:n<=R'.length) (so:j9 arr L.length n):gq (R'.take n):=by
 have e:∀ j,j < n->arr[L.length+j]? = R'[j]? := fun j hj=>by rw[dG,h,dk (by omega),ky]
 refine ow.mpr fun i j hi hj lF => ?_
 rw[bO]at hi hj
 have:=so i j (by omega) (by omega)
 have e1:arr[L.length+i]? = some R'[i]:=by rw[e i (by omega),ah (by omega)]
 have e2:arr[L.length+j]? = some R'[j]:=by rw[e j (by omega),ah (by omega)]
 rw[fE e1,fE e2]at this
 rw[CT,CT]
 exact this
theorem RI.ahead {aF:SortSt}{hi:Nat} (h:RI a₀ st segs R) (b:mK st aF segs.flatten.length hi):∃ R',RI a₀ aF segs R'∧R'.length=R.length:=by
 have ep:(arrOf aF).toList.take segs.flatten.length=segs.flatten:=by
  refine dP fun k => ?_
  by_cases hk:k < segs.flatten.length
  ·rw[kf hk, <- dG,b.out k (.inl hk),dG,h.ar,eZ hk]
  ·rw[b5 (by rw[bO];omega),b5 (by omega)]
 have ea:=Qf ep
 have pm:=jL.mp b.perm
 refine⟨_,⟨b.kind.trans h.kind,b.fail.trans h.fail,pm.trans h.perm,ea,by rw[b.pend];exact h.pd,h.so⟩,?_⟩
 have l1:=pm.length_eq
 rw[h.ar,aG]at l1
 rw[ke]
 omega
end
end TS
namespace TS
open PySem PyProof.Rows
theorem Fe {α β : Type} (g : α -> β) (f : α -> α) (h:∀ x,g (f x)=g x):∀ (l:List α) (i:Nat),(l.modify i f).map g=l.map g
 | [],0=>rfl
 | [],i+1=>rfl
 | x :: l,0=>by simp[h]
 | x :: l,i+1=>by simp[Fe g f h l i]
theorem xf (segs:List (List Keyed)) (X:List Keyed):(segs ++ [X]).flatten.length=segs.flatten.length+X.length:=by simp
theorem RI.push {a₀ : List Keyed}{st:SortSt}{segs:List (List Keyed)}{R:List Keyed}{n:Nat} (h:RI a₀ st segs R) (hn:n<=R.length) (h1:1<=n) (so:gq (R.take n)):RI a₀ (setPending st ((pendingOf st).push (segs.flatten.length,n,0))) (segs ++ [R.take n]) (R.drop n):=by
 have ln:(R.take n).length=n:=by rw[bO];omega
 refine⟨h.kind,h.fail,h.perm,?_,?_,fun x hx => ?_⟩
 ·show (arrOf st).toList=_
  rw[h.ar,List.flatten_append]
  simp
 ·show (((pendingOf st).push (segs.flatten.length,n,0)).toList).map pr=_
  rw[dr,dX,h.pd,za,eO]
  show _ ++ [(segs.flatten.length,n)]=_ ++ [(segs.flatten.length,(R.take n).length)]
  rw[ln]
 ·rcases bX.mp hx with z | z
  ·exact h.so x z
  ·rw[bq.mp z]
   exact⟨so,by omega⟩
theorem RI.RZ {a₀ : List Keyed}{st:SortSt}{segs:List (List Keyed)}{R:List Keyed}{i:Nat}{f:Nat × Nat × Nat->Nat × Nat × Nat} (h:RI a₀ st segs R) (hf:∀ q,pr (f q)=pr q):RI a₀ (setPending st ((pendingOf st).modify i f)) segs R:=by
 refine⟨h.kind,h.fail,h.perm,h.ar,?_,h.so⟩
 show (((pendingOf st).modify i f).toList).map pr=_
 rw[Array.toList_modify,Fe pr f hf]
 exact h.pd
section
variable {prog:Program}{w:World}{A:Around}{E:Value->Shared->Prop}{s:Shared}
theorem Mu {st:SortSt}{a₀ : Array Keyed}{Q:Unit->SortSt->Prop} (h0:IntKeys a₀) (hB:SBase a₀ st) (h2:2<=a₀.size)
  (h:∀ aF,(arrOf aF).Perm a₀ -> failedOf aF=none->SortedTo (arrOf aF) a₀.size->Q () aF):wpS (model prog w) A E s sortRuns' Q st:=by
 have ka:∀ p∈a₀.toList,∃ n t,p.1=mJ n t:=h0
 have ls:a₀.toList.length=a₀.size:=a8
 rw[sortRuns'_eq]
 refine wpS_bind (wpS_get ?_)
 try dsimp only
 simp only[hB.size]
 generalize minRun' a₀.size a₀.size 0=mr
 have I0:RI a₀.toList st [] (arrOf st).toList:=⟨hB.kind,hB.failed,jL.mp hB.perm,rfl,by rw[hB.pend];rfl,fun x hx=>nomatch hx⟩
 refine wpS_bind (wpS_mono (wpS_forRange (I:=fun x c aF=>∃ segs R lo,c=(none,lo)∧RI a₀.toList aF segs R∧lo=segs.flatten.length∧x<=lo)
  (Q:=fun c aF=>∃ segs lo,c=(none,lo)∧RI a₀.toList aF segs []) (fun x c aF _ hx => ?_) (fun c aF => ?_) ⟨[],_,0,rfl,I0,rfl,aA _⟩) (fun c aF => ?_))
 ·rintro⟨segs,R,lo,rfl,I,rfl,xl⟩
  try dsimp only
  have sz:=I.size
  have el:segs.flatten.length+R.length=a₀.size:=by
   have:=congrArg ie I.ar
   rw[aG,a8]at this
   omega
  by_cases qN:segs.flatten.length ≥ a₀.size
  ·rw[if_pos qN]
   have:R = []:=iW.mp (by omega)
   subst this
   exact wpS_pure ⟨segs,_,rfl,I⟩
  rw[if_neg qN]
  refine wpS_bind (Gz I.kind (I.keys ka) (by omega) (by omega) fun n qr B n1 n2 so => ?_)
  try dsimp only
  obtain⟨R1,I1,l1⟩:=I.ahead B
  by_cases hm:n < mr
  ·rw[if_pos hm]
   refine wpS_bind (wpS_lift (wpAny_rule ⟨rfl,?_⟩))
   have sz1:=I1.size
   refine wpS_bind (DC I1.kind (I1.keys ka) (by omega) (by omega) so fun dS B2 so2 => ?_)
   obtain⟨R2,I2,l2⟩:=I1.ahead B2
   simp only[nN,ft,if_false]
   have hX:=RF I2.ar (by omega) so2
   refine wpS_bind (wpS_get ?_)
   cases hb:(pendingOf dS).back? with
   | none =>
    try dsimp only
    exact wpS_bind (wpS_modify (wpS_pure ⟨segs ++ [R2.take (min (a₀.size - segs.flatten.length) mr)],R2.drop (min (a₀.size - segs.flatten.length) mr),_,rfl,I2.push (by omega) (by omega) hX,by rw[xf,bO];omega,by omega⟩))
   | some q =>
    obtain⟨s1,n1,p1⟩:=q
    try dsimp only
    have ne:1<=segs.length:=by
     rcases uf segs.length with z | z
     ·have e:=I2.Kq
      rw[z]at e
      have:pendingOf dS = #[]:=rB e
      rw[this]at hb
      cases hb
     ·exact z
    refine wpS_bind (wpS_mono (wpS_forRange (I:=fun _ c aF=>c=(none,())∧∃ sg,RI a₀.toList aF sg R2∧sg.flatten.length=segs.flatten.length)
     (Q:=fun c aF=>c=(none,())∧∃ sg,RI a₀.toList aF sg R2∧sg.flatten.length=segs.flatten.length) (fun y c aF _ hy => ?_) (fun c aF z=>z) ⟨rfl,segs,I2,rfl⟩) (fun c aF => ?_))
    ·rintro⟨rfl,sg,J,fl⟩
     refine wpS_bind (wpS_get ?_)
     try dsimp only
     have pl:=J.Kq
     by_cases hp:(pendingOf aF).size > 1
     ·rw[if_pos hp]
      cases ho:(pendingOf aF)[(pendingOf aF).size - 2]? with
      | none=>exact wpS_pure ⟨rfl,sg,J,fl⟩
      | some q =>
       obtain⟨o1,o2,o3⟩:=q
       try dsimp only
       split
       ·exact wpS_pure ⟨rfl,sg,J,fl⟩
       ·refine wpS_bind (xq J ka (by omega) fun Ng RK J3 l3 f3 => ?_)
        exact wpS_pure ⟨rfl,RK,J3,f3.trans fl⟩
     ·rw[if_neg hp]
      exact wpS_pure ⟨rfl,sg,J,fl⟩
    ·rintro⟨rfl,sg,J,fl⟩
     try dsimp only
     refine wpS_bind (wpS_modify ?_)
     have J2:=J.RZ (i:=(pendingOf aF).size - 1) (f:=fun (q:Nat × Nat × Nat)=>match q with | (st,len,_)=>(st,len,power' a₀.size (2 * s1+n1) (2 * s1+n1+n1+(min (a₀.size - segs.flatten.length) mr)) a₀.size)) (fun q=>rfl)
     have J3:=J2.push (n:=(min (a₀.size - segs.flatten.length) mr)) (by omega) (by omega) hX
     rw[fl]at J3
     exact wpS_bind (wpS_modify (wpS_pure ⟨sg ++ [R2.take (min (a₀.size - segs.flatten.length) mr)],R2.drop (min (a₀.size - segs.flatten.length) mr),_,rfl,J3,by rw[xf,bO,fl];omega,by omega⟩))
  ·rw[if_neg hm]
   have hX:=RF I1.ar (by omega) so
   refine wpS_bind (wpS_get ?_)
   cases hb:(pendingOf qr).back? with
   | none =>
    try dsimp only
    exact wpS_bind (wpS_modify (wpS_pure ⟨segs ++ [R1.take n],R1.drop n,_,rfl,I1.push (by omega) (by omega) hX,by rw[xf,bO];omega,by omega⟩))
   | some q =>
    obtain⟨s1,n1,p1⟩:=q
    try dsimp only
    have ne:1<=segs.length:=by
     rcases uf segs.length with z | z
     ·have e:=I1.Kq
      rw[z]at e
      have:pendingOf qr = #[]:=rB e
      rw[this]at hb
      cases hb
     ·exact z
    refine wpS_bind (wpS_mono (wpS_forRange (I:=fun _ c aF=>c=(none,())∧∃ sg,RI a₀.toList aF sg R1∧sg.flatten.length=segs.flatten.length)
     (Q:=fun c aF=>c=(none,())∧∃ sg,RI a₀.toList aF sg R1∧sg.flatten.length=segs.flatten.length) (fun y c aF _ hy => ?_) (fun c aF z=>z) ⟨rfl,segs,I1,rfl⟩) (fun c aF => ?_))
    ·rintro⟨rfl,sg,J,fl⟩
     refine wpS_bind (wpS_get ?_)
     try dsimp only
     have pl:=J.Kq
     by_cases hp:(pendingOf aF).size > 1
     ·rw[if_pos hp]
      cases ho:(pendingOf aF)[(pendingOf aF).size - 2]? with
      | none=>exact wpS_pure ⟨rfl,sg,J,fl⟩
      | some q =>
       obtain⟨o1,o2,o3⟩:=q
       try dsimp only
       split
       ·exact wpS_pure ⟨rfl,sg,J,fl⟩
       ·refine wpS_bind (xq J ka (by omega) fun Ng RK J3 l3 f3 => ?_)
        exact wpS_pure ⟨rfl,RK,J3,f3.trans fl⟩
     ·rw[if_neg hp]
      exact wpS_pure ⟨rfl,sg,J,fl⟩
    ·rintro⟨rfl,sg,J,fl⟩
     try dsimp only
     refine wpS_bind (wpS_modify ?_)
     have J2:=J.RZ (i:=(pendingOf aF).size - 1) (f:=fun (q:Nat × Nat × Nat)=>match q with | (st,len,_)=>(st,len,power' a₀.size (2 * s1+n1) (2 * s1+n1+n1+n) a₀.size)) (fun q=>rfl)
     have J3:=J2.push (n:=n) (by omega) (by omega) hX
     rw[fl]at J3
     exact wpS_bind (wpS_modify (wpS_pure ⟨sg ++ [R1.take n],R1.drop n,_,rfl,J3,by rw[xf,bO,fl];omega,by omega⟩))
 ·rintro⟨segs,R,lo,rfl,I,rfl,xl⟩
  have el:segs.flatten.length+R.length=a₀.size:=by
   have:=congrArg ie I.ar
   rw[aG,a8,I.size]at this
   omega
  have:R = []:=iW.mp (by omega)
  subst this
  exact⟨segs,_,rfl,I⟩
 ·rintro⟨segs,lo,rfl,I⟩
  try dsimp only
  have el:segs.flatten.length=a₀.size:=by
   have:=congrArg ie I.ar
   rw[eJ,a8,I.size]at this
   omega
  have sl:=Nv I.so
  have s1:1<=segs.length:=by
   rcases uf segs.length with z | z
   ·rw[iW.mp z]at el
    simp at el
    omega
   ·exact z
  refine wpS_bind (wpS_mono (wpS_forRange (I:=fun x c lT=>c=(none,())∧∃ sg,RI a₀.toList lT sg []∧1<=sg.length∧sg.length+x<=a₀.size)
   (Q:=fun c lT=>c=(none,())∧∃ sg,RI a₀.toList lT sg []∧sg.length=1) (fun x c lT _ hx => ?_) (fun c lT => ?_) ⟨rfl,segs,I,s1,by omega⟩) (fun c lT => ?_))
  ·rintro⟨rfl,sg,J,b1,b2⟩
   refine wpS_bind (wpS_get ?_)
   try dsimp only
   have pl:=J.Kq
   by_cases hp:(pendingOf lT).size<=1
   ·rw[if_pos hp]
    exact wpS_pure ⟨rfl,sg,J,by omega⟩
   ·rw[if_neg hp]
    refine wpS_bind (xq J ka ?_ fun Ng RK J3 l3 f3 => ?_)
    ·have alT:∀ (c:Prop) [Decidable c] (k n:Nat),k+1 < n->(if c then k - 1 else k)+1 < n:=fun c _ k n hk=>by split <;> omega
     exact alT _ _ _ (by omega)
    ·exact wpS_pure ⟨rfl,RK,J3,by omega,by omega⟩
  ·rintro⟨rfl,sg,J,b1,b2⟩
   omega
  ·rintro⟨rfl,sg,J,b1⟩
   obtain⟨X,rfl⟩:=List.length_eq_one_iff.mp b1
   have eX:(arrOf lT).toList=X:=by have:=J.ar;simpa using this
   refine wpS_pure (h lT (jL.mpr J.perm) J.fail fun i j lF hj => ?_)
   have sX:=(J.so X aT).1
   have sz:=J.size
   have e1:(arrOf lT)[i]? = some (arrOf lT)[i]:=getElem?_pos _ i (by omega)
   have e2:(arrOf lT)[j]? = some (arrOf lT)[j]:=getElem?_pos _ j (by omega)
   rw[fE e1,fE e2]
   exact oE sX lF (by rw[<- eX, <- dG];exact e1) (by rw[<- eX, <- dG];exact e2)
end
end TS
namespace L2
open PySem PySem.Spec PyProof.Rows
section
variable {prog:Program}{w:World}{A:Around}{E:Value->Shared->Prop}{s:Shared}
theorem RE {a:Addr}{vs:List Value}{ns:List Int}{n:Nat}{P:Fin->Shared->Prop} (ho:s.heap.get? a=some (seqObj "list" vs.toArray n)) (hI:IntsAre vs ns) (h2:2<=vs.length) (hz:vs.length<=sizeLine)
  (q:∀ (out:Array Value) (lE:List Int),IntsAre out.toList lE->lE.Perm ns->lE.Pairwise (· <= ·)->P (.done (.ret .none)) { s with heap:=sortedHeap s.heap a vs out }) :
  wpAny (model prog w) A (Builtin.«list.sort» ⟨[.ref a], []⟩) P E s:=by
 have lt:a < s.heap.objs.size:=br ho
 have zs:vs.toArray.size<=sizeLine:=by rw[aX];exact hz
 obtain⟨m,o1⟩:∃ m,(s.heap.update a (iK fun _ => #[])).get? a=some (seqObj "list" #[] m):=⟨_,get?_update_seq ho _⟩
 have o2:(((s.heap.update a (iK fun _ => #[])).push (seqObj "tuple" vs.toArray 0)).push (seqObj "list" #[] 0)).get? a=some (seqObj "list" #[] m) :=
  aU _ (aU _ o1)
 rw[list_sort_plain]
 refine wpAny_bind (listItems_at ho rfl (wpAny_bind (listUpdate_at ho rfl ?_ (hsz:=zs))))
 refine wpAny_bind (seqEpoch_at (s := { s with heap:=s.heap.update a (iK fun _ => #[]) }) o1 rfl ?_)
 refine wpAny_bind (wpAny_newTuple (wpAny_bind (wpAny_newList (wpAny_holding ?_))))
 have big:¬ vs.toArray.size < 2:=by rw[aX];omega
 rw[if_neg big,if_neg big]
 have kk:keyKind' vs.toArray=pure oneType':=by
  match vs,h2,hI with
  | x :: y :: l,_,hI=>exact keyKind_ints hI
  | [_],h,_=>exact absurd (show 2<=1 from h) (by decide)
  | [],h,_=>exact absurd (show 2<=0 from h) (by decide)
 rw[kk]
 refine wpAny_bind (wpAny_pure (wpAny_bind (wpAny_mono (TS.Mu (a₀ := pairsOf vs) (st:=fV oneType' (vs.toArray.zip vs.toArray) #[] 7 none)
  (Q:=fun _ t=>(arrOf t).Perm (pairsOf vs)∧failedOf t=none∧SortedTo (arrOf t) (pairsOf vs).size) hI.intKeys ⟨Gy _,rfl,rfl,rfl⟩ (by rw[pairsOf_size];exact h2) fun t p1 p2 p3=>⟨p1,p2,p3⟩) (fun r t z => ?_) fun _ _ z=>z)))
 obtain⟨⟨⟩,t'⟩:=r
 obtain⟨rfl,pm,fl,so⟩:=z
 dsimp only
 obtain⟨lE,r1,r2,r3⟩:=sorted_out hI pm so
 refine wpAny_bind (seqEpoch_at (s := { s with heap:=_ }) o2 rfl (wpAny_bind (listUpdate_at (s := { s with heap:=_ }) o2 rfl ?_ (hsz:=bD _) (hsz2:=?_))))
 ·rw[fl]
  simp only[bne_self_eq_false,ft,if_false]
  exact wpAny_pure (q _ lE r1 r2 r3)
 ·rw[Array.size_map,pm.size_eq,pairsOf_size]
  exact uF hz
theorem Mz {l:Addr}{vs:List Value}{ns:List Int}{Q:Value->Shared->Prop} (hl:s.heap.IsList l vs.toArray) (hI:IntsAre vs ns) (h2:2<=vs.length) (hz:vs.length<=sizeLine)
  (q:∀ (out:Array Value) (lE:List Int),IntsAre out.toList lE->lE.Perm ns->lE.Pairwise (· <= ·)->Q (.ref (s.heap.objs.size+1)) { s with heap:=sortedAll s.heap vs out }) :
  wpAny (model prog w) A (call (.builtin "sorted") [.ref l]) Q E s:=by
 have e1:((s.heap.push (seqObj "list" #[] 0)).update s.heap.objs.size (iK (· ++ vs.toArray))).objs.size=s.heap.objs.size+1:=by rw[Heap.size_update,size_push']
 have e2:(((s.heap.push (seqObj "list" #[] 0)).update s.heap.objs.size (iK (· ++ vs.toArray))).push (seqObj "list" vs.toArray 0)).get? (s.heap.objs.size+1)=some (seqObj "list" vs.toArray 0):=by
  have:=bZ ((s.heap.push (seqObj "list" #[] 0)).update s.heap.objs.size (iK (· ++ vs.toArray))) (o:=seqObj "list" vs.toArray 0) rfl
  rw[e1]at this
  exact this
 refine Calls.call_function_entry kind_sorted plain_sorted entry_sorted (args_sorted1 _) ?_
 unfold Builtin.«sorted»
 refine wpAny_bind (m:=checkCount "sorted" 1 1 _) (wpAny_pure (wpAny_bind (collect_list hl (wpAny_bind (wpAny_newList ?_)) hz)))
 show wpAny _ _ _ _ _ { s with heap:=((s.heap.push (seqObj "list" #[] 0)).update s.heap.objs.size (iK (· ++ vs.toArray))).push (seqObj "list" vs.toArray 0) }
 rw[e1]
 exact wpAny_bind (wpAny_holding (wpAny_call_entry slot_list_sort ⟨_,e2,rfl⟩ entry_list_sort (RE e2 hI h2 hz fun out lE a1 a2 a3=>⟨_,rfl,wpAny_pure ⟨_,rfl,q out lE a1 a2 a3⟩⟩) (args_list_sort _)))
end
section
variable {X:Cx}
inductive yD (kK:ak) (xs:List V) (H:Hp) (Q:VK):Prop
 | mk:∀ (p:Addr) (ns:List Int),(xs = [.ref p])->(bb kK H p (ns.map V.int))->(∀ (lE:List Int) (l:Addr),lE.Perm ns->lE.Pairwise (· <= ·)->H l=none->Q (.ref l) (aJ H l (.lst (lE.map V.int))))->yD kK xs H Q
theorem LP:lQ X (.builtin "sorted") (fun xs H Q=>yD X.K xs H Q):=by
 intro ag s σ H xs us Q I r h
 obtain⟨p,ns,rfl,hS,q⟩:=h
 by_cases h64:ns.length < 64
 ·exact BH ag s σ H [.ref p] us Q I r ⟨p,ns,rfl,hS,h64,q⟩
 obtain⟨u,rfl,rx⟩:=vals1 r
 cases rx
 obtain⟨its,r',pl,hz⟩:=I.list hS
 have iw:=r'.length
 rw[aq]at iw hz
 refine Mz pl.isList (vP r') (by omega) (by omega) fun out lE a1 a2 a3 => ?_
 obtain⟨e,he⟩:=sortedAll_at s.heap its out
 have C7:lE.length=ns.length:=a2.length_eq
 exact⟨.ref (s.heap.objs.size+1),_,I.laid (t':=s.toks) (fun b o e'=>sortedAll_old e') (lC _) (show d8 X.prog X.w _ (sortedAll s.heap its out) _ (.lst (lE.map V.int)) from ⟨by rw[aq,C7];exact hz,out.toList,e,wJ a1,by rw[he]⟩),rfl,q lE _ a2 a3 (I.bU.fresh (lC _))⟩
end
end L2
namespace Up
open PySem L2 Sw
def top (i:Nat):Stmt:=mi.main.body.getD i (.Pass ⟨0,0,0,0⟩)
abbrev vn:Stmt:=gJ (top 5) 0
theorem YL:bI ["self", "room"] ["self", "room"] (aw vn):=⟨rfl,rfl,rfl,by decide +kernel,rfl,by decide +kernel,by decide +kernel⟩
abbrev Ce:Stmt:=gJ (top 5) 1
theorem RP:bI ["self", "pattern", "binds", "many"] ["self", "pattern", "binds"] (aw Ce):=⟨rfl,rfl,rfl,by decide +kernel,rfl,by decide +kernel,by decide +kernel⟩
abbrev mP:Stmt:=gJ (top 5) 2
theorem xu:bI ["self", "pattern", "binds", "numbers", "arm"] ["self", "pattern", "binds"] (aw mP):=⟨rfl,rfl,rfl,by decide +kernel,rfl,by decide +kernel,by decide +kernel⟩
abbrev mO:Stmt:=gJ (top 5) 3
theorem MC:bI ["self", "term"] ["self", "term"] (aw mO):=⟨rfl,rfl,rfl,by decide +kernel,rfl,by decide +kernel,by decide +kernel⟩
abbrev tS:Stmt:=top 7
theorem YK:bI ["term", "leads"] ["term", "leads"] (aw tS):=⟨rfl,rfl,rfl,by decide +kernel,rfl,by decide +kernel,by decide +kernel⟩
abbrev ji:Stmt:=top 9
theorem og:bI ["leads", "a", "b", "low", "high", "k"] ["leads", "a", "b"] (aw ji):=⟨rfl,rfl,rfl,by decide +kernel,rfl,by decide +kernel,by decide +kernel⟩
abbrev lx:Stmt:=top 10
theorem j4:bI ["terms", "leads", "joined", "first", "k", "term", "other"] ["terms", "leads"] (aw lx):=⟨rfl,rfl,rfl,by decide +kernel,rfl,by decide +kernel,by decide +kernel⟩
abbrev qe:Stmt:=top 8
theorem AF:bI ["terms", "edges", "leads", "edge"] ["terms", "edges"] (aw qe):=⟨rfl,rfl,rfl,by decide +kernel,rfl,by decide +kernel,by decide +kernel⟩
abbrev sh:Stmt:=gJ (top 16) 0
theorem Va:bI ["self", "room"] ["self", "room"] (aw sh):=⟨rfl,rfl,rfl,by decide +kernel,rfl,by decide +kernel,by decide +kernel⟩
abbrev vt:Stmt:=gJ (top 16) 1
theorem YN:bI ["self", "tree"] ["self", "tree"] (aw vt):=⟨rfl,rfl,rfl,by decide +kernel,rfl,by decide +kernel,by decide +kernel⟩
abbrev vh:Stmt:=gJ (top 16) 2
theorem Cc:bI ["self", "one", "other", "many", "a", "b"] ["self", "one", "other"] (aw vh):=⟨rfl,rfl,rfl,by decide +kernel,rfl,by decide +kernel,by decide +kernel⟩
abbrev xX:Stmt:=gJ (top 16) 3
theorem Nw:bI ["self", "one", "other", "weight", "ends"] ["self", "one", "other", "weight"] (aw xX):=⟨rfl,rfl,rfl,by decide +kernel,rfl,by decide +kernel,by decide +kernel⟩
abbrev mQ:Stmt:=top 17
theorem MD:bI ["bench"] ["bench"] (aw mQ):=⟨rfl,rfl,rfl,by decide +kernel,rfl,by decide +kernel,by decide +kernel⟩
abbrev qd:Stmt:=top 24
theorem RQ:bI ["term"] ["term"] (aw qd):=⟨rfl,rfl,rfl,by decide +kernel,rfl,by decide +kernel,by decide +kernel⟩
abbrev j6:Stmt:=top 25
theorem Jh:bI ["term"] ["term"] (aw j6):=⟨rfl,rfl,rfl,by decide +kernel,rfl,by decide +kernel,by decide +kernel⟩
abbrev jH:Stmt:=top 26
theorem GH:bI ["term"] ["term"] (aw jH):=⟨rfl,rfl,rfl,by decide +kernel,rfl,by decide +kernel,by decide +kernel⟩
abbrev lA:Stmt:=top 27
theorem Kd:bI ["term"] ["term"] (aw lA):=⟨rfl,rfl,rfl,by decide +kernel,rfl,by decide +kernel,by decide +kernel⟩
abbrev gS:Stmt:=top 30
theorem CD:bI ["number"] ["number"] (aw gS):=⟨rfl,rfl,rfl,by decide +kernel,rfl,by decide +kernel,by decide +kernel⟩
abbrev lB:Stmt:=top 32
theorem Ke:bI ["one", "other"] ["one", "other"] (aw lB):=⟨rfl,rfl,rfl,by decide +kernel,rfl,by decide +kernel,by decide +kernel⟩
abbrev gU:Stmt:=top 33
theorem CG:bI ["one", "other"] ["one", "other"] (aw gU):=⟨rfl,rfl,rfl,by decide +kernel,rfl,by decide +kernel,by decide +kernel⟩
abbrev jf:Stmt:=top 31
theorem kH:bI ["combine", "fact", "other_fact", "found", "one", "other"] ["combine", "fact", "other_fact"] (aw jf):=⟨rfl,rfl,rfl,by decide +kernel,rfl,by decide +kernel,by decide +kernel⟩
abbrev nQ:Stmt:=gJ (top 28) 0
theorem Kb:bI ["self", "terms", "leads"] ["self", "terms", "leads"] (aw nQ):=⟨rfl,rfl,rfl,by decide +kernel,rfl,by decide +kernel,by decide +kernel⟩
abbrev AG:Stmt:=gJ (top 28) 1
abbrev vm:Stmt:=gJ (top 28) 2
abbrev vg:Stmt:=gJ (top 29) 0
theorem YI:bI ["self"] ["self"] (aw vg):=⟨rfl,rfl,rfl,by decide +kernel,rfl,by decide +kernel,by decide +kernel⟩
abbrev p7:Stmt:=gJ (top 29) 1
theorem RN:bI ["self", "term", "known"] ["self", "term", "known"] (aw p7):=⟨rfl,rfl,rfl,by decide +kernel,rfl,by decide +kernel,by decide +kernel⟩
abbrev qt:Stmt:=gJ (top 34) 0
theorem ve:bI ["self", "terms", "leads", "place", "word", "k", "term"] ["self", "terms", "leads"] (aw qt):=⟨rfl,rfl,rfl,by decide +kernel,rfl,by decide +kernel,by decide +kernel⟩
abbrev vj:Stmt:=gJ (top 34) 1
theorem YJ:bI ["self"] ["self"] (aw vj):=⟨rfl,rfl,rfl,by decide +kernel,rfl,by decide +kernel,by decide +kernel⟩
abbrev p9:Stmt:=gJ (top 34) 2
theorem tQ:bI ["self", "term", "known", "bound", "found", "number"] ["self", "term", "known"] (aw p9):=⟨rfl,rfl,rfl,by decide +kernel,rfl,by decide +kernel,by decide +kernel⟩
abbrev mF:Stmt:=top 14
theorem PL:bI ["leads", "k"] ["leads", "k"] (aw mF):=⟨rfl,rfl,rfl,by decide +kernel,rfl,by decide +kernel,by decide +kernel⟩
abbrev oG:Stmt:=top 36
theorem jS:bI ["kind", "known", "steps", "done", "k", "term", "fact", "member"] ["kind"] (aw oG):=⟨rfl,rfl,rfl,by decide +kernel,rfl,by decide +kernel,by decide +kernel⟩
abbrev mE:Stmt:=top 37
theorem PK:bI ["terms", "leads", "k"] ["terms", "leads", "k"] (aw mE):=⟨rfl,rfl,rfl,by decide +kernel,rfl,by decide +kernel,by decide +kernel⟩
abbrev vi:Stmt:=top 38
theorem Cd:bI ["terms", "leads", "pairs", "k", "found"] ["terms", "leads"] (aw vi):=⟨rfl,rfl,rfl,by decide +kernel,rfl,by decide +kernel,by decide +kernel⟩
abbrev se:Stmt:=top 11
theorem yX:bI ["terms", "leads", "table", "k", "term"] ["terms", "leads"] (aw se):=⟨rfl,rfl,rfl,by decide +kernel,rfl,by decide +kernel,by decide +kernel⟩
abbrev r9:Stmt:=top 12
theorem r6:bI ["terms", "leads", "found", "seen", "k", "term", "own"] ["terms", "leads"] (aw r9):=⟨rfl,rfl,rfl,by decide +kernel,rfl,by decide +kernel,by decide +kernel⟩
abbrev jg:Stmt:=top 41
theorem qF:bI ["terms", "leads", "found", "row"] ["terms", "leads"] (aw jg):=⟨rfl,rfl,rfl,by decide +kernel,rfl,by decide +kernel,by decide +kernel⟩
abbrev jh:Stmt:=top 51
theorem oa:bI ["terms", "leads", "term", "values", "number", "standing"] ["terms", "leads", "term"] (aw jh):=⟨rfl,rfl,rfl,by decide +kernel,rfl,by decide +kernel,by decide +kernel⟩
abbrev j5:Stmt:=top 52
theorem Jg:bI ["term", "values"] ["term", "values"] (aw j5):=⟨rfl,rfl,rfl,by decide +kernel,rfl,by decide +kernel,by decide +kernel⟩
abbrev ly:Stmt:=top 53
theorem Kc:bI ["value"] ["value"] (aw ly):=⟨rfl,rfl,rfl,by decide +kernel,rfl,by decide +kernel,by decide +kernel⟩
abbrev tR:Stmt:=top 50
theorem rZ:bI ["terms", "leads", "table", "found", "k", "values", "result", "left"] ["terms", "leads"] (aw tR):=⟨rfl,rfl,rfl,by decide +kernel,rfl,by decide +kernel,by decide +kernel⟩
abbrev p8:Stmt:=gJ (top 54) 0
theorem RO:bI ["self", "terms", "leads"] ["self", "terms", "leads"] (aw p8):=⟨rfl,rfl,rfl,by decide +kernel,rfl,by decide +kernel,by decide +kernel⟩
abbrev nP:Stmt:=gJ (top 54) 1
abbrev vk:Stmt:=top 49
theorem uV:bI ["bench", "rules", "terms", "leads", "found", "scene", "rule"] ["bench", "rules"] (aw vk):=⟨rfl,rfl,rfl,by decide +kernel,rfl,by decide +kernel,by decide +kernel⟩
abbrev mR:Stmt:=top 55
theorem ic:bI ["bench", "steps", "many", "edges", "why", "weight", "left", "right", "binds", "a", "b"] ["bench", "steps"] (aw mR):=⟨rfl,rfl,rfl,by decide +kernel,rfl,by decide +kernel,by decide +kernel⟩
abbrev xY:Stmt:=top 56
theorem GI:bI ["bench", "rules", "rounds", "size", "turns", "steps"] ["bench", "rules", "rounds", "size"] (aw xY):=⟨rfl,rfl,rfl,by decide +kernel,rfl,by decide +kernel,by decide +kernel⟩
abbrev vo:Stmt:=top 58
theorem YM:bI ["_law_cell", "_law_prime", "_law_many"] ["_law_cell", "_law_prime", "_law_many"] (aw vo):=⟨rfl,rfl,rfl,by decide +kernel,rfl,by decide +kernel,by decide +kernel⟩
abbrev vf:Stmt:=top 59
theorem GG:bI ["_law_k", "_law_cell", "_law_some", "_law_place"] ["_law_k", "_law_cell"] (aw vf):=⟨rfl,rfl,rfl,by decide +kernel,rfl,by decide +kernel,by decide +kernel⟩
abbrev qb:Stmt:=top 60
theorem AE:bI ["_law_cell", "_law_kind", "_law_number_here"] ["_law_cell"] (aw qb):=⟨rfl,rfl,rfl,by decide +kernel,rfl,by decide +kernel,by decide +kernel⟩
abbrev sf:Stmt:=top 61
theorem U9:bI ["_law_due"] ["_law_due"] (aw sf):=⟨rfl,rfl,rfl,by decide +kernel,rfl,by decide +kernel,by decide +kernel⟩
abbrev mD:Stmt:=top 62
theorem PJ:bI ["_law_word_here", "_law_row"] ["_law_word_here", "_law_row"] (aw mD):=⟨rfl,rfl,rfl,by decide +kernel,rfl,by decide +kernel,by decide +kernel⟩
abbrev lW:Stmt:=top 63
theorem oF:bI ["_law_cell", "_law_seed", "_law_names", "_law_pool", "_law_kind", "_law_number_here", "_law_word_here", "_law_count", "_law_some", "_law_tree"] ["_law_cell", "_law_seed", "_law_names", "_law_pool"] (aw lW):=⟨rfl,rfl,rfl,by decide +kernel,rfl,by decide +kernel,by decide +kernel⟩
abbrev uL:Stmt:=top 64
theorem iX:bI ["_law_script", "_law_seed", "_law_bench", "_law_names", "_law_k", "_law_number_here", "_law_pool", "_law_places", "_law_cell", "_law_row", "_law_rounds", "_law_told", "_law_leads", "_law_place", "_law_due", "_law_found"] ["_law_script"] (aw uL):=⟨rfl,rfl,rfl,by decide +kernel,rfl,by decide +kernel,by decide +kernel⟩
section
variable {P:Program}{w:World}{K:ak}{mg:Str->Option Value}{base:Heap}{CB CF CH CS CN CE CM tB:Addr}
inductive Uh (K:ak) (vs:List V) (H:Hp) (Q:VK):Prop
 | mk (v:V) (t:Tm) (L:Addr) (ls:List Nat) (z0:vs = [v,.ref L]) (z1:iS H t v) (z2:bb K H L (ls.map nV)) (z3:(∀ x as,t = .of x as->as.length<=1000∧∀ a∈as,a < ls.length)) (z4:∀ v' H',bp H H'->iS H' (mk ls t) v'->Q v' H'):Uh K vs H Q
def EU (K:ak):Sp:=fun vs H Q _=>Uh K vs H Q
theorem Y9 (B:j0 mg) (D:Def K mg "mark" tS ["term", "leads"]):dh P w K mg base 1 "mark" ["term", "leads"] (EU K):=by
 refine D.has YK (fun vs H Q E h => ?_) (fun f cw A outer s H vs Q E hr h => ?_)
 ·obtain⟨v,t,L,ls,rfl,_⟩:=h;rfl
 obtain⟨v,t,L,ls,rfl,hT,hL,hb,q⟩:=h
 refine⟨_,(av (dy (b9 E3 (aY bL (pv 0) az (fun _ _=>rfl)) cY (bQ _)) (aC (bx (pv 0))) cq)
  (aC (bx (eQ (ae cY (ae (aY bL (pv 0) az (fun _ _=>rfl)) (ae (gZ pW rfl B.Ap pR (ae (sk (te:=(qq (DW K) _ _)) (own := ["number"]) (caps := [("leads",1)]) (jx (aw tS) ["term", "leads"] rfl rfl rfl (by decide +kernel)) (vz (aY bL (pv 0) az (fun _ _=>rfl))) rfl (fun _ _ _=>cC (i:=0) (show (["number", "leads"]:List Str).Nodup by decide +kernel) rfl (aQ rfl)) (fun _ _ _=>(aY cu (pv 1) (pv 0) (fun _ _=>rfl)))) ao)) ao))))))),?_⟩
 try dsimp only[dj]
 cases t with
 | num n =>
  obtain⟨a,rfl,h⟩:=id hT
  refine⟨_,rfl,a,_,0,_,rfl,rfl,bP.of h,aR (j:=0) rfl,rfl,_,rfl,zj (fun _=>⟨_,rfl,q _ _ (bp.refl _) hT⟩) (fun z=>absurd (V.str.inj z) (by decide))⟩
 | name n =>
  obtain⟨a,rfl,h⟩:=id hT
  refine⟨_,rfl,a,_,0,_,rfl,rfl,bP.of h,aR (j:=0) rfl,rfl,_,rfl,zj (fun _=>⟨_,rfl,q _ _ (bp.refl _) hT⟩) (fun z=>absurd (V.str.inj z) (by decide))⟩
 | of x as =>
  obtain⟨a,b,rfl,h,h2⟩:=id hT
  obtain⟨hl,eS⟩:=hb x as rfl
  refine⟨_,rfl,a,_,0,_,rfl,rfl,bP.of h,aR (j:=0) rfl,rfl,_,rfl,zj (fun z=>absurd rfl z) (fun _ => ?_)⟩
  refine⟨_,rfl,a,_,1,_,rfl,rfl,bP.of h,aR (j:=1) rfl,?_⟩
  refine⟨_,rfl,a,_,2,_,rfl,rfl,bP.of h,aR (j:=2) rfl,b,rfl,⟨_,bP.of h2⟩,?_⟩
  refine Im (ys:=(as.map fun a=>ls.getD a 0).map nV) (bP.of h2) (by rw[aq];exact hl) (by simp) (fun i y z hy hz H' sm Q' q' => ?_) (fun D1 H' XT sm hD => ?_)
  ·rw[aD]at hy
   rw[aD,aD]at hz
   cases e:as[i]? with
   | none=>rw[e]at hy;cases hy
   | some k =>
    rw[e]at hy hz
    have e1:nV k=y:=aE hy
    have e2:nV (ls.getD k 0)=z:=aE hz
    subst e1 e2
    have hk:=eS k (aP e)
    have e3:ls[k]? = some (ls.getD k 0):=by rw[aN,ah hk];rfl
    exact⟨_,rfl,_,rfl,L,_,_,_,rfl,rfl,sm.seq hL,gR e3,q' _ (bp.refl _)⟩
  ·refine⟨D1,_,rfl,.inl ⟨bb.of hD,fun l C7 => ?_⟩⟩
   refine⟨(show 3<=sizeLine by decide),fun t ht => ?_⟩
   refine q _ _ (sm.trans ((aS C7 _).trans (aS ht _))) ⟨t,l,rfl,au,?_⟩
   rw[ax (fS au ht),au]
inductive Ui (vs:List V) (H:Hp) (Q:VK):Prop
 | mk (L:Addr) (ls:List Nat) (a b la lb:Nat) (z0:vs = [.ref L,nV a,nV b]) (z1:H L=some (.lst (ls.map nV))) (z2:pk ls) (z3:ls.length<=1000000) (z4:ls[a]? = some la) (z5:ls[b]? = some lb) (z6:(la=lb->Q (.bl false) H)) (z7:(la≠lb->Q (.bl true) (aJ H L (.lst ((jn ls (max la lb) (min la lb)).map nV))))):Ui  vs H Q
def JU:Sp:=fun vs H Q _=>Ui  vs H Q
theorem E9 (B:j0 mg) (D:Def K mg "join_classes" ji ["leads", "a", "b"]):dh P w K mg base 1 "join_classes" ["leads", "a", "b"] JU:=by
 refine D.has og (fun vs H Q E h => ?_) (fun f cw A outer s H vs Q E hr h => ?_)
 ·obtain⟨L,ls,a,b,la,lb,rfl,_⟩:=h;rfl
 obtain⟨L,ls,a,b,la,lb,rfl,hL,hg,hz,ha,hb,q1,q2⟩:=h
 refine⟨_,(av (bH (i:=3) og.nd rfl (aQ rfl) (cy (TX rfl) rfl B.aa6 Iu (ae (aY cu (pv 0) (pv 1) (fun _ _=>rfl)) (ae (aY cu (pv 0) (pv 2) (fun _ _=>rfl)) ao))))
  (av (bH (i:=4) og.nd rfl (aQ rfl) (cy (TZ rfl) rfl B.aa7 Iw (ae (aY cu (pv 0) (pv 1) (fun _ _=>rfl)) (ae (aY cu (pv 0) (pv 2) (fun _ _=>rfl)) ao))))
  (av (dy (b9 dR (pv 3) (pv 4) (bQ _)) (aC (bx y8)) cq)
  (av (fR cG rfl (Sd rfl B.vx (ae (pv 4) (ae (cy bY rfl B.gW bC (ae (pv 0) ao)) ao))) (cC (i:=5) og.nd rfl (aQ rfl))
  (aC (dy (b9 dR (aY cu (pv 0) (pv 5) (fun _ _=>rfl)) (pv 4) (bQ _)) (aC (R8 (pv 3) (Se (pv 0) (pv 5) Ka))) cq)))
  (aC (bx y8)))))),?_⟩
 try dsimp only[dj]
 refine⟨_,rfl,_,rfl,L,_,_,_,rfl,rfl,bb.of hL,gR ha,_,rfl,_,rfl,L,_,_,_,rfl,rfl,bb.of hL,gR hb,_,_,rfl,?_⟩
 refine⟨_,rfl,_,rfl,L,_,_,_,rfl,rfl,bb.of hL,gR ha,_,rfl,_,rfl,L,_,_,_,rfl,rfl,bb.of hL,gR hb,_,_,rfl,?_⟩
 have e1:(if (lb:Int) < (la:Int) then (lb:Int) else (la:Int))=((min la lb:Nat):Int):=by split <;> omega
 have e2:(if (lb:Int) > (la:Int) then (lb:Int) else (la:Int))=((max la lb:Nat):Int):=by split <;> omega
 dsimp only[cg]
 rw[e1,e2]
 by_cases Bv:la=lb
 ·refine⟨_,rfl,_,rfl,rfl,_,rfl,dF (fun _=>q1 Bv) (fun z=>absurd ?_ z)⟩
  show V.int _=V.int _
  congr 1;omega
 ·refine⟨_,rfl,_,rfl,rfl,_,rfl,dF (fun z => ?_) (fun _ => ?_)⟩
  ·have:=V.int.inj z
   omega
  have hhi:∃ c:Nat,ls[c]? = some (max la lb):=by
   rcases mj la lb with h | h
   ·exact⟨b,by rw[ng h];exact hb⟩
   ·exact⟨a,by rw[oq h];exact ha⟩
  obtain⟨c,hc⟩:=hhi
  have aoA:=(hg c _ hc).2
  have eS:max la lb < ls.length:=(ai.mp aoA).1
  have q2':=q2 Bv
  have avg:min la lb < max la lb:=by omega
  generalize max la lb=hi at *
  generalize min la lb=lo at *
  refine⟨_,rfl,_,rfl,L,_,rfl,.inl (bb.of hL),hi,_,rfl,?_,?_⟩
  ·rw[aq];omega
  have en:(((ls.map nV).length:Nat):Int) - (hi:Int)=((ls.length - hi:Nat):Int):=by rw[aq];omega
  rw[en,b6]
  refine t8 (lo:=(hi:Int)) (fun i σ H'=>∃ o, σ = [some (.ref L),some (nV a),some (nV b),some (nV lo),some (nV hi),o]∧H'=aJ H L (.lst ((zU ls hi lo (hi+i)).map nV))) ⟨none,rfl,?_⟩ ?_ ?_
  ·rw[rf,SH hg]
   funext c'
   by_cases h:c'=L
   ·subst h;rw[au];exact hL
   ·rw[ax h]
  ·rintro i σ H' Oa ⟨o,rfl,rfl⟩
   have hk:hi+i < ls.length:=by omega
   have ev:=ah hk
   generalize ls[hi+i]=v at ev
   have em:(zU ls hi lo (hi+i))[hi+i]? = some v:=by
    rw[vH,ev]
    show some _=some _
    dsimp only
    rw[if_neg (by omega)]
   have ek:(hi:Int)+(i:Int)=((hi+i:Nat):Int):=by omega
   show GC _ _ _ _ _ _
   refine⟨_,rfl,_,rfl,L,_,_,nV v,rfl,rfl,bb.of au,(by rw[ek];exact gR em),_,rfl,rfl,_,rfl,dF (fun z => ?_) (fun z => ?_)⟩
   ·have hv:v=hi:=by have:=V.int.inj z;omega
    refine⟨_,rfl,_,rfl,_,rfl,L,_,_,hi+i,rfl,rfl,au,?_,⟨_,rfl,?_⟩⟩
    ·rw[ek,aq,NY]
     unfold Fi
     rw[if_pos (by omega),if_pos (by omega),b6]
    ·rw[GA]
     have:=Zl (hi:=hi) (lo:=lo) ev
     unfold nB at this
     rw[if_pos hv]at this
     rw[SA,this]
     rfl
   ·have hv:v≠hi:=fun e=>z (by rw[e])
    refine⟨_,rfl,?_⟩
    have:=VI (hi:=hi) (lo:=lo) ev hv
    rw[show hi+(i+1)=hi+i+1 from rfl,this]
  ·rintro σ H' ⟨o,rfl,rfl⟩
   rw[Zm (by omega)]
   exact q2'
inductive F5 (P:Program) (w:World) (vs:List V) (H:Hp) (Q:VK):Prop
 | mk (T L:Addr) (us:List V) (ts:List Tm) (ls:List Nat) (es:List (Nat × Nat)) (z0:vs = [.ref T,.ref L]) (z1:H T=some (.lst us)) (z2:om H us ts) (z3:H L=some (.lst (ls.map nV))) (z4:T≠L) (z5:pk ls) (z6:Sound ts es ls) (z7:ny ts) (z8:ls.length=ts.length) (z9:ts.length<=1000) (WN:(∀ (i:Nat) x as,ts[i]? = some (.of x as)->as.length<=1000)) (WM:∀ eI b H',fe L H H'->H' L=some (.lst (eI.map nV))->pk eI->Sound ts es eI->Keeps ls eI->eI.length=ls.length->(b=true->eI.sum < ls.sum)->(b=false->eI=ls∧∀ (i j:Nat) (t u:Tm),ts[i]? = some t->ts[j]? = some u->mk ls t=mk ls u->ls[i]? = ls[j]?)->Q (.bl b) H'):F5 P w vs H Q
def EV (P:Program) (w:World):Sp:=fun vs H Q _=>F5 P w vs H Q
inductive Ae (P:Program) (w:World) (H:Hp) (T:Addr) (L:Addr) (p:Addr) (ts:List Tm) (es:List (Nat × Nat)) (ls:List Nat) (i:Nat) (σ : St) (H':Hp):Prop
 | mk:∀ (eI:List Nat) (jd:Bool) (kvs:List (NK × V)) (x4 x5 x6:Option V),(σ = [some (.ref T),some (.ref L),some (.bl jd),some (.ref p),x4,x5,x6])->(fe L H H')->(H' L=some (.lst (eI.map nV)))->(DN P w H' p kvs)->(pk eI)->(Sound ts es eI)->(Keeps ls eI)->(eI.length=ls.length)->((jd=true->eI.sum < ls.sum))->((jd=false->eI=ls))->(eI.sum<=ls.sum)->(kvs.length<=i)->((∀ key v,cX kvs key=some v->∃ j t m,v=nV j∧ts[j]? = some t∧key=dU m∧F3 ts es t m))->((jd=false->∀ (j:Nat) t,j < i->ts[j]? = some t->∃ j',cX kvs (dU (mk ls t))=some (nV j')∧ls[j']? = ls[j]?))->Ae P w H T L p ts es ls i σ H'
theorem Ku (B:j0 mg) (qR:dh P w K mg base 1 "mark" ["term", "leads"] (EU K)) (j1:dh P w K mg base 1 "join_classes" ["leads", "a", "b"] JU) (D:Def K mg "join_like" lx ["terms", "leads"]) :
  dh P w K mg base 2 "join_like" ["terms", "leads"] (EV P w):=by
 refine D.has j4 (fun vs H Q E h => ?_) (fun f cw A outer s H vs Q E hr h => ?_)
 ·obtain⟨T,L,us,ts,ls,es,rfl,_⟩:=h;rfl
 obtain⟨T,L,us,ts,ls,es,rfl,hT,eM,hL,hTL,hg,hs,XE,iw,hz,hza,q⟩:=h
 refine⟨_,(av (bH (i:=2) j4.nd rfl (aQ rfl) y8)
  (av (bH (i:=3) j4.nd rfl (aQ rfl) y6)
  (av (fR cG rfl (uX rfl B.pf (ae (pv 0) ao)) (tU rfl (fw (cC (i:=4) j4.nd rfl (aQ rfl)) (fw (cC (i:=5) j4.nd rfl (aQ rfl)) qu)))
  (av (bH (i:=6) j4.nd rfl (aQ rfl) (YX (yR hr) (pv 3) (bh qR hr (by omega) rfl (ae (pv 5) (ae (pv 1) ao))) (pv 4) ⟨rfl,rfl,rfl,rfl⟩))
  (aC (dy (kI (bh j1 hr (by omega) rfl (ae (pv 1) (ae (pv 6) (ae (pv 4) ao))))) (aC (bH (i:=2) j4.nd rfl (aQ rfl) y8)) cq))))
  (aC (bx (pv 2)))))),?_⟩
 try dsimp only[dj]
 have wW:=bj eM
 intro p φ hp LK
 dsimp only[cg]
 have hpL:p≠L:=fun e=>by rw[e,hL]at hp;cases hp
 have hpT:p≠T:=fun e=>by rw[e,hT]at hp;cases hp
 refine⟨_,rfl,T,rfl,⟨us,bb.of (by rw[ax (bV hpT)];exact hT)⟩,?_⟩
 refine sT (xs:=us) (Ae P w H T L p ts es ls)
  ⟨ls,false, [],none,none,none,rfl,(fe.refl L H).new hp,by rw[ax (bV hpL)];exact hL,LK,hg,hs,Qi ls,rfl,(fun z=>nomatch z),fun _=>rfl,aA _,bD _,(fun key v e=>by rw[DE]at e;cases e),fun _ j t hj=>absurd hj (iL _)⟩ ?_ ?_ ?_
 ·rintro i σ H' _ ⟨eI,jd,kvs,x4,x5,x6,rfl,bt,_⟩
  exact bb.of (bt T _ hTL hT)
 ·rintro i x a0 σ H' hx ⟨eI,jd,kvs,x4,x5,x6,rfl,bt,nI,dn,t6,pB,C8,tL,XA,N9,VW,Fw,iA,iB⟩ Bw
  obtain⟨t,ht,zW⟩:=tP eM hx
  have hi:i < ts.length:=(ai.mp ht).1
  have AA:=aS Bw (.tup [.int (i:Int),x])
  have wc:=bt.same AA
  have itx:iS (aJ H' a0 (.tup [.int (i:Int),x])) t x:=zW.keep (wc.tup hL)
  have vY:=AA _ _ nI
  have Aa:=dn.same AA
  refine⟨a0,_,rfl,bP.of au,rfl,_,_,rfl,_,_,rfl,rfl,?_⟩
  generalize aJ H' a0 (.tup [.int (i:Int),x])=H1 at wc itx vY Aa ⊢
  have hb:∀ x as,t = .of x as->as.length<=1000∧∀ a∈as,a < eI.length:=fun x as e=>by
   subst e
   refine⟨hza i x as ht,fun a ha => ?_⟩
   have:=XE i x as ht a ha
   omega
  refine⟨_,rfl,p,rfl,⟨kvs,Aa⟩,_,rfl,_,rfl,x,t,L,eI,rfl,itx,bb.of vY,hb,fun v' H2 RH hm => ?_⟩
  obtain⟨b,rfl,nk⟩:=hm.key
  have wa:=Aa.same RH
  have yo:=RH _ _ vY
  have rL:=wc.same RH
  obtain⟨li,wZ⟩:∃ li,eI[i]? = some li:=⟨_,ah (by omega)⟩
  refine⟨_,rfl,kvs,dU (mk eI t),b,wa,rfl,nk,dE (by omega),fun v hv => ?_,fun hn φ2 OA => ?_⟩
  ·-- there is one ard
   obtain⟨j,u,m,rfl,hu,zo,jZ⟩:=iA _ _ hv
   have em:m=mk eI t:=rV zo.symm
   subst em
   have hj:j < ts.length:=(ai.mp hu).1
   obtain⟨lj,S4⟩:∃ lj,eI[j]? = some lj:=⟨_,ah (by omega)⟩
   have eq:Eqv ts es j i:=ET hu ht jZ (wL pB (fun x as e=>(hb x as e).2))
   refine⟨_,rfl,_,rfl,_,rfl,L,eI,j,i,lj,li,rfl,yo,t6,by omega,S4,wZ,fun e => ?_,fun e => ?_⟩
   ·refine⟨_,rfl,hZ ⟨eI,jd,kvs,_,_,_,rfl,rL,yo,wa,t6,pB,C8,tL,XA,N9,VW,by omega,iA,fun Fy j' t' hj' Fo => ?_⟩⟩
    by_cases Lf:j' < i
    ·exact iB Fy j' t' Lf Fo
    ·have e':j'=i:=by omega
     subst e'
     rw[ht]at Fo;cases Fo
     have el:=N9 Fy
     rw[el]at hv S4 wZ
     exact⟨j,hv,by rw[S4,wZ,e]⟩
   ·have e1:Eqv ts es lj li := .trans (.symm (pB j lj S4)) (.trans eq (pB i li wZ))
    have g1:=(t6 j lj S4).2
    have g2:=(t6 i li wZ).2
    have eqv:Eqv ts es (max lj li) (min lj li):=by
     rcases mj lj li with h | h
     ·rw[ng h,kY h];exact e1.symm
     ·rw[oq h,kc h];exact e1
    have Fu:eI[min lj li]? = some (min lj li):=by
     rcases mj lj li with h | h
     ·rw[kY h];exact g1
     ·rw[kc h];exact g2
    have hhi:max lj li∈eI:=by
     rcases mj lj li with h | h
     ·rw[ng h];exact aP g2
     ·rw[oq h];exact aP g1
    have eS:min lj li < max lj li:=by omega
    have hsm:=Rl eS hhi
    refine⟨_,rfl,jI ?_⟩
    refine⟨jn eI (max lj li) (min lj li),true,kvs,_,_,_,rfl,rL.put,au,wa.keep (fun φ e=>by rw[ax hpL];exact e) (fun c ys e=>by rw[ax (dq e yo (fun z=>nomatch z))];exact e),
     Oo t6 Fu eS,JW pB eqv,C8.trans (VS _ _ _),by rw[SU];exact tL,fun _=>by omega,(fun z=>nomatch z),by omega,by omega,iA,(fun z=>nomatch z)⟩
  ·-- it is vd first one
   have FI:(aJ H2 p (.ext φ2)) L=some (.lst (eI.map nV)):=by rw[ax (bV hpL)];exact yo
   refine⟨_,rfl,_,rfl,_,rfl,L,eI,i,i,li,li,rfl,FI,t6,by omega,wZ,wZ,fun _ => ?_,fun z=>absurd rfl z⟩
   refine⟨_,rfl,hZ ⟨eI,jd,_,_,_,_,rfl,rL.new hp,FI,OA,t6,pB,C8,tL,XA,N9,VW,by rw[aG];show kvs.length+1<=i+1;omega,fun key v e => ?_,fun Fy j' t' hj' Fo => ?_⟩⟩
   ·rw[wK _ _ _ _ hn]at e
    by_cases hk:key=dU (mk eI t)
    ·rw[if_pos hk]at e
     cases e
     exact⟨i,t,mk eI t,rfl,ht,hk,wL pB (fun x as e=>(hb x as e).2)⟩
    ·rw[if_neg hk]at e
     exact iA key v e
   ·have el:=N9 Fy
    rw[wK _ _ _ _ hn]
    by_cases Lf:j' < i
    ·obtain⟨j2,e1,e2⟩:=iB Fy j' t' Lf Fo
     by_cases hk:dU (mk ls t')=dU (mk eI t)
     ·rw[hk,hn]at e1;cases e1
     ·rw[if_neg hk];exact⟨j2,e1,e2⟩
    ·have e':j'=i:=by omega
     subst e'
     rw[ht]at Fo;cases Fo
     rw[el,if_pos rfl]
     exact⟨j',rfl,rfl⟩
 ·rintro σ H' ⟨eI,jd,kvs,x4,x5,x6,rfl,bt,nI,dn,t6,pB,C8,tL,XA,N9,VW,Fw,iA,iB⟩
  refine⟨_,rfl,q eI jd H' bt nI t6 pB C8 tL XA fun Fy=>⟨N9 Fy,fun i j t u hi hj hm => ?_⟩⟩
  obtain⟨i',a1,a2⟩:=iB Fy i t (by rw[wW];exact(ai.mp hi).1) hi
  obtain⟨j',b1,b2⟩:=iB Fy j u (by rw[wW];exact(ai.mp hj).1) hj
  rw[hm,b1]at a1
  have e:i'=j':=by have:=V.int.inj (aE a1);omega
  rw[<- a2, <- b2,e]
inductive L7 (K:ak) (vs:List V) (H:Hp) (Q:VK):Prop
 | mk (T E:Addr) (us mI:List V) (ts:List Tm) (es:List (Nat × Nat)) (z0:vs = [.ref T,.ref E]) (z1:H T=some (.lst us)) (z2:om H us ts) (z3:bb K H E mI) (z4:zM H mI es) (z5:ny ts) (z6:ts.length<=1000) (z7:(∀ (i:Nat) x as,ts[i]? = some (.of x as)->as.length<=1000)) (z8:(∀ a b:Nat,(a,b)∈es->a < ts.length∧b < ts.length)) (z9:∀ L ls H',bp H H'->H L=none->H' L=some (.lst (ls.map nV))->eE ts es ls->Q (.ref L) H'):L7 K vs H Q
def JV (K:ak):Sp:=fun vs H Q _=>L7 K vs H Q
inductive Gq (H:Hp) (T:Addr) (E:Addr) (L:Addr) (ts:List Tm) (es:List (Nat × Nat)) (bF:St) (H':Hp):Prop
 | mk:∀ (ls:List Nat) (x3:Option V),(bF = [some (.ref T),some (.ref E),some (.ref L),x3])->(bp H H')->(H' L=some (.lst (ls.map nV)))->(pk ls)->(Sound ts es ls)->(ls.length=ts.length)->(∀ a b:Nat,(a,b)∈es->ls[a]? = ls[b]?)->Gq H T E L ts es bF H'
inductive Gp (H:Hp) (T:Addr) (E:Addr) (L:Addr) (ts:List Tm) (es:List (Nat × Nat)) (i:Nat) (bF:St) (H':Hp):Prop
 | mk:∀ (ls:List Nat) (x3:Option V),(bF = [some (.ref T),some (.ref E),some (.ref L),x3])->(bp H H')->(H' L=some (.lst (ls.map nV)))->(pk ls)->(Sound ts es ls)->(ls.length=ts.length)->(∀ (j a b:Nat),j < i->es[j]? = some (a,b)->ls[a]? = ls[b]?)->Gp H T E L ts es i bF H'
theorem Sr (B:j0 mg) (j1:dh P w K mg base 1 "join_classes" ["leads", "a", "b"] JU) (xE:dh P w K mg base 2 "join_like" ["terms", "leads"] (EV P w)) (D:Def K mg "closed" qe ["terms", "edges"]) :
  dh P w K mg base 3 "closed" ["terms", "edges"] (JV K):=by
 refine D.has AF (fun vs H Q E h => ?_) (fun f cw A outer s H vs Q E hr h => ?_)
 ·obtain⟨T,E,us,mI,ts,es,rfl,_⟩:=h;rfl
 obtain⟨T,E,us,mI,ts,es,rfl,hT,eM,hE,hes,XE,hz,hza,hee,q⟩:=h
 refine⟨_,(av (bH (i:=2) AF.nd rfl (aQ rfl) (gZ (Jm rfl) rfl B.uM jW (ae (gZ LQ rfl B.vx PyProof.Rows.boot_range (ae (cy bY rfl B.gW bC (ae (pv 0) ao)) ao)) ao)))
  (av (fR cG rfl (jD (pv 1)) (cC (i:=3) AF.nd rfl (aQ rfl))
  (aC (gu (bh j1 hr (by omega) rfl (ae (pv 2) (ae (aY bL (pv 3) az (fun _ _=>rfl)) (ae (aY bL (pv 3) az (fun _ _=>rfl)) ao)))))))
  (av (Kp cG (kI (bh xE hr (by omega) rfl (ae (pv 0) (ae (pv 2) ao))))
  (aC YU))
  (aC (bx (pv 2)))))),?_⟩
 try dsimp only[dj]
 have wW:=bj eM
 have hue:=bj hes
 refine⟨_,rfl,T,us,rfl,.inl (bb.of hT),_,rfl,fun r Xs=>⟨r,us.length,rfl,au,by omega,fun L Dh => ?_⟩⟩
 dsimp only[cg]
 have XN:H L=none:=by
  by_cases e:L=r
  ·rw[e];exact Xs
  ·rw[ax e]at Dh;exact Dh
 have AA:bp H (aJ (aJ H r (.CZ 0 ((us.length:Nat):Int))) L (.lst ((bB us.length).map fun i:Nat=>V.int (i:Int)))):=(aS Xs _).trans (aS Dh _)
 have vY:(aJ (aJ H r (.CZ 0 ((us.length:Nat):Int))) L (.lst ((bB us.length).map fun i:Nat=>V.int (i:Int)))) L=some (.lst ((bB ts.length).map nV)):=by rw[au,wW]
 generalize (aJ (aJ H r (.CZ 0 ((us.length:Nat):Int))) L (.lst ((bB us.length).map fun i:Nat=>V.int (i:Int))))=H1 at AA vY ⊢
 have hTL:T≠L:=fun e=>by rw[e,XN]at hT;cases hT
 refine ik (Gq H T E L ts es) ?_ (fun key => ?_)
 ·rintro bF H2 ⟨ls,x3,rfl,RH,yo,hg2,cI,ahQ,aoE⟩
  refine⟨fun m bF H'=>∃ (ls:List Nat),m=ls.sum ∧ bF = [some (.ref T),some (.ref E),some (.ref L),x3]∧bp H H'∧H' L=some (.lst (ls.map nV))∧pk ls∧Sound ts es ls∧ls.length=ts.length∧∀ a b:Nat,(a,b)∈es->ls[a]? = ls[b]?,
   ⟨_,ls,rfl,rfl,RH,yo,hg2,cI,ahQ,aoE⟩,?_⟩
  rintro m bF H3 ⟨ls,rfl,rfl,JY,FI,hg3,yh,Xz,adg⟩
  refine⟨_,rfl,_,rfl,T,L,us,ts,ls,es,rfl,JY _ _ hT,gC JY eM,FI,hTL,hg3,yh,XE,Xz,hz,hza,fun eI b H4 bt hL4 hg4 S1 hk4 avh hbt hbf => ?_⟩
  have Nt:bp H H4:=fun c o h=>bt c o (fun e=>by rw[e,XN]at h;cases h) (JY c o h)
  have V1:∀ a b:Nat,(a,b)∈es->eI[a]? = eI[b]? := fun a b h=>by
   obtain⟨h1,h2⟩:=hee a b h
   obtain⟨v,hv⟩:∃ v,ls[a]? = some v:=⟨_,ah (by omega)⟩
   obtain⟨u,e1,e2⟩:=hk4 a b v hv (by rw[<- adg a b h];exact hv)
   rw[e1,e2]
  refine⟨_,rfl,?_⟩
  cases b with
  | true =>
   refine jI ⟨fun bF H'=>∃ m',m' < ls.sum∧∃ (ls:List Nat),m'=ls.sum ∧ bF = [some (.ref T),some (.ref E),some (.ref L),x3]∧bp H H'∧H' L=some (.lst (ls.map nV))∧pk ls∧Sound ts es ls∧ls.length=ts.length∧∀ a b:Nat,(a,b)∈es->ls[a]? = ls[b]?,fun bF H' h=>h,?_⟩
   exact⟨_,hbt rfl,eI,rfl,rfl,Nt,hL4,hg4,S1,by omega,V1⟩
  | false =>
   obtain⟨el,hm⟩:=hbf rfl
   refine hZ ⟨_,rfl,q L eI H4 Nt XN hL4 ⟨by omega,hg4,S1,fun i j hi hj e => ?_⟩⟩
   rw[el]
   exact Wj XE hee Xz adg hm e
 ·refine⟨_,rfl,E,rfl,⟨mI,AA.seq hE⟩,?_⟩
  refine qk (xs:=mI) (Gp H T E L ts es)
   ⟨_,none,rfl,AA,vY,Zu _,U3 _ _ _,da,fun j a b hj=>absurd hj (iL _)⟩ ?_ ?_ ?_
  ·rintro i bF H' _ ⟨ls,x3,rfl,sm,_⟩
   exact sm.seq hE
  ·rintro i x bF H' hx ⟨ls,x3,rfl,sm,nI,t6,pB,tL,Qs⟩
   obtain⟨⟨a,b⟩,he,ea,rest,rfl,hea⟩:=LI hes hx
   have adh:=sm _ _ hea
   obtain⟨ha,hb⟩:=hee a b (aP he)
   obtain⟨la,Ld⟩:∃ la,ls[a]? = some la:=⟨_,ah (by omega)⟩
   obtain⟨lb,S5⟩:∃ lb,ls[b]? = some lb:=⟨_,ah (by omega)⟩
   refine⟨_,rfl,_,rfl,ea,_,0,_,rfl,rfl,bP.of adh,aR (j:=0) rfl,_,rfl,ea,_,1,_,rfl,rfl,bP.of adh,aR (j:=1) rfl,L,ls,a,b,la,lb,rfl,nI,t6,by omega,Ld,S5,fun e => ?_,fun e => ?_⟩
   ·refine⟨ls,_,rfl,sm,nI,t6,pB,tL,fun j c d hj oK => ?_⟩
    by_cases Lf:j < i
    ·exact Qs j c d Lf oK
    ·have e':j=i:=by omega
     subst e'
     rw[he]at oK;cases oK
     rw[Ld,S5,e]
   ·have e1:Eqv ts es la lb := .trans (.symm (pB a la Ld)) (.trans (.BB (aP he)) (pB b lb S5))
    have g1:=(t6 a la Ld).2
    have g2:=(t6 b lb S5).2
    have eqv:Eqv ts es (max la lb) (min la lb):=by
     rcases mj la lb with h | h
     ·rw[ng h,kY h];exact e1.symm
     ·rw[oq h,kc h];exact e1
    have Fu:ls[min la lb]? = some (min la lb):=by
     rcases mj la lb with h | h
     ·rw[kY h];exact g1
     ·rw[kc h];exact g2
    have eS:min la lb < max la lb:=by omega
    refine⟨jn ls (max la lb) (min la lb),_,rfl,sm.put XN,au,Oo t6 Fu eS,JW pB eqv,by rw[SU];exact tL,fun j c d hj oK => ?_⟩
    by_cases Lf:j < i
    ·have:=Qs j c d Lf oK
     rw[qL,qL,this]
    ·have e':j=i:=by omega
     subst e'
     rw[he]at oK;cases oK
     rw[qL,qL,Ld,S5]
     show some _=some _
     unfold nB
     by_cases h:la<=lb
     ·rw[ng h,kY h,if_neg e,if_pos rfl]
     ·rw[oq (by omega),kc (by omega),if_pos rfl,if_neg (fun z=>e z.symm)]
  ·rintro bF H' ⟨ls,x3,rfl,sm,nI,t6,pB,tL,Qs⟩
   refine key _ _ ⟨ls,x3,rfl,sm,nI,t6,pB,tL,fun a b h => ?_⟩
   obtain⟨j,hj⟩:=my.mp h
   exact Qs j a b (by rw[hue];exact(ai.mp hj).1) hj
def jk (x:Str) (n:Nat):Tm->Bool
 | .of y as=>decide (y=x) && decide (as.length=n)
 | _=>false
structure BL (K:ak) (mg:Str->Option Value) (CS tB:Addr):Prop where
 cS:nK K CS
 iZ:fg K CS "terms"
 ye:fg K CS "leads"
 iC:∃ t,mg "NEGATIVE" = some (.int 1 t)
 iz:∃ t,mg "NOUGHT" = some (.int 2 t)
 kR:∃ t,mg "POSITIVE" = some (.int 4 t)
 iE:∃ t,mg "ANY_SIGN" = some (.int 7 t)
 nU:mg "SIGN_BITS" = some (.ref tB)
 bits:∀ H,bP K H tB [.int 1,.int 2,.int 4]
inductive Uj (x:Str) (n:Nat) (vs:List V) (H:Hp) (Q:VK):Prop
 | mk (v:V) (t:Tm) (z0:vs = [v]) (z1:iS H t v) (z2:Q (.bl (jk x n t)) H):Uj x n vs H Q
def lV (x:Str) (n:Nat):Sp:=fun vs H Q _=>Uj x n vs H Q
theorem sV {a:Nat}{n:Nat}:decide (V.int ((a:Nat):Int)=V.int ((n:Nat):Int))=decide (a=n):=by
 refine decide_eq_decide.mpr ⟨fun z => ?_,fun z=>by rw[z]⟩
 have:=V.int.inj z;omega
theorem Sq (B:j0 mg) (D:Def K mg "is_sum" qd ["term"]):dh P w K mg base 1 "is_sum" ["term"] (lV "plus" 2):=by
 refine D.has RQ (fun vs H Q E h => ?_) (fun f cw A outer s H vs Q E hr h => ?_)
 ·obtain⟨v,t,rfl,_⟩:=h;rfl
 obtain⟨v,t,rfl,hT,q⟩:=h
 refine⟨_,(aC (bx (qI (jj dR (aY bL (pv 0) az (fun _ _=>rfl)) cY (bQ _)) (qI (jj dR (aY bL (pv 0) az (fun _ _=>rfl)) cY (bQ _)) (Bk (jj dR (cy bY rfl B.gW bC (ae (aY bL (pv 0) az (fun _ _=>rfl)) ao)) az (bQ _))))))),?_⟩
 try dsimp only[dj]
 cases t with
 | num n =>
  obtain⟨a,rfl,h⟩:=id hT
  exact⟨_,rfl,a,_,0,_,rfl,rfl,bP.of h,aR (j:=0) rfl,rfl,_,rfl,dF (fun z=>absurd (V.str.inj z) (by decide)) (fun _=>q)⟩
 | name n =>
  obtain⟨a,rfl,h⟩:=id hT
  exact⟨_,rfl,a,_,0,_,rfl,rfl,bP.of h,aR (j:=0) rfl,rfl,_,rfl,dF (fun z=>absurd (V.str.inj z) (by decide)) (fun _=>q)⟩
 | of x as =>
  obtain⟨a,b,rfl,h,h2⟩:=id hT
  refine⟨_,rfl,a,_,0,_,rfl,rfl,bP.of h,aR (j:=0) rfl,rfl,_,rfl,dF (fun _ => ?_) (fun z=>absurd rfl z)⟩
  have LH:jk "plus" 2 (.of x as)=(decide (x = "plus") && decide (as.length=2)):=rfl
  rw[LH]at q
  refine⟨_,rfl,a,_,1,_,rfl,rfl,bP.of h,aR (j:=1) rfl,rfl,_,rfl,dF (fun hx => ?_) (fun hx => ?_)⟩
  ·refine⟨_,rfl,a,_,2,_,rfl,rfl,bP.of h,aR (j:=2) rfl,b,_,rfl,.inr (bP.of h2),rfl,?_⟩
   have e:decide (V.int (((as.map nV).length:Nat):Int)=V.int 2)=decide (as.length=2):=by rw[aq];exact sV (n:=2)
   rw[e]
   rw[decide_eq_true (V.str.inj hx),uz]at q
   exact q
  ·rw[decide_eq_false (fun z=>hx (by rw[z])),j3]at q
   exact q
theorem Jj (B:j0 mg) (D:Def K mg "is_product" j6 ["term"]):dh P w K mg base 1 "is_product" ["term"] (lV "times" 2):=by
 refine D.has Jh (fun vs H Q E h => ?_) (fun f cw A outer s H vs Q E hr h => ?_)
 ·obtain⟨v,t,rfl,_⟩:=h;rfl
 obtain⟨v,t,rfl,hT,q⟩:=h
 refine⟨_,(aC (bx (qI (jj dR (aY bL (pv 0) az (fun _ _=>rfl)) cY (bQ _)) (qI (jj dR (aY bL (pv 0) az (fun _ _=>rfl)) cY (bQ _)) (Bk (jj dR (cy bY rfl B.gW bC (ae (aY bL (pv 0) az (fun _ _=>rfl)) ao)) az (bQ _))))))),?_⟩
 try dsimp only[dj]
 cases t with
 | num n =>
  obtain⟨a,rfl,h⟩:=id hT
  exact⟨_,rfl,a,_,0,_,rfl,rfl,bP.of h,aR (j:=0) rfl,rfl,_,rfl,dF (fun z=>absurd (V.str.inj z) (by decide)) (fun _=>q)⟩
 | name n =>
  obtain⟨a,rfl,h⟩:=id hT
  exact⟨_,rfl,a,_,0,_,rfl,rfl,bP.of h,aR (j:=0) rfl,rfl,_,rfl,dF (fun z=>absurd (V.str.inj z) (by decide)) (fun _=>q)⟩
 | of x as =>
  obtain⟨a,b,rfl,h,h2⟩:=id hT
  refine⟨_,rfl,a,_,0,_,rfl,rfl,bP.of h,aR (j:=0) rfl,rfl,_,rfl,dF (fun _ => ?_) (fun z=>absurd rfl z)⟩
  have LH:jk "times" 2 (.of x as)=(decide (x = "times") && decide (as.length=2)):=rfl
  rw[LH]at q
  refine⟨_,rfl,a,_,1,_,rfl,rfl,bP.of h,aR (j:=1) rfl,rfl,_,rfl,dF (fun hx => ?_) (fun hx => ?_)⟩
  ·refine⟨_,rfl,a,_,2,_,rfl,rfl,bP.of h,aR (j:=2) rfl,b,_,rfl,.inr (bP.of h2),rfl,?_⟩
   have e:decide (V.int (((as.map nV).length:Nat):Int)=V.int 2)=decide (as.length=2):=by rw[aq];exact sV (n:=2)
   rw[e]
   rw[decide_eq_true (V.str.inj hx),uz]at q
   exact q
  ·rw[decide_eq_false (fun z=>hx (by rw[z])),j3]at q
   exact q
theorem GO (B:j0 mg) (D:Def K mg "is_opposite" jH ["term"]):dh P w K mg base 1 "is_opposite" ["term"] (lV "neg" 1):=by
 refine D.has GH (fun vs H Q E h => ?_) (fun f cw A outer s H vs Q E hr h => ?_)
 ·obtain⟨v,t,rfl,_⟩:=h;rfl
 obtain⟨v,t,rfl,hT,q⟩:=h
 refine⟨_,(aC (bx (qI (jj dR (aY bL (pv 0) az (fun _ _=>rfl)) cY (bQ _)) (qI (jj dR (aY bL (pv 0) az (fun _ _=>rfl)) cY (bQ _)) (Bk (jj dR (cy bY rfl B.gW bC (ae (aY bL (pv 0) az (fun _ _=>rfl)) ao)) az (bQ _))))))),?_⟩
 try dsimp only[dj]
 cases t with
 | num n =>
  obtain⟨a,rfl,h⟩:=id hT
  exact⟨_,rfl,a,_,0,_,rfl,rfl,bP.of h,aR (j:=0) rfl,rfl,_,rfl,dF (fun z=>absurd (V.str.inj z) (by decide)) (fun _=>q)⟩
 | name n =>
  obtain⟨a,rfl,h⟩:=id hT
  exact⟨_,rfl,a,_,0,_,rfl,rfl,bP.of h,aR (j:=0) rfl,rfl,_,rfl,dF (fun z=>absurd (V.str.inj z) (by decide)) (fun _=>q)⟩
 | of x as =>
  obtain⟨a,b,rfl,h,h2⟩:=id hT
  refine⟨_,rfl,a,_,0,_,rfl,rfl,bP.of h,aR (j:=0) rfl,rfl,_,rfl,dF (fun _ => ?_) (fun z=>absurd rfl z)⟩
  have LH:jk "neg" 1 (.of x as)=(decide (x = "neg") && decide (as.length=1)):=rfl
  rw[LH]at q
  refine⟨_,rfl,a,_,1,_,rfl,rfl,bP.of h,aR (j:=1) rfl,rfl,_,rfl,dF (fun hx => ?_) (fun hx => ?_)⟩
  ·refine⟨_,rfl,a,_,2,_,rfl,rfl,bP.of h,aR (j:=2) rfl,b,_,rfl,.inr (bP.of h2),rfl,?_⟩
   have e:decide (V.int (((as.map nV).length:Nat):Int)=V.int 1)=decide (as.length=1):=by rw[aq];exact sV (n:=1)
   rw[e]
   rw[decide_eq_true (V.str.inj hx),uz]at q
   exact q
  ·rw[decide_eq_false (fun z=>hx (by rw[z])),j3]at q
   exact q
def J0 (n:Int):Int:=if n < 0 then 1 else if n=0 then 2 else 4
inductive Yk (vs:List V) (H:Hp) (Q:VK):Prop
 | mk (n:Int) (z0:vs = [.int n]) (z1:Q (.int (J0 n)) H):Yk  vs H Q
def W0:Sp:=fun vs H Q _=>Yk  vs H Q
theorem CI (Z:BL K mg CS tB) (D:Def K mg "sign_of_number" gS ["number"]):dh P w K mg base 1 "sign_of_number" ["number"] W0:=by
 have iC:=Z.iC
 have iz:=Z.iz
 have kR:=Z.kR
 refine D.has CD (fun vs H Q E h => ?_) (fun f cw A outer s H vs Q E hr h => ?_)
 ·obtain⟨n,rfl,_⟩:=h;rfl
 obtain⟨n,rfl,q⟩:=h
 refine⟨_,(av (dy (b9 y9 (pv 0) az (bQ _)) (aC (bx (iu iC rfl))) cq)
  (av (dy (b9 dR (pv 0) az (bQ _)) (aC (bx (iu iz rfl))) cq)
  (aC (bx (iu kR rfl))))),?_⟩
 try dsimp only[dj]
 unfold J0 at q
 refine⟨_,rfl,_,_,rfl,rfl,_,rfl,dF (fun h => ?_) (fun h => ?_)⟩
 ·rw[if_pos h]at q;exact q
 ·rw[if_neg h]at q
  refine⟨_,rfl,rfl,_,rfl,dF (fun h' => ?_) (fun h' => ?_)⟩
  ·rw[if_pos (V.int.inj h')]at q;exact q
  ·rw[if_neg (fun z=>h' (by rw[z]))]at q;exact q
def BJ (a b:Int):Int:=if a=2∨a=b then b else if b=2 then a else 7
def vF (a b:Int):Int:=if a=2∨b=2 then 2 else if a=b then 4 else 1
inductive Ym (f:Int->Int->Int) (vs:List V) (H:Hp) (Q:VK):Prop
 | mk (a b:Int) (z0:vs = [.int a,.int b]) (z1:Q (.int (f a b)) H):Ym f vs H Q
def EX (f:Int->Int->Int):Sp:=fun vs H Q _=>Ym f vs H Q
theorem Kx (Z:BL K mg CS tB) (D:Def K mg "add_signs" lB ["one", "other"]):dh P w K mg base 1 "add_signs" ["one", "other"] (EX BJ):=by
 have iz:=Z.iz
 have iE:=Z.iE
 refine D.has Ke (fun vs H Q E h => ?_) (fun f cw A outer s H vs Q E hr h => ?_)
 ·obtain⟨a,b,rfl,_⟩:=h;rfl
 obtain⟨a,b,rfl,q⟩:=h
 refine⟨_,(av (dy (PW.pt (pw_or (b9 dR (pv 0) (iu iz rfl) (bQ _)) (pw_or1 (b9 dR (pv 0) (pv 1) (bQ _))))) (aC (bx (pv 1))) cq)
  (av (dy (b9 dR (pv 1) (iu iz rfl) (bQ _)) (aC (bx (pv 0))) cq)
  (aC (bx (iu iE rfl))))),?_⟩
 try dsimp only[dj]
 unfold BJ at q
 refine⟨_,rfl,rfl,_,rfl,dF (fun h=>jI ?_) (fun h=>⟨_,rfl,_,rfl,rfl,_,rfl,dF (fun h' => ?_) (fun h' => ?_)⟩)⟩
 ·rw[if_pos (.inl (V.int.inj h))]at q;exact⟨_,rfl,q⟩
 ·rw[if_pos (.inr (V.int.inj h'))]at q;exact⟨_,rfl,q⟩
 ·rw[if_neg (by rintro(z | z);exact h (by rw[z]);exact h' (by rw[z]))]at q
  refine⟨_,rfl,rfl,_,rfl,dF (fun h2 => ?_) (fun h2 => ?_)⟩
  ·rw[if_pos (V.int.inj h2)]at q;exact⟨_,rfl,q⟩
  ·rw[if_neg (fun z=>h2 (by rw[z]))]at q;exact q
theorem CJ (Z:BL K mg CS tB) (D:Def K mg "multiply_signs" gU ["one", "other"]):dh P w K mg base 1 "multiply_signs" ["one", "other"] (EX vF):=by
 have iC:=Z.iC
 have iz:=Z.iz
 have kR:=Z.kR
 refine D.has CG (fun vs H Q E h => ?_) (fun f cw A outer s H vs Q E hr h => ?_)
 ·obtain⟨a,b,rfl,_⟩:=h;rfl
 obtain⟨a,b,rfl,q⟩:=h
 refine⟨_,(av (dy (PW.pt (pw_or (b9 dR (pv 0) (iu iz rfl) (bQ _)) (pw_or1 (b9 dR (pv 1) (iu iz rfl) (bQ _))))) (aC (bx (iu iz rfl))) cq)
  (av (dy (b9 dR (pv 0) (pv 1) (bQ _)) (aC (bx (iu kR rfl))) cq)
  (aC (bx (iu iC rfl))))),?_⟩
 try dsimp only[dj]
 unfold vF at q
 refine⟨_,rfl,rfl,_,rfl,dF (fun h=>jI ?_) (fun h=>⟨_,rfl,rfl,_,rfl,dF (fun h' => ?_) (fun h' => ?_)⟩)⟩
 ·rw[if_pos (.inl (V.int.inj h))]at q;exact q
 ·rw[if_pos (.inr (V.int.inj h'))]at q;exact q
 ·rw[if_neg (by rintro(z | z);exact h (by rw[z]);exact h' (by rw[z]))]at q
  refine⟨_,rfl,_,rfl,rfl,_,rfl,dF (fun h2 => ?_) (fun h2 => ?_)⟩
  ·rw[if_pos (V.int.inj h2)]at q;exact q
  ·rw[if_neg (fun z=>h2 (by rw[z]))]at q;exact q
def ES (pC:Int->Int->Int) (f g acc a b:Int):Int:=if (fJ f a != 0)=true then (if (fJ g b != 0)=true then p4 acc (pC a b) else acc) else acc
def G0 (pC:Int->Int->Int) (f g acc a:Int) (bs:List Int):Int:=bs.foldl (fun acc b=>ES pC f g acc a b) acc
def Bl (pC:Int->Int->Int) (f g:Int) (as:List Int):Int:=as.foldl (fun acc a=>G0 pC f g acc a [1,2,4]) 0
def lJ (pC:Int->Int->Int) (f g:Int):Int:=Bl pC f g [1,2,4]
def pX:List Int := [1,2,4]
theorem EM {α β : Type} (F : β -> α -> β) (z : β) {l:List α}{i:Nat}{x : α} (h:l[i]? = some x):(l.take (i+1)).foldl F z=F ((l.take i).foldl F z) x:=by
 rw[dD,h,pK];rfl
inductive Ug (P:Program) (w:World) (K:ak) (mg:Str->Option Value) (base:Heap) (vs:List V) (H:Hp) (Q:VK):Prop
 | mk (f:Addr) (pC:Int->Int->Int) (a b:Int) (z0:vs = [.ref f,.int a,.int b]) (z1:WC P w K mg base 1 f ["one", "other"] (EX pC)) (z2:Q (.int (lJ pC a b)) H):Ug P w K mg base vs H Q
def Ry (P:Program) (w:World) (K:ak) (mg:Str->Option Value) (base:Heap):Sp:=fun vs H Q _=>Ug P w K mg base vs H Q
theorem E6 (Z:BL K mg CS tB) (D:Def K mg "sign_of_pair" jf ["combine", "fact", "other_fact"]):dh P w K mg base 2 "sign_of_pair" ["combine", "fact", "other_fact"] (Ry P w K mg base):=by
 have nU:=Z.nU
 let lq:=tB
 refine D.has kH (fun vs H Q E h => ?_) (fun f cw A outer s H vs Q E hr h => ?_)
 ·obtain⟨f,pC,a,b,rfl,_⟩:=h;rfl
 obtain⟨f,pC,a,b,rfl,hf,q⟩:=h
 refine⟨_,(av (bH (i:=3) kH.nd rfl (aQ rfl) az)
  (av (fR cG rfl (vz (uY (v := .ref lq) rfl nU rfl)) (cC (i:=4) kH.nd rfl (aQ rfl))
  (aC (fR cG rfl (vz (uY (v := .ref lq) rfl nU rfl)) (cC (i:=5) kH.nd rfl (aQ rfl))
  (aC (dy (PW.pt (pw_and (yY (dQ E4 (pv 1) (pv 4)) (fun _=>rfl)) (pw_and1 (yY (dQ E4 (pv 2) (pv 5)) (fun _=>rfl))))) (aC (bH (i:=3) kH.nd rfl (aQ rfl) (dQ PV (pv 3) (Vp (pv 0) hr (ae (pv 4) (ae (pv 5) ao)))))) cq)))))
  (aC (bx (pv 3))))),?_⟩
 try dsimp only[dj]
 have hb:=Z.bits H
 refine⟨tB,rfl,⟨_,hb⟩,?_⟩
 refine yp (xs:=pX.map V.int) (fun i σ H'=>∃ x4 x5:Option V, σ = [some (.ref f),some (.int a),some (.int b),some (.int (Bl pC a b (pX.take i))),x4,x5]∧H'=H) ⟨none,none,rfl,rfl⟩ ?_ ?_ ?_
 ·rintro i σ H' _ ⟨x4,x5,rfl,rfl⟩
  exact hb
 ·rintro i y σ H hy ⟨x4,x5,rfl,rfl⟩
  rw[aD]at hy
  cases e:pX[i]? with
  | none=>rw[e]at hy;cases hy
  | some o =>
   rw[e]at hy
   have e1:V.int o=y:=aE hy
   subst e1
   have es:Bl pC a b (pX.take (i+1))=G0 pC a b (Bl pC a b (pX.take i)) o [1,2,4]:=EM _ _ e
   rw[es]
   generalize Bl pC a b (pX.take i)=acc
   show Z7 _ _ _ _ _ _
   refine⟨tB,rfl,⟨_,hb⟩,?_⟩
   refine yp (xs:=pX.map V.int) (fun j σ H'=>∃ x5:Option V, σ = [some (.ref f),some (.int a),some (.int b),some (.int (G0 pC a b acc o (pX.take j))),some (.int o),x5]∧H'=H) ⟨x5,rfl,rfl⟩ ?_ ?_ ?_
   ·rintro j σ H' _ ⟨x5,rfl,rfl⟩
    exact hb
   ·rintro j y σ H' hy ⟨x5,rfl,rfl⟩
    rw[aD]at hy
    cases e':pX[j]? with
    | none=>rw[e']at hy;cases hy
    | some u =>
     rw[e']at hy
     have e1:V.int u=y:=aE hy
     subst e1
     have es:G0 pC a b acc o (pX.take (j+1))=ES pC a b (G0 pC a b acc o (pX.take j)) o u:=EM _ _ e'
     rw[es]
     generalize G0 pC a b acc o (pX.take j)=avG
     show GC _ _ _ _ _ _
     refine⟨_,rfl,_,rfl,_,_,rfl,rfl,_,rfl,?_⟩
     cases h1:(fJ a o != 0) with
     | false =>
      refine hZ (hZ ⟨some (.int u),?_,rfl⟩)
      unfold ES
      rw[if_neg (by rw[h1];decide)]
      rfl
     | true =>
      refine jI ⟨_,rfl,_,rfl,_,_,rfl,rfl,_,rfl,?_⟩
      cases h2:(fJ b u != 0) with
      | false =>
       refine hZ ⟨some (.int u),?_,rfl⟩
       unfold ES
       rw[if_pos h1,if_neg (by rw[h2];decide)]
       rfl
      | true =>
       refine jI ⟨_,rfl,_,rfl,f,_,_,rfl,hf,_,rfl,_,rfl,o,u,rfl,_,_,rfl,rfl,⟨some (.int u),?_,rfl⟩⟩
       unfold ES
       rw[if_pos h1,if_pos h2]
       rfl
   ·rintro σ H' ⟨x5,rfl,rfl⟩
    exact⟨_,_,rfl,rfl⟩
 ·rintro σ H' ⟨x4,x5,rfl,rfl⟩
  exact⟨_,rfl,q⟩
theorem Wc (f:Nat->Bool) (n:Nat):(bB n).filterMap (fun i:Nat=>if f i=true then some (nV i) else none)=((bB n).filter f).map nV:=by
 induction n with
 | zero=>rfl
 | succ n ih =>
  rw[ou,hV,BS,dX,ih]
  congr 1
  cases h:f n <;> simp[h]
inductive IJ (K:ak) (vs:List V) (H:Hp) (Q:VK):Prop
 | mk (L:Addr) (ls:List Nat) (k:Nat) (z0:vs = [.ref L,nV k]) (z1:bb K H L (ls.map nV)) (z2:ls.length<=900) (z3:k < ls.length) (z4:∀ D,H D=none->Q (.ref D) (aJ H D (.lst ((fC ls k).map nV)))):IJ K vs H Q
def Ax (K:ak):Sp:=fun vs H Q _=>IJ K vs H Q
theorem P1 (B:j0 mg) (D:Def K mg "members" mF ["leads", "k"]):dh P w K mg base 1 "members" ["leads", "k"] (Ax K):=by
 refine D.has PL (fun vs H Q E h => ?_) (fun f cw A outer s H vs Q E hr h => ?_)
 ·obtain⟨L,ls,k,rfl,_⟩:=h;rfl
 obtain⟨L,ls,k,rfl,hL,hz,hk,q⟩:=h
 refine⟨_,(aC (bx (D2 (te:=_) (ct:=(EN (qq _ (qq (DW K) _ _) (qq (DW K) _ _)))) (own := ["number"]) (caps := [("leads",0),("k",1)]) (jx (aw mF) ["leads", "k"] rfl rfl rfl (by decide +kernel)) (tT rfl B.vx (ae (cy bY rfl B.gW bC (ae (pv 0) ao)) ao)) rfl (fun _ _ _=>cC (i:=0) (show (["number", "leads", "k"]:List Str).Nodup by decide +kernel) rfl (aQ rfl)) (fun _ _ _=>(b9 dR (aY cu (pv 1) (pv 0) (fun _ _=>rfl)) (aY cu (pv 1) (pv 2) (fun _ _=>rfl)) (bQ _))) (fun _ _ _=>(pv 0))))),?_⟩
 try dsimp only[dj]
 have hl:(ls.map nV).length=ls.length:=aq ..
 refine⟨_,rfl,L,_,rfl,.inl hL,_,rfl,by omega,by omega,?_⟩
 rw[b6,hl]
 refine MS (lo:=0) (fun i=>if decide (ls.getD i.toNat 0=ls.getD k 0)=true then some (nV i.toNat) else none) (by omega) (fun i hi H' sm R q' => ?_) (fun i v hi e H' sm Q' q' => ?_) (fun D1 XT => ?_)
 ·have e1:ls[i]? = some (ls.getD i 0):=getD_at hi
  have e2:ls[k]? = some (ls.getD k 0):=getD_at hk
  have ei:(0+(i:Int))=((i:Nat):Int):=by omega
  rw[ei]at q' ⊢
  refine⟨_,rfl,_,rfl,L,_,_,_,rfl,rfl,sm.seq hL,gR e1,_,rfl,_,rfl,L,_,_,_,rfl,rfl,sm.seq hL,gR e2,rfl,_,rfl,?_⟩
  rw[b6]at q'
  have e3:decide (nV (ls.getD i 0)=nV (ls.getD k 0))=decide (ls.getD i 0=ls.getD k 0):=decide_eq_decide.mpr ⟨fun z=>by have:=V.int.inj z;omega,fun z=>by rw[z]⟩
  rw[e3]
  cases hd:decide (ls.getD i 0=ls.getD k 0) with
  | true=>rw[hd]at q';exact q'
  | false=>rw[hd]at q';exact q'
 ·have ei:(0+(i:Int))=((i:Nat):Int):=by omega
  rw[ei]at e ⊢
  rw[b6]at e
  split at e
  ·have:=aE e
   subst this
   exact⟨_,rfl,q'⟩
  ·cases e
 ·have e:((bB ls.length).filterMap fun i:Nat=>(fun i:Int=>if decide (ls.getD i.toNat 0=ls.getD k 0)=true then some (nV i.toNat) else none) (0+(i:Int)))=(fC ls k).map nV:=by
   rw[fC, <- Wc]
   congr 1
   funext i
   have ei:(0+(i:Int)).toNat=i:=by omega
   show (if decide (ls.getD (0+(i:Int)).toNat 0=ls.getD k 0)=true then some (nV (0+(i:Int)).toNat) else none)=_
   rw[ei]
  rw[e]
  exact q D1 XT
theorem Rg {H:Hp}{t:Tm}{v:V} (h:iS H t v):∃ a xs,v = .ref a∧H a=some (.tup xs)∧∃ z:Str,rM xs 0=some (.str z)∧(z = "num" ↔ (xy t).isSome=true)∧∀ n,xy t=some n->rM xs 1=some (.int n):=by
 cases t with
 | num n =>
  obtain⟨a,rfl,h⟩:=h
  exact⟨a,_,rfl,h, "num",aR (j:=0) rfl,⟨fun _=>rfl,fun _=>rfl⟩,fun m e=>by rw[<- aE e];exact aR (j:=1) rfl⟩
 | name x =>
  obtain⟨a,rfl,h⟩:=h
  exact⟨a,_,rfl,h, "name",aR (j:=0) rfl,⟨fun z=>absurd z (by decide),fun z=>(by cases z)⟩,fun m e=>(by cases e)⟩
 | of x as =>
  obtain⟨a,b,rfl,h,_⟩:=h
  exact⟨a,_,rfl,h, "of",aR (j:=0) rfl,⟨fun z=>absurd z (by decide),fun z=>(by cases z)⟩,fun m e=>(by cases e)⟩
inductive II (vs:List V) (H:Hp) (Q:VK):Prop
 | mk (T L:Addr) (us:List V) (ts:List Tm) (ls:List Nat) (k:Nat) (z0:vs = [.ref T,.ref L,nV k]) (z1:H T=some (.lst us)) (z2:om H us ts) (z3:H L=some (.lst (ls.map nV))) (z4:ls.length=ts.length) (z5:ts.length<=900) (z6:k < ts.length) (z7:∀ N H',bp H H'->H N=none->H' N=some (.lst ((cW ts ls k).map V.int))->Q (.ref N) H'):II  vs H Q
def wM:Sp:=fun vs H Q _=>II  vs H Q
theorem Tu (ts:List Tm) (l:List Nat):((l.map nV).filterMap fun x=>(nF ts (vI x).toNat).map V.int)=(l.filterMap (nF ts)).map V.int:=by
 induction l with
 | nil=>rfl
 | cons j l ih =>
  rw[aL,dN,dN]
  have ev:(vI (nV j)).toNat=j:=by show ((j:Nat):Int).toNat=j;omega
  rw[ev]
  cases nF ts j with
  | none=>exact ih
  | some n =>
   show V.int n :: _=_
   rw[ih];rfl
theorem P0 (oM:dh P w K mg base 1 "members" ["leads", "k"] (Ax K)) (D:Def K mg "numbers" mE ["terms", "leads", "k"]):dh P w K mg base 2 "numbers" ["terms", "leads", "k"] wM:=by
 refine D.has PK (fun vs H Q E h => ?_) (fun f cw A outer s H vs Q E hr h => ?_)
 ·obtain⟨T,L,us,ts,ls,k,rfl,_⟩:=h;rfl
 obtain⟨T,L,us,ts,ls,k,rfl,hT,eM,hL,Bs,hz,hk,q⟩:=h
 refine⟨_,(aC (bx (D2 (te:=(qq (Bc K) (qq (DW K) _ _) _)) (ct:=(EN (qq _ (qq (Bc K) (qq (DW K) _ _) _) _))) (own := ["member"]) (caps := [("terms",0)]) (jx (aw mE) ["terms", "leads", "k"] rfl rfl rfl (by decide +kernel)) (jD (bh oM hr (by omega) rfl (ae (pv 1) (ae (pv 2) ao)))) rfl (fun _ _ _=>cC (i:=0) (show (["member", "terms"]:List Str).Nodup by decide +kernel) rfl (aQ rfl)) (fun _ _ _=>(b9 dR (aY bL (aY cu (pv 1) (pv 0) (fun _ _=>rfl)) az (fun _ _=>rfl)) cY (bQ _))) (fun _ _ _=>(aY bL (aY cu (pv 1) (pv 0) (fun _ _=>rfl)) az (fun _ _=>rfl)))))),?_⟩
 try dsimp only[dj]
 have wW:=bj eM
 refine⟨_,rfl,_,rfl,L,ls,k,rfl,bb.of hL,by omega,by omega,fun M hM => ?_⟩
 have s1:=aS hM (.lst ((fC ls k).map nV))
 have Oi:=au (H:=H) (a:=M) (o := .lst ((fC ls k).map nV))
 generalize aJ H M (.lst ((fC ls k).map nV))=H1 at s1 Oi ⊢
 refine⟨M,rfl,⟨_,bb.of Oi⟩,?_⟩
 have look:∀ x∈(fC ls k).map nV,∃ j v t,x=nV j∧us[j]? = some v∧ts[j]? = some t∧iS H1 t v:=fun x hx=>by
  obtain⟨j,hj,rfl⟩:=cM.mp hx
  have w4:=di.mp (eU.mp hj).1
  have hv:us[j]? = some us[j]:=ah (by omega)
  obtain⟨t,e,r⟩:=tP eM hv
  exact⟨j,_,t,rfl,hv,e,r.same s1⟩
 refine Dj (xs:=(fC ls k).map nV) (fun x=>(nF ts (vI x).toNat).map V.int) (bb.of Oi) ?_ (fun x hx H' sm R r => ?_) (fun x y hx e H' sm Q' q' => ?_) (fun D1 H' XT sm hD => ?_)
 ·rw[aq]
  refine cA (yz _ _) ?_
  rw[da];omega
 ·obtain⟨j,v,t,rfl,hv,ht,hvt⟩:=look x hx
  obtain⟨a,xs,rfl,ha,z,h0,hz0,h1⟩:=Rg (hvt.same sm)
  refine⟨_,rfl,_,rfl,T,_,_,_,rfl,rfl,bb.of ((s1.trans sm) _ _ hT),aR hv,a,_,0,_,rfl,rfl,bP.of ha,h0,rfl,_,rfl,?_⟩
  have r1:=r H' (bp.refl _)
  have ev:(vI (nV j)).toNat=j:=by show ((j:Nat):Int).toNat=j;omega
  have en:nF ts j=xy t:=by unfold nF;rw[ht];rfl
  rw[ev,en,lM]at r1
  have eb:decide (V.str z=V.str "num")=(xy t).isSome:=by
   cases e:(xy t).isSome with
   | true=>exact decide_eq_true (by rw[hz0.mpr e])
   | false=>exact decide_eq_false (fun w=>by have:=hz0.mp (V.str.inj w);rw[e]at this;cases this)
  rw[eb]
  exact r1
 ·obtain⟨j,v,t,rfl,hv,ht,hvt⟩:=look x hx
  obtain⟨a,xs,rfl,ha,z,h0,hz0,h1⟩:=Rg (hvt.same sm)
  have ev:(vI (nV j)).toNat=j:=by show ((j:Nat):Int).toNat=j;omega
  have en:nF ts j=xy t:=by unfold nF;rw[ht];rfl
  have e:(nF ts (vI (nV j)).toNat).map V.int=some y:=e
  rw[ev,en]at e
  cases e2:xy t with
  | none=>rw[e2]at e;cases e
  | some n =>
   rw[e2]at e
   have ey:=aE e
   subst ey
   exact⟨_,rfl,_,rfl,T,_,_,_,rfl,rfl,bb.of ((s1.trans sm) _ _ hT),aR hv,a,_,1,_,rfl,rfl,bP.of ha,h1 n e2,q' _ (bp.refl _)⟩
 ·refine q D1 H' (s1.trans sm) (s1.free XT) ?_
  rw[hD,Tu]
  rfl
inductive F4 (vs:List V) (H:Hp) (Q:VK):Prop
 | mk (T L:Addr) (us:List V) (ts:List Tm) (ls:List Nat) (z0:vs = [.ref T,.ref L]) (hT:H T=some (.lst us)) (eM:om H us ts) (hL:H L=some (.lst (ls.map nV))) (Bs:ls.length=ts.length) (hz:ts.length<=900) (h1:∀ k,k < ts.length->(cW ts ls k).length<=1) (q:∀ H',bp H H'->Q .cQ H'):F4 vs H Q
def JT:Sp:=fun vs H Q _=>F4 vs H Q
theorem Y7 (B:j0 mg) (sW:mg "sorted" = none) (kQ:dh P w K mg base 2 "numbers" ["terms", "leads", "k"] wM) (D:Def K mg "odds" vi ["terms", "leads"]):dh P w K mg base 3 "odds" ["terms", "leads"] JT:=by
 refine D.has Cd (fun vs H Q E h => ?_) (fun f cw A outer s H vs Q E hr h => ?_)
 ·obtain⟨T,L,us,ts,ls,rfl,_⟩:=h;rfl
 obtain⟨T,L,us,ts,ls,rfl,hT,eM,hL,Bs,hz,h1,q⟩:=h
 refine⟨_,(av (bH (i:=2) Cd.nd rfl (aQ rfl) (iY ao))
  (av (fR cG rfl (tT rfl B.vx (ae (cy bY rfl B.gW bC (ae (pv 1) ao)) ao)) (cC (i:=3) Cd.nd rfl (aQ rfl))
  (aC (dy (b9 dR (aY cu (pv 1) (pv 3) (fun _ _=>rfl)) (pv 3) (bQ _)) (av (bH (i:=4) Cd.nd rfl (aQ rfl) (cy BH rfl sW BI (ae (bh kQ hr (by omega) rfl (ae (pv 0) (ae (pv 1) (ae (pv 3) ao)))) ao)))
  (aC (dy (b9 PX (cy bY rfl B.gW bC (ae (pv 4) ao)) az (bQ _)) (aC (gu (mS cj cT cR gG (pv 2) (ae (eQ (ae (aY cu (pv 4) az (fun _ _=>rfl)) (ae (aY cu (pv 4) az (fun _ _=>rfl)) ao))) ao)))) cq))) cq)))
  (aC (bx (YZ (yR hr) rfl rfl B.aa6 (pv 2)))))),?_⟩
 try dsimp only[dj]
 have hlm:(ls.map nV).length=ls.length:=aq ..
 refine⟨bD _,fun Pr hPr => ?_⟩
 dsimp only[cg]
 have s0:=aS hPr (.lst [])
 have hP0:=au (H:=H) (a:=Pr) (o := .lst [])
 generalize aJ H Pr (.lst [])=H0 at s0 hP0 ⊢
 refine⟨_,rfl,L,_,rfl,.inl (bb.of (s0 _ _ hL)),_,rfl,by omega,by omega,?_⟩
 rw[b6,hlm]
 refine t8 (lo:=0) (fun i σ H'=>∃ (x3 x4:Option V), σ = [some (.ref T),some (.ref L),some (.ref Pr),x3,x4]∧bp H H'∧H' Pr=some (.lst [])) ⟨none,none,rfl,s0,hP0⟩ ?_ ?_
 ·rintro i σ H' hi ⟨x3,x4,rfl,sm,hP⟩
  have ei:(0:Int)+(i:Int)=((i:Nat):Int):=by omega
  rw[ei]
  show GC _ _ _ _ _ _
  refine⟨_,rfl,_,rfl,L,_,_,_,rfl,rfl,bb.of (sm _ _ hL),gR (getD_at (ls:=ls) hi),_,rfl,rfl,_,rfl,dF (fun z => ?_) (fun z=>⟨_,_,rfl,sm,hP⟩)⟩
  refine⟨_,rfl,_,rfl,_,rfl,T,L,us,ts,ls,i,rfl,sm _ _ hT,gC sm eM,sm _ _ hL,Bs,by omega,by omega,fun N H1 s1 vX hN => ?_⟩
  have n1:=h1 i (by omega)
  refine⟨N,_,rfl,bb.of hN,by omega,fun s l ahO hs hl0 => ?_⟩
  dsimp only[cg]
  have s2:=aS hl0 (.lst (s.map V.int))
  have t5:=au (H:=H1) (a:=l) (o := .lst (s.map V.int))
  generalize aJ H1 l (.lst (s.map V.int))=H2 at s2 t5 ⊢
  have lZ:=ahO.length_eq
  refine⟨_,rfl,l,_,rfl,.inl (bb.of t5),_,_,rfl,rfl,_,rfl,dF (fun z2 => ?_) (fun z2=>⟨_,_,rfl,sm.trans (s1.trans s2),(s1.trans s2) _ _ hP⟩)⟩
  rw[aq]at z2
  exact absurd z2 (by omega)
 ·rintro σ H' ⟨x3,x4,rfl,sm,hP⟩
  exact⟨_,rfl,Pr,rfl,hP,q H' sm⟩
def nJ (n:Int):Prop := -(10 ^ 60) < n∧n < 10 ^ 60
instance (n:Int):Decidable (nJ n):=by unfold nJ;infer_instance
theorem NI:(10:Int) ^ (60:Int).toNat=10 ^ 60:=rfl
inductive F6 (vs:List V) (H:Hp) (Q:VK):Prop
 | mk (n:Int) (z0:vs = [.int n]) (z1:Q (.bl (decide (nJ n))) H):F6  vs H Q
def EW:Sp:=fun vs H Q _=>F6  vs H Q
theorem Kv (QO:mg "abs" = none) (D:Def K mg "is_number" ly ["value"]):dh P w K mg base 1 "is_number" ["value"] EW:=by
 refine D.has Kc (fun vs H Q E h => ?_) (fun f cw A outer s H vs Q E hr h => ?_)
 ·obtain⟨n,rfl,_⟩:=h;rfl
 obtain⟨n,rfl,q⟩:=h
 refine⟨_,(aC (bx (jj y9 (cy T4 rfl QO T8 (ae (pv 0) ao)) (dQ vC az az) (bQ _)))),?_⟩
 try dsimp only[dj]
 refine⟨_,rfl,n,rfl,_,_,rfl,rfl,⟨by decide,by decide,by decide⟩,_,_,rfl,rfl,?_⟩
 rw[NI]
 have e:decide ((if n < 0 then -n else n) < 10 ^ 60)=decide (nJ n):=by
  refine decide_eq_decide.mpr ?_
  unfold nJ
  split <;> omega
 rw[e]
 exact q
theorem LV {a:Int} (h:nJ a):rR a<=200:=by
 refine PySem.intBits_le_iff.mpr ?_
 unfold nJ at h
 have e:(10:Int) ^ 60 < 2 ^ 200:=by decide
 have e2:((2 ^ 200:Nat):Int)=2 ^ 200:=by decide
 omega
theorem NX {a b:Int} (ha:nJ a) (hb:nJ b):IntMulOk a b:=IntMulOk.of_le (LV ha) (LV hb) (by decide)
def rE (x:Str) (n:Nat) (ns:List Int):Int:=if x = "plus" ∧ n=2 then ns.getD 0 0+ns.getD 1 0 else if x = "times" ∧ n=2 then ns.getD 0 0 * ns.getD 1 0 else -(ns.getD 0 0)
inductive Er (K:ak) (vs:List V) (H:Hp) (Q:VK):Prop
 | mk (v:V) (L:Addr) (x:Str) (as:List Nat) (ns:List Int) (ev:vs = [v,.ref L]) (hv:iS H (.of x as) v) (hL:H L=some (.lst (ns.map V.int))) (hl:ns.length=as.length) (h1:1<=as.length) (hb:∀ n∈ns,nJ n) (q:Q (.int (rE x as.length ns)) H):Er K vs H Q
def JR (K:ak):Sp:=fun vs H Q _=>Er K vs H Q
theorem int_at {ns:List Int}{j:Nat} (h:j < ns.length):rM (ns.map V.int) (j:Int)=some (.int (ns.getD j 0)):=aR (by rw[aD,ah h,aN,ah h];rfl)
theorem getD_mem {ns:List Int}{j:Nat} (h:j < ns.length):ns.getD j 0∈ns:=by rw[aN,ah h];exact nh h
theorem Ji (mZ:dh P w K mg base 1 "is_sum" ["term"] (lV "plus" 2)) (ix:dh P w K mg base 1 "is_product" ["term"] (lV "times" 2)) (D:Def K mg "worked_out" j5 ["term", "values"]):dh P w K mg base 2 "worked_out" ["term", "values"] (JR K):=by
 refine D.has Jg (fun vs H Q E h => ?_) (fun f cw A outer s H vs Q E hr h => ?_)
 ·obtain⟨v,L,x,as,ns,rfl,_⟩:=h;rfl
 obtain⟨v,L,x,as,ns,rfl,hv,hL,hl,h1,hb,q⟩:=h
 refine⟨_,(av (dy (kI (bh mZ hr (by omega) rfl (ae (pv 0) ao))) (aC (bx (dQ tV (aY cu (pv 1) az (fun _ _=>rfl)) (aY cu (pv 1) az (fun _ _=>rfl))))) cq)
  (av (dy (kI (bh ix hr (by omega) rfl (ae (pv 0) ao))) (aC (bx (dQ NM (aY cu (pv 1) az (fun _ _=>rfl)) (aY cu (pv 1) az (fun _ _=>rfl))))) cq)
  (aC (bx (Cg Ao (aY cu (pv 1) az (fun _ _=>rfl))))))),?_⟩
 try dsimp only[dj]
 unfold rE at q
 refine⟨_,rfl,v,_,rfl,hv,_,rfl,?_⟩
 by_cases c1:x = "plus" ∧ as.length=2
 ·rw[if_pos c1]at q
  rw[show jk "plus" 2 (.of x as)=true by show (decide _ && decide _)=true;rw[decide_eq_true c1.1,decide_eq_true c1.2];rfl]
  refine jI ⟨_,rfl,L,_,0,_,rfl,rfl,bb.of hL,int_at (j:=0) (by omega),_,rfl,L,_,1,_,rfl,rfl,bb.of hL,int_at (j:=1) (by omega),_,_,rfl,rfl,q⟩
 rw[if_neg c1]at q
 rw[show jk "plus" 2 (.of x as)=false by
  show (decide _ && decide _)=false
  by_cases e:x = "plus"
  ·rw[decide_eq_false (fun z=>c1 ⟨e,z⟩),yN]
  ·rw[decide_eq_false e,j3]]
 refine hZ ?_
 dsimp only[jR]
 refine⟨_,rfl,v,_,rfl,hv,_,rfl,?_⟩
 by_cases c2:x = "times" ∧ as.length=2
 ·rw[if_pos c2]at q
  rw[show jk "times" 2 (.of x as)=true by show (decide _ && decide _)=true;rw[decide_eq_true c2.1,decide_eq_true c2.2];rfl]
  refine jI ⟨_,rfl,L,_,0,_,rfl,rfl,bb.of hL,int_at (j:=0) (by omega),_,rfl,L,_,1,_,rfl,rfl,bb.of hL,int_at (j:=1) (by omega),_,_,rfl,rfl,NX (hb _ (getD_mem (by omega))) (hb _ (getD_mem (by omega))),q⟩
 rw[if_neg c2]at q
 rw[show jk "times" 2 (.of x as)=false by
  show (decide _ && decide _)=false
  by_cases e:x = "times"
  ·rw[decide_eq_false (fun z=>c2 ⟨e,z⟩),yN]
  ·rw[decide_eq_false e,j3]]
 refine hZ ?_
 exact⟨_,rfl,L,_,0,_,rfl,rfl,bb.of hL,int_at (j:=0) (by omega),_,rfl,q⟩
def nY (t:Tm):Bool:=jk "plus" 2 t || jk "times" 2 t || jk "neg" 1 t
inductive Hu (vs:List V) (H:Hp) (Q:VK):Prop
 | mk (T L:Addr) (us:List V) (ts:List Tm) (ls:List Nat) (v:V) (t:Tm) (ev:vs = [.ref T,.ref L,v]) (hT:H T=some (.lst us)) (eM:om H us ts) (hL:H L=some (.lst (ls.map nV))) (hl:ls.length=ts.length) (gb:ts.length<=900) (hv:iS H t v) (ha:∀ x as,t = .of x as->∀ a∈as,a < ts.length)
  (q0:nY t=false∨(∃ x as a,t = .of x as∧a∈as∧cW ts ls a = [])->∀ H',bp H H'->Q .cQ H')
  (q1:∀ x as (ns:List Int) N H',t = .of x as->nY t=true->as.map (fun a=>(cW ts ls a).head?)=ns.map some->bp H H'->H' N=some (.lst (ns.map V.int))->Q (.ref N) H'):Hu vs H Q
def Nm:Sp:=fun vs H Q _=>Hu vs H Q
inductive Yq (T L:Addr) (v:V) (N:Addr) (H:Hp) (ts:List Tm) (ls:List Nat) (as:List Nat) (i:Nat) (σ : St) (H':Hp):Prop
 | mk (x4 x5:Option V) (ns:List Int) (e : σ = [some (.ref T),some (.ref L),some v,some (.ref N),x4,x5]) (sm:bp H H') (hN:H' N=some (.lst (ns.map V.int))) (hn:(as.take i).map (fun a=>(cW ts ls a).head?)=ns.map some):Yq T L v N H ts ls as i σ H'
theorem E8 (B:j0 mg) (mZ:dh P w K mg base 1 "is_sum" ["term"] (lV "plus" 2)) (ix:dh P w K mg base 1 "is_product" ["term"] (lV "times" 2)) (kE:dh P w K mg base 1 "is_opposite" ["term"] (lV "neg" 1)) (kQ:dh P w K mg base 2 "numbers" ["terms", "leads", "k"] wM)
  (D:Def K mg "known_values" jh ["terms", "leads", "term"]):dh P w K mg base 3 "known_values" ["terms", "leads", "term"] Nm:=by
 refine D.has oa (fun vs H Q E h => ?_) (fun f cw A outer s H vs Q E hr h => ?_)
 ·obtain⟨T,L,us,ts,ls,v,t,rfl,_⟩:=h;rfl
 obtain⟨T,L,us,ts,ls,v,t,rfl,hT,eM,hL,hl,gb,hv,ha,q0,q1⟩:=h
 refine⟨_,(av (dy (PW.pt (pw_and (xZ (kI (bh mZ hr (by omega) rfl (ae (pv 2) ao)))) (pw_and (xZ (kI (bh ix hr (by omega) rfl (ae (pv 2) ao)))) (pw_and1 (xZ (kI (bh kE hr (by omega) rfl (ae (pv 2) ao)))))))) (aC (bx nD)) cq)
  (av (bH (i:=3) oa.nd rfl (aQ rfl) (iY ao))
  (av (fR cG rfl (vz (aY bL (pv 2) az (fun _ _=>rfl))) (cC (i:=4) oa.nd rfl (aQ rfl))
  (av (bH (i:=5) oa.nd rfl (aQ rfl) (bh kQ hr (by omega) rfl (ae (pv 0) (ae (pv 1) (ae (pv 4) ao)))))
  (av (dy (xZ (yY (pv 5) (fun _=>rfl))) (aC (bx nD)) cq)
  (aC (gu (mS cj cT cR gG (pv 3) (ae (aY cu (pv 5) az (fun _ _=>rfl)) ao)))))))
  (aC (bx (pv 3)))))),?_⟩
 try dsimp only[dj]
 refine j7 (fun b Hc=>Hc=H∧b = !nY t) (fun Qc qc => ?_) ?_ ?_
 ·refine⟨_,rfl,v,t,rfl,hv,_,rfl,?_⟩
  cases e1:jk "plus" 2 t with
  | true=>exact hZ (qc _ _ ⟨rfl,by unfold nY;rw[e1];rfl⟩)
  | false =>
   refine jI ⟨_,rfl,v,t,rfl,hv,_,rfl,?_⟩
   cases e2:jk "times" 2 t with
   | true=>exact hZ (qc _ _ ⟨rfl,by unfold nY;rw[e1,e2];rfl⟩)
   | false=>exact jI ⟨_,rfl,v,t,rfl,hv,_,rfl,qc _ _ ⟨rfl,by unfold nY;rw[e1,e2];rfl⟩⟩
 ·rintro Hc ⟨rfl,eb⟩
  exact q0 (.inl (by cases z:nY t with | false=>rfl | true=>rw[z]at eb;cases eb)) _ (bp.refl _)
 rintro Hc ⟨rfl,eb⟩
 have op:nY t=true:=by cases z:nY t with | true=>rfl | false=>rw[z]at eb;cases eb
 obtain⟨x,as,rfl⟩:∃ x as,t = .of x as:=by
  cases t with
  | num n=>cases op
  | name n=>cases op
  | of x as=>exact⟨x,as,rfl⟩
 dsimp only[jR]
 refine⟨bD _,fun N hN => ?_⟩
 dsimp only[cg]
 have s0:=aS hN (.lst [])
 have vX:=au (H:=Hc) (a:=N) (o := .lst [])
 generalize aJ Hc N (.lst [])=H0 at s0 vX ⊢
 obtain⟨a,b,rfl,h1,h2⟩:=id (hv.same s0)
 have al:=ha x as rfl
 have avB:as.length<=900:=by
  have:as.length<=2:=by
   unfold nY jk at op
   simp at op
   omega
  omega
 refine⟨_,rfl,a,_,2,_,rfl,rfl,bP.of h1,aR (j:=2) rfl,b,rfl,⟨_,bP.of h2⟩,?_⟩
 refine yp (xs:=as.map nV) (Yq T L (.ref a) N Hc ts ls as) (Yq.mk none none [] rfl s0 vX rfl) ?_ ?_ ?_
 ·rintro i σ H' _ ⟨x4,x5,ns,rfl,sm,By,hn⟩
  exact bP.of ((sm _ _ (show Hc b=some (.tup (as.map nV)) by obtain⟨a',b',e,g1,g2⟩:=id hv;cases e;have:=s0 _ _ g1;rw[h1]at this;cases this;exact g2)))
 ·rintro i y σ H' hy ⟨x4,x5,ns,rfl,sm,By,hn⟩
  rw[aD]at hy
  obtain⟨k,hk,rfl⟩:=b7.mp hy
  have km:=aP hk
  have kl:=al k km
  have ni:=congrArg ie hn
  rw[aq,aq,bO]at ni
  dsimp only[cg]
  refine⟨_,rfl,_,rfl,_,rfl,T,L,us,ts,ls,k,rfl,sm _ _ hT,gC sm eM,sm _ _ hL,hl,gb,kl,fun M H2 s2 fM hM => ?_⟩
  dsimp only[cg]
  refine j7 (fun c Hd=>Hd=H2∧c=(cW ts ls k).isEmpty) (fun Qc qc=>⟨_,rfl,_,.inl ⟨_,bb.of hM,rfl⟩,qc _ _ ⟨rfl,by simp⟩⟩) ?_ ?_
  ·rintro Hd ⟨rfl,ec⟩
   exact q0 (.inr ⟨x,as,k,rfl,km,Ey.mp ec.symm⟩) _ (sm.trans s2)
  ·rintro Hd ⟨rfl,ec⟩
   cases en:cW ts ls k with
   | nil=>rw[en]at ec;cases ec
   | cons n0 l =>
    rw[en]at hM
    dsimp only[jR]
    refine⟨_,rfl,.inl ⟨rfl,_,bb.of (s2 _ _ By)⟩,_,rfl,M,_,0,_,rfl,rfl,bb.of hM,aR (j:=0) rfl,N,_,_,rfl,rfl,s2 _ _ By,dE (by rw[aq];omega),?_⟩
    refine Yq.mk _ _ (ns ++ [n0]) rfl ((sm.trans s2).put hN) (by rw[dX];exact au) ?_
    rw[dD,hk,dX,hn,dX]
    show _ ++ [(cW ts ls k).head?]=_
    rw[en]
    rfl
 ·rintro σ H' ⟨x4,x5,ns,rfl,sm,By,hn⟩
  rw[aq,d0]at hn
  exact⟨_,rfl,q1 x as ns N H' rfl op hn sm By⟩
structure BM (ts:List Tm) (ls:List Nat):Prop where
 arms:ny ts
 len:ls.length=ts.length
 gb:ts.length<=900
 small:∀ (i:Nat) x as,ts[i]? = some (.of x as)->as.length<=1000
 KQ:QT ts ls
theorem BM.at {ts:List Tm}{ls:List Nat} (h:BM ts ls) {i:Nat}{t:Tm} (ht:ts[i]? = some t):∀ x as,t = .of x as->as.length<=1000∧∀ a∈as,a < ls.length:=fun x as e=>by
 subst e
 have hl:=(ai.mp ht).1
 exact⟨h.small i x as ht,fun a ha=>by have:=h.arms i x as ht a ha;have:=h.len;omega⟩
inductive OS (P:Program) (w:World) (vs:List V) (H:Hp) (Q:VK):Prop
 | mk (T L:Addr) (us:List V) (ts:List Tm) (ls:List Nat) (z0:vs = [.ref T,.ref L]) (z1:H T=some (.lst us)) (z2:om H us ts) (z3:H L=some (.lst (ls.map nV))) (z4:BM ts ls) (z5:∀ p kvs H',bp H H'->H p=none->DN P w H' p kvs->FZ ts ls ts.length kvs->Q (.ref p) H'):OS P w vs H Q
def GD (P:Program) (w:World):Sp:=fun vs H Q _=>OS P w vs H Q
theorem Vx (B:j0 mg) (qR:dh P w K mg base 1 "mark" ["term", "leads"] (EU K)) (D:Def K mg "marks" se ["terms", "leads"]):dh P w K mg base 2 "marks" ["terms", "leads"] (GD P w):=by
 refine D.has yX (fun vs H Q E h => ?_) (fun f cw A outer s H vs Q E hr h => ?_)
 ·obtain⟨T,L,us,ts,ls,rfl,_⟩:=h;rfl
 obtain⟨T,L,us,ts,ls,rfl,hT,eM,hL,ok,q⟩:=h
 refine⟨_,(av (bH (i:=2) yX.nd rfl (aQ rfl) y6)
  (av (fR cG rfl (uX rfl B.pf (ae (pv 0) ao)) (tU rfl (fw (cC (i:=3) yX.nd rfl (aQ rfl)) (fw (cC (i:=4) yX.nd rfl (aQ rfl)) qu)))
  (aC (GJ (yR hr) (pv 2) (bh qR hr (by omega) rfl (ae (pv 4) (ae (pv 1) ao))) (aY cu (pv 1) (pv 3) (fun _ _=>rfl)) rfl)))
  (aC (bx (pv 2))))),?_⟩
 try dsimp only[dj]
 have wW:=bj eM
 intro p φ hp LK
 dsimp only[cg]
 have AA:=aS hp (.ext φ)
 generalize aJ H p (.ext φ)=H0 at AA LK ⊢
 refine⟨_,rfl,T,rfl,⟨us,bb.of (AA _ _ hT)⟩,?_⟩
 refine sT (xs:=us) (fun i σ H'=>∃ (kvs:List (NK × V)) (x3 x4:Option V), σ = [some (.ref T),some (.ref L),some (.ref p),x3,x4]∧bp H H'∧DN P w H' p kvs∧FZ ts ls i kvs)
  ⟨[],none,none,rfl,AA,LK,(fun i t hi=>absurd hi (iL _)),(fun k v e=>by rw[DE]at e;cases e),rfl⟩ ?_ ?_ ?_
 ·rintro i σ H' _ ⟨kvs,x3,x4,rfl,sm,_⟩
  exact bb.of (sm _ _ hT)
 ·rintro i x a0 σ H' hx ⟨kvs,x3,x4,rfl,sm,dn,tb⟩ Bw
  obtain⟨t,ht,zW⟩:=tP eM hx
  have hi:i < ts.length:=(ai.mp ht).1
  have s1:=aS Bw (.tup [.int (i:Int),x])
  have g1:=sm.trans s1
  have Aa:=dn.same s1
  refine⟨a0,_,rfl,bP.of au,rfl,_,_,rfl,_,_,rfl,rfl,?_⟩
  generalize aJ H' a0 (.tup [.int (i:Int),x])=H1 at s1 g1 Aa ⊢
  have hl:=ok.len
  have wZ:ls[i]? = some (ls.getD i 0):=getD_at (by omega)
  refine⟨_,rfl,_,rfl,L,_,_,_,rfl,rfl,bb.of (g1 _ _ hL),gR wZ,?_⟩
  refine⟨_,rfl,_,rfl,_,rfl,x,t,L,ls,rfl,zW.same g1,bb.of (g1 _ _ hL),ok.at ht,fun v' H2 s2 hm => ?_⟩
  obtain⟨b,rfl,nk⟩:=hm.key
  have Fw:kvs.length<=i:=by rw[tb.2.2];exact qS _ _
  have avA:H p=none:=hp
  refine⟨p,b,kvs,dU (mk ls t),rfl,rfl,Aa.same s2,nk,dE (by have:=ok.gb;omega),fun φ2 OA=>⟨_,_,_,rfl,?_,OA,UX ok.KQ ok.len tb ht⟩⟩
  exact fun c o e=>by rw[ax (fun z=>by rw[z,hp]at e;cases e)];exact(g1.trans s2) c o e
 ·rintro σ H' ⟨kvs,x3,x4,rfl,sm,dn,tb⟩
  rw[wW]at tb
  exact⟨_,rfl,q p kvs H' sm hp dn tb⟩
inductive OQ (vs:List V) (H:Hp) (Q:VK):Prop
 | mk (T L:Addr) (us:List V) (ts:List Tm) (ls:List Nat) (z0:vs = [.ref T,.ref L]) (z1:H T=some (.lst us)) (z2:om H us ts) (z3:H L=some (.lst (ls.map nV))) (z4:BM ts ls) (z5:∀ F kvs H',bp H H'->H F=none->H' F=some (.dK kvs)->mf H' kvs (oh ls (dC (ts.map (mk ls)) ts.length))->Own H kvs->Q (.ref F) H'):OQ  vs H Q
def Nk:Sp:=fun vs H Q _=>OQ  vs H Q
theorem Vv (B:j0 mg) (qR:dh P w K mg base 1 "mark" ["term", "leads"] (EU K)) (D:Def K mg "nodes" r9 ["terms", "leads"]):dh P w K mg base 2 "nodes" ["terms", "leads"] Nk:=by
 refine D.has r6 (fun vs H Q E h => ?_) (fun f cw A outer s H vs Q E hr h => ?_)
 ·obtain⟨T,L,us,ts,ls,rfl,_⟩:=h;rfl
 obtain⟨T,L,us,ts,ls,rfl,hT,eM,hL,ok,q⟩:=h
 refine⟨_,(av (bH (i:=2) r6.nd rfl (aQ rfl) y7)
  (av (bH (i:=3) r6.nd rfl (aQ rfl) y6)
  (av (fR cG rfl (uX rfl B.pf (ae (pv 0) ao)) (tU rfl (fw (cC (i:=4) r6.nd rfl (aQ rfl)) (fw (cC (i:=5) r6.nd rfl (aQ rfl)) qu)))
  (av (bH (i:=6) r6.nd rfl (aQ rfl) (bh qR hr (by omega) rfl (ae (pv 5) (ae (pv 1) ao))))
  (aC (dy (R7 (HL (yR hr) (pv 6) (pv 3)) (by with_unfolding_all rfl)) (av (GJ (yR hr) (pv 3) (pv 6) y8 rfl)
  (aC (gu (mS cj cT cR gG (YW (pv 2) (aY cu (pv 1) (pv 4) (fun _ _=>rfl)) (iY ao) ⟨rfl,rfl,rfl,rfl⟩) (ae (pv 4) ao))))) cq))))
  (aC (bx (pv 2)))))),?_⟩
 try dsimp only[dj]
 have wW:=bj eM
 have gb:=ok.gb
 intro F hF
 dsimp only[cg]
 have sF:=aS hF (.dK [])
 have zZ:=au (H:=H) (a:=F) (o := .dK [])
 generalize aJ H F (.dK [])=H0 at sF zZ ⊢
 intro S φ hS LK
 dsimp only[cg]
 have hSH:H S=none:=sF.free hS
 have sS:=sF.trans (aS hS (.ext φ))
 have Ie:=aS hS (.ext φ) _ _ zZ
 generalize aJ H0 S (.ext φ)=H1 at sS Ie LK ⊢
 refine⟨_,rfl,T,rfl,⟨us,bb.of (sS _ _ hT)⟩,?_⟩
 refine sT (xs:=us) (fun i σ H'=>∃ (kvs:List (Key × V)) (CV:List (NK × V)) (x4 x5 x6:Option V), σ = [some (.ref T),some (.ref L),some (.ref F),some (.ref S),x4,x5,x6]∧bp H H'∧H' F=some (.dK kvs)∧mf H' kvs (oh ls (dC (ts.map (mk ls)) i))∧Own H kvs∧DN P w H' S CV∧wg ts ls i CV)
  ⟨[], [],none,none,none,rfl,sS,Ie,.nil,⟨mv,fun kv hm=>by cases hm⟩,LK,U7 ts ls⟩ ?_ ?_ ?_
 ·rintro i σ H' _ ⟨kvs,CV,x4,x5,x6,rfl,sm,_⟩
  exact bb.of (sm _ _ hT)
 ·rintro i x a0 σ H' hx ⟨kvs,CV,x4,x5,x6,rfl,sm,Ig,mG,own,dn,sn⟩ Bw
  obtain⟨t,ht,zW⟩:=tP eM hx
  have hi:i < ts.length:=(ai.mp ht).1
  have s1:=aS Bw (.tup [.int (i:Int),x])
  have g1:=sm.trans s1
  have Aa:=dn.same s1
  have Ie:=s1 _ _ Ig
  have RW:=mG.same s1
  refine⟨a0,_,rfl,bP.of au,rfl,_,_,rfl,_,_,rfl,rfl,?_⟩
  generalize aJ H' a0 (.tup [.int (i:Int),x])=H1 at s1 g1 Aa Ie RW ⊢
  have hl:=ok.len
  have wZ:ls[i]? = some (ls.getD i 0):=getD_at (by omega)
  refine⟨_,rfl,_,rfl,x,t,L,ls,rfl,zW.same g1,bb.of (g1 _ _ hL),ok.at ht,fun v' H2 s2 hm => ?_⟩
  dsimp only[cg]
  obtain⟨b,rfl,nk⟩:=hm.key
  have g2:=g1.trans s2
  have wa:=Aa.same s2
  have Lz:=s2 _ _ Ie
  have rw2:=RW.same s2
  have ak6:=Ve ls (dC (ts.map (mk ls)) i)
  have avC:=qS (ts.map (mk ls)) i
  have VR:=bj rw2
  refine⟨_,rfl,_,rfl,S,b,CV,dU (mk ls t),rfl,rfl,wa,nk,_,rfl,?_⟩
  rcases U8 sn ht with⟨hv,zm⟩ | ⟨hv,zm⟩
  ·rw[hv]
   refine jI ?_
   refine⟨_,rfl,_,rfl,S,b,CV,dU (mk ls t),rfl,rfl,wa,nk,dE (by have:=sn.2.2;omega),fun WK OA => ?_⟩
   obtain⟨φ0,e0⟩:=wa.ext
   have g3:bp H (aJ H2 S (.ext WK)):=fun c o e=>by rw[ax (fun z=>by rw[z,hSH]at e;cases e)];exact g2 c o e
   have hF3:(aJ H2 S (.ext WK)) F=some (.dK kvs):=by rw[ax (dq Lz e0 (fun z=>nomatch z))];exact Lz
   have W4:mf (aJ H2 S (.ext WK)) kvs _:=rw2.DG e0 (fun xs z=>nomatch z)
   generalize aJ H2 S (.ext WK)=H3 at g3 hF3 W4 OA ⊢
   refine⟨_,rfl,F,rfl,.inl ⟨kvs,.inl hF3⟩,_,rfl,_,rfl,L,_,_,_,rfl,rfl,bb.of (g3 _ _ hL),gR wZ,bD _,fun N hN => ?_⟩
   have s4:=aS hN (.lst [])
   have Og:=au (H:=H3) (a:=N) (o := .lst [])
   have hNH:H N=none:=g3.free hN
   have g4:=g3.trans s4
   have Ly:=s4 _ _ hF3
   have Kh:=W4.same s4
   have dn4:=OA.same s4
   have alU:=own.snoc (k := .inl ((ls.getD i 0:Nat):Int)) W4 hN hNH
   generalize aJ H3 N (.lst [])=H4 at s4 Og g4 Ly Kh dn4 ⊢
   have efs:oh ls (dC (ts.map (mk ls)) (i+1))=qo (oh ls (dC (ts.map (mk ls)) i)) (ls.getD i 0) i:=by
    rw[tN,zm]
    exact HJ ls _ i
   have nk':=HK ls (dC (ts.map (mk ls)) i)
   have small:=PQ ls (dC (ts.map (mk ls)) i)
   generalize oh ls (dC (ts.map (mk ls)) i)=ps at Kh efs nk' small ak6 VR
   have sn':=U6 (V.bl true) sn ht
   refine⟨kvs,.inl ((ls.getD i 0:Nat):Int),Ly,rfl,dE (by omega),fun v zk => ?_,fun Xv => ?_⟩
   ·rcases Kh.look (ls.getD i 0) with⟨e,_⟩ | ⟨a,zs,e,el,ha⟩
    ·rw[zk]at e;cases e
    ·have ev:v = .ref a:=aE (zk.symm.trans e)
     subst ev
     have haH:=own.fresh (YA zk)
     have hsz:zs.length<=900:=by have:=small _ (HV el);show zs.length<=900;simp only at this;omega
     refine⟨.inl ⟨rfl,_,bb.of ha⟩,_,rfl,a,_,_,rfl,rfl,ha,dE (by rw[aq];omega),?_⟩
     have egr:=Kh.grow (zs:=zs ++ [i]) own.1 nk' zk
     have eL:(zs ++ [i]).map nV=zs.map nV ++ [nV i]:=by rw[dX];rfl
     rw[eL]at egr
     refine⟨kvs,hW CV (dU (mk ls t)) (.bl true),_,_,_,rfl,?_,?_,?_,own,Sw.DN.DG (P:=P) (w:=w) dn4 ha (fun φ z=>nomatch z) (fun ys z=>nomatch z),sn'⟩
     ·exact fun c o e=>by rw[ax (fun z=>by rw[z,haH]at e;cases e)];exact g4 c o e
     ·rw[ax (dq Ly ha (fun z=>nomatch z))];exact Ly
     ·rw[efs]
      unfold qo
      rw[el]
      exact egr
   ·rcases Kh.look (ls.getD i 0) with⟨e,el⟩ | ⟨a,zs,e,el,ha⟩
    ·have De:(aJ H4 F (.dK (kvs ++ [(.inl ((ls.getD i 0:Nat):Int),.ref N)]))) N=some (.lst []):=by rw[ax (dq Og Ly (fun z=>nomatch z))];exact Og
     refine⟨.inl ⟨rfl,_,bb.of De⟩,_,rfl,N,_,_,rfl,rfl,De,dE (bD _),?_⟩
     refine⟨kvs ++ [(.inl ((ls.getD i 0:Nat):Int),.ref N)],hW CV (dU (mk ls t)) (.bl true),_,_,_,rfl,?_,?_,?_,alU,?_,sn'⟩
     ·exact fun c o e=>by rw[ax (fun z=>by rw[z,hNH]at e;cases e),ax (fun z=>by rw[z,hF]at e;cases e)];exact g4 c o e
     ·rw[ax (dq au De (fun z=>nomatch z)),au]
     ·rw[efs]
      unfold qo qH
      have Qv:(ps.any fun p=>decide (p.1=ls.getD i 0))=false:=by rw[<- Kh.any,mM,Xv];rfl
      rw[Qv,el]
      have r5:mf (aJ (aJ H4 F (.dK (kvs ++ [(.inl ((ls.getD i 0:Nat):Int),.ref N)]))) N (.lst ([] ++ [V.int (i:Int)]))) kvs ps:=(Kh.DG Ly (fun xs z=>nomatch z)).keep fun l xs ⟨kv,hm,e2⟩ e3=>by
       obtain⟨l',e4,hl4⟩:=own.2 kv hm
       rw[e2]at e4
       cases e4
       rw[ax (fun z => ?_)]
       ·exact e3
       ·subst z
        have:∀ {kvs:List (Key × V)}{ps:List Row},mf H3 kvs ps->(∃ kv∈kvs,kv.2 = .ref l)->False:=by
         intro kvs ps r
         induction r with
         | nil=>rintro⟨kv,hm,_⟩;cases hm
         | @cons kv p kvs ps q t ih =>
          rintro⟨yf,hm,e⟩
          rcases bo.mp hm with rfl | hm
          ·obtain⟨_,l',e2,hl⟩:=q
           rw[e]at e2
           cases e2
           rw[hN]at hl
           cases hl
          ·exact ih ⟨yf,hm,e⟩
        exact this W4 ⟨kv,hm,e2⟩
      exact gn r5 ⟨rfl,N,rfl,au⟩
     ·exact Sw.DN.DG (P:=P) (w:=w) (Sw.DN.DG (P:=P) (w:=w) dn4 Ly (fun φ z=>nomatch z) (fun ys z=>nomatch z)) De (fun φ z=>nomatch z) (fun ys z=>nomatch z)
    ·rw[Xv]at e;cases e
  ·obtain⟨v,rG⟩:=gi.mp hv
   rw[rG]
   refine hZ ⟨kvs,CV,_,_,_,rfl,g2,Lz,?_,own,wa,RL sn ht hv⟩
   rw[tN,zm]
   show mf H2 kvs (oh ls (dC (ts.map (mk ls)) i ++ []))
   rw[eJ]
   exact rw2
 ·rintro σ H' ⟨kvs,CV,x4,x5,x6,rfl,sm,Ig,mG,own,dn,sn⟩
  rw[wW]at mG
  exact⟨_,rfl,q F kvs H' sm hF Ig mG own⟩
theorem VF:∀ {ns:List Int}{fs:List Nat},ns.Perm (fs.map fun n:Nat=>(n:Int))->(ns.map IY).Perm fs∧ns.map V.int=(ns.map IY).map nV:=fun {ns fs} h=>by
 refine⟨?_,?_⟩
 ·have:=h.map IY
  rw[jB]at this
  refine this.trans (Gk ((dM fun n _ => ?_).trans (Dq _)))
  exact b6 n
 ·rw[jB]
  refine dM fun n hn => ?_
  obtain⟨m,_,rfl⟩:=cM.mp (h.mem_iff.mp hn)
  rfl
inductive L4 (vs:List V) (H:Hp) (Q:VK):Prop
 | mk (T L:Addr) (us:List V) (ts:List Tm) (ls:List Nat) (z0:vs = [.ref T,.ref L]) (z1:H T=some (.lst us)) (z2:om H us ts) (z3:H L=some (.lst (ls.map nV))) (z4:BM ts ls) (z5:ts.length<=900)
  (z6:∀ (R:Addr) (ns:List Nat) (H':Hp),bp H H'->H R=none->H' R=some (.lst (ns.map nV))->ns.Perm (dC (ts.map (mk ls)) ts.length)->Q (.ref R) H'):L4 vs H Q
def Rz:Sp:=fun vs H Q _=>L4 vs H Q
inductive NnI (T L Fd F:Addr) (o:Obj) (H H0:Hp) (kvs:List (Key × V)) (ps:List Row) (i:Nat) (σ : St) (H':Hp):Prop
 | mk (x3:Option V):(σ = [some (.ref T),some (.ref L),some (.ref Fd),x3])->bp H H'->H' F=some (Ext F o)->H' Fd=some (.lst (((ps.take i).flatMap (·.2)).map nV))->mf H' kvs ps->NnI T L Fd F o H H0 kvs ps i σ H'
theorem E7 (sW:mg "sorted" = none) (G2:dh P w K mg base 2 "nodes" ["terms", "leads"] Nk) (D:Def K mg "node_numbers" jg ["terms", "leads"]):dh P w K mg base 3 "node_numbers" ["terms", "leads"] Rz:=by
 refine D.has qF (fun vs H Q E h => ?_) (fun f cw A outer s H vs Q E hr h => ?_)
 ·obtain⟨T,L,us,ts,ls,rfl,_⟩:=h;rfl
 obtain⟨T,L,us,ts,ls,rfl,hT,eM,hL,ok,gb,q⟩:=h
 refine⟨_,(av (bH (i:=2) qF.nd rfl (aQ rfl) (iY ao))
  (av (fR cG rfl (YV (bh G2 hr (by omega) rfl (ae (pv 0) (ae (pv 1) ao)))) (cC (i:=3) qF.nd rfl (aQ rfl))
  (aC (gu (mS cj oS oR Bo (pv 2) (ae (pv 3) ao)))))
  (aC (bx (cy LP rfl sW BI (ae (pv 2) ao)))))),?_⟩
 try dsimp only[dj]
 refine⟨bD _,fun Fd hFd => ?_⟩
 dsimp only[cg]
 have s0:=aS hFd (.lst [])
 have zZ:=au (H:=H) (a:=Fd) (o := .lst [])
 generalize aJ H Fd (.lst [])=H0 at s0 zZ ⊢
 refine⟨_,rfl,_,rfl,T,L,us,ts,ls,rfl,s0 _ _ hT,gC s0 eM,s0 _ _ hL,ok,fun F kvs H1 s1 hF Ie RW own => ?_⟩
 refine⟨F,kvs,rfl,Ie,fun o _ => ?_⟩
 have sF:bp H0 (aJ H1 F (Ext F o)):=s1.put hF
 have adB:(aJ H1 F (Ext F o)) Fd=some (.lst []):=sF _ _ zZ
 have W3:mf (aJ H1 F (Ext F o)) kvs _:=RW.DG Ie (fun xs z=>nomatch z)
 have g1:=s0.trans sF
 have hFo:=au (H:=H1) (a:=F) (o:=Ext F o)
 generalize aJ H1 F (Ext F o)=H2 at sF adB W3 g1 hFo ⊢
 have perm:=AJ ls (ts.map (mk ls)) ts.length
 have fl:=qS (ts.map (mk ls)) ts.length
 generalize oh ls (dC (ts.map (mk ls)) ts.length)=ps at RW W3 perm
 have VR:=bj W3
 have tot:=perm.length_eq
 have split:∀ i,((ps.take i).flatMap (·.2)).length+((ps.drop i).flatMap (·.2)).length=(ps.flatMap (·.2)).length:=fun i=>by
  rw[<- aG, <- Ai,dv]
 refine Wb (NnI T L Fd F o H H0 kvs ps) ⟨none,rfl,g1,hFo,adB,W3⟩ ?_ ?_ ?_
 ·rintro i σ H' _ ⟨x3,rfl,sm,Lx,_⟩
  exact Lx
 ·rintro i kv σ H' N8 ⟨x3,rfl,sm,Lx,G5,mG⟩
  obtain⟨p,hp,ek,l,el,hl⟩:=Paired.at mG N8
  have hm:=aP N8
  obtain⟨l',el',hl0⟩:=own.2 kv hm
  have e2:(ps.take (i+1)).flatMap (·.2)=(ps.take i).flatMap (·.2) ++ p.2:=by rw[dD,hp,Ai];show _ ++ (p.2 ++ [])=_;rw[eJ]
  have hb:=split (i+1)
  rw[e2,aG]at hb
  have hlF:∀ yf∈kvs,yf.2 ≠ .ref Fd:=fun yf hk z=>by
   obtain⟨l2,e3,h3⟩:=own.2 yf hk
   rw[z]at e3;cases e3
   rw[zZ]at h3;cases h3
  refine⟨_,rfl,.inl ⟨rfl,_,bb.of G5⟩,_,rfl,Fd,l,_,_,rfl,by rw[el],G5,hl,?_,⟨_,rfl,sm.put hFd,?_,?_,mG.keep fun l2 xs ⟨yf,hk,e3⟩ h3 => ?_⟩⟩
  ·rw[aq,aq];exact rb (dE (n:=_+_) (by omega))
  ·rw[ax (dq Lx G5 (fun z=>nomatch z))];exact Lx
  ·rw[au,e2,dX]
  ·rw[ax (fun z=>hlF yf hk (by rw[e3,z]))];exact h3
 ·rintro σ H' ⟨x3,rfl,sm,Lx,G5,mG⟩
  rw[VR,d0]at G5
  have e:(ps.flatMap (·.2)).map nV=((ps.flatMap (·.2)).map fun n:Nat=>(n:Int)).map V.int:=by rw[jB];rfl
  refine⟨_,rfl,Fd,(ps.flatMap (·.2)).map fun n:Nat=>(n:Int),rfl,by rw[<- e];exact bb.of G5,fun lE l pm _ hl => ?_⟩
  obtain⟨p1,p2⟩:=VF pm
  rw[p2]
  exact q l _ _ (sm.trans (aS hl _)) (sm.free hl) au (p1.trans perm)
structure ph (K:ak) (CB:Addr):Prop where
 cB:nK K CB
 Xc:fg K CB "room"
 iZ:fg K CB "terms"
 yd:fg K CB "places"
inductive Uk (P:Program) (w:World) (CB:Addr) (vs:List V) (H:Hp) (Q:VK):Prop
 | mk (b dx:Addr) (room:Int) (z0:vs = [.ref b,.int room]) (z1:H b=some (.ins CB dx [])) (z2:∀ H' L M,fe b H H'->H L=none->H M=none->fX P w CB H' b dx L M room []->Q .cQ H'):Uk P w CB vs H Q
def RB (P:Program) (w:World) (CB:Addr):Sp:=fun vs H Q _=>Uk P w CB vs H Q
theorem Za (Z:ph K CB) (D:tH K mg "Bank" CB "Bank.__init__" vn ["self", "room"]):ux P w K mg base 1 "Bank" CB ["self", "room"] (RB P w CB):=by
 refine D.has YL (fun vs H Q E h => ?_) (fun f cw A outer s H vs Q E hr h => ?_)
 ·obtain⟨b,dx,room,rfl,_⟩:=h;rfl
 obtain⟨b,dx,room,rfl,hb,q⟩:=h
 refine⟨_,(av (iq (pv 0) (pv 1) rfl)
  (av (iq (pv 0) (iY ao) rfl)
  (aC (iq (pv 0) y6 rfl)))),?_⟩
 try dsimp only[dj]
 refine⟨_,rfl,_,rfl,b,CB,dx,_,rfl,hb,Z.cB,Z.Xc,by decide,?_⟩
 have b1:fe b H (aJ H b (.ins CB dx [("room",.int room)])):=(fe.refl b H).put
 refine⟨bD _,fun L hL => ?_⟩
 have Ti:L≠b:=fun e=>by rw[e,au]at hL;cases hL
 have Dh:H L=none:=by rw[ax Ti]at hL;exact hL
 refine⟨_,rfl,b,CB,dx, [("room",.int room)],rfl,(by rw[ax (bV Ti),au];rfl),Z.cB,Z.iZ,(show 1 < 1000 by decide),?_⟩
 intro M φ hM hd
 have Th:M≠b:=fun e=>by rw[e,au]at hM;cases hM
 have hML:M≠L:=fun e=>by rw[e,ax Ti,au]at hM;cases hM
 have Dg:H M=none:=by rw[ax Th,ax hML,ax Th]at hM;exact hM
 refine⟨_,rfl,b,CB,dx, [("room",.int room),("terms",.ref L)],rfl,(by rw[ax (bV Th),au];rfl),Z.cB,Z.yd,(show 2 < 1000 by decide),?_⟩
 refine q _ L M (fun c o n h => ?_) Dh Dg ⟨au,⟨[],?_,.nil⟩, [],hd.keep (fun WL z => ?_) (fun c ys z => ?_),rfl,fun t => ?_⟩
 ·have h1:c≠L:=fun e=>by rw[e,Dh]at h;cases h
  have h2:c≠M:=fun e=>by rw[e,Dg]at h;cases h
  rw[ax n,ax h2,ax n,ax h1,ax n];exact h
 ·rw[ax Ti,ax (bV hML),ax Ti,au]
 ·rw[ax Th];exact z
 ·have h1:c≠b:=fun e=>by rw[e,ax (bV Th),au]at z;cases z
  rw[ax h1];exact z
 ·rw[dZ];rfl
inductive IG (P:Program) (w:World) (CB:Addr) (vs:List V) (H:Hp) (Q:VK):Prop
 | mk (b dx L M:Addr) (room:Int) (ts:List Tm) (v:V) (t:Tm) (z0:vs = [.ref b,v]) (z1:fX P w CB H b dx L M room ts) (z2:iS H t v) (z3:ts.length<=900) (z4:(dZ ts t=none->(ts.length:Int) < room)) (z5:(∀ H',iT L M H H'->fX P w CB H' b dx L M room (cF ts t).1->Q (nV (cF ts t).2) H')):IG P w CB vs H Q
def Av (P:Program) (w:World) (CB:Addr):Sp:=fun vs H Q _=>IG P w CB vs H Q
theorem MF (B:j0 mg) (Z:ph K CB) (D:kC K CB "put_term" "Bank.put_term" mO ["self", "term"]):mC P w K mg base 1 CB "put_term" ["self", "term"] (Av P w CB):=by
 refine D.has MC (fun vs H Q E h => ?_) (fun f cw A outer s H vs Q E hr h => ?_)
 ·obtain⟨b,dx,L,M,room,ts,v,t,rfl,_⟩:=h;rfl
 obtain⟨b,dx,L,M,room,ts,v,t,rfl,hB,hT,hz,Xs,q1⟩:=h
 refine⟨_,(av (dy (R7 (HL (yR hr) (pv 1) (cZ (pv 0) rfl)) (by with_unfolding_all rfl)) (av (dy (b9 ahD (cy bY rfl B.gW bC (ae (cZ (pv 0) rfl) ao)) (cZ (pv 0) rfl) (bQ _)) (aC Vl) cq)
  (av (GJ (yR hr) (cZ (pv 0) rfl) (pv 1) (cy bY rfl B.gW bC (ae (cZ (pv 0) rfl) ao)) rfl)
  (aC (gu (mS cj cT cR gG (cZ (pv 0) rfl) (ae (pv 1) ao)))))) cq)
  (aC (bx (YY (yR hr) (cZ (pv 0) rfl) (pv 1) (fun _ _=>rfl))))),?_⟩
 try dsimp only[dj]
 obtain⟨kb,rfl,nk⟩:=hT.key
 have XU:=hB
 obtain⟨hb,⟨us,hL,eM⟩,kvs,dn,Fw,zk⟩:=hB
 have iw:=bj eM
 obtain⟨nLM,nbL,nbM⟩:=XU.ne
 refine⟨_,rfl,_,rfl,b,CB,dx,_,_,rfl,hb,Z.cB,Z.yd,rfl,M,kb,kvs,dU t,rfl,rfl,dn,nk,_,rfl,?_⟩
 rw[zk t]
 cases e:dZ ts t with
 | some i =>
  refine hZ ?_
  refine⟨_,rfl,b,CB,dx,_,_,rfl,hb,Z.cB,Z.yd,rfl,_,rfl,M,kb,kvs,dU t,nV i,rfl,rfl,dn,nk,(by rw[zk t,e];rfl),?_⟩
  have h1:=q1 H (iT.refl _ _ _)
  rw[sY e]at h1
  exact h1 XU
 | none =>
  refine jI ?_
  refine⟨_,rfl,b,CB,dx,_,_,rfl,hb,Z.cB,Z.iZ,rfl,L,us,rfl,.inl (bb.of hL),_,rfl,b,CB,dx,_,_,rfl,hb,Z.cB,Z.Xc,rfl,_,_,rfl,rfl,_,rfl,dF (fun HY => ?_) (fun HY => ?_)⟩
  ·exact absurd (Xs e) (by omega)
  ·refine⟨_,rfl,b,CB,dx,_,_,rfl,hb,Z.cB,Z.iZ,rfl,L,us,rfl,.inl (bb.of hL),_,rfl,b,CB,dx,_,_,rfl,hb,Z.cB,Z.yd,rfl,_,rfl,M,kb,kvs,dU t,rfl,rfl,dn,nk,dE (by omega),fun φ Aa => ?_⟩
   rw[iw]at Aa
   have vY:(aJ H M (.ext φ)) L=some (.lst us):=by rw[ax nLM];exact hL
   have FE:(aJ H M (.ext φ)) b=some _:=(ax nbM).trans hb
   have wc:iT L M H (aJ H M (.ext φ)):=fun c o n m h=>by rw[ax m];exact h
   have kt1:=XU.tup wc
   refine⟨_,rfl,b,CB,dx,_,_,rfl,FE,Z.cB,Z.iZ,rfl,.inl ⟨rfl,_,bb.of vY⟩,_,rfl,L,us,_,rfl,rfl,vY,dE (by omega),?_⟩
   have rL:iT L M H (aJ (aJ H M (.ext φ)) L (.lst (us ++ [.ref kb]))):=fun c o n m h=>by rw[ax n,ax m];exact h
   have KS:=XU.tup rL
   have yo:(aJ (aJ H M (.ext φ)) L (.lst (us ++ [.ref kb]))) L=some (.lst (us ++ [.ref kb])):=au
   have rH:(aJ (aJ H M (.ext φ)) L (.lst (us ++ [.ref kb]))) b=some _:=(ax nbL).trans FE
   have wa:DN P w (aJ (aJ H M (.ext φ)) L (.lst (us ++ [.ref kb]))) M (hW kvs (dU t) (.int (ts.length:Int))):=Aa.keep (fun WL z=>by rw[ax (bV nLM)];exact z) (fun c ys z=>by rw[ax (dq z vY (fun z=>nomatch z))];exact z)
   generalize aJ (aJ H M (.ext φ)) L (.lst (us ++ [.ref kb]))=H2 at rL KS yo rH wa ⊢
   have hv:cX (hW kvs (dU t) (.int (ts.length:Int))) (dU t)=some (nV ts.length):=by rw[mL,if_pos rfl]
   refine⟨_,rfl,b,CB,dx,_,_,rfl,rH,Z.cB,Z.yd,rfl,_,rfl,M,kb,_,dU t,nV ts.length,rfl,rfl,wa,nk.keep KS,hv,?_⟩
   have h1:=q1 H2 rL
   rw[u5 e]at h1
   refine h1 ⟨rH,⟨_,yo,gn (mN KS eM) (hT.keep KS)⟩,_,wa,?_,fun u => ?_⟩
   ·rw[DZ _ (by rw[zk t,e];rfl),aG,aG,Fw];rfl
   ·rw[mL,GK,zk u]
    by_cases z:dU u=dU t
    ·rw[if_pos z,rV z,e];simp
    ·rw[if_neg z]
     cases dZ ts u with
     | some j=>rfl
     | none=>rw[if_neg (fun y=>z (by rw[B9 y]))]
inductive IH (P:Program) (w:World) (CB:Addr) (n:Nat) (vs:List V) (H:Hp) (Q:VK):Prop
 | mk (b dx L M:Addr) (room:Int) (ts:List Tm) (v bv:V) (p:T) (bf:Str->Nat) (z0:vs = [.ref b,v,bv]) (z1:fX P w CB H b dx L M room ts) (z2:fz H p v) (z3:p.depth<=n) (z4:p.kr) (z5:Yy H bv bf p.kM) (z6:(bJ bf ts p).1.length<=900) (z7:(((bJ bf ts p).1.length:Int)<=room)) (z8:(∀ H',iT L M H H'->fX P w CB H' b dx L M room (bJ bf ts p).1->Q (nV (bJ bf ts p).2) H')):IH P w CB n vs H Q
def Aw (P:Program) (w:World) (CB:Addr) (n:Nat):Sp:=fun vs H Q _=>IH P w CB n vs H Q
theorem ON (ts:List Tm) (t:Tm):(dZ ts t=none->(cF ts t).1.length=ts.length+1)∧(dZ ts t≠none->(cF ts t).1=ts):=by
 cases e:dZ ts t with
 | some i=>exact⟨fun z=>(by cases z),fun _=>(by rw[sY e])⟩
 | none=>exact⟨fun _=>(by rw[u5 e];simp),fun z=>absurd rfl z⟩
theorem C0 (B:j0 mg) (Z:ph K CB) (qO:mC P w K mg base 1 CB "put_term" ["self", "term"] (Av P w CB)) (D:kC K CB "put_part" "Bank.put_part" mP ["self", "pattern", "binds"]) :
  ∀ n,mC P w K mg base (n+1) CB "put_part" ["self", "pattern", "binds"] (Aw P w CB n)
 | 0=>by
  obtain⟨fa,fd,F,hm,hb⟩:=D.ex
  have no:∀ vs H Q E, ¬ Aw P w CB 0 vs H Q E:=fun vs H Q E h=>by
   obtain⟨b,dx,L,M,room,ts,v,bv,p,bf,_,_,_,z,_⟩:=h
   have:=TH p
   omega
  exact⟨fa,fd,⟨fun vs H Q E h=>absurd h (no vs H Q E),fun A outer s H args us vs Q E _ _ _ _ h=>absurd h (no vs H Q E)⟩,hm,hb⟩
 | n+1=>by
  have qP:=C0 B Z qO D n
  have cB:=Z.cB
  refine D.has xu (fun vs H Q E h => ?_) (fun f cw A outer s H vs Q E hr h => ?_)
  ·obtain⟨b,dx,L,M,room,ts,v,bv,p,bf,rfl,_⟩:=h;rfl
  obtain⟨b,dx,L,M,room,ts,v,bv,p,bf,rfl,hB,hT,hd,wY,XD,hz,yj,q1⟩:=h
  refine⟨_,(av (dy (b9 dR (aY bL (pv 1) az (fun _ _=>rfl)) cY (bQ _)) (aC (bx (NG (zl hr) (pv 2) (aY bL (pv 1) az (fun _ _=>rfl)) (fun _ _=>rfl)))) cq)
  (av (dy (b9 E3 (aY bL (pv 1) az (fun _ _=>rfl)) cY (bQ _)) (aC (bx (pV qO cB hr (by omega) gh (pv 0) (ae (pv 1) ao)))) cq)
  (av (bH (i:=3) xu.nd rfl (aQ rfl) (iY ao))
  (av (fR lL rfl (vz (aY bL (pv 1) az (fun _ _=>rfl))) (cC (i:=4) xu.nd rfl (aQ rfl))
  (aC (gu (mS cj cT cR gG (pv 3) (ae (pV qP cB hr (by omega) gh (pv 0) (ae (pv 4) (ae (pv 2) ao))) ao)))))
  (aC (bx (pV qO cB hr (by omega) gh (pv 0) (ae (eQ (ae cY (ae (aY bL (pv 1) az (fun _ _=>rfl)) (ae (gZ pW rfl B.Ap pR (ae (pv 3) ao)) ao)))) ao)))))))),?_⟩
  try dsimp only[dj]
  have hb:=hB.1
  have abf:∀ (t:Tm),bJ bf ts p=cF ts t->iS H t v->Av P w CB [.ref b,v] H Q E:=fun t e ht=>by
   obtain⟨a1,a2⟩:=ON ts t
   rw[e]at q1 hz yj
   exact⟨b,dx,L,M,room,ts,v,t,rfl,hB,ht,by have:=(jo ts t).length_le;omega,fun hn=>by rw[a1 hn]at yj;omega,fun H' bt Ih=>q1 H' bt Ih⟩
  cases p with
  | num k =>
   rw[fz]at hT
   obtain⟨a,rfl,h⟩:=hT
   refine⟨_,rfl,a,_,0,_,rfl,rfl,bP.of h,aR (j:=0) rfl,rfl,_,rfl,dF (fun z=>absurd (V.str.inj z) (by decide)) (fun _ => ?_)⟩
   refine⟨_,rfl,a,_,0,_,rfl,rfl,bP.of h,aR (j:=0) rfl,rfl,_,rfl,zj (fun _ => ?_) (fun z=>absurd (V.str.inj z) (by decide))⟩
   exact⟨_,rfl,b,dx,_,rfl,hb,rfl,_,rfl,abf (.num k) (by rw[bJ]) ⟨a,rfl,h⟩⟩
  | name k =>
   rw[fz]at hT
   obtain⟨a,rfl,h⟩:=hT
   refine⟨_,rfl,a,_,0,_,rfl,rfl,bP.of h,aR (j:=0) rfl,rfl,_,rfl,dF (fun z=>absurd (V.str.inj z) (by decide)) (fun _ => ?_)⟩
   refine⟨_,rfl,a,_,0,_,rfl,rfl,bP.of h,aR (j:=0) rfl,rfl,_,rfl,zj (fun _ => ?_) (fun z=>absurd (V.str.inj z) (by decide))⟩
   exact⟨_,rfl,b,dx,_,rfl,hb,rfl,_,rfl,abf (.name k) (by rw[bJ]) ⟨a,rfl,h⟩⟩
  | any k =>
   rw[fz]at hT
   obtain⟨a,rfl,h⟩:=hT
   refine⟨_,rfl,a,_,0,_,rfl,rfl,bP.of h,aR (j:=0) rfl,rfl,_,rfl,dF (fun _ => ?_) (fun z=>absurd rfl z)⟩
   obtain⟨Dk,kvs,rfl,hD,hv⟩:=XD k (by rw[T.kM];exact d6 _)
   rw[bJ]at q1 yj
   refine⟨_,rfl,_,rfl,a,_,1,_,rfl,rfl,bP.of h,aR (j:=1) rfl,Dk,nV (bf k),rfl,?_,q1 H (iT.refl _ _ _) hB⟩
   have:=tI.k (k:=(.inr k:Key)) hD
   rw[hv]at this
   exact this
  | of x as =>
   rw[fz]at hT
   obtain⟨a,c,avs,rfl,h,hc,eM⟩:=hT
   have Ld:=M9 eM
   rw[T.depth]at hd
   rw[T.kr]at wY
   refine⟨_,rfl,a,_,0,_,rfl,rfl,bP.of h,aR (j:=0) rfl,rfl,_,rfl,dF (fun z=>absurd (V.str.inj z) (by decide)) (fun _ => ?_)⟩
   refine⟨_,rfl,a,_,0,_,rfl,rfl,bP.of h,aR (j:=0) rfl,rfl,_,rfl,zj (fun z=>absurd rfl z) (fun _ => ?_)⟩
   refine⟨bD _,fun S hS => ?_⟩
   dsimp only[cg]
   have hSL:S≠L:=fun e=>by obtain⟨us,hL,_⟩:=hB.2.1;rw[e,hL]at hS;cases hS
   have hSM:S≠M:=fun e=>by obtain⟨kvs,dn,_⟩:=hB.2.2;obtain⟨φ,e4⟩:=dn.ext;rw[e,e4]at hS;cases hS
   have s0:=aS hS (.lst [])
   have XJ:=au (H:=H) (a:=S) (o := .lst [])
   generalize aJ H S (.lst [])=H0 at s0 XJ ⊢
   have hof:(bJ bf ts (.of x as))=cF (cD bf ts as).1 (.of x (cD bf ts as).2):=by rw[bJ]
   have hz1:(cD bf ts as).1.length<=900:=by have:=(jo (cD bf ts as).1 (.of x (cD bf ts as).2)).length_le;rw[hof]at hz;omega
   refine⟨_,rfl,a,_,2,_,rfl,rfl,bP.of (s0 _ _ h),aR (j:=2) rfl,c,rfl,⟨_,bP.of (s0 _ _ hc)⟩,?_⟩
   refine yp (xs:=avs) (fun i σ H'=>∃ o, σ = [some (.ref b),some (.ref a),some bv,some (.ref S),o]∧iT L M H H'∧H' S=some (.lst ((cD bf ts (as.take i)).2.map nV))∧fX P w CB H' b dx L M room (cD bf ts (as.take i)).1)
    ⟨none,rfl,bp.Wo s0,by rw[mq,cD];exact XJ,by rw[mq,cD];exact hB.same s0⟩ ?_ ?_ ?_
   ·rintro i σ H' _ ⟨o,rfl,bt,_⟩
    exact bP.of (hB.tup bt _ _ hc)
   ·rintro i y σ H' hy ⟨o,rfl,bt,FH,Ih⟩
    obtain⟨t,ht,hyt⟩:=Rf eM hy
    have VZ:=aP ht
    have et:as.take (i+1)=as.take i ++ [t]:=by rw[dD,ht];rfl
    have e1:(cD bf ts (as.take (i+1))).1=(bJ bf (cD bf ts (as.take i)).1 t).1:=by rw[et,Bh]
    have e2:(cD bf ts (as.take (i+1))).2=(cD bf ts (as.take i)).2 ++ [(bJ bf (cD bf ts (as.take i)).1 t).2]:=by rw[et,Bh]
    have p1:(bJ bf (cD bf ts (as.take i)).1 t).1 <+: (cD bf ts as).1:=by rw[<- e1];exact R0 _ _ _ _
    have p2:(cD bf ts as).1 <+: (bJ bf ts (.of x as)).1:=by rw[hof];exact jo _ _
    have l2:=Km bf (as.take i) ts
    rw[bO]at l2
    refine⟨_,rfl,.inl ⟨rfl,_,bb.of FH⟩,_,rfl,b,dx,_,rfl,Ih.1,rfl,_,rfl,_,rfl,b,dx,L,M,room,_,y,bv,t,bf,rfl,Ih,je (hB.tup bt) hyt,?_,wN.mp wY.2 t VZ,hB.bok bt fun w hw=>XD w (by rw[T.kM];exact Lb VZ hw),by have:=p1.length_le;omega,by have:=(p1.trans p2).length_le;omega,fun H2 rL Tj => ?_⟩
    ·have:=FQ VZ;omega
    ·have hS2:=rL _ _ hSL hSM FH
     have bS:fe S H2 (aJ H2 S (.lst ((cD bf ts (as.take i)).2.map nV ++ [nV (bJ bf (cD bf ts (as.take i)).1 t).2]))):=(fe.refl S H2).put
     refine⟨S,_,_,rfl,rfl,hS2,dE ?_,⟨some y,rfl,fun c' o' n m h' => ?_,?_,?_⟩⟩
     ·rw[aq];have:=wY.1;omega
     ·have:c'≠S:=fun e=>by rw[e,hS]at h';cases h'
      rw[ax this]
      exact rL _ _ n m (bt _ _ n m h')
     ·rw[au,e2,dX];rfl
     ·rw[e1];exact Tj.keep hS2 hSL bS
   ·rintro σ H' ⟨o,rfl,bt,FH,Ih⟩
    rw[Ld.symm,d0]at FH Ih
    have h':=hB.tup bt _ _ h
    refine⟨_,rfl,b,dx,_,rfl,Ih.1,rfl,_,rfl,a,_,1,_,rfl,rfl,bP.of h',aR (j:=1) rfl,_,rfl,S,_,rfl,.inl ⟨bb.of FH,fun tl K8 => ?_⟩⟩
    have s1:=aS K8 (.tup ((cD bf ts as).2.map nV))
    have g1:=au (H:=H') (a:=tl) (o := .tup ((cD bf ts as).2.map nV))
    generalize aJ H' tl (.tup ((cD bf ts as).2.map nV))=H1 at s1 g1 ⊢
    refine⟨(show 3<=sizeLine by decide),fun tp mH => ?_⟩
    have s2:=aS mH (.tup [.str "of",.str x,.ref tl])
    have g2:=au (H:=H1) (a:=tp) (o := .tup [.str "of",.str x,.ref tl])
    generalize aJ H1 tp (.tup [.str "of",.str x,.ref tl])=H2 at s2 g2 ⊢
    obtain⟨a1,a2⟩:=ON (cD bf ts as).1 (.of x (cD bf ts as).2)
    rw[hof]at q1 yj
    exact⟨b,dx,L,M,room,_,_,.of x (cD bf ts as).2,rfl,(Ih.same s1).same s2,ahl g2 (s2 _ _ g1),hz1,fun hn=>by rw[a1 hn]at yj;omega,fun H3 FV hB3=>q1 H3 (((bt.same s1).same s2).trans FV) hB3⟩
inductive zD (P:Program) (w:World) (CB:Addr) (n:Nat) (vs:List V) (H:Hp) (Q:VK):Prop
 | mk (b dx L M:Addr) (room:Int) (ts:List Tm) (v bv:V) (p:T) (bf:Str->Nat) (z0:vs = [.ref b,v,bv]) (z1:fX P w CB H b dx L M room ts) (z3:fz H p v) (z4:p.depth<=n) (z5:p.kr) (z6:Yy H bv bf p.kM) (z7:(bJ bf ts p).1.length<=900) (z8:((bJ bf ts p).1.length:Int)<=room)
  (z9:∀ H',iT L M H H'->fX P w CB H' b dx L M room (bJ bf ts p).1->Q (nV (bJ bf ts p).2) H'):zD P w CB n vs H Q
def Jq (P:Program) (w:World) (CB:Addr) (n:Nat):Sp:=fun vs H Q _=>zD P w CB n vs H Q
theorem aaI {n:Nat} (B:j0 mg) (Z:ph K CB) (qP:mC P w K mg base (n+1) CB "put_part" ["self", "pattern", "binds"] (Aw P w CB n))
  (D:CC K CB "put" "Bank.put" Ce ["self", "pattern", "binds"] [.cQ]):rq P w K mg base (n+2) CB "put" ["self", "pattern", "binds"] [.cQ] (Jq P w CB n):=by
 have cB:=Z.cB
 refine D.has RP (fun vs H Q E h => ?_) (fun f cw A outer s H vs Q E hr h => ?_)
 ·obtain⟨b,dx,L,M,room,ts,v,bv,p,bf,rfl,_⟩:=h;rfl
 obtain⟨b,dx,L,M,room,ts,v,bv,p,bf,rfl,hB,hT,hd,wY,XD,hz,yj,q1⟩:=h
 refine⟨_,(av (bH (i:=3) RP.nd rfl (aQ rfl) (cy bY rfl B.gW bC (ae (cZ (pv 0) rfl) ao)))
  (aC (yZ (aC (bx (pV qP cB hr (by omega) gh (pv 0) (ae (pv 1) (ae (pv 2) ao)))))))),?_⟩
 try dsimp only[dj]
 obtain⟨us,hL,eM⟩:=id hB.2.1
 refine⟨_,rfl,b,CB,dx,_,_,rfl,hB.1,Z.cB,Z.iZ,rfl,L,us,rfl,.inl (bb.of hL),?_⟩
 dsimp only[cg]
 exact⟨_,rfl,b,dx,_,rfl,hB.1,rfl,_,rfl,_,rfl,b,dx,L,M,room,ts,v,bv,p,bf,rfl,hB,hT,hd,wY,XD,hz,yj,q1⟩
structure tO (K:ak) (CH:Addr):Prop where
 cH:nK K CH
 oY:fg K CH "bank"
 Bn:fg K CH "edges"
structure dz (P:Program) (w:World) (CB CH:Addr) (H:Hp) (bn dn b dx L M EL:Addr) (room:Int) (ts:List Tm) (es:List (Nat × Nat)):Prop where
 hn:H bn=some (.ins CH dn [("bank",.ref b),("edges",.ref EL)])
 hB:fX P w CB H b dx L M room ts
 hE:∃ mI,H EL=some (.lst mI)∧zM H mI es
 ne:EL≠L
theorem oO {H:Hp}{b dx L M:Addr}{room:Int}{ts:List Tm} (h:fX P w CB H b dx L M room ts):∃ us,H L=some (.lst us):=let ⟨_,⟨us,h,_⟩,_⟩:=h; ⟨us,h⟩
theorem oP {H:Hp}{b dx L M:Addr}{room:Int}{ts:List Tm} (h:fX P w CB H b dx L M room ts):∃ φ,H M=some (.ext φ):=by
 obtain⟨_,_,kvs,dn,_⟩:=h
 exact dn.ext
inductive Hw (P:Program) (w:World) (CB CH:Addr) (vs:List V) (H:Hp) (Q:VK):Prop
 | mk (bn dn:Addr) (room:Int) (ev:vs = [.ref bn,.int room]) (hn:H bn=some (.ins CH dn [])) (q:∀ H' b dx L M EL,fe bn H H'->H L=none->H M=none->H EL=none->dz P w CB CH H' bn dn b dx L M EL room [] []->Q .cQ H'):Hw P w CB CH vs H Q
def Nr (P:Program) (w:World) (CB CH:Addr):Sp:=fun vs H Q _=>Hw P w CB CH vs H Q
theorem VB (Y:tO K CH) (MP:ux P w K mg base 1 "Bank" CB ["self", "room"] (RB P w CB)) (D:tH K mg "Bench" CH "Bench.__init__" sh ["self", "room"]):ux P w K mg base 3 "Bench" CH ["self", "room"] (Nr P w CB CH):=by
 refine D.has Va (fun vs H Q E h => ?_) (fun f cw A outer s H vs Q E hr h => ?_)
 ·obtain⟨bn,dn,room,rfl,_⟩:=h;rfl
 obtain⟨bn,dn,room,rfl,hn,q⟩:=h
 refine⟨_,(av (iq (pv 0) (vB MP hr (by omega) gh rfl (ae (pv 1) ao)) rfl)
  (aC (iq (pv 0) (iY ao) rfl))),?_⟩
 try dsimp only[dj]
 refine⟨_,rfl,fun b dx hb XB jO => ?_⟩
 have nb:bn≠b:=fun e=>by rw[<- e,hn]at hb;cases hb
 have nd:bn≠dx:=fun e=>by rw[<- e,hn]at XB;cases XB
 refine⟨b,dx,room,rfl,au,fun H1 L M bt hL hM hB=>⟨rfl,?_⟩⟩
 have k1:∀ c o,c≠b->c≠dx->H c=some o->H1 c=some o:=fun c o n1 n2 h=>bt c o n1 (by rw[ax n1,ax n2];exact h)
 have s1:bp H H1:=fun c o h=>k1 c o (fun e=>by rw[e,hb]at h;cases h) (fun e=>by rw[e,XB]at h;cases h) h
 have oI:∀ c,(aJ (aJ H dx (.own b)) b (.ins CB dx [])) c=none->H c=none:=fun c h=>by
  by_cases e1:c=b
  ·rw[e1];exact hb
  ·rw[ax e1]at h
   by_cases e2:c=dx
   ·rw[e2];exact XB
   ·rw[ax e2]at h;exact h
 have Dh:=oI L hL
 have Dg:=oI M hM
 have Xy:=s1 _ _ hn
 obtain⟨us1,vY,_⟩:=id hB.2.1
 obtain⟨φ,Oi⟩:=oP hB
 refine⟨_,rfl,bn,CH,dn, [],rfl,Xy,Y.cH,Y.oY,by decide,?_⟩
 refine⟨bD _,fun EL XO => ?_⟩
 have nE:EL≠bn:=fun e=>by rw[e,au]at XO;cases XO
 have Qy:H1 EL=none:=by rw[ax nE]at XO;exact XO
 have aoK:=s1.free Qy
 refine⟨_,rfl,bn,CH,dn, [("bank",.ref b)],rfl,(by rw[ax (bV nE),au];rfl),Y.cH,Y.Bn,(show 1 < 1000 by decide),?_⟩
 have kb:∀ c o,c≠bn->H1 c=some o->(aJ (aJ (aJ H1 bn (.ins CH dn [("bank",V.ref b)])) EL (.lst [])) bn (.ins CH dn [("bank",V.ref b),("edges",V.ref EL)])) c=some o:=fun c o n h=>by
  have h2:c≠EL:=fun e=>by rw[e,Qy]at h;cases h
  rw[ax n,ax h2,ax n];exact h
 have nbb:b≠bn:=bV nb
 show Q .cQ (aJ (aJ (aJ H1 bn (.ins CH dn [("bank",V.ref b)])) EL (.lst [])) bn (.ins CH dn [("bank",V.ref b),("edges",V.ref EL)]))
 refine q _ b dx L M EL (fun c o n h=>kb c o n (s1 _ _ h)) Dh Dg aoK ⟨au,?_,⟨[],?_,.nil⟩,fun e=>by rw[e,vY]at Qy;cases Qy⟩
 ·obtain⟨h1,⟨us,h2,h3⟩,kvs,d,h5,h6⟩:=hB
  have nL:L≠bn:=fun e=>by rw[e,Xy]at h2;cases h2
  have nM:M≠bn:=fun e=>by rw[e,Xy]at Oi;cases Oi
  have kt:∀ c ys,H1 c=some (.tup ys)->_:=fun c ys z=>kb c _ (fun e=>by rw[e,Xy]at z;cases z) z
  exact⟨kb _ _ nbb h1,⟨us,kb _ _ nL h2,mN kt h3⟩,kvs,d.keep (fun WL z=>kb _ _ nM z) kt,h5,h6⟩
 ·rw[ax nE,au]
inductive F8 (P:Program) (w:World) (CB CH:Addr) (n:Nat) (vs:List V) (H:Hp) (Q:VK):Prop
 | mk (bn dn b dx L M EL:Addr) (room:Int) (ts:List Tm) (es:List (Nat × Nat)) (v:V) (p:T) (ev:vs = [.ref bn,v]) (hb:dz P w CB CH H bn dn b dx L M EL room ts es) (hT:fz H p v) (hd:p.depth<=n) (hs:p.kr) (hh:p.kM = []) (len:(bJ b0 ts p).1.length<=900) (hr:((bJ b0 ts p).1.length:Int)<=room)
  (q1:∀ H',iT L M H H'->dz P w CB CH H' bn dn b dx L M EL room (bJ b0 ts p).1 es->Q (nV (bJ b0 ts p).2) H'):F8 P w CB CH n vs H Q
def RD (P:Program) (w:World) (CB CH:Addr) (n:Nat):Sp:=fun vs H Q _=>F8 P w CB CH n vs H Q
theorem dz.put {H H':Hp}{bn dn b dx L M EL:Addr}{room:Int}{ts bG:List Tm}{es:List (Nat × Nat)} (h:dz P w CB CH H bn dn b dx L M EL room ts es) (bt:iT L M H H') (hB:fX P w CB H' b dx L M room bG):dz P w CB CH H' bn dn b dx L M EL room bG es:=by
 obtain⟨us,hL⟩:=oO h.hB
 obtain⟨φ,hM⟩:=oP h.hB
 obtain⟨mI,hE,FA⟩:=h.hE
 exact⟨bt _ _ (dq h.hn hL (fun z=>nomatch z)) (dq h.hn hM (fun z=>nomatch z)) h.hn,hB,⟨mI,bt _ _ h.ne (dq hE hM (fun z=>nomatch z)) hE,jU (h.hB.tup bt) FA⟩,h.ne⟩
theorem dz.same {H H':Hp}{bn dn b dx L M EL:Addr}{room:Int}{ts:List Tm}{es:List (Nat × Nat)} (h:dz P w CB CH H bn dn b dx L M EL room ts es) (sm:bp H H'):dz P w CB CH H' bn dn b dx L M EL room ts es:=h.put (bp.Wo sm) (h.hB.same sm)
theorem Zf {n:Nat} (Zb:ph K CB) (Y:tO K CH) (qQ:rq P w K mg base (n+2) CB "put" ["self", "pattern", "binds"] [.cQ] (Jq P w CB n)) (D:kC K CH "put" "Bench.put" vt ["self", "tree"]):mC P w K mg base (n+3) CH "put" ["self", "tree"] (RD P w CB CH n):=by
 have cB:=Zb.cB
 refine D.has YN (fun vs H Q E h => ?_) (fun f cw A outer s H vs Q E hr h => ?_)
 ·obtain⟨bn,dn,b,dx,L,M,EL,room,ts,es,v,p,rfl,_⟩:=h;rfl
 obtain⟨bn,dn,b,dx,L,M,EL,room,ts,es,v,p,rfl,hb,hT,hd,hs,hh,len,yj,q1⟩:=h
 refine⟨_,(aC (bx (Kr qQ.d cB hr (by omega) gh (cZ (pv 0) rfl) (ae (pv 1) ao)))),?_⟩
 try dsimp only[dj]
 exact⟨_,rfl,bn,CH,dn,_,_,rfl,hb.hn,Y.cH,Y.oY,rfl,b,dx,_,rfl,hb.hB.1,rfl,_,rfl,zD.mk b dx L M room ts v .cQ p b0 rfl hb.hB hT hd hs (fun x hx=>by rw[hh]at hx;cases hx) len yj fun H' bt hB=>q1 H' bt (hb.put bt hB)⟩
inductive Ht (P:Program) (w:World) (CB CH:Addr) (n:Nat) (vs:List V) (H:Hp) (Q:VK):Prop
 | mk (bn dn b dx L M EL:Addr) (room:Int) (ts:List Tm) (es:List (Nat × Nat)) (v1 v2:V) (p1 p2:T) (ev:vs = [.ref bn,v1,v2]) (hb:dz P w CB CH H bn dn b dx L M EL room ts es) (Dc:fz H p1 v1) (S9:p1.depth<=n) (yi:p1.kr) (w6:p1.kM = []) (Lr:fz H p2 v2) (S8:p2.depth<=n) (cI:p2.kr) (w5:p2.kM = []) (len:(bJ b0 (bJ b0 ts p1).1 p2).1.length<=900) (hr:((bJ b0 (bJ b0 ts p1).1 p2).1.length:Int)<=room)
  (q1:∀ pr H',iT L M H H'->dz P w CB CH H' bn dn b dx L M EL room (bJ b0 (bJ b0 ts p1).1 p2).1 es->H' pr=some (.tup [nV (bJ b0 ts p1).2,nV (bJ b0 (bJ b0 ts p1).1 p2).2])->Q (.ref pr) H'):Ht P w CB CH n vs H Q
def Nj (P:Program) (w:World) (CB CH:Addr) (n:Nat):Sp:=fun vs H Q _=>Ht P w CB CH n vs H Q
theorem Y6 {n:Nat} (B:j0 mg) (Zb:ph K CB) (Y:tO K CH) (qQ:rq P w K mg base (n+2) CB "put" ["self", "pattern", "binds"] [.cQ] (Jq P w CB n)) (D:kC K CH "pair" "Bench.pair" vh ["self", "one", "other"]):mC P w K mg base (n+3) CH "pair" ["self", "one", "other"] (Nj P w CB CH n):=by
 have cB:=Zb.cB
 refine D.has Cc (fun vs H Q E h => ?_) (fun f cw A outer s H vs Q E hr h => ?_)
 ·obtain⟨bn,dn,b,dx,L,M,EL,room,ts,es,v1,v2,p1,p2,rfl,_⟩:=h;rfl
 obtain⟨bn,dn,b,dx,L,M,EL,room,ts,es,v1,v2,p1,p2,rfl,hb,Dc,S9,yi,w6,Lr,S8,cI,w5,len,yj,q1⟩:=h
 refine⟨_,(av (bH (i:=3) Cc.nd rfl (aQ rfl) (cy bY rfl B.gW bC (ae (cZ (cZ (pv 0) rfl) rfl) ao)))
  (av (yZ (av (bH (i:=4) Cc.nd rfl (aQ rfl) (Kr qQ.d cB hr (by omega) gh (cZ (pv 0) rfl) (ae (pv 1) ao)))
  (aC (bH (i:=5) Cc.nd rfl (aQ rfl) (Kr qQ.d cB hr (by omega) gh (cZ (pv 0) rfl) (ae (pv 2) ao))))))
  (aC (bx (eQ (ae (pv 4) (ae (pv 5) ao))))))),?_⟩
 try dsimp only[dj]
 obtain⟨us,hL⟩:=oO hb.hB
 have le2:=(si b0 p2 (bJ b0 ts p1).1).length_le
 refine⟨_,rfl,bn,CH,dn,_,_,rfl,hb.hn,Y.cH,Y.oY,rfl,b,CB,dx,_,_,rfl,hb.hB.1,Zb.cB,Zb.iZ,rfl,L,us,rfl,.inl (bb.of hL),?_⟩
 dsimp only[cg]
 refine⟨_,rfl,bn,CH,dn,_,_,rfl,hb.hn,Y.cH,Y.oY,rfl,b,dx,_,rfl,hb.hB.1,rfl,_,rfl,zD.mk b dx L M room ts v1 .cQ p1 b0 rfl hb.hB Dc S9 yi (fun x hx=>by rw[w6]at hx;cases hx) (by omega) (by omega) fun H1 wc hB1 => ?_⟩
 have FE:=hb.put wc hB1
 have aoI:=je (hb.hB.tup wc) Lr
 dsimp only[cg]
 refine⟨_,rfl,bn,CH,dn,_,_,rfl,FE.hn,Y.cH,Y.oY,rfl,b,dx,_,rfl,hB1.1,rfl,_,rfl,zD.mk b dx L M room (bJ b0 ts p1).1 v2 .cQ p2 b0 rfl hB1 aoI S8 cI (fun x hx=>by rw[w5]at hx;cases hx) len yj fun H2 rL Tj => ?_⟩
 dsimp only[cg]
 refine⟨_,rfl,_,rfl,(show 2<=sizeLine by decide),fun pr Xu => ?_⟩
 have sp:=aS Xu (.tup [nV (bJ b0 ts p1).2,nV (bJ b0 (bJ b0 ts p1).1 p2).2])
 exact q1 pr _ ((wc.trans rL).same sp) ((FE.put rL Tj).same sp) au
def n6 (L M R:Addr) (H H':Hp):Prop := ∀ c o,c≠L->c≠M->c≠R->H c=some o->H' c=some o
theorem n6.refl (L M R:Addr) (H:Hp):n6 L M R H H:=fun _ _ _ _ _ h=>h
theorem n6.trans {L M R:Addr}{H H1 H2:Hp} (a:n6 L M R H H1) (b:n6 L M R H1 H2):n6 L M R H H2:=fun c o n m k h=>b c o n m k (a c o n m k h)
theorem n6.same {L M R:Addr}{H H1 H2:Hp} (a:n6 L M R H H1) (b:bp H1 H2):n6 L M R H H2:=fun c o n m k h=>b c o (a c o n m k h)
theorem iT.Hl {L M R:Addr}{H H1:Hp} (a:iT L M H H1):n6 L M R H H1:=fun c o n m _ h=>a c o n m h
theorem dz.tup {H H':Hp}{bn dn b dx L M EL:Addr}{room:Int}{ts:List Tm}{es:List (Nat × Nat)} (h:dz P w CB CH H bn dn b dx L M EL room ts es) (bt:n6 L M EL H H'):∀ c ys,H c=some (.tup ys)->H' c=some (.tup ys):=by
 obtain⟨us,hL⟩:=oO h.hB
 obtain⟨φ,hM⟩:=oP h.hB
 obtain⟨mI,hE,FA⟩:=h.hE
 exact fun c ys z=>bt c _ (dq z hL (fun z=>nomatch z)) (dq z hM (fun z=>nomatch z)) (dq z hE (fun z=>nomatch z)) z
theorem dz.more {H:Hp}{bn dn b dx L M EL:Addr}{room:Int}{ts:List Tm}{es fs:List (Nat × Nat)}{mI v5:List V} (h:dz P w CB CH H bn dn b dx L M EL room ts es) (hE:H EL=some (.lst mI)) (hf:zM H v5 fs):dz P w CB CH (aJ H EL (.lst (mI ++ v5))) bn dn b dx L M EL room ts (es ++ fs):=by
 obtain⟨avF,hE',FA⟩:=h.hE
 rw[hE]at hE'
 cases hE'
 have kp:=K2 (o' := .lst (mI ++ v5)) hE trivial
 exact⟨by rw[ax (dq h.hn hE (fun z=>nomatch z))];exact h.hn,h.hB.keep hE h.ne (fun c o n z=>by rw[ax n];exact z),⟨_,au,EZ (jU kp FA) (jU kp hf)⟩,h.ne⟩
inductive L1 (P:Program) (w:World) (CB CH:Addr) (n:Nat) (vs:List V) (H:Hp) (Q:VK):Prop
 | mk (bn dn b dx L M EL:Addr) (room wt:Int) (ts:List Tm) (es:List (Nat × Nat)) (v1 v2:V) (p1 p2:T) (ev:vs = [.ref bn,v1,v2,.int wt]) (hb:dz P w CB CH H bn dn b dx L M EL room ts es) (Dc:fz H p1 v1) (S9:p1.depth<=n) (yi:p1.kr) (w6:p1.kM = []) (Lr:fz H p2 v2) (S8:p2.depth<=n) (cI:p2.kr) (w5:p2.kM = []) (len:(bJ b0 (bJ b0 ts p1).1 p2).1.length<=900) (hr:((bJ b0 (bJ b0 ts p1).1 p2).1.length:Int)<=room) (he:es.length<=900)
  (q1:∀ v H',n6 L M EL H H'->dz P w CB CH H' bn dn b dx L M EL room (bJ b0 (bJ b0 ts p1).1 p2).1 (es ++ [((bJ b0 ts p1).2,(bJ b0 (bJ b0 ts p1).1 p2).2)])->Q v H'):L1 P w CB CH n vs H Q
def Rw (P:Program) (w:World) (CB CH:Addr) (n:Nat):Sp:=fun vs H Q _=>L1 P w CB CH n vs H Q
theorem Y4 {n:Nat} (B:j0 mg) (Zb:ph K CB) (Y:tO K CH) (Ln:mC P w K mg base (n+3) CH "pair" ["self", "one", "other"] (Nj P w CB CH n)) (D:CC K CH "tell" "Bench.tell" xX ["self", "one", "other", "weight"] [.int 1]):rq P w K mg base (n+4) CH "tell" ["self", "one", "other", "weight"] [.int 1] (Rw P w CB CH n):=by
 have cH:=Y.cH
 refine D.has Nw (fun vs H Q E h => ?_) (fun f cw A outer s H vs Q E hr h => ?_)
 ·obtain⟨bn,dn,b,dx,L,M,EL,room,wt,ts,es,v1,v2,p1,p2,rfl,_⟩:=h;rfl
 obtain⟨bn,dn,b,dx,L,M,EL,room,wt,ts,es,v1,v2,p1,p2,rfl,hb,Dc,S9,yi,w6,Lr,S8,cI,w5,len,yj,he,q1⟩:=h
 refine⟨_,(av (bH (i:=4) Nw.nd rfl (aQ rfl) (pV Ln cH hr (by omega) gh (pv 0) (ae (pv 1) (ae (pv 2) ao))))
  (av (gu (mS cj cT cR gG (cZ (pv 0) rfl) (ae (eQ (ae (aY bL (pv 4) az (fun _ _=>rfl)) (ae (aY bL (pv 4) az (fun _ _=>rfl)) (ae (pv 3) (ae (eQ (ae cY ao)) ao))))) ao)))
  (aC (bx (dQ E2 (cy bY rfl B.gW bC (ae (cZ (pv 0) rfl) ao)) az))))),?_⟩
 try dsimp only[dj]
 refine⟨_,rfl,bn,dn,_,rfl,hb.hn,rfl,_,rfl,_,rfl,Ht.mk bn dn b dx L M EL room ts es v1 v2 p1 p2 rfl hb Dc S9 yi w6 Lr S8 cI w5 len yj (fun pr H1 bt FE Xu => ?_)⟩
 dsimp only[cg]
 obtain⟨mI,XQ,aoF⟩:=FE.hE
 have ym:=bj aoF
 refine⟨_,rfl,bn,CH,dn,_,_,rfl,FE.hn,Y.cH,Y.Bn,rfl,.inl ⟨rfl,_,bb.of XQ⟩,_,rfl,pr,_,0,_,rfl,rfl,bP.of Xu,aR (j:=0) rfl,_,rfl,pr,_,1,_,rfl,rfl,bP.of Xu,aR (j:=1) rfl,_,rfl,(show 1<=sizeLine by decide),fun tq K7=>⟨(show 4<=sizeLine by decide),fun tp mH => ?_⟩⟩
 have sq:=aS K7 (.tup [.str "told"])
 have sp:=aS mH (.tup [nV (bJ b0 ts p1).2,nV (bJ b0 (bJ b0 ts p1).1 p2).2,.int wt,.ref tq])
 have sA:=sq.trans sp
 have hv:wD (aJ (aJ H1 tq (.tup [.str "told"])) tp (.tup [nV (bJ b0 ts p1).2,nV (bJ b0 (bJ b0 ts p1).1 p2).2,.int wt,.ref tq])) (.ref tp) ((bJ b0 ts p1).2,(bJ b0 (bJ b0 ts p1).1 p2).2):=⟨tp,_,rfl,au⟩
 have hE2:=sA _ _ XQ
 have rH:=FE.same sA
 generalize aJ (aJ H1 tq (.tup [.str "told"])) tp (.tup [nV (bJ b0 ts p1).2,nV (bJ b0 (bJ b0 ts p1).1 p2).2,.int wt,.ref tq])=H2 at sA hv hE2 rH ⊢
 refine⟨EL,mI,.ref tp,rfl,rfl,hE2,dE (by omega),?_⟩
 have C9:=rH.more hE2 (.cons hv .nil)
 refine⟨_,rfl,bn,CH,dn,_,_,rfl,C9.hn,Y.cH,Y.Bn,rfl,EL,_,rfl,.inl (bb.of au),_,_,rfl,rfl,?_⟩
 exact q1 _ _ (fun c o m1 m2 m3 h=>by rw[ax m3];exact sA _ _ (bt c o m1 m2 h)) C9
inductive yu (P:Program) (w:World) (CB CH:Addr) (vs:List V) (H:Hp) (Q:VK):Prop
 | mk (bn dn b dx L M EL:Addr) (room:Int) (ts:List Tm) (es:List (Nat × Nat)) (ev:vs = [.ref bn]) (hb:dz P w CB CH H bn dn b dx L M EL room ts es) (ha:ny ts) (len:ts.length<=1000) (ar:∀ (i:Nat) x as,ts[i]? = some (.of x as)->as.length<=1000) (he:∀ a b:Nat,(a,b)∈es->a < ts.length∧b < ts.length)
  (q:∀ R ls H',bp H H'->H R=none->H' R=some (.lst (ls.map nV))->eE ts es ls->Q (.ref R) H'):yu P w CB CH vs H Q
def Ca (P:Program) (w:World) (CB CH:Addr):Sp:=fun vs H Q _=>yu P w CB CH vs H Q
theorem MG (Zb:ph K CB) (Y:tO K CH) (D9:dh P w K mg base 3 "closed" ["terms", "edges"] (JV K)) (D:Def K mg "leads_of" mQ ["bench"]):dh P w K mg base 4 "leads_of" ["bench"] (Ca P w CB CH):=by
 refine D.has MD (fun vs H Q E h => ?_) (fun f cw A outer s H vs Q E hr h => ?_)
 ·obtain⟨bn,dn,b,dx,L,M,EL,room,ts,es,rfl,_⟩:=h;rfl
 obtain⟨bn,dn,b,dx,L,M,EL,room,ts,es,rfl,hb,ha,len,ar,he,q⟩:=h
 refine⟨_,(aC (bx (bh D9 hr (by omega) rfl (ae (cZ (cZ (pv 0) rfl) rfl) (ae (cZ (pv 0) rfl) ao))))),?_⟩
 try dsimp only[dj]
 obtain⟨us,hL,eM⟩:=id hb.hB.2.1
 obtain⟨mI,hE,aoD⟩:=hb.hE
 exact⟨_,rfl,bn,CH,dn,_,_,rfl,hb.hn,Y.cH,Y.oY,rfl,b,CB,dx,_,_,rfl,hb.hB.1,Zb.cB,Zb.iZ,rfl,_,rfl,bn,CH,dn,_,_,rfl,hb.hn,Y.cH,Y.Bn,rfl,L,EL,us,mI,ts,es,rfl,hL,eM,bb.of hE,aoD,ha,len,ar,he,fun R ls H' sm fr hR hc=>q R ls H' sm fr hR hc⟩
def zV (ks:List Int) (as:List Nat) (i:Nat):Int:=ks.getD (as.getD i 0) 0
def Ak (ks:List Int):Tm->Int
 | .num n=>J0 n
 | .name _=>7
 | .of x as=>if x = "plus" ∧ as.length=2 then lJ BJ (zV ks as 0) (zV ks as 1) else if x = "times" ∧ as.length=2 then lJ vF (zV ks as 0) (zV ks as 1) else if x = "neg" ∧ as.length=1 then lJ vF 1 (zV ks as 0) else 7
theorem HE (ks:List Int) (x:Str) (as:List Nat):Ak ks (.of x as)=if x = "plus" ∧ as.length=2 then lJ BJ (zV ks as 0) (zV ks as 1) else if x = "times" ∧ as.length=2 then lJ vF (zV ks as 0) (zV ks as 1) else if x = "neg" ∧ as.length=1 then lJ vF 1 (zV ks as 0) else 7:=rfl
theorem sJ {x y:Str}{n:Nat}{as:List Nat}:jk x n (.of y as)=true↔y=x∧as.length=n:=by
 unfold jk
 rw[fA,decide_eq_true_iff,decide_eq_true_iff]
inductive OT (CS:Addr) (vs:List V) (H:Hp) (Q:VK):Prop
 | mk (o dx T L:Addr) (us ls:List V) (z0:vs = [.ref o,.ref T,.ref L]) (z1:H o=some (.ins CS dx [])) (z2:H T=some (.lst us)) (z3:H L=some (.lst ls)) (z4:∀ H' A1 A2,fe o H H'->H A1=none->H A2=none->H' A1=some (.lst us)->H' A2=some (.lst ls)->H' o=some (.ins CS dx [("terms",.ref A1),("leads",.ref A2)])->Q .cQ H'):OT CS vs H Q
def Cb (CS:Addr):Sp:=fun vs H Q _=>OT CS vs H Q
theorem Vy (B:j0 mg) (Z:BL K mg CS tB) (D:tH K mg "Signs" CS "Kind.__init__" nQ ["self", "terms", "leads"]):ux P w K mg base 1 "Signs" CS ["self", "terms", "leads"] (Cb CS):=by
 refine D.has Kb (fun vs H Q E h => ?_) (fun f cw A outer s H vs Q E hr h => ?_)
 ·obtain⟨o,dx,T,L,us,ls,rfl,_⟩:=h;rfl
 obtain⟨o,dx,T,L,us,ls,rfl,ho,hT,hL,q⟩:=h
 refine⟨_,(av (iq (pv 0) (gZ j8 rfl B.uM jW (ae (pv 1) ao)) rfl)
  (aC (iq (pv 0) (gZ j8 rfl B.uM jW (ae (pv 2) ao)) rfl))),?_⟩
 try dsimp only[dj]
 refine⟨_,rfl,T,us,rfl,.inl (bb.of hT),fun A1 rK => ?_⟩
 have zu:A1≠o:=fun e=>by rw[e,ho]at rK;cases rK
 have Te:T≠o:=fun e=>by rw[e,ho]at hT;cases hT
 have Ol:L≠o:=fun e=>by rw[e,ho]at hL;cases hL
 have V8:L≠A1:=fun e=>by rw[e,rK]at hL;cases hL
 refine⟨_,rfl,o,CS,dx,_,rfl,(by rw[ax (bV zu)];exact ho),Z.cS,Z.iZ,by decide,?_⟩
 have yo:(aJ (aJ H A1 (.lst us)) o (.ins CS dx [("terms",.ref A1)])) L=some (.lst ls):=by rw[ax Ol,ax V8];exact hL
 refine⟨_,rfl,L,ls,rfl,.inl (bb.of yo),fun A2 rJ => ?_⟩
 have Ea:A2≠o:=fun e=>by rw[e,au]at rJ;cases rJ
 have FJ:A2≠A1:=fun e=>by rw[e,ax zu,au]at rJ;cases rJ
 have Bz:H A2=none:=by rw[ax Ea,ax FJ]at rJ;exact rJ
 refine⟨_,rfl,o,CS,dx, [("terms",.ref A1)],rfl,(by rw[ax (bV Ea),au];rfl),Z.cS,Z.ye,(show 1 < 1000 by decide),?_⟩
 refine q _ A1 A2 (fun c u n h => ?_) rK Bz ?_ ?_ au
 ·have h1:c≠A1:=fun e=>by rw[e,rK]at h;cases h
  have h2:c≠A2:=fun e=>by rw[e,Bz]at h;cases h
  rw[ax n,ax h2,ax n,ax h1];exact h
 ·rw[ax zu,ax (bV FJ),ax zu,au]
 ·rw[ax Ea,au]
inductive Ud (CS:Addr) (vs:List V) (H:Hp) (Q:VK):Prop
 | mk (o dx:Addr) (fs:List (Str × V)) (z0:vs = [.ref o]) (z1:H o=some (.ins CS dx fs)) (z2:Q (.int 7) H):Ud CS vs H Q
def Ru (CS:Addr):Sp:=fun vs H Q _=>Ud CS vs H Q
theorem aaH (Z:BL K mg CS tB) (D:kC K CS "top" "Signs.top" vg ["self"]):mC P w K mg base 1 CS "top" ["self"] (Ru CS):=by
 have iE:=Z.iE
 refine D.has YI (fun vs H Q E h => ?_) (fun f cw A outer s H vs Q E hr h => ?_)
 ·obtain⟨o,dx,fs,rfl,_⟩:=h;rfl
 obtain⟨o,dx,fs,rfl,ho,q⟩:=h
 refine⟨_,(aC (bx (iu iE rfl))),?_⟩
 try dsimp only[dj]
 exact q
def agO (n:Nat) (t:Tm):Prop := ∀ a∈Yc t,a < n
theorem vO {ks:List Int}{as:List Nat}{i:Nat} (hi:i < as.length) (h:∀ a∈as,a < ks.length):as[i]? = some (as.getD i 0)∧rM (ks.map V.int) (((as.getD i 0:Nat)):Int)=some (.int (zV ks as i)):=by
 have e:=getD_at hi
 have hl:=h _ (aP e)
 refine⟨e,aR ?_⟩
 rw[aD,ah hl]
 unfold zV
 rw[aN (l:=ks),ah hl]
 rfl
inductive OP (K:ak) (CS:Addr) (vs:List V) (H:Hp) (Q:VK):Prop
 | mk (o dx L:Addr) (fs:List (Str × V)) (v:V) (t:Tm) (ks:List Int) (z0:vs = [.ref o,v,.ref L]) (z1:H o=some (.ins CS dx fs)) (z2:iS H t v) (z3:bb K H L (ks.map V.int)) (z4:agO ks.length t) (z5:Q (.int (Ak ks t)) H):OP K CS vs H Q
def Nh (K:ak) (CS:Addr):Sp:=fun vs H Q _=>OP K CS vs H Q
theorem Vu (Z:BL K mg CS tB) (mZ:dh P w K mg base 1 "is_sum" ["term"] (lV "plus" 2)) (ix:dh P w K mg base 1 "is_product" ["term"] (lV "times" 2)) (kE:dh P w K mg base 1 "is_opposite" ["term"] (lV "neg" 1))
  (qh:dh P w K mg base 1 "sign_of_number" ["number"] W0) (ma:dh P w K mg base 2 "sign_of_pair" ["combine", "fact", "other_fact"] (Ry P w K mg base)) (xH:dh P w K mg base 1 "add_signs" ["one", "other"] (EX BJ)) (qi:dh P w K mg base 1 "multiply_signs" ["one", "other"] (EX vF))
  (D:kC K CS "worth" "Signs.worth" p7 ["self", "term", "known"]):mC P w K mg base 3 CS "worth" ["self", "term", "known"] (Nh K CS):=by
 have iE:=Z.iE
 have iC:=Z.iC
 obtain⟨Di,MM,v_add⟩:=xH.val
 obtain⟨m7,vJ,v_mul⟩:=qi.val
 refine D.has RN (fun vs H Q E h => ?_) (fun f cw A outer s H vs Q E hr h => ?_)
 ·obtain⟨o,dx,L,fs,v,t,ks,rfl,_⟩:=h;rfl
 obtain⟨o,dx,L,fs,v,t,ks,rfl,ho,hT,hL,yl,q⟩:=h
 refine⟨_,(av (dy (b9 dR (aY bL (pv 1) az (fun _ _=>rfl)) cY (bQ _)) (aC (bx (bh qh hr (by omega) rfl (ae (aY bL (pv 1) az (fun _ _=>rfl)) ao)))) cq)
  (av (dy (kI (bh mZ hr (by omega) rfl (ae (pv 1) ao))) (aC (bx (bh ma hr (by omega) rfl (ae (uY (v := .ref Di) rfl MM rfl) (ae (aY cu (pv 2) (aY bL (aY bL (pv 1) az (fun _ _=>rfl)) az (fun _ _=>rfl)) (fun _ _=>rfl)) (ae (aY cu (pv 2) (aY bL (aY bL (pv 1) az (fun _ _=>rfl)) az (fun _ _=>rfl)) (fun _ _=>rfl)) ao)))))) cq)
  (av (dy (kI (bh ix hr (by omega) rfl (ae (pv 1) ao))) (aC (bx (bh ma hr (by omega) rfl (ae (uY (v := .ref m7) rfl vJ rfl) (ae (aY cu (pv 2) (aY bL (aY bL (pv 1) az (fun _ _=>rfl)) az (fun _ _=>rfl)) (fun _ _=>rfl)) (ae (aY cu (pv 2) (aY bL (aY bL (pv 1) az (fun _ _=>rfl)) az (fun _ _=>rfl)) (fun _ _=>rfl)) ao)))))) cq)
  (av (dy (kI (bh kE hr (by omega) rfl (ae (pv 1) ao))) (aC (bx (bh ma hr (by omega) rfl (ae (uY (v := .ref m7) rfl vJ rfl) (ae (iu iC rfl) (ae (aY cu (pv 2) (aY bL (aY bL (pv 1) az (fun _ _=>rfl)) az (fun _ _=>rfl)) (fun _ _=>rfl)) ao)))))) cq)
  (aC (bx (iu iE rfl))))))),?_⟩
 try dsimp only[dj]
 cases t with
 | num n =>
  obtain⟨a,rfl,h⟩:=id hT
  exact⟨_,rfl,a,_,0,_,rfl,rfl,bP.of h,aR (j:=0) rfl,rfl,_,rfl,dF (fun _=>⟨_,rfl,a,_,1,_,rfl,rfl,bP.of h,aR (j:=1) rfl,n,rfl,q⟩) (fun z=>absurd rfl z)⟩
 | name n =>
  obtain⟨a,rfl,h⟩:=id hT
  refine⟨_,rfl,a,_,0,_,rfl,rfl,bP.of h,aR (j:=0) rfl,rfl,_,rfl,dF (fun z=>absurd (V.str.inj z) (by decide)) (fun _ => ?_)⟩
  exact⟨_,rfl,.ref a,.name n,rfl,hT,_,rfl,hZ ⟨_,rfl,.ref a,.name n,rfl,hT,_,rfl,hZ ⟨_,rfl,.ref a,.name n,rfl,hT,_,rfl,hZ q⟩⟩⟩
 | of x as =>
  obtain⟨a,b,rfl,h,h2⟩:=id hT
  have Lg:∀ y∈as,y < ks.length:=yl
  refine⟨_,rfl,a,_,0,_,rfl,rfl,bP.of h,aR (j:=0) rfl,rfl,_,rfl,dF (fun z=>absurd (V.str.inj z) (by decide)) (fun _ => ?_)⟩
  rw[HE]at q
  refine⟨_,rfl,.ref a,.of x as,rfl,hT,_,rfl,?_⟩
  by_cases c1:x = "plus" ∧ as.length=2
  ·rw[sJ.mpr c1]
   rw[if_pos c1]at q
   obtain⟨e0,k0⟩:=vO (i:=0) (by omega) Lg
   obtain⟨e1,k1⟩:=vO (i:=1) (by omega) Lg
   exact jI ⟨_,rfl,_,rfl,a,_,2,_,rfl,rfl,bP.of h,aR (j:=2) rfl,b,_,0,_,rfl,rfl,bP.of h2,gR (k:=0) e0,L,_,_,_,rfl,rfl,hL,k0,_,rfl,_,rfl,a,_,2,_,rfl,rfl,bP.of h,aR (j:=2) rfl,b,_,1,_,rfl,rfl,bP.of h2,gR (k:=1) e1,L,_,_,_,rfl,rfl,hL,k1,Di,BJ,_,_,rfl,v_add,q⟩
  rw[if_neg c1]at q
  rw[uJ.mpr (fun z=>c1 (sJ.mp z))]
  refine hZ ⟨_,rfl,.ref a,.of x as,rfl,hT,_,rfl,?_⟩
  by_cases c2:x = "times" ∧ as.length=2
  ·rw[sJ.mpr c2]
   rw[if_pos c2]at q
   obtain⟨e0,k0⟩:=vO (i:=0) (by omega) Lg
   obtain⟨e1,k1⟩:=vO (i:=1) (by omega) Lg
   exact jI ⟨_,rfl,_,rfl,a,_,2,_,rfl,rfl,bP.of h,aR (j:=2) rfl,b,_,0,_,rfl,rfl,bP.of h2,gR (k:=0) e0,L,_,_,_,rfl,rfl,hL,k0,_,rfl,_,rfl,a,_,2,_,rfl,rfl,bP.of h,aR (j:=2) rfl,b,_,1,_,rfl,rfl,bP.of h2,gR (k:=1) e1,L,_,_,_,rfl,rfl,hL,k1,m7,vF,_,_,rfl,v_mul,q⟩
  rw[if_neg c2]at q
  rw[uJ.mpr (fun z=>c2 (sJ.mp z))]
  refine hZ ⟨_,rfl,.ref a,.of x as,rfl,hT,_,rfl,?_⟩
  by_cases c3:x = "neg" ∧ as.length=1
  ·rw[sJ.mpr c3]
   rw[if_pos c3]at q
   obtain⟨e0,k0⟩:=vO (i:=0) (by omega) Lg
   exact jI ⟨_,rfl,_,rfl,a,_,2,_,rfl,rfl,bP.of h,aR (j:=2) rfl,b,_,0,_,rfl,rfl,bP.of h2,gR (k:=0) e0,L,_,_,_,rfl,rfl,hL,k0,m7,vF,_,_,rfl,v_mul,q⟩
  rw[if_neg c3]at q
  rw[uJ.mpr (fun z=>c3 (sJ.mp z))]
  exact hZ q
structure LZ (K:ak) (CN:Addr):Prop where
 cN:nK K CN
 iZ:fg K CN "terms"
 ye:fg K CN "leads"
 P8:fg K CN "held"
 Js:fg K CN "bits"
 wR:fg K CN "standing"
theorem Kw (B:j0 mg) (D:Def K mg "is_binder" lA ["term"]):dh P w K mg base 1 "is_binder" ["term"] (lV "bind" 2):=by
 refine D.has Kd (fun vs H Q E h => ?_) (fun f cw A outer s H vs Q E hr h => ?_)
 ·obtain⟨v,t,rfl,_⟩:=h;rfl
 obtain⟨v,t,rfl,hT,q⟩:=h
 refine⟨_,(aC (bx (qI (jj dR (aY bL (pv 0) az (fun _ _=>rfl)) cY (bQ _)) (qI (jj dR (aY bL (pv 0) az (fun _ _=>rfl)) cY (bQ _)) (Bk (jj dR (cy bY rfl B.gW bC (ae (aY bL (pv 0) az (fun _ _=>rfl)) ao)) az (bQ _))))))),?_⟩
 try dsimp only[dj]
 cases t with
 | num n =>
  obtain⟨a,rfl,h⟩:=id hT
  exact⟨_,rfl,a,_,0,_,rfl,rfl,bP.of h,aR (j:=0) rfl,rfl,_,rfl,dF (fun z=>absurd (V.str.inj z) (by decide)) (fun _=>q)⟩
 | name n =>
  obtain⟨a,rfl,h⟩:=id hT
  exact⟨_,rfl,a,_,0,_,rfl,rfl,bP.of h,aR (j:=0) rfl,rfl,_,rfl,dF (fun z=>absurd (V.str.inj z) (by decide)) (fun _=>q)⟩
 | of x as =>
  obtain⟨a,b,rfl,h,h2⟩:=id hT
  refine⟨_,rfl,a,_,0,_,rfl,rfl,bP.of h,aR (j:=0) rfl,rfl,_,rfl,dF (fun _ => ?_) (fun z=>absurd rfl z)⟩
  have LH:jk "bind" 2 (.of x as)=(decide (x = "bind") && decide (as.length=2)):=rfl
  rw[LH]at q
  refine⟨_,rfl,a,_,1,_,rfl,rfl,bP.of h,aR (j:=1) rfl,rfl,_,rfl,dF (fun hx => ?_) (fun hx => ?_)⟩
  ·refine⟨_,rfl,a,_,2,_,rfl,rfl,bP.of h,aR (j:=2) rfl,b,_,rfl,.inr (bP.of h2),rfl,?_⟩
   have e:decide (V.int (((as.map nV).length:Nat):Int)=V.int 2)=decide (as.length=2):=by rw[aq];exact sV (n:=2)
   rw[e]
   rw[decide_eq_true (V.str.inj hx),uz]at q
   exact q
  ·rw[decide_eq_false (fun z=>hx (by rw[z])),j3]at q
   exact q
theorem Sn (B:j0 mg) (Z:LZ K CN) (D:QX K mg "Kind" "__init__" "Kind.__init__" nQ ["self", "terms", "leads"]):QV P w K mg base 1 "Kind" "__init__" ["self", "terms", "leads"] (Cb CN):=by
 refine D.has Kb (fun vs H Q E h => ?_) (fun f cw A outer s H vs Q E hr h => ?_)
 ·obtain⟨o,dx,T,L,us,ls,rfl,_⟩:=h;rfl
 obtain⟨o,dx,T,L,us,ls,rfl,ho,hT,hL,q⟩:=h
 refine⟨_,(av (iq (pv 0) (gZ j8 rfl B.uM jW (ae (pv 1) ao)) rfl)
  (aC (iq (pv 0) (gZ j8 rfl B.uM jW (ae (pv 2) ao)) rfl))),?_⟩
 try dsimp only[dj]
 refine⟨_,rfl,T,us,rfl,.inl (bb.of hT),fun A1 rK => ?_⟩
 have zu:A1≠o:=fun e=>by rw[e,ho]at rK;cases rK
 have Te:T≠o:=fun e=>by rw[e,ho]at hT;cases hT
 have Ol:L≠o:=fun e=>by rw[e,ho]at hL;cases hL
 have V8:L≠A1:=fun e=>by rw[e,rK]at hL;cases hL
 refine⟨_,rfl,o,CN,dx,_,rfl,(by rw[ax (bV zu)];exact ho),Z.cN,Z.iZ,by decide,?_⟩
 have yo:(aJ (aJ H A1 (.lst us)) o (.ins CN dx [("terms",.ref A1)])) L=some (.lst ls):=by rw[ax Ol,ax V8];exact hL
 refine⟨_,rfl,L,ls,rfl,.inl (bb.of yo),fun A2 rJ => ?_⟩
 have Ea:A2≠o:=fun e=>by rw[e,au]at rJ;cases rJ
 have FJ:A2≠A1:=fun e=>by rw[e,ax zu,au]at rJ;cases rJ
 have Bz:H A2=none:=by rw[ax Ea,ax FJ]at rJ;exact rJ
 refine⟨_,rfl,o,CN,dx, [("terms",.ref A1)],rfl,(by rw[ax (bV Ea),au];rfl),Z.cN,Z.ye,(show 1 < 1000 by decide),?_⟩
 refine q _ A1 A2 (fun c u n h => ?_) rK Bz ?_ ?_ au
 ·have h1:c≠A1:=fun e=>by rw[e,rK]at h;cases h
  have h2:c≠A2:=fun e=>by rw[e,Bz]at h;cases h
  rw[ax n,ax h2,ax n,ax h1];exact h
 ·rw[ax zu,ax (bV FJ),ax zu,au]
 ·rw[ax Ea,au]
def NV (H:Hp) (v:V):Option V:=match v with
 | .ref a=>(match H a with
  | some (.tup (.str x :: .str z :: _))=>if x = "name" then some (.str z) else none
  | _=>none)
 | _=>none
theorem P5 {H:Hp}{t:Tm}{v:V} (hT:iS H t v):NV H v=(lK t).map V.str:=by
 cases t with
 | num n =>
  obtain⟨a,rfl,h⟩:=id hT
  unfold NV
  dsimp only
  rw[h]
  rfl
 | name n =>
  obtain⟨a,rfl,h⟩:=id hT
  unfold NV
  dsimp only
  rw[h]
  dsimp only
  rw[if_pos rfl]
  rfl
 | of x as =>
  obtain⟨a,b,rfl,h,h2⟩:=id hT
  unfold NV
  dsimp only
  rw[h]
  dsimp only
  rw[if_neg (by decide)]
  rfl
theorem KH {H:Hp}:∀ {us:List V}{ts:List Tm},om H us ts->us.filterMap (NV H)=(de ts).map V.str
 | _,_,.nil=>rfl
 | v :: us,t :: ts,.cons h r=>by
  unfold de
  rw[dN,dN,P5 h]
  cases lK t with
  | none=>exact KH r
  | some z=>exact congrArg (V.str z :: ·) (KH r)
theorem JI {H:Hp}:∀ {us:List V}{ts:List Tm}{v:V},om H us ts->v∈us->∃ t,iS H t v
 | _,_,_,.nil,h=>nomatch h
 | _,_,_,.cons h r,hv=>by
  rcases bo.mp hv with rfl | hv
  ·exact⟨_,h⟩
  ·exact JI r hv
inductive Yj (H:Hp) (t:Tm) (v:V):Prop
 | mk:∀ (a:Addr) (xs:List V) (x:Str) (y:V),v = .ref a->H a=some (.tup xs)->rM xs 0=some (.str x)->rM xs 1=some y->(x = "name" ↔ (lK t).isSome=true)->(∀ z,lK t=some z->y = .str z)->Yj H t v
theorem JH {H:Hp}{t:Tm}{v:V} (hT:iS H t v):Yj H t v:=by
 cases t with
 | num n =>
  obtain⟨a,rfl,h⟩:=id hT
  exact⟨a,_,_,_,rfl,h,rfl,rfl,⟨fun z=>absurd z (by decide),fun z=>nomatch z⟩,fun z e=>nomatch e⟩
 | name n =>
  obtain⟨a,rfl,h⟩:=id hT
  exact⟨a,_,_,_,rfl,h,rfl,rfl,⟨fun _=>rfl,fun _=>rfl⟩,fun z e=>by cases e;rfl⟩
 | of x as =>
  obtain⟨a,b,rfl,h,h2⟩:=id hT
  exact⟨a,_,_,_,rfl,h,rfl,rfl,⟨fun z=>absurd z (by decide),fun z=>nomatch z⟩,fun z e=>nomatch e⟩
theorem Eh {L:Addr}{H H1 H2:Hp} (a:fe L H H1) (b:bp H1 H2):fe L H H2:=fun c u n h=>b c u (a c u n h)
theorem Cv {L x:Addr}{H H1:Hp}{u:HO} (a:fe L H H1) (hx:H x=none):fe L H (aJ H1 x u):=fun c v n h=>by
 rw[ax (fun e=>by rw[e,hx]at h;cases h)]
 exact a c v n h
theorem Hj {L:Addr}{H H1:Hp}{u:HO} (a:fe L H H1):fe L H (aJ H1 L u):=fun c v n h=>by
 rw[ax n]
 exact a c v n h
theorem Hk {L x:Addr}{H H1:Hp} (a:fe L H H1) (hx:H1 x=none) (hn:x≠L):H x=none:=by
 cases e:H x with
 | none=>rfl
 | some u=>have:=a x u hn e;rw[hx]at this;cases this
theorem nG {H:Hp}{x y:Addr}{u:HO} (hx:H x=none) (hy:H y=some u):x≠y:=fun e=>by rw[e,hy]at hx;cases hx
structure mn (CN:Addr) (H:Hp) (o:Addr) (ts:List Tm) (ls:List Nat):Prop where
 ex:∃ dx A1 A2 A3 A4 A5 kb ks,H o=some (.ins CN dx [("terms",.ref A1),("leads",.ref A2),("held",.ref A3),("bits",.ref A4),("standing",.ref A5)])∧H A2=some (.lst (ls.map nV)) ∧
  H A3=some (.lst ((de ts).map V.str))∧H A4=some (.dK kb)∧uo (de ts) (de ts).length kb∧H A5=some (.dK ks)∧qz (de ts) ts ls ts.length ks∧∃ us,H A1=some (.lst us)∧om H us ts
theorem mn.same {CN:Addr} {H H':Hp}{o:Addr}{ts:List Tm}{ls:List Nat} (h:mn CN H o ts ls) (s:bp H H'):mn CN H' o ts ls:=by
 obtain⟨dx,A1,A2,A3,A4,A5,kb,ks,h1,h2,h3,h4,h5,h6,h7,us,h8,h9⟩:=h.ex
 exact⟨dx,A1,A2,A3,A4,A5,kb,ks,s _ _ h1,s _ _ h2,s _ _ h3,s _ _ h4,h5,s _ _ h6,h7,us,s _ _ h8,gC s h9⟩
structure Ew (CN:Addr) (H0 H:Hp) (o:Addr) (ts:List Tm) (ls:List Nat):Prop where
 ex:∃ dx A1 A2 A3 A4 A5 kb ks,H o=some (.ins CN dx [("terms",.ref A1),("leads",.ref A2),("held",.ref A3),("bits",.ref A4),("standing",.ref A5)])∧H A2=some (.lst (ls.map nV)) ∧
  H A3=some (.lst ((de ts).map V.str))∧H A4=some (.dK kb)∧uo (de ts) (de ts).length kb∧H A5=some (.dK ks)∧qz (de ts) ts ls ts.length ks∧(∃ us,H A1=some (.lst us)∧om H us ts)∧H0 A1=none∧H0 A2=none∧H0 A3=none
inductive OR (CN:Addr) (vs:List V) (H:Hp) (Q:VK):Prop
 | mk (o dx T L:Addr) (us:List V) (ts:List Tm) (ls:List Nat) (z0:vs = [.ref o,.ref T,.ref L]) (z1:H o=some (.ins CN dx [])) (z2:H T=some (.lst us)) (z3:om H us ts) (z4:H L=some (.lst (ls.map nV))) (z5:ts.Nodup) (z6:ls.length=ts.length) (z7:Pa ts) (z8:∀ H',fe o H H'->Ew CN H H' o ts ls->Q .cQ H'):OR CN vs H Q
def Nl (CN:Addr):Sp:=fun vs H Q _=>OR CN vs H Q
inductive IV (CN:Addr) (o:Addr) (dx:Addr) (T:Addr) (L:Addr) (A1:Addr) (A2:Addr) (H:Hp) (us:List V) (ts:List Tm) (ls:List Nat) (bF:St) (H':Hp):Prop
 | mk:∀ (A3:Addr),(bF = [some (.ref o),some (.ref T),some (.ref L),none,none,none,none])->(A3≠o)->(H A3=none)->(fe o H H')->(H' o=some (.ins CN dx [("terms",.ref A1),("leads",.ref A2),("held",.ref A3)]))->(H' A3=some (.lst ((de ts).map V.str)))->(H' A2=some (.lst (ls.map nV)))->(H' A1=some (.lst us))->IV CN o dx T L A1 A2 H us ts ls bF H'
inductive IU (CN:Addr) (o:Addr) (dx:Addr) (T:Addr) (L:Addr) (A1:Addr) (A2:Addr) (A3:Addr) (H:Hp) (us:List V) (ts:List Tm) (ls:List Nat) (bF:St) (H':Hp):Prop
 | mk:∀ (A4:Addr),(bF = [some (.ref o),some (.ref T),some (.ref L),none,none,none,none])->(A4≠o)->(A4≠A3)->(A4≠A2)->(A4≠A1)->(H A4=none)->(fe o H H')->(H' o=some (.ins CN dx [("terms",.ref A1),("leads",.ref A2),("held",.ref A3),("bits",.ref A4)]))->(H' A3=some (.lst ((de ts).map V.str)))->(H' A2=some (.lst (ls.map nV)))->(H' A4=some (.dK []))->(H' A1=some (.lst us))->IU CN o dx T L A1 A2 A3 H us ts ls bF H'
inductive IT (CN:Addr) (o:Addr) (dx:Addr) (T:Addr) (L:Addr) (A1:Addr) (A2:Addr) (A3:Addr) (A4:Addr) (H:Hp) (us:List V) (ts:List Tm) (ls:List Nat) (bF:St) (H':Hp):Prop
 | mk:∀ (x3 x4:Option V) (kb:DK),(bF = [some (.ref o),some (.ref T),some (.ref L),x3,x4,none,none])->(fe o H H')->(H' o=some (.ins CN dx [("terms",.ref A1),("leads",.ref A2),("held",.ref A3),("bits",.ref A4)]))->(H' A3=some (.lst ((de ts).map V.str)))->(H' A2=some (.lst (ls.map nV)))->(H' A4=some (.dK kb))->(uo (de ts) (de ts).length kb)->(H' A1=some (.lst us))->IT CN o dx T L A1 A2 A3 A4 H us ts ls bF H'
inductive IS (CN:Addr) (o:Addr) (dx:Addr) (T:Addr) (L:Addr) (A1:Addr) (A2:Addr) (A3:Addr) (A4:Addr) (H:Hp) (us:List V) (ts:List Tm) (ls:List Nat) (i:Nat) (bF:St) (H':Hp):Prop
 | mk:∀ (x3 x4:Option V) (kb:DK),(bF = [some (.ref o),some (.ref T),some (.ref L),x3,x4,none,none])->(fe o H H')->(H' o=some (.ins CN dx [("terms",.ref A1),("leads",.ref A2),("held",.ref A3),("bits",.ref A4)]))->(H' A3=some (.lst ((de ts).map V.str)))->(H' A2=some (.lst (ls.map nV)))->(H' A4=some (.dK kb))->(uo (de ts) i kb)->(H' A1=some (.lst us))->IS CN o dx T L A1 A2 A3 A4 H us ts ls i bF H'
inductive IQ (CN:Addr) (o:Addr) (dx:Addr) (T:Addr) (L:Addr) (A1:Addr) (A2:Addr) (A3:Addr) (A4:Addr) (H:Hp) (us:List V) (ts:List Tm) (ls:List Nat) (x3:Option V) (x4:Option V) (kb:DK) (bF:St) (H':Hp):Prop
 | mk:∀ (A5:Addr),(bF = [some (.ref o),some (.ref T),some (.ref L),x3,x4,none,none])->(A5≠o)->(A5≠A3)->(A5≠A2)->(A5≠A4)->(A5≠A1)->(H A5=none)->(fe o H H')->(H' o=some (.ins CN dx [("terms",.ref A1),("leads",.ref A2),("held",.ref A3),("bits",.ref A4),("standing",.ref A5)]))->(H' A3=some (.lst ((de ts).map V.str)))->(H' A2=some (.lst (ls.map nV)))->(H' A4=some (.dK kb))->(H' A5=some (.dK []))->(H' A1=some (.lst us))->IQ CN o dx T L A1 A2 A3 A4 H us ts ls x3 x4 kb bF H'
inductive IP (CN:Addr) (o:Addr) (dx:Addr) (T:Addr) (L:Addr) (A1:Addr) (A2:Addr) (A3:Addr) (A4:Addr) (A5:Addr) (H:Hp) (us:List V) (ts:List Tm) (ls:List Nat) (x3:Option V) (x4:Option V) (kb:DK) (i:Nat) (bF:St) (H':Hp):Prop
 | mk:∀ (x5 x6:Option V) (ks:DK),(bF = [some (.ref o),some (.ref T),some (.ref L),x3,x4,x5,x6])->(fe o H H')->(H' o=some (.ins CN dx [("terms",.ref A1),("leads",.ref A2),("held",.ref A3),("bits",.ref A4),("standing",.ref A5)]))->(H' A3=some (.lst ((de ts).map V.str)))->(H' A2=some (.lst (ls.map nV)))->(H' A4=some (.dK kb))->(H' A5=some (.dK ks))->(qz (de ts) ts ls i ks)->(H' A1=some (.lst us))->IP CN o dx T L A1 A2 A3 A4 A5 H us ts ls x3 x4 kb i bF H'
theorem Vw (B:j0 mg) (Z:LZ K CN) (G3:QV P w K mg base 1 "Kind" "__init__" ["self", "terms", "leads"] (Cb CN)) (D:tH K mg "Names" CN "Names.__init__" qt ["self", "terms", "leads"]):ux P w K mg base 2 "Names" CN ["self", "terms", "leads"] (Nl CN):=by
 refine D.has ve (fun vs H Q E h => ?_) (fun f cw A outer s H vs Q E hr h => ?_)
 ·obtain⟨o,dx,T,L,us,ts,ls,rfl,_⟩:=h;rfl
 obtain⟨o,dx,T,L,us,ts,ls,rfl,ho,hT,eM,hL,Xx,Bs,gb,q⟩:=h
 have adZ:=gb.1
 have aoZ:=gb.2
 refine⟨_,(av (gu (Vq G3 hr (by omega) (ahC fun _ _ _ z=>z) rfl (ae (pv 0) (ae (pv 1) (ae (pv 2) ao)))))
  (av (iq (pv 0) (D2 (te:=(qq (Bc K) _ _)) (ct:=(EN (qq _ (qq (Bc K) _ _) _))) (own := ["term"]) (caps := []) (jx (aw qt) ["self", "terms", "leads", "place", "word", "k", "term"] rfl rfl rfl (by decide +kernel)) (jD (pv 1)) rfl (fun _ _ _=>cC (i:=0) (show (["term"]:List Str).Nodup by decide +kernel) rfl (aQ rfl)) (fun _ _ _=>(b9 dR (aY bL (pv 0) az (fun _ _=>rfl)) cY (bQ _))) (fun _ _ _=>(aY bL (pv 0) az (fun _ _=>rfl)))) rfl)
  (av (iq (pv 0) y7 rfl)
  (av (fR lL rfl (uX rfl B.pf (ae (cZ (pv 0) rfl) ao)) (tU rfl (fw (cC (i:=3) ve.nd rfl (aQ rfl)) (fw (cC (i:=4) ve.nd rfl (aQ rfl)) qu)))
  (aC (NB (zl hr) (cZ (pv 0) rfl) (pv 4) (dQ Si az (pv 3)) rfl)))
  (av (iq (pv 0) y7 rfl)
  (aC (fR lL rfl (uX rfl B.pf (ae (pv 1) ao)) (tU rfl (fw (cC (i:=5) ve.nd rfl (aQ rfl)) (fw (cC (i:=6) ve.nd rfl (aQ rfl)) qu)))
  (aC (dy (b9 dR (aY bL (pv 6) az (fun _ _=>rfl)) cY (bQ _)) (aC (NB (zl hr) (cZ (pv 0) rfl) (aY cu (pv 2) (pv 5) (fun _ _=>rfl)) (dQ PV (D0 (zl hr) (cZ (pv 0) rfl) (aY cu (pv 2) (pv 5) (fun _ _=>rfl)) az ⟨rfl,rfl,rfl,rfl⟩) (NG (zl hr) (cZ (pv 0) rfl) (aY bL (pv 6) az (fun _ _=>rfl)) (fun _ _=>rfl))) rfl)) cq))))))))),?_⟩
 try dsimp only[dj]
 have Te:T≠o:=fun e=>by rw[e,ho]at hT;cases hT
 have Ol:L≠o:=fun e=>by rw[e,ho]at hL;cases hL
 have wW:=bj eM
 have hsn:=uN Xx
 have wY:=zq ts
 refine⟨_,rfl,_,rfl,_,rfl,o,dx,T,L,us,ls.map nV,rfl,ho,hT,hL,fun H1 A1 A2 wc adT Bz rK rJ ho1 => ?_⟩
 have kp1:∀ b ys,H b=some (.tup ys)->H1 b=some (.tup ys):=fun b ys e=>wc _ _ (fun z=>by rw[z,ho]at e;cases e) e
 have VV:=mN kp1 eM
 have Dc:=wc _ _ Te hT
 have vY:=wc _ _ Ol hL
 have oA2:=nG Bz ho
 have oA1:=nG adT ho
 dsimp only
 refine ik (IV CN o dx T L A1 A2 H us ts ls) ?_ (fun key => ?_)
 rotate_left
 ·refine⟨_,rfl,T,rfl,⟨us,bb.of Dc⟩,?_⟩
  show xp _ _ _ _ _ H1 _
  refine Dj (xs:=us) (NV H1) (bb.of Dc) (by omega) (fun x hx H' sm R r => ?_) (fun x v hx e H' sm Q' q' => ?_) (fun A3 H2 hA3 s2 adP => ?_)
  ·obtain⟨t,ht⟩:=JI VV hx
   rw[P5 ht,lM]at r
   obtain⟨a,xs,x0,y,rfl,h,h0,h1,hn,hz⟩:=JH (ht.same sm)
   refine⟨_,rfl,a,_,_,_,rfl,rfl,bP.of h,h0,rfl,_,rfl,?_⟩
   have r1:=r H' (bp.refl _)
   have e:(decide (V.str x0=V.str "name"))=(lK t).isSome:=by
    rw[lp,decide_eq_true_iff, <- hn]
    exact⟨fun z=>V.str.inj z,fun z=>by rw[z]⟩
   rw[<- e]at r1
   exact r1
  ·obtain⟨t,ht⟩:=JI VV hx
   rw[P5 ht]at e
   obtain⟨z,e1,rfl⟩:=b7.mp e
   obtain⟨a,xs,x0,y,rfl,h,h0,h1,hn,hz⟩:=JH (ht.same sm)
   rw[hz z e1]at h1
   exact⟨_,rfl,a,_,_,_,rfl,rfl,bP.of h,h1,q' _ (bp.refl _)⟩
  rw[KH VV]at adP
  have ho2:=s2 _ _ ho1
  have NR:=nG hA3 ho1
  refine⟨_,rfl,o,CN,dx,_,rfl,ho2,Z.cN,Z.P8,(show 2 < 1000 by decide),key _ _ ⟨A3,rfl,NR,Hk wc hA3 NR,Hj (Eh wc s2),au,(ax NR).trans adP,(ax oA2).trans (s2 _ _ rJ),(ax oA1).trans (s2 _ _ rK)⟩⟩
 rintro bF H3 ⟨A3,rfl,NR,aoQ,FV,ho3,adO,adS,h13⟩
 refine ik (IU CN o dx T L A1 A2 A3 H us ts ls) ?_ (fun key => ?_)
 rotate_left
 ·intro A4 Tn
  have Kz:=nG Tn ho3
  have QC:H A4=none:=Hk FV Tn Kz
  have ID:=nG Tn adO
  have IE:=nG Tn adS
  have IF:=nG Tn h13
  refine⟨_,rfl,o,CN,dx,_,rfl,(ax (bV Kz)).trans ho3,Z.cN,Z.Js,(show 3 < 1000 by decide),key _ _ ⟨A4,rfl,Kz,ID,IE,IF,QC,Hj (Cv FV QC),au,(ax NR).trans ((ax (bV ID)).trans adO),(ax oA2).trans ((ax (bV IE)).trans adS),(ax Kz).trans au,(ax oA1).trans ((ax (bV IF)).trans h13)⟩⟩
 rintro bF H4 ⟨A4,rfl,Kz,ID,IE,IF,QC,bt4,ho4,adN,aoS,aoO,h14⟩
 refine ik (IT CN o dx T L A1 A2 A3 A4 H us ts ls) ?_ (fun key => ?_)
 rotate_left
 ·refine⟨_,rfl,o,CN,dx,_,_,rfl,ho4,Z.cN,Z.P8,rfl,A3,rfl,⟨_,bb.of adN⟩,?_⟩
  refine sT (xs:=(de ts).map V.str) (IS CN o dx T L A1 A2 A3 A4 H us ts ls) ⟨none,none, [],rfl,bt4,ho4,adN,aoS,aoO,Wr _,h14⟩ ?_ ?_ ?_
  ·rintro i σ H' _ ⟨x3,x4,kb,rfl,_,_,h,_⟩
   exact bb.of h
  ·rintro i x a0 σ H' hx ⟨x3,x4,kb,rfl,bt,zY,HZ,w5,Fz,hb,w6⟩ Bw
   rw[aD]at hx
   obtain⟨z,hz,rfl⟩:=b7.mp hx
   have hi:i < (de ts).length:=(ai.mp hz).1
   have s5:=aS Bw (.tup [.int (i:Int),.str z])
   have FU:=Eh bt s5
   have hbl:=hb.len
   refine⟨a0,_,rfl,bP.of au,rfl,_,_,rfl,_,_,rfl,rfl,?_⟩
   generalize aJ H' a0 (.tup [.int (i:Int),.str z])=H5 at s5 FU ⊢
   refine⟨_,rfl,_,_,rfl,rfl,⟨by omega,by omega,by decide⟩,_,rfl,o,CN,dx,_,_,rfl,s5 _ _ zY,Z.cN,Z.Js,rfl,_,rfl,A4,_,rfl,HC.k (k:=gx z) (s5 _ _ Fz) (dE (by omega)),?_⟩
   have ev:V.int (1 * 2 ^ ((i:Int)).toNat)=nV (2 ^ i):=by
    rw[b6,Int.one_mul];exact congrArg V.int (by norm_cast)
   have rH:=T9 hsn hb hz
   rw[<- ev]at rH
   refine⟨some (.int (i:Int)),some (.str z),_,rfl,Cv FU QC,(ax (bV Kz)).trans (s5 _ _ zY),(ax (bV ID)).trans (s5 _ _ HZ),(ax (bV IE)).trans (s5 _ _ w5),au,rH,(ax (bV IF)).trans (s5 _ _ w6)⟩
  ·rintro σ H' ⟨x3,x4,kb,e,bt,zY,HZ,w5,Fz,hb,w6⟩
   rw[aq]at hb
   exact key _ _ ⟨x3,x4,kb,e,bt,zY,HZ,w5,Fz,hb,w6⟩
 rintro bF H5 ⟨x3,x4,kb,rfl,FU,ho5,adM,adQ,adL,hkb,h15⟩
 refine ik (IQ CN o dx T L A1 A2 A3 A4 H us ts ls x3 x4 kb) ?_ (fun key => ?_)
 rotate_left
 ·intro A5 Om
  have NQ:=nG Om ho5
  have Qz:H A5=none:=Hk FU Om NQ
  have Ye:=nG Om adM
  have Yg:=nG Om adQ
  have Yd:=nG Om adL
  have IC:=nG Om h15
  refine⟨_,rfl,o,CN,dx,_,rfl,(ax (bV NQ)).trans ho5,Z.cN,Z.wR,(show 4 < 1000 by decide),key _ _ ⟨A5,rfl,NQ,Ye,Yg,Yd,IC,Qz,Hj (Cv FU Qz),au,(ax NR).trans ((ax (bV Ye)).trans adM),(ax oA2).trans ((ax (bV Yg)).trans adQ),(ax Kz).trans ((ax (bV Yd)).trans adL),(ax NQ).trans au,(ax oA1).trans ((ax (bV IC)).trans h15)⟩⟩
 rintro bF H6 ⟨A5,rfl,NQ,Ye,Yg,Yd,IC,Qz,bt6,ho6,aoP,aoR,aoN,aoM,h16⟩
 have hT6:=bt6 _ _ Te hT
 refine⟨_,rfl,T,rfl,⟨us,bb.of hT6⟩,?_⟩
 refine sT (xs:=us) (IP CN o dx T L A1 A2 A3 A4 A5 H us ts ls x3 x4 kb) ⟨none,none, [],rfl,bt6,ho6,aoP,aoR,aoN,aoM,Rr _ _ _,h16⟩ ?_ ?_ ?_
 ·rintro i σ H' _ ⟨x5,x6,ks,rfl,bt,_⟩
  exact bb.of (bt _ _ Te hT)
 ·rintro i x a0 σ H' hx ⟨x5,x6,ks,rfl,bt,zY,HZ,w5,Fz,Ob,jZ,w6⟩ Bw
  obtain⟨t,ht,hxt⟩:=tP eM hx
  have hi:i < ts.length:=(ai.mp ht).1
  have wZ:=getD_at (ls:=ls) (k:=i) (by rw[Bs];exact hi)
  have s5:=aS Bw (.tup [.int (i:Int),x])
  have T5:=Eh bt s5
  have avz:=jZ.len
  refine⟨a0,_,rfl,bP.of au,rfl,_,_,rfl,_,_,rfl,rfl,?_⟩
  generalize aJ H' a0 (.tup [.int (i:Int),x])=H7 at s5 T5 ⊢
  have kp7:∀ b ys,H b=some (.tup ys)->H7 b=some (.tup ys):=fun b ys e=>T5 _ _ (fun z=>by rw[z,ho]at e;cases e) e
  have aom:=hxt.keep kp7
  have hL7:=T5 _ _ Ol hL
  obtain⟨a,xs,x0,y,rfl,h,h0,h1,hn,hz⟩:=JH aom
  refine⟨_,rfl,a,_,_,_,rfl,rfl,bP.of h,h0,rfl,_,rfl,dF (fun w1 => ?_) (fun w1 => ?_)⟩
  ·obtain⟨z,ez⟩:=gi.mp (hn.mp (V.str.inj w1))
   have ey:=hz z ez
   subst ey
   rw[zf ez]at ht
   obtain⟨nz,hnz⟩:=Od ht
   have eb:=OH Xx hkb hnz
   have hd:tI H7 A4 (.str z) (some (nV (xM (de ts) z))):=by rw[<- eb];exact tI.k (k:=gx z) (s5 _ _ Fz)
   have e5:=jZ.at_ (ls.getD i 0)
   refine⟨_,rfl,o,CN,dx,_,_,rfl,s5 _ _ zY,Z.cN,Z.wR,rfl,A5,rfl,.inl ⟨_,.inl (s5 _ _ Ob)⟩,_,rfl,_,rfl,L,_,_,_,rfl,rfl,bb.of hL7,gR wZ,_,tI.k (k:=lk (ls.getD i 0)) (s5 _ _ Ob),?_⟩
   refine⟨_,rfl,o,CN,dx,_,_,rfl,s5 _ _ zY,Z.cN,Z.Js,rfl,_,rfl,a,_,_,_,rfl,rfl,bP.of h,h1,A4,_,rfl,hd,_,_,e5,rfl,?_⟩
   refine⟨_,rfl,o,CN,dx,_,_,rfl,s5 _ _ zY,Z.cN,Z.wR,rfl,_,rfl,_,rfl,L,_,_,_,rfl,rfl,bb.of hL7,gR wZ,A5,_,rfl,HC.k (k:=lk (ls.getD i 0)) (s5 _ _ Ob) (dE (by omega)),?_⟩
   have acW:=Rq jZ ht
   rw[show nV (lI (de ts) ts ls (ls.getD i 0) i ||| xM (de ts) z)=V.int (p4 ((lI (de ts) ts ls (ls.getD i 0) i:Nat):Int) ((xM (de ts) z:Nat):Int)) by rw[OG]]at acW
   exact⟨_,_,_,rfl,Cv T5 Qz,(ax (bV NQ)).trans (s5 _ _ zY),(ax (bV Ye)).trans (s5 _ _ HZ),(ax (bV Yg)).trans (s5 _ _ w5),(ax (bV Yd)).trans (s5 _ _ Fz),au,acW,(ax (bV IC)).trans (s5 _ _ w6)⟩
  ·have jO:lK t=none:=by
    cases e:lK t with
    | none=>rfl
    | some z=>exact absurd (by rw[hn.mpr (by rw[e];rfl)]) w1
   exact⟨_,_,_,rfl,T5,s5 _ _ zY,s5 _ _ HZ,s5 _ _ w5,s5 _ _ Fz,s5 _ _ Ob,Py jZ ht jO,s5 _ _ w6⟩
 ·rintro σ H' ⟨x5,x6,ks,rfl,bt,zY,HZ,w5,Fz,Ob,jZ,w6⟩
  rw[wW]at jZ
  exact q H' bt ⟨dx,A1,A2,A3,A4,A5,kb,ks,zY,w5,HZ,Fz,hkb,Ob,jZ,⟨us,w6,mN (fun b ys e=>bt _ _ (fun z=>by rw[z,ho]at e;cases e) e) eM⟩,adT,Bz,aoQ⟩
inductive Ue (CN:Addr) (vs:List V) (H:Hp) (Q:VK):Prop
 | mk (o:Addr) (ts:List Tm) (ls:List Nat) (z0:vs = [.ref o]) (z1:mn CN H o ts ls) (z2:Pa ts) (z3:Q (nV (2 ^ (de ts).length - 1)) H):Ue CN vs H Q
def Rv (CN:Addr):Sp:=fun vs H Q _=>Ue CN vs H Q
theorem Y3 (B:j0 mg) (Z:LZ K CN) (D:kC K CN "top" "Names.top" vj ["self"]):mC P w K mg base 1 CN "top" ["self"] (Rv CN):=by
 refine D.has YJ (fun vs H Q E h => ?_) (fun f cw A outer s H vs Q E hr h => ?_)
 ·obtain⟨o,ts,ls,rfl,_⟩:=h;rfl
 obtain⟨o,ts,ls,rfl,hN,gb,q⟩:=h
 have adZ:=gb.1
 have aoZ:=gb.2
 obtain⟨dx,A1,A2,A3,A4,A5,kb,ks,h1,h2,h3,h4,h5,h6,h7,h8⟩:=hN.ex
 refine⟨_,(aC (bx (dQ E2 (dQ Si az (cy bY rfl B.gW bC (ae (cZ (pv 0) rfl) ao))) az))),?_⟩
 try dsimp only[dj]
 have hl:=zq ts
 refine⟨_,rfl,o,CN,dx,_,_,rfl,h1,Z.cN,Z.P8,rfl,A3,_,rfl,.inl (bb.of h3),_,_,rfl,rfl,⟨by omega,by rw[aq];omega,by decide⟩,_,_,rfl,rfl,?_⟩
 rw[aq]
 have e:(1:Int) * 2 ^ (((de ts).length:Nat):Int).toNat - 1=((2 ^ (de ts).length - 1:Nat):Int):=by
  rw[b6,Int.one_mul]
  have:=Gf (de ts).length
  push_cast [Int.ofNat_sub this]
  omega
 show Q (V.int (1 * 2 ^ (((de ts).length:Nat):Int).toNat - 1)) H
 rw[e]
 exact q
inductive L0 (K:ak) (CN:Addr) (vs:List V) (H:Hp) (Q:VK):Prop
 | mk (o L:Addr) (ts:List Tm) (ls ks:List Nat) (v:V) (t:Tm) (k:Nat) (z0:vs = [.ref o,v,.ref L]) (z1:mn CN H o ts ls) (z2:ts.Nodup) (z3:iS H t v) (z4:bb K H L (ks.map nV)) (z5:ts[k]? = some t) (z6:agO ks.length t) (z7:ks.length=ls.length) (z8:(∀ x as,t = .of x as->as.length<=4)) (z9:Q (nV (EJ ts ls ks t)) H):L0 K CN vs H Q
def JQ (K:ak) (CN:Addr):Sp:=fun vs H Q _=>L0 K CN vs H Q
theorem N4 {x:Str}{as:List Nat}:jk "bind" 2 (.of x as)=true↔x = "bind" ∧ as.length=2:=by
 unfold jk
 rw[fA,decide_eq_true_iff,decide_eq_true_iff]
theorem Sk (B:j0 mg) (Z:LZ K CN) (xG:dh P w K mg base 1 "is_binder" ["term"] (lV "bind" 2)) (D:kC K CN "worth" "Names.worth" p9 ["self", "term", "known"]):mC P w K mg base 2 CN "worth" ["self", "term", "known"] (JQ K CN):=by
 refine D.has tQ (fun vs H Q E h => ?_) (fun f cw A outer s H vs Q E hr h => ?_)
 ·obtain⟨o,L,ts,ls,ks,v,t,k,rfl,_⟩:=h;rfl
 obtain⟨o,L,ts,ls,ks,v,t,k,rfl,hN,Xx,hT,hL,Xq,yl,Fw,aoT,q⟩:=h
 obtain⟨dx,A1,A2,A3,A4,A5,kb,kst,h1,h2,h3,h4,h5,h6,h7,h8⟩:=hN.ex
 refine⟨_,(av (dy (b9 dR (aY bL (pv 1) az (fun _ _=>rfl)) cY (bQ _)) (aC (bx az)) cq)
  (av (dy (b9 dR (aY bL (pv 1) az (fun _ _=>rfl)) cY (bQ _)) (aC (bx (D0 (zl hr) (cZ (pv 0) rfl) (aY bL (pv 1) az (fun _ _=>rfl)) az ⟨rfl,rfl,rfl,rfl⟩))) cq)
  (av (dy (kI (bh xG hr (by omega) rfl (ae (pv 1) ao))) (av (bH (i:=3) tQ.nd rfl (aQ rfl) (D0 (zl hr) (cZ (pv 0) rfl) (aY cu (cZ (pv 0) rfl) (aY bL (aY bL (pv 1) az (fun _ _=>rfl)) az (fun _ _=>rfl)) (fun _ _=>rfl)) az ⟨rfl,rfl,rfl,rfl⟩))
  (aC (bx (dQ E4 (aY cu (pv 2) (aY bL (aY bL (pv 1) az (fun _ _=>rfl)) az (fun _ _=>rfl)) (fun _ _=>rfl)) (Cg ZU (pv 3)))))) cq)
  (av (bH (i:=4) tQ.nd rfl (aQ rfl) az)
  (av (fR lL rfl (vz (aY bL (pv 1) az (fun _ _=>rfl))) (cC (i:=5) tQ.nd rfl (aQ rfl))
  (aC (bH (i:=4) tQ.nd rfl (aQ rfl) (dQ PV (pv 4) (aY cu (pv 2) (pv 5) (fun _ _=>rfl))))))
  (aC (bx (pv 4)))))))),?_⟩
 try dsimp only[dj]
 cases t with
 | num n =>
  obtain⟨a,rfl,h⟩:=id hT
  exact⟨_,rfl,a,_,0,_,rfl,rfl,bP.of h,aR (j:=0) rfl,rfl,_,rfl,dF (fun _=>q) (fun z=>absurd rfl z)⟩
 | name z =>
  obtain⟨a,rfl,h⟩:=id hT
  refine⟨_,rfl,a,_,0,_,rfl,rfl,bP.of h,aR (j:=0) rfl,rfl,_,rfl,dF (fun z=>absurd (V.str.inj z) (by decide)) (fun _ => ?_)⟩
  dsimp only[jR]
  obtain⟨nz,hnz⟩:=Od Xq
  have eb:=OH Xx h5 hnz
  refine⟨_,rfl,a,_,0,_,rfl,rfl,bP.of h,aR (j:=0) rfl,rfl,_,rfl,dF (fun _ => ?_) (fun z=>absurd rfl z)⟩
  refine⟨_,rfl,o,CN,dx,_,_,rfl,h1,Z.cN,Z.Js,rfl,A4,rfl,.inl ⟨_,.inl h4⟩,_,rfl,a,_,1,_,rfl,rfl,bP.of h,aR (j:=1) rfl,_,tI.k (k:=gx z) h4,?_⟩
  rw[eb]
  exact q
 | of x as =>
  obtain⟨a,b,rfl,h,hb⟩:=id hT
  refine⟨_,rfl,a,_,0,_,rfl,rfl,bP.of h,aR (j:=0) rfl,rfl,_,rfl,dF (fun z=>absurd (V.str.inj z) (by decide)) (fun _ => ?_)⟩
  dsimp only[jR]
  refine⟨_,rfl,a,_,0,_,rfl,rfl,bP.of h,aR (j:=0) rfl,rfl,_,rfl,dF (fun z=>absurd (V.str.inj z) (by decide)) (fun _ => ?_)⟩
  dsimp only[jR]
  refine⟨_,rfl,_,_,rfl,hT,_,rfl,?_⟩
  dsimp only
  rw[UQ]at q
  cases e:jk "bind" 2 (.of x as) with
  | true =>
   obtain⟨ex,ea⟩:=N4.mp e
   rw[if_pos ⟨ex,ea⟩]at q
   have g0:=getD_at (ls:=as) (k:=0) (by omega)
   have g1:=getD_at (ls:=as) (k:=1) (by omega)
   have i0:as.getD 0 0 < ls.length:=by have:=yl _ (aP g0);omega
   have i1:as.getD 1 0 < ks.length:=yl _ (aP g1)
   have e5:=h7.at_ (ls.getD (as.getD 0 0) 0)
   refine jI ⟨_,rfl,o,CN,dx,_,_,rfl,h1,Z.cN,Z.wR,rfl,A5,rfl,.inl ⟨_,.inl h6⟩,_,rfl,o,CN,dx,_,_,rfl,h1,Z.cN,Z.ye,rfl,_,rfl,a,_,2,_,rfl,rfl,bP.of h,aR (j:=2) rfl,b,_,0,_,rfl,rfl,bP.of hb,gR g0,A2,_,_,_,rfl,rfl,bb.of h2,gR (getD_at i0),_,tI.k (k:=lk (ls.getD (as.getD 0 0) 0)) h6,?_⟩
   dsimp only[cg]
   refine⟨_,rfl,_,rfl,a,_,2,_,rfl,rfl,bP.of h,aR (j:=2) rfl,b,_,1,_,rfl,rfl,bP.of hb,gR g1,L,_,_,_,rfl,rfl,hL,gR (getD_at i1),_,rfl,_,e5,_,_,rfl,rfl,?_⟩
   show Q (V.int (fJ _ (dY _))) H
   rw[Wu]
   exact q
  | false =>
   rw[if_neg (fun z=>by rw[N4.mpr z]at e;cases e)]at q
   refine hZ ?_
   dsimp only[jR]
   have h4:=aoT x as rfl
   refine ik (fun bF H' => bF = [some (.ref o),some (.ref a),some (.ref L),none,some (nV (E1 ks (as.take 0))),none]∧H'=H) ?_ (fun key=>key _ _ ⟨rfl,rfl⟩)
   rintro σ0 H ⟨rfl,rfl⟩
   refine ik (fun bF H'=>∃ o5, bF = [some (.ref o),some (.ref a),some (.ref L),none,some (nV (E1 ks as)),o5]∧H'=H) ?_ (fun key => ?_)
   ·rintro HD H1 ⟨o5,rfl,rfl⟩
    exact⟨_,rfl,q⟩
   ·refine⟨_,rfl,a,_,2,_,rfl,rfl,bP.of h,aR (j:=2) rfl,b,rfl,⟨_,bP.of hb⟩,?_⟩
    refine yp (xs:=as.map nV) (fun i bF H'=>∃ o5, bF = [some (.ref o),some (.ref a),some (.ref L),none,some (nV (E1 ks (as.take i))),o5]∧H'=H) ⟨none,rfl,rfl⟩ ?_ ?_ ?_
    ·rintro i bF H' _ ⟨o5,rfl,rfl⟩
     exact bP.of hb
    ·rintro i x bF H' hx ⟨o5,rfl,rfl⟩
     rw[aD]at hx
     obtain⟨y,hy,rfl⟩:=b7.mp hx
     have iy:y < ks.length:=yl _ (aP hy)
     refine⟨_,rfl,_,rfl,_,rfl,L,_,_,_,rfl,rfl,hL,gR (getD_at iy),_,_,rfl,rfl,?_⟩
     refine⟨some (nV y),?_,rfl⟩
     rw[Y1 hy]
     show _ = [some (.ref o),some (.ref a),some (.ref L),none,some (V.int (((E1 ks (as.take i) ||| ks.getD y 0:Nat)):Int)),_]
     rw[<- OG]
     rfl
    ·rintro bF H' ⟨o5,rfl,rfl⟩
     rw[aq,d0]
     exact key _ _ ⟨o5,rfl,rfl⟩
abbrev Lo (a:Int):Prop:=0<=a∧a < 8
theorem SM {a:Int} (h:Lo a):∃ n:Nat,n∈bB 8∧a=((n:Nat):Int):=⟨a.toNat,di.mpr (by have:=h.1;have:=h.2;omega),by have:=h.1;omega⟩
theorem all1 {p:Int->Bool} (h:((bB 8).all fun a=>p ((a:Nat):Int))=true) {a:Int} (ha:Lo a):p a=true:=by
 obtain⟨n,hn,rfl⟩:=SM ha
 exact nq.mp h n hn
theorem all2 {p:Int->Int->Bool} (h:((bB 8).all fun a=>(bB 8).all fun b=>p ((a:Nat):Int) ((b:Nat):Int))=true) {a b:Int} (ha:Lo a) (hb:Lo b):p a b=true :=
 all1 (p:=p a) (by
  obtain⟨n,hn,rfl⟩:=SM ha
  exact nq.mp h n hn) hb
theorem GN {f:Int->Int->Int} (h:((bB 8).all fun a=>(bB 8).all fun b=>decide (0<=lJ f ((a:Nat):Int) ((b:Nat):Int)) && decide (lJ f ((a:Nat):Int) ((b:Nat):Int) < 8))=true) {a b:Int} (ha:Lo a) (hb:Lo b):Lo (lJ f a b):=by
 have:=all2 (p:=fun a b=>decide (0<=lJ f a b) && decide (lJ f a b < 8)) h ha hb
 rw[fA,decide_eq_true_iff,decide_eq_true_iff]at this
 exact this
theorem agc:((bB 8).all fun a=>(bB 8).all fun b=>decide (0<=lJ BJ ((a:Nat):Int) ((b:Nat):Int)) && decide (lJ BJ ((a:Nat):Int) ((b:Nat):Int) < 8))=true:=by decide +kernel
theorem SF:((bB 8).all fun a=>(bB 8).all fun b=>decide (0<=lJ vF ((a:Nat):Int) ((b:Nat):Int)) && decide (lJ vF ((a:Nat):Int) ((b:Nat):Int) < 8))=true:=by decide +kernel
abbrev gI (ks:List Int) (i:Nat):Int:=ks.getD i 0
def LoL (ks:List Int):Prop := ∀ i,Lo (gI ks i)
theorem aam (n:Int):Lo (J0 n):=by
 unfold J0
 split
 ·exact⟨by decide,by decide⟩
 ·split <;> exact⟨by decide,by decide⟩
theorem lo7:Lo (7:Int):=⟨by decide,by decide⟩
theorem UR {ks:List Int} (h:LoL ks) (t:Tm):Lo (Ak ks t):=by
 cases t with
 | num n=>exact aam n
 | name n=>exact lo7
 | of x as =>
  rw[HE]
  split
  ·exact GN agc (h _) (h _)
  ·split
   ·exact GN SF (h _) (h _)
   ·split
    ·exact GN SF ⟨by decide,by decide⟩ (h _)
    ·exact lo7
structure Gm (n tp:Nat) (ls ks:List Nat):Prop where
 len:ks.length=n
 low:∀ i,rg (ks.getD i 0) tp
 aeu:QW ls ks
theorem Qg {n tp W:Nat}{ls ks:List Nat}{k:Nat} (hl:ls.length=n) (mH:tp < 2 ^ 24) (h:Gm n tp ls ks) (hk:k < n) (jO:(ks.getD k 0 &&& W)≠ks.getD k 0) :
  Gm n tp ls (nX (fC ls k) (ks.getD k 0 &&& W) ks)∧mu (nX (fC ls k) (ks.getD k 0 &&& W) ks)+1<=mu ks:=by
 have hkk:k < ks.length:=by rw[h.len];exact hk
 rw[PF (by rw[hl,h.len])]
 have lt:=aa5 (f:=ks.getD k 0 &&& W) h.aeu hkk (Sh (oW (NT (h.low k)) mH) jO)
 refine⟨⟨by rw[yW];exact h.len,fun j => ?_,Wd h.aeu⟩,by omega⟩
 by_cases hj:j < ks.length
 ·rw[xW hj];split
  ·exact(Sx _ _).trans (h.low k)
  ·exact h.low j
 ·rw[aN,b5 (by rw[yW];omega)];exact HN _
theorem MN {n tp:Nat}{ls:List Nat}:Gm n tp ls (bz n tp):=by
 refine⟨jG ..,fun j => ?_,fun i j hi hj _ => ?_⟩
 ·rw[Kk];split
  ·exact rg.refl _
  ·exact HN _
 ·rw[jG]at hi hj
  rw[Kk,Kk,if_pos hi,if_pos hj]
structure WB (C:Addr) (X:Addr->List Tm->List Nat->Hp->Prop) (spT WZ:Sp) (oB:List Tm->Nat) (WF:List Tm->List Nat->List Nat->Nat->Nat):Prop where
 at_:∀ {o:Addr}{ts:List Tm}{ls:List Nat}{H:Hp},X o ts ls H->∃ (dx A1 A2:Addr) (us:List V) (fs:List (Str × V)),H o=some (.ins C dx fs)∧fs.lookup ("terms" : Str)=some (.ref A1)∧fs.lookup ("leads" : Str)=some (.ref A2)∧fs.lookup ("top" : Str)=none∧fs.lookup ("worth" : Str)=none∧H A1=some (.lst us)∧om H us ts∧H A2=some (.lst (ls.map nV))
 same:∀ {o:Addr}{ts:List Tm}{ls:List Nat} {H H':Hp},X o ts ls H->bp H H'->X o ts ls H'
 top:∀ {o:Addr}{ts:List Tm}{ls:List Nat}{H:Hp}{Q:VK}{E:XK},X o ts ls H->Pa ts->Q (nV (oB ts)) H->spT [.ref o] H Q E
 worth:∀ {o L:Addr}{ts:List Tm}{ls ks:List Nat}{H:Hp}{Q:VK}{E:XK}{v:V}{t:Tm}{k:Nat},X o ts ls H->xO ts->ls.length=ts.length->iS H t v->ts[k]? = some t->H L=some (.lst (ks.map nV))->ks.length=ts.length->(∀ i,rg (ks.getD i 0) (oB ts))->Q (nV (WF ts ls ks k)) H->WZ [.ref o,v,.ref L] H Q E
 tp:∀ ts:List Tm,Pa ts->oB ts < 2 ^ 24
inductive uQ (X:Addr->List Tm->List Nat->Hp->Prop) (oB:List Tm->Nat) (WF:List Tm->List Nat->List Nat->Nat->Nat) (vs:List V) (H:Hp) (Q:VK):Prop
 | mk (o:Addr) (ts:List Tm) (ls:List Nat) (z0:vs = [.ref o]) (z1:X o ts ls H) (z2:xO ts) (z3:ls.length=ts.length) (z4:Pa ts)
  (z5:∀ (p N S:Addr) (ks:List Nat) (H':Hp),bp H H'->H' p=some (.tup [.ref N,.ref S])->H' N=some (.lst (ks.map nV))->Q (.ref p) H'):uQ X oB WF vs H Q
def yU (X:Addr->List Tm->List Nat->Hp->Prop) (oB:List Tm->Nat) (WF:List Tm->List Nat->List Nat->Nat->Nat):Sp:=fun vs H Q _=>uQ X oB WF vs H Q
inductive LwI (H:Hp) (o N S:Addr) (n tp:Nat) (W:List Nat->Nat->Nat) (ls:List Nat) (m:Nat) (σ : St) (H':Hp):Prop
 | mk:∀ (ks:List Nat) (ss:List V) (dn:Int) (x4 x5 x6 x7:Option V), σ = [some (.ref o),some (.ref N),some (.ref S),some (.int dn),x4,x5,x6,x7]->bp H H'->H' N=some (.lst (ks.map nV))->H' S=some (.lst ss)->Gm n tp ls ks->((ss.length:Nat):Int)+mu ks<=3600->dn<=((ss.length:Nat):Int) ->
   (dn=((ss.length:Nat):Int)->∀ k,k < n->(ks.getD k 0 &&& W ks k)=ks.getD k 0)->m=2 * (mu ks).toNat+(if dn < ((ss.length:Nat):Int) then 1 else 0)->LwI H o N S n tp W ls m σ H'
inductive LfI (H:Hp) (o N S:Addr) (n tp:Nat) (W:List Nat->Nat->Nat) (ls:List Nat) (ss:List V) (ks:List Nat) (i:Nat) (σ : St) (H':Hp):Prop
 | mk:∀ (ko:List Nat) (pA:List V) (x4 x5 x6 x7:Option V), σ = [some (.ref o),some (.ref N),some (.ref S),some (.int ((ss.length:Nat):Int)),x4,x5,x6,x7]->bp H H'->H' N=some (.lst (ko.map nV))->H' S=some (.lst pA)->Gm n tp ls ko->((pA.length:Nat):Int)+mu ko<=3600->ss.length<=pA.length ->
   (pA.length=ss.length->ko=ks∧∀ k,k < i->(ks.getD k 0 &&& W ks k)=ks.getD k 0)->(ss.length < pA.length->mu ko+1<=mu ks)->LfI H o N S n tp W ls ss ks i σ H'
theorem Vg (n:Nat) (v:V):(bz n [v]).flatten=bz n v:=by
 induction n with
 | zero=>rfl
 | succ n ih=>rw[ja,iQ,ih];rfl
theorem gat {ks:List Nat}{k:Nat} (h:k < ks.length):rM (ks.map nV) ((k:Nat):Int)=some (nV (ks.getD k 0)):=gR (by rw[aN,ah h];rfl)
theorem C1 (B:j0 mg) {C:Addr}{X:Addr->List Tm->List Nat->Hp->Prop}{spT WZ:Sp}{oB:List Tm->Nat}{WF:List Tm->List Nat->List Nat->Nat->Nat} (R:WB C X spT WZ oB WF) {rw:Nat} (hrw:rw<=3) (cK:nK K C) (nT:fg K C "terms") (nL:fg K C "leads")
  (adt:mC P w K mg base 1 C "top" ["self"] spT) (V6:mC P w K mg base rw C "worth" ["self", "term", "known"] WZ) (oM:dh P w K mg base 1 "members" ["leads", "k"] (Ax K))
  (D:Def K mg "learned" oG ["kind"]):dh P w K mg base 4 "learned" ["kind"] (yU X oB WF):=by
 refine D.has jS (fun vs H Q E h => ?_) (fun f cw A outer s H vs Q E hr h => ?_)
 ·obtain⟨o,ts,ls,rfl,_⟩:=h;rfl
 obtain⟨o,ts,ls,rfl,hX,bU,Bs,gb,q⟩:=h
 have adZ:=gb.1
 obtain⟨dx,A1,A2,us,fs,ho,l1,l2,l3,l4,rK,eM,rJ⟩:=R.at_ hX
 refine⟨_,(av (bH (i:=1) jS.nd rfl (aQ rfl) (dQ aaB (iY (ae (aaz adt cK hr (by omega) gh (pv 0)) ao)) (cy bY rfl B.gW bC (ae (cZ (pv 0) rfl) ao))))
  (av (bH (i:=2) jS.nd rfl (aQ rfl) (iY ao))
  (av (bH (i:=3) jS.nd rfl (aQ rfl) (Cg Ao az))
  (av (Kp cG (b9 y9 (pv 3) (cy bY rfl B.gW bC (ae (pv 2) ao)) (bQ _))
  (av (bH (i:=3) jS.nd rfl (aQ rfl) (cy bY rfl B.gW bC (ae (pv 2) ao)))
  (aC (fR cG rfl (uX rfl B.pf (ae (cZ (pv 0) rfl) ao)) (tU rfl (fw (cC (i:=4) jS.nd rfl (aQ rfl)) (fw (cC (i:=5) jS.nd rfl (aQ rfl)) qu)))
  (av (bH (i:=6) jS.nd rfl (aQ rfl) (dQ E4 (aY cu (pv 1) (pv 4) (fun _ _=>rfl)) (pV V6 cK hr (by omega) gh (pv 0) (ae (pv 5) (ae (pv 1) ao)))))
  (aC (dy (b9 E3 (pv 6) (aY cu (pv 1) (pv 4) (fun _ _=>rfl)) (bQ _)) (av (gu (mS cj cT cR gG (pv 2) (ae (eQ (ae (pv 4) (ae (pv 6) ao))) ao)))
  (aC (fR cG rfl (jD (bh oM hr (by omega) rfl (ae (cZ (pv 0) rfl) (ae (pv 4) ao)))) (cC (i:=7) jS.nd rfl (aQ rfl))
  (aC (R8 (pv 6) (Se (pv 1) (pv 7) Ka)))))) cq)))))))
  (aC (bx (eQ (ae (pv 1) (ae (pv 2) ao))))))))),?_⟩
 try dsimp only[dj]
 have wW:=bj eM
 have mH:=R.tp ts gb
 -- avf = [top] * len
 refine⟨_,rfl,o,dx,_,rfl,ho,l3,R.top hX gb ⟨(show 1<=sizeLine by decide),fun N0 vX => ?_⟩⟩
 have s1:=aS vX (.lst [nV (oB ts)])
 have adz:=au (H:=H) (a:=N0) (o := .lst [nV (oB ts)])
 generalize aJ H N0 (.lst [nV (oB ts)])=H1 at s1 adz ⊢
 refine⟨_,rfl,o,C,dx,_,_,rfl,s1 _ _ ho,cK,nT,l1,A1,us,rfl,.inl (bb.of (s1 _ _ rK)),N0,_,_,rfl,rfl,adz,(by omega),(by omega),?_,fun N hN => ?_⟩
 ·rw[b6];exact cA (show 1 * us.length<=1000 by omega) (by decide)
 rw[b6,Vg]
 dsimp only[cg]
 have e7:bz us.length (nV (oB ts))=(bz ts.length (oB ts)).map nV:=by rw[List.map_replicate,wW]
 rw[e7]
 have aoJ:H N=none:=s1.free hN
 have s2:=s1.trans (aS hN (.lst ((bz ts.length (oB ts)).map nV)))
 have Oh:=au (H:=H1) (a:=N) (o := .lst ((bz ts.length (oB ts)).map nV))
 generalize aJ H1 N (.lst ((bz ts.length (oB ts)).map nV))=H2 at s2 Oh ⊢
 -- avc = []
 refine⟨bD _,fun S hS => ?_⟩
 dsimp only[cg]
 have XJ:H S=none:=s2.free hS
 have hNS:N≠S:=fS Oh hS
 have s3:=s2.trans (aS hS (.lst []))
 have Df:=(aS hS (.lst [])) _ _ Oh
 have hS3:=au (H:=H2) (a:=S) (o := .lst [])
 generalize aJ H2 S (.lst [])=H3 at s3 Df hS3 ⊢
 -- done = -1
 refine⟨1,rfl,?_⟩
 dsimp only[cg]
 have mz0:=ahG (bz ts.length (oB ts))
 rw[jG]at mz0
 refine⟨LwI H o N S ts.length (oB ts) (WF ts ls) ls,⟨_,bz ts.length (oB ts), [], -1,none,none,none,none,rfl,s3,Df,hS3,MN,(by show (0:Int)+_<=_;omega),(by decide),(fun z=>absurd z (by decide)),rfl⟩,?_⟩
 rintro m σ H4 ⟨ks,ss,dn,x4,x5,x6,x7,rfl,s4,Og,Of,inv,hsm,hdn,jZ,rfl⟩
 have nn:=P9 ks
 refine⟨_,rfl,_,rfl,S,_,rfl,.inl (bb.of Of),_,_,rfl,rfl,_,rfl,?_⟩
 by_cases eS:dn < ((ss.length:Nat):Int)
 rotate_left
 ·rw[decide_eq_false eS]
  refine hZ ⟨_,rfl,_,rfl,(show 2<=sizeLine by decide),fun p hp => ?_⟩
  have sp:=aS hp (.tup [.ref N,.ref S])
  exact q p N S ks _ (s4.trans sp) au (sp _ _ Og)
 rw[decide_eq_true eS]
 refine jI ⟨LfI H o N S ts.length (oB ts) (WF ts ls) ls ss ks ts.length,?_,?_⟩
 ·rintro bF H' ⟨ko,pA,x4,x5,x6,x7,rfl,sm,h1,h2,h3,h4,h5,h6,h7⟩
  have nn':=P9 ko
  refine⟨_,?_,ko,pA,_,x4,x5,x6,x7,rfl,sm,h1,h2,h3,h4,by omega,fun z => ?_,rfl⟩
  ·rw[if_pos eS]
   by_cases hz:ss.length < pA.length
   ·have:=h7 hz
    split <;> omega
   ·have e:pA.length=ss.length:=by omega
    rw[(h6 e).1,if_neg (by omega)]
    omega
  ·have:=h6 (by omega)
   rw[this.1]
   exact this.2
 -- vd body
 refine⟨_,rfl,S,_,rfl,.inl (bb.of Of),?_⟩
 dsimp only[cg]
 refine⟨_,rfl,o,C,dx,_,_,rfl,s4 _ _ ho,cK,nT,l1,A1,rfl,⟨us,bb.of (s4 _ _ rK)⟩,?_⟩
 refine sT (xs:=us) (LfI H o N S ts.length (oB ts) (WF ts ls) ls ss ks)
  ⟨ks,ss,x4,x5,x6,x7,rfl,s4,Og,Of,inv,hsm,aA _,(fun _=>⟨rfl,fun k hk=>absurd hk (iL _)⟩),(fun z=>absurd z (eT _))⟩ ?_ ?_ ?_
 ·rintro i σ H' _ ⟨ko,pA,x4,x5,x6,x7,rfl,sm,_⟩
  exact bb.of (sm _ _ rK)
 ·rintro i x a0 σ H' hx ⟨ko,pA,x4,x5,x6,x7,rfl,sm,De,hS5,GZ,aos,pP,heq,hls⟩ Bw
  obtain⟨t,ht,hxt⟩:=tP eM hx
  have hi:i < ts.length:=(ai.mp ht).1
  have hik:i < ko.length:=by rw[GZ.len];exact hi
  have nn':=P9 ko
  have sn:=aS Bw (.tup [.int (i:Int),x])
  have s5:=sm.trans sn
  have Dd:=sn _ _ De
  have XI:=sn _ _ hS5
  refine⟨a0,_,rfl,bP.of au,rfl,_,_,rfl,_,_,rfl,rfl,?_⟩
  generalize aJ H' a0 (.tup [.int (i:Int),x])=H6 at s5 Dd XI sn ⊢
  refine⟨_,rfl,_,rfl,N,_,_,_,rfl,rfl,bb.of Dd,gat hik,_,rfl,o,dx,_,rfl,s5 _ _ ho,l4,_,rfl,_,rfl,R.worth (R.same hX s5) bU Bs (hxt.same s5) ht Dd GZ.len GZ.low ⟨((ko.getD i 0:Nat):Int),((WF ts ls ko i:Nat):Int),rfl,rfl,?_⟩⟩
  dsimp only[cg]
  rw[Wv]
  show GC _ _ _ _ _ _
  refine⟨_,rfl,_,rfl,_,rfl,N,_,_,_,rfl,rfl,bb.of Dd,gat hik,rfl,_,rfl,zj (fun z => ?_) (fun z => ?_)⟩
  ·have jO:(ko.getD i 0 &&& WF ts ls ko i)≠ko.getD i 0:=fun e=>z (congrArg nV e)
   obtain⟨acG,hmz⟩:=Qg Bs mH GZ hi jO
   refine⟨_,rfl,.inl ⟨rfl,_,bb.of XI⟩,_,rfl,_,rfl,(show 2<=sizeLine by decide),fun JF acS => ?_⟩
   generalize hff:(ko.getD i 0 &&& WF ts ls ko i)=Ot at acG hmz acS ⊢
   have st:=aS acS (.tup [.int (i:Int),nV Ot])
   have hS7:=st _ _ XI
   have Lv:=st _ _ Dd
   have s7:=s5.trans st
   refine⟨S,_,_,rfl,rfl,hS7,aak (by omega),?_⟩
   generalize aJ H6 JF (.tup [.int (i:Int),nV Ot])=H7 at hS7 Lv s7 ⊢
   have s8:=s7.put (o := .lst (pA ++ [.ref JF])) XJ
   have hN8:(aJ H7 S (.lst (pA ++ [.ref JF]))) N=some (.lst (ko.map nV)):=by rw[ax hNS];exact Lv
   have hS8:=au (H:=H7) (a:=S) (o := .lst (pA ++ [.ref JF]))
   generalize aJ H7 S (.lst (pA ++ [.ref JF]))=H8 at s8 hN8 hS8 ⊢
   refine⟨_,rfl,o,C,dx,_,_,rfl,s8 _ _ ho,cK,nL,l2,_,rfl,A2,ls,i,rfl,bb.of (s8 _ _ rJ),by omega,by omega,fun M hM=>⟨M,rfl,⟨_,bb.of au⟩,?_⟩⟩
   have sM:=aS hM (.lst ((fC ls i).map nV))
   have s9:=s8.trans sM
   have Tg:=sM _ _ hN8
   have hS9:=sM _ _ hS8
   have XM:=au (H:=H8) (a:=M) (o := .lst ((fC ls i).map nV))
   have hNM:N≠M:=fS hN8 hM
   generalize aJ H8 M (.lst ((fC ls i).map nV))=H9 at s9 Tg hS9 XM sM ⊢
   refine qk (xs:=(fC ls i).map nV) (fun j σ H'=>∃ x7:Option V, σ = [some (.ref o),some (.ref N),some (.ref S),some (.int ((ss.length:Nat):Int)),some (.int (i:Int)),some x,some (nV Ot),x7]∧bp H H'∧H' M=some (.lst ((fC ls i).map nV))∧H' S=some (.lst (pA ++ [.ref JF])) ∧
     H' N=some (.lst ((nX ((fC ls i).take j) Ot ko).map nV))) ⟨_,rfl,s9,XM,hS9,by rw[mq,U5];exact Tg⟩ ?_ ?_ ?_
   ·rintro j σ H' _ ⟨x7,rfl,sm,Oj,_⟩
    exact bb.of Oj
   ·rintro j y σ H' hy ⟨x7,rfl,sm,Oj,FH,By⟩
    rw[aD]at hy
    cases em:(fC ls i)[j]? with
    | none=>rw[em]at hy;cases hy
    | some mm =>
     rw[em]at hy
     have e1:nV mm=y:=aE hy
     subst e1
     have hmm:=zg.mp (aP em)
     have hmk:mm < ko.length:=by rw[GZ.len, <- Bs];exact hmm.1
     dsimp only[cg]
     refine⟨_,rfl,_,rfl,_,rfl,N,_,_,mm,rfl,rfl,By,?_,⟨_,rfl,sm.put aoJ,?_,?_,?_⟩⟩
     ·rw[aq,yV]
      unfold Fi
      rw[if_pos (by omega),if_pos (by omega),b6]
     ·rw[ax hNM.symm];exact Oj
     ·rw[ax hNS.symm];exact FH
     ·rw[au]
      show some (HO.lst (((nX ((fC ls i).take j) Ot ko).map nV).set mm (nV Ot)))=_
      rw[SA,U4 hmk,dD,em];rfl
   ·rintro σ H' ⟨x7,rfl,sm,Oj,FH,By⟩
    rw[aq,d0]at By
    refine⟨_,_,_,_,_,_,rfl,sm,By,FH,acG,?_,?_,fun z => ?_,fun _ => ?_⟩
    ·rw[aG];show ((pA.length+1:Nat):Int)+_<=_;omega
    ·rw[aG];omega
    ·rw[aG]at z
     have e1 : [V.ref JF].length=1:=rfl
     omega
    ·by_cases hz:ss.length < pA.length
     ·have:=hls hz;omega
     ·have e:pA.length=ss.length:=by omega
      rw[(heq e).1]at hmz ⊢
      omega
  ·have ade:(ko.getD i 0 &&& WF ts ls ko i)=ko.getD i 0:=by have:=V.int.inj z;omega
   refine⟨ko,pA,_,_,_,_,rfl,s5,Dd,XI,GZ,aos,pP,fun e=>⟨(heq e).1,fun k hk => ?_⟩,hls⟩
   by_cases ek:k=i
   ·subst ek
    rw[(heq e).1]at ade
    exact ade
   ·exact(heq e).2 k (by omega)
 ·rintro σ H' ⟨ko,pA,x4,x5,x6,x7,rfl,sm,h1,h2,h3,h4,h5,h6,h7⟩
  rw[wW]at h6
  exact⟨ko,pA,x4,x5,x6,x7,rfl,sm,h1,h2,h3,h4,h5,h6,h7⟩
structure zE (CS:Addr) (H:Hp) (o:Addr) (ts:List Tm) (ls:List Nat):Prop where
 ex:∃ (dx A1 A2:Addr) (us:List V),H o=some (.ins CS dx [("terms",.ref A1),("leads",.ref A2)])∧H A1=some (.lst us)∧om H us ts∧H A2=some (.lst (ls.map nV))
theorem zE.same {CS:Addr} {H H':Hp}{o:Addr}{ts:List Tm}{ls:List Nat} (h:zE CS H o ts ls) (sm:bp H H'):zE CS H' o ts ls:=by
 obtain⟨dx,A1,A2,us,a,b,c,d⟩:=h.ex
 exact⟨dx,A1,A2,us,sm _ _ a,sm _ _ b,gC sm c,sm _ _ d⟩
def zz (ks:List Nat):List Int:=ks.map fun n:Nat=>(n:Int)
theorem ZP (ks:List Nat):(zz ks).length=ks.length:=aq ..
theorem ahj (ks:List Nat) (k:Nat):(zz ks).getD k 0=((ks.getD k 0:Nat):Int):=by
 unfold zz
 rw[aN,aD,aN]
 cases ks[k]? <;> rfl
theorem ZO (ks:List Nat):(zz ks).map V.int=ks.map nV:=by unfold zz;rw[jB];rfl
def WO (ts:List Tm) (ks:List Nat) (k:Nat):Nat:=match ts[k]? with | some t=>(Ak (zz ks) t).toNat | none=>0
def WQ (ts:List Tm) (ls ks:List Nat) (k:Nat):Nat:=match ts[k]? with | some t=>EJ ts ls ks t | none=>0
theorem ahi {ks:List Nat} (h:∀ i,rg (ks.getD i 0) 7):LoL (zz ks):=fun i=>by
 show Lo ((zz ks).getD i 0)
 rw[ahj]
 have:=NT (h i)
 exact⟨by omega,by omega⟩
theorem OK {ts:List Tm} (h:xO ts) {k:Nat}{t:Tm} (ht:ts[k]? = some t):∀ a∈Yc t,a < ts.length:=fun a ha=>by
 have hk:=(ai.mp ht).1
 cases t with
 | num n=>cases ha
 | name n=>cases ha
 | of x as=>have:=h.1 k x as ht a ha;omega
theorem anp:WB CS (fun o ts ls H=>zE CS H o ts ls) (Ru CS) (Nh K CS) (fun _=>7) (fun ts _ ks k=>WO ts ks k):=by
 refine⟨fun h => ?_,fun h s=>h.same s,fun h _ q => ?_,fun h bU Bs hv ht hL Fw Fu q => ?_,fun _ _=>by decide⟩
 ·obtain⟨dx,A1,A2,us,a,b,c,d⟩:=h.ex
  exact⟨dx,A1,A2,us,_,a,rfl,rfl,rfl,rfl,b,c,d⟩
 ·obtain⟨dx,A1,A2,us,a,b,c,d⟩:=h.ex
  exact⟨_,dx,_,rfl,a,q⟩
 ·obtain⟨dx,A1,A2,us,a,b,c,d⟩:=h.ex
  rename_i o L ts ls ks H Q E v t k
  refine⟨o,dx,L,_,v,t,zz ks,rfl,a,hv,bb.of (by rw[ZO];exact hL),(fun b hb=>by rw[ZP,Fw];exact OK bU ht b hb),?_⟩
  have e:nV (WO ts ks k)=V.int (Ak (zz ks) t):=by
   unfold WO nV
   rw[ht]
   exact congrArg V.int (Int.toNat_of_nonneg (UR (ahi Fu) t).1)
  rw[<- e]
  exact q
theorem anq:WB CN (fun o ts ls H=>mn CN H o ts ls) (Rv CN) (JQ K CN) (fun ts=>2 ^ (de ts).length - 1) WQ:=by
 refine⟨fun h => ?_,fun h s=>h.same s,fun h gb q => ?_,fun h bU Bs hv ht hL Fw Fu q => ?_,fun ts gb => ?_⟩
 ·obtain⟨dx,A1,A2,A3,A4,A5,kb,ks,h1,h2,h3,h4,h5,h6,h7,us,h8,h9⟩:=h.ex
  exact⟨dx,A1,A2,us,_,h1,rfl,rfl,rfl,rfl,h8,h9,h2⟩
 ·exact⟨_,_,_,rfl,h,gb,q⟩
 ·rename_i o L ts ls ks H Q E v t k
  refine⟨o,L,ts,ls,ks,v,t,k,rfl,h,bU.2.2,hv,bb.of hL,ht,(fun b hb=>by rw[Fw];exact OK bU ht b hb),(by omega),(fun x as e=>by rw[e]at ht;exact(bU.2.1 k x as ht).1),?_⟩
  have e:WQ ts ls ks k=EJ ts ls ks t:=by unfold WQ;rw[ht]
  rw[<- e]
  exact q
 ·have h1:=zq ts
  have h2:2 ^ (de ts).length<=2 ^ 24:=zI (by decide) gb.2
  have:=Gf (de ts).length
  show 2 ^ (de ts).length - 1 < 2 ^ 24
  omega
theorem Ew.at_ {CN:Addr}{H0 H:Hp}{o:Addr}{ts:List Tm}{ls:List Nat} (h:Ew CN H0 H o ts ls):mn CN H o ts ls:=by
 obtain⟨dx,A1,A2,A3,A4,A5,kb,ks,h1,h2,h3,h4,h5,h6,h7,⟨us,h8,h9⟩,_⟩:=h.ex
 exact⟨dx,A1,A2,A3,A4,A5,kb,ks,h1,h2,h3,h4,h5,h6,h7,us,h8,h9⟩
def F1 (H:Hp) (v:V) (s:Str × List Int × Int):Prop := ∃ p y lv rv z,v = .ref p∧H p=some (.tup [y,.int 1,lv,rv,z])∧fz H (.of s.1 (s.2.1.map T.num)) lv∧fz H (.num s.2.2) rv
theorem F1.keep {H H':Hp}{v:V}{s:Str × List Int × Int} (k:∀ c ys,H c=some (.tup ys)->H' c=some (.tup ys)) (h:F1 H v s):F1 H' v s:=by
 obtain⟨p,y,lv,rv,z,e,h1,h2,h3⟩:=h
 exact⟨p,y,lv,rv,z,e,k _ _ h1,je k h2,je k h3⟩
abbrev xj (H:Hp):List V->List (Str × List Int × Int)->Prop:=Paired (F1 H)
theorem qE {H H':Hp}{vs:List V}{ss:List (Str × List Int × Int)} (k:∀ c ys,H c=some (.tup ys)->H' c=some (.tup ys)) (h:xj H vs ss):xj H' vs ss:=Paired.pJ h fun _ _ z=>z.keep k
theorem aaA {x:Str}{n:Nat}{ns:List Int} (op:(x = "plus" ∧ n=2)∨(x = "times" ∧ n=2)∨(x = "neg" ∧ n=1)) (hl:ns.length=n) (hb:∀ m∈ns,nJ m):fZ x (ns.map some)=if nJ (rE x n ns) then some (rE x n ns) else none:=by
 rcases op with⟨rfl,rfl⟩ | ⟨rfl,rfl⟩ | ⟨rfl,rfl⟩
 ·match ns,hl with
  | [a,b],_ =>
   have e:rE "plus" 2 [a,b]=a+b:=by unfold rE;rw[if_pos ⟨rfl,rfl⟩];rfl
   rw[e];rfl
 ·match ns,hl with
  | [a,b],_ =>
   have e:rE "times" 2 [a,b]=a * b:=by unfold rE;rw[if_neg (fun z=>absurd z.1 (by decide)),if_pos ⟨rfl,rfl⟩];rfl
   rw[e]
   show (if ("times" : Str) = "plus" then lG (a+b) else if ("times" : Str) = "times" then lG (a * b) else none)=_
   rw[if_neg (by decide),if_pos rfl];rfl
 ·match ns,hl with
  | [a],_ =>
   have e:rE "neg" 1 [a] = -a:=by unfold rE;rw[if_neg (fun z=>absurd z.1 (by decide)),if_neg (fun z=>absurd z.1 (by decide))];rfl
   have ha:nJ (-a):=by have:=hb a (d6 _);unfold nJ at this ⊢;omega
   rw[e,if_pos ha]
   show (if ("neg" : Str) = "neg" then some (-a) else none)=_
   rw[if_pos rfl]
theorem Ks {x:Str}{as:List Nat} (h:nY (.of x as)=true):(x = "plus" ∧ as.length=2)∨(x = "times" ∧ as.length=2)∨(x = "neg" ∧ as.length=1):=by
 unfold nY jk at h
 simp only[Gx,fA,decide_eq_true_eq]at h
 rcases h with(h | h) | h
 ·exact .inl h
 ·exact .inr (.inl h)
 ·exact .inr (.inr h)
theorem aaC {x:Str}{as:List Nat} (h:nY (.of x as)=false) (f:Nat->Option Int):fZ x (as.map f)=none:=by
 have h1:¬ (x = "plus" ∧ as.length=2):=fun z=>by rw[nY,jk,decide_eq_true z.1,decide_eq_true z.2]at h;cases h
 have h2:¬ (x = "times" ∧ as.length=2):=fun z=>by
  rw[nY,jk,jk,decide_eq_true z.1,decide_eq_true z.2]at h
  rw[Ah,Bool.or_true,B0]at h
  cases h
 have h3:¬ (x = "neg" ∧ as.length=1):=fun z=>by
  rw[nY,jk,jk,jk,decide_eq_true z.1,decide_eq_true z.2,Ah,Bool.or_true]at h
  cases h
 match as with
 | []=>rfl
 | [a] =>
  show fZ x [f a]=none
  cases f a with
  | none=>rfl
  | some n=>show (if x = "neg" then _ else _)=_;rw[if_neg (fun z=>h3 ⟨z,rfl⟩)]
 | [a,b] =>
  show fZ x [f a,f b]=none
  cases f a with
  | none=>rfl
  | some n =>
   cases f b with
   | none=>rfl
   | some m=>show (if x = "plus" then _ else if x = "times" then _ else _)=_;rw[if_neg (fun z=>h1 ⟨z,rfl⟩),if_neg (fun z=>h2 ⟨z,rfl⟩)]
 | a :: b :: c :: l =>
  show fZ x (f a :: f b :: f c :: l.map f)=none
  cases f a <;> cases f b <;> rfl
theorem Rp {ts:List Tm}{ls:List Nat}{k:Nat}{t:Tm} (ht:ts[k]? = some t) (h:nY t=false∨∃ x as a,t = .of x as∧a∈as∧cW ts ls a = []):dH ts ls k=none:=by
 unfold dH
 rw[ht]
 cases t with
 | num n=>rfl
 | name n=>rfl
 | of x as =>
  have e:fZ x (as.map fun a=>(cW ts ls a).head?)=none:=by
   rcases h with h | ⟨x',as',a,e,ha,hn⟩
   ·exact aaC h _
   ·cases e
    cases q:fZ x (as.map fun a=>(cW ts ls a).head?) with
    | none=>rfl
    | some n =>
     obtain⟨b,hb⟩:=sr q ((cW ts ls a).head?) (dJ (f:=fun a=>(cW ts ls a).head?) ha)
     rw[hn]at hb;cases hb
  show (match fZ x (as.map fun a=>(cW ts ls a).head?) with | some r=>_ | none=>none)=none
  rw[e]
theorem Ro {ts:List Tm}{ls:List Nat}{k:Nat}{x:Str}{as:List Nat}{ns:List Int} (ht:ts[k]? = some (.of x as)) (op:nY (.of x as)=true) (hn:as.map (fun a=>(cW ts ls a).head?)=ns.map some) (hb:∀ m∈ns,nJ m) :
  dH ts ls k=if nJ (rE x as.length ns)∧p5 ts ls (rE x as.length ns)≠some (ls.getD k 0) then some (x,ns,rE x as.length ns) else none:=by
 have hl:ns.length=as.length:=by have:=congrArg ie hn;rw[aq,aq]at this;exact this.symm
 unfold dH
 rw[ht]
 show (match fZ x (as.map fun a=>(cW ts ls a).head?) with | some r=>if p5 ts ls r=some (ls.getD k 0) then none else some (x,(as.map fun a=>(cW ts ls a).head?).filterMap id,r) | none=>none)=_
 rw[hn,aaA (Ks op) hl hb]
 have e:(ns.map some).filterMap id=ns:=by rw[List.filterMap_map];exact List.filterMap_some
 rw[e]
 by_cases h1:nJ (rE x as.length ns)
 ·rw[if_pos h1]
  show (if p5 ts ls (rE x as.length ns)=some (ls.getD k 0) then none else some (x,ns,rE x as.length ns))=_
  by_cases h2:p5 ts ls (rE x as.length ns)=some (ls.getD k 0)
  ·rw[if_pos h2,if_neg (fun z=>z.2 h2)]
  ·rw[if_neg h2,if_pos ⟨h1,h2⟩]
 ·rw[if_neg h1,if_neg (fun z=>h1 z.1)]
inductive L3 (vs:List V) (H:Hp) (Q:VK):Prop
 | mk (T L:Addr) (us:List V) (ts:List Tm) (ls:List Nat) (z0:vs = [.ref T,.ref L]) (hT:H T=some (.lst us)) (eM:om H us ts) (hL:H L=some (.lst (ls.map nV))) (ok:BM ts ls) (nb:∀ (i:Nat) n,ts[i]? = some (.num n)->nJ n)
  (q:∀ (F:Addr) (vs:List V) (ns:List Nat) (H':Hp),bp H H'->H F=none->H' F=some (.lst vs)->ns.Perm (dC (ts.map (mk ls)) ts.length)->xj H' vs (ns.filterMap (dH ts ls))->Q (.ref F) H'):L3 vs H Q
def Rx:Sp:=fun vs H Q _=>L3 vs H Q
inductive OV (P:Program) (w:World) (T L p F R:Addr) (H:Hp) (kvs:List (NK × V)) (ts:List Tm) (ls ns:List Nat) (i:Nat) (σ : St) (H':Hp):Prop
 | mk (x4 x5 x6 x7:Option V) (vs:List V) (e : σ = [some (.ref T),some (.ref L),some (.ref p),some (.ref F),x4,x5,x6,x7]) (sm:bp H H') (hR:H' R=some (.lst (ns.map nV))) (hF:H' F=some (.lst vs)) (dn:DN P w H' p kvs) (hs:xj H' vs ((ns.take i).filterMap (dH ts ls))):OV P w T L p F R H kvs ts ls ns i σ H'
theorem YC {ts:List Tm}{ls:List Nat}{kvs:List (NK × V)} (tb:FZ ts ls ts.length kvs) (r:Int):(cX kvs (dU (.num r))).getD .cQ=(match p5 ts ls r with | some l=>nV l | none => .cQ):=by
 unfold p5
 cases e:dZ ts (.num r) with
 | some i =>
  have h:=nC e
  rw[tb.1 i _ (Sb e) h |> (fun z=>show cX kvs (dU (.num r))=_ from z)]
  rfl
 | none =>
  cases q:cX kvs (dU (.num r)) with
  | none=>rfl
  | some v =>
   obtain⟨i,t,_,ht,ek⟩:=tb.2.1 _ _ q
   have:=rV ek
   cases t with
   | num n=>have h2:(TM.num r:Tm) = .num n:=this;rw[<- h2]at ht;exact absurd (aP ht) (oH.mp e)
   | name n=>cases this
   | of x as=>cases this
theorem Y5 (B:j0 mg) (u4:dh P w K mg base 2 "marks" ["terms", "leads"] (GD P w)) (sO:dh P w K mg base 3 "node_numbers" ["terms", "leads"] Rz) (sP:dh P w K mg base 3 "known_values" ["terms", "leads", "term"] Nm) (vS:dh P w K mg base 2 "worked_out" ["term", "values"] (JR K)) (xF:dh P w K mg base 1 "is_number" ["value"] EW)
  (D:Def K mg "sums" tR ["terms", "leads"]):dh P w K mg base 4 "sums" ["terms", "leads"] Rx:=by
 refine D.has rZ (fun vs H Q E h => ?_) (fun f cw A outer s H vs Q E hr h => ?_)
 ·obtain⟨T,L,us,ts,ls,rfl,_⟩:=h;rfl
 obtain⟨T,L,us,ts,ls,rfl,hT,eM,hL,ok,nb,q⟩:=h
 refine⟨_,(av (bH (i:=2) rZ.nd rfl (aQ rfl) (bh u4 hr (by omega) rfl (ae (pv 0) (ae (pv 1) ao))))
  (av (bH (i:=3) rZ.nd rfl (aQ rfl) (iY ao))
  (av (fR cG rfl (jD (bh sO hr (by omega) rfl (ae (pv 0) (ae (pv 1) ao)))) (cC (i:=4) rZ.nd rfl (aQ rfl))
  (av (bH (i:=5) rZ.nd rfl (aQ rfl) (bh sP hr (by omega) rfl (ae (pv 0) (ae (pv 1) (ae (aY cu (pv 0) (pv 4) (fun _ _=>rfl)) ao)))))
  (aC (dy (b9 Ci (pv 5) nD (bQ _)) (av (bH (i:=6) rZ.nd rfl (aQ rfl) (eQ (ae cY (ae (bh vS hr (by omega) rfl (ae (aY cu (pv 0) (pv 4) (fun _ _=>rfl)) (ae (pv 5) ao))) ao))))
  (aC (dy (PW.pt (pw_and (kI (bh xF hr (by omega) rfl (ae (aY bL (pv 6) az (fun _ _=>rfl)) ao))) (pw_and1 (b9 E3 (Vn (yR hr) (pv 2) (pv 6) ⟨rfl,rfl,rfl,rfl⟩) (aY cu (pv 1) (pv 4) (fun _ _=>rfl)) (bQ _))))) (av (bH (i:=7) rZ.nd rfl (aQ rfl) (eQ (ae cY (ae (aY bL (aY cu (pv 0) (pv 4) (fun _ _=>rfl)) az (fun _ _=>rfl)) (ae (gZ pW rfl B.Ap pR (ae (sk (te:=_) (own := ["value"]) (caps := []) (jx (aw tR) ["terms", "leads", "table", "found", "k", "values", "result", "left"] rfl rfl rfl (by decide +kernel)) (jD (pv 5)) rfl (fun _ _ _=>cC (i:=0) (show (["value"]:List Str).Nodup by decide +kernel) rfl (aQ rfl)) (fun _ _ _=>(eQ (ae cY (ae (pv 0) ao))))) ao)) ao)))))
  (aC (gu (mS cj cT cR gG (pv 3) (ae (eQ (ae (eQ (ae cY ao)) (ae az (ae (pv 7) (ae (pv 6) (ae y7 ao)))))) ao))))) cq))) cq))))
  (aC (bx (pv 3)))))),?_⟩
 try dsimp only[dj]
 refine⟨_,rfl,_,rfl,T,L,us,ts,ls,rfl,hT,eM,hL,ok,fun p kvs H1 s1 hp dn tb => ?_⟩
 dsimp only[cg]
 refine⟨bD _,fun F hF => ?_⟩
 dsimp only[cg]
 have sF:=aS hF (.lst [])
 have Lz:=au (H:=H1) (a:=F) (o := .lst [])
 have wa:=dn.same sF
 have s2:=s1.trans sF
 have zZ:=s1.free hF
 generalize aJ H1 F (.lst [])=H2 at sF Lz wa s2 ⊢
 refine⟨_,rfl,_,rfl,L4.mk T L us ts ls rfl (s2 _ _ hT) (gC s2 eM) (s2 _ _ hL) ok ok.gb fun R ns H3 s3 hR0 hR pm => ?_⟩
 have zR:=s2.trans s3
 have nlt:∀ k∈ns,k < ts.length:=fun k hk=>Ij (pm.mem_iff.mp hk)
 refine⟨R,rfl,⟨_,bb.of hR⟩,?_⟩
 refine qk (xs:=ns.map nV) (OV P w T L p F R H kvs ts ls ns) (OV.mk none none none none [] rfl zR hR (s3 _ _ Lz) (wa.same s3) .nil) ?_ ?_ ?_
 ·rintro i σ H' _ ⟨x4,x5,x6,x7,vs,rfl,sm,Ls,_⟩
  exact bb.of Ls
 ·rintro i y σ H' hy ⟨x4,x5,x6,x7,vs,rfl,sm,Ls,Ig,TC,hs⟩
  rw[aD]at hy
  obtain⟨k,hk,rfl⟩:=b7.mp hy
  have kl:=nlt k (aP hk)
  have et:ts[k]? = some ts[k]:=ah kl
  generalize ts[k]=t at et
  have ku:k < us.length:=by rw[bj eM];exact kl
  have eu:us[k]? = some us[k]:=ah ku
  generalize us[k]=u at eu
  obtain⟨t',et',hu⟩:=tP eM eu
  rw[et]at et'
  cases et'
  have tk:(ns.take (i+1)).filterMap (dH ts ls)=(ns.take i).filterMap (dH ts ls) ++ (dH ts ls k).toList:=by
   rw[dD,hk,hV]
   show _ ++ [k].filterMap (dH ts ls)=_
   cases e:dH ts ls k with
   | none=>rw[iN e];rfl
   | some s=>rw[kg e];rfl
  have al:∀ x as,t = .of x as->∀ a∈as,a < ts.length:=fun x as e a ha=>by subst e;have:=ok.arms k x as et a ha;omega
  have no:dH ts ls k=none->∀ (x5 x6 x7:Option V) (H4:Hp),bp H' H4->OV P w T L p F R H kvs ts ls ns (i+1) [some (.ref T),some (.ref L),some (.ref p),some (.ref F),some (nV k),x5,x6,x7] H4:=fun e x5 x6 x7 H4 s4 =>
   OV.mk _ _ _ _ vs rfl (sm.trans s4) (s4 _ _ Ls) (s4 _ _ Ig) (TC.same s4) (by rw[tk,e];show xj _ _ (_ ++ []);rw[eJ];exact qE (fun c ys=>s4 _ _) hs)
  dsimp only[cg]
  refine⟨_,rfl,_,rfl,_,rfl,_,rfl,T,_,_,_,rfl,rfl,bb.of (sm _ _ hT),aR eu,Hu.mk T L us ts ls u t rfl (sm _ _ hT) (gC sm eM) (sm _ _ hL) ok.len ok.gb (hu.same sm) al (fun h0 H4 s4 => ?_) (fun x as nn N H4 e op hn s4 hN => ?_)⟩
  ·dsimp only[cg]
   exact⟨_,rfl,rfl,_,rfl,hZ (no (Rp et h0) _ _ _ _ s4)⟩
  ·subst e
   dsimp only[cg]
   have ll:nn.length=as.length:=by have:=congrArg ie hn;rw[aq,aq]at this;exact this.symm
   have Fm:∀ m∈nn,nJ m:=fun m hm=>by
    have:some m∈as.map (fun a=>(cW ts ls a).head?):=by rw[hn];exact dJ hm
    obtain⟨a,_,ea⟩:=cM.mp this
    have hm2:m∈cW ts ls a:=mw (by rw[ea];exact rfl)
    obtain⟨j,_,_,ej⟩:=qg.mp hm2
    exact nb j m ej
   have WX:=Ro et op hn Fm
   have two:1<=as.length∧as.length<=2:=by rcases Ks op with z | z | z <;> omega
   have Nt:=sm.trans s4
   refine⟨_,rfl,rfl,_,rfl,jI ?_⟩
   refine⟨_,rfl,_,rfl,T,_,_,_,rfl,rfl,bb.of (Nt _ _ hT),aR eu,_,rfl,Er.mk u N x as nn rfl (hu.same Nt) hN ll two.1 Fm ⟨(show 2<=sizeLine by decide),fun rp hrp => ?_⟩⟩
   dsimp only[cg]
   generalize hr:rE x as.length nn=r at WX
   have s5:=aS hrp (.tup [.str "num",.int r])
   have g5:=au (H:=H4) (a:=rp) (o := .tup [.str "num",.int r])
   have RG:=Nt.trans s5
   have Nx:=s4.trans s5
   have De:=s5 _ _ hN
   generalize aJ H4 rp (.tup [.str "num",.int r])=H5 at s5 g5 RG Nx De ⊢
   have hrt:iS H5 (.num r) (.ref rp):=⟨rp,rfl,g5⟩
   obtain⟨kb,ekb,nk⟩:=hrt.key
   cases ekb
   have lk:ls[k]? = some (ls.getD k 0):=getD_at (by rw[ok.len];exact kl)
   refine j7 (fun c Hc=>Hc=H5∧c=decide (nJ r∧p5 ts ls r≠some (ls.getD k 0))) (fun Qc qc => ?_) ?_ ?_
   ·refine⟨_,rfl,rp,_,1,_,rfl,rfl,bP.of g5,aR (j:=1) rfl,r,rfl,_,rfl,?_⟩
    by_cases hi:nJ r
    ·rw[decide_eq_true hi]
     refine jI ⟨_,rfl,p,rfl,⟨kvs,TC.same Nx⟩,_,rfl,rp,kvs,_,rfl,TC.same Nx,nk,_,rfl,_,rfl,L,_,_,_,rfl,rfl,bb.of (RG _ _ hL),gR lk,?_⟩
     rw[YC tb r]
     cases et2:p5 ts ls r with
     | none =>
      refine⟨rfl,_,rfl,qc _ _ ⟨rfl,?_⟩⟩
      rw[et2,decide_eq_true (show nJ r∧(none:Option Nat)≠some (ls.getD k 0) from ⟨hi,fun z=>nomatch z⟩)]
      exact congrArg Bool.not (decide_eq_false (fun z=>nomatch z))
     | some l =>
      refine⟨rfl,_,rfl,qc _ _ ⟨rfl,?_⟩⟩
      rw[et2]
      show (!decide (nV l=nV (ls.getD k 0)))=_
      by_cases el:l=ls.getD k 0
      ·rw[decide_eq_true (congrArg nV el),decide_eq_false (fun z=>z.2 (congrArg some el))];rfl
      ·rw[decide_eq_false (fun z=>el (by have:=V.int.inj z;omega)),decide_eq_true ⟨hi,fun z=>el (aE z)⟩];rfl
    ·rw[decide_eq_false hi]
     exact hZ (qc _ _ ⟨rfl,by rw[decide_eq_false (fun z=>hi z.1)]⟩)
   rotate_left
   ·rintro Hc ⟨rfl,ec⟩
    have Xw:=of_decide_eq_false ec.symm
    exact no (by rw[WX,if_neg Xw]) _ _ _ _ Nx
   rintro Hc ⟨rfl,ec⟩
   have aol:=of_decide_eq_true ec.symm
   rw[if_pos aol]at WX
   obtain⟨ua,ub,rfl,hu1,hu2⟩:=id (hu.same RG)
   refine⟨_,rfl,_,rfl,T,_,_,_,rfl,rfl,bb.of (RG _ _ hT),aR eu,ua,_,1,_,rfl,rfl,bP.of hu1,aR (j:=1) rfl,_,rfl,N,rfl,⟨_,bb.of De⟩,?_⟩
   refine uO (R:=fun H v t=>fz H t v) (bs:=nn.map Sw.T.num) (fun _ _ _ _ k h=>je k h) (bb.of De) (by rw[aq];omega) (by rw[aq,aq]) (fun i' x' y' zW vQ oz avt Q' q' => ?_) (fun D4 H6 ys XS s6 XR hys => ?_)
   ·rw[aD]at zW vQ
    obtain⟨m,hm,rfl⟩:=b7.mp zW
    rw[hm]at vQ
    cases vQ
    refine⟨_,rfl,(show 2<=sizeLine by decide),fun tp mH=>q' _ _ (aS mH _) ?_⟩
    rw[fz]
    exact⟨tp,rfl,au⟩
   refine⟨D4,_,rfl,.inl ⟨bb.of XR,fun tl K8 => ?_⟩⟩
   have s7:=aS K8 (.tup ys)
   have g7:=au (H:=H6) (a:=tl) (o := .tup ys)
   generalize aJ H6 tl (.tup ys)=H7 at s7 g7 ⊢
   refine⟨(show 3<=sizeLine by decide),fun tp mH => ?_⟩
   have s8:=aS mH (.tup [.str "of",.str x,.ref tl])
   have g8:=au (H:=H7) (a:=tp) (o := .tup [.str "of",.str x,.ref tl])
   generalize aJ H7 tp (.tup [.str "of",.str x,.ref tl])=H8 at s8 g8 ⊢
   have sm8:=RG.trans (s6.trans (s7.trans s8))
   have Kg:=s6.trans (s7.trans s8)
   have K6:fz H8 (.of x (nn.map Sw.T.num)) (.ref tp):=by
    rw[fz]
    exact⟨tp,tl,ys,rfl,g8,s8 _ _ g7,JE (s7.trans s8) (EK hys)⟩
   have hrr:fz H8 (.num r) (.ref rp):=by rw[fz];exact⟨rp,rfl,Kg _ _ g5⟩
   have hF8:=Kg _ _ (Nx _ _ Ig)
   dsimp only[cg]
   refine⟨_,rfl,.inl ⟨rfl,_,bb.of hF8⟩,(show 1<=sizeLine by decide),fun sq hsq => ?_⟩
   have s9:=aS hsq (.tup [.str "sum"])
   generalize aJ H8 sq (.tup [.str "sum"])=H9 at s9 ⊢
   refine⟨_,rfl,_,rfl,fun dd hdd => ?_⟩
   have CY:=aS hdd (.dK [])
   generalize aJ H9 dd (.dK [])=uI at CY ⊢
   refine⟨(show 5<=sizeLine by decide),fun st jZ => ?_⟩
   have AH:=aS jZ (.tup [.ref sq,.int 1,.ref tp,.ref rp,.ref dd])
   have g11:=au (H:=uI) (a:=st) (o := .tup [.ref sq,.int 1,.ref tp,.ref rp,.ref dd])
   have CW:=s9.trans (CY.trans AH)
   generalize aJ uI st (.tup [.ref sq,.int 1,.ref tp,.ref rp,.ref dd])=wA at AH g11 CW ⊢
   have V9:=CW _ _ hF8
   have PM:=Nx.trans (Kg.trans CW)
   have wY:=bj hs
   have cnt:((ns.take i).filterMap (dH ts ls)).length<=1000:=cA (iM _ _) (by rw[bO];have:=pm.length_eq;have:=qS (ts.map (mk ls)) ts.length;have:=ok.gb;omega)
   refine⟨F,vs,_,rfl,rfl,V9,dE (by omega),?_⟩
   have kp:∀ c ys,wA c=some (.tup ys)->(aJ wA F (.lst (vs ++ [.ref st]))) c=some (.tup ys):=fun c ys e=>by rw[ax (dq e V9 (fun z=>nomatch z))];exact e
   have nRF:R≠F:=fun z=>by rw[z,Lz]at hR0;cases hR0
   refine OV.mk _ _ _ _ _ rfl ((sm.trans PM).put zZ) (by rw[ax nRF];exact PM _ _ Ls) au ((TC.same PM).keep (fun WL z=>by rw[ax (dq z V9 (fun z=>nomatch z))];exact z) kp) ?_
   rw[tk,WX]
   refine gn (qE kp (qE (fun c ys=>PM _ _) hs)) ⟨st,_,_,_,_,rfl,kp _ _ g11,je kp (B8 CW K6),je kp (B8 CW hrr)⟩
 ·rintro σ H' ⟨x4,x5,x6,x7,vs,rfl,sm,Ls,Ig,TC,hs⟩
  rw[aq,d0]at hs
  exact⟨_,rfl,q F vs ns H' sm zZ Ig pm hs⟩
structure TopE (K:ak) (CE:Addr):Prop where
 cE:nK K CE
 iZ:fg K CE "terms"
 ye:fg K CE "leads"
 aaS:fg K CE "table"
 SD:fg K CE "signs"
 SE:fg K CE "names"
 nKs:fg K CE "known_signs"
 nKn:fg K CE "known_names"
theorem zE.but {H H':Hp}{C o dx s:Addr}{fs:List (Str × V)}{ts:List Tm}{ls:List Nat} (h:zE CS H s ts ls) (ho:H o=some (.ins C dx fs)) (ne:s≠o) (bt:fe o H H'):zE CS H' s ts ls:=by
 obtain⟨dx',A1,A2,us,a,b,c,d⟩:=h.ex
 exact⟨dx',A1,A2,us,bt _ _ ne a,bt _ _ (dq b ho (fun z=>nomatch z)) b,mN (fun c ys z=>bt _ _ (dq z ho (fun z=>nomatch z)) z) c,bt _ _ (dq d ho (fun z=>nomatch z)) d⟩
theorem mn.but {H H':Hp}{C o dx s:Addr}{fs:List (Str × V)}{ts:List Tm}{ls:List Nat} (h:mn CN H s ts ls) (ho:H o=some (.ins C dx fs)) (ne:s≠o) (bt:fe o H H'):mn CN H' s ts ls:=by
 obtain⟨dx',A1,A2,A3,A4,A5,kb,ks,h1,h2,h3,h4,h5,h6,h7,us,h8,h9⟩:=h.ex
 exact⟨dx',A1,A2,A3,A4,A5,kb,ks,bt _ _ ne h1,bt _ _ (dq h2 ho (fun z=>nomatch z)) h2,bt _ _ (dq h3 ho (fun z=>nomatch z)) h3,bt _ _ (dq h4 ho (fun z=>nomatch z)) h4,h5,bt _ _ (dq h6 ho (fun z=>nomatch z)) h6,h7,us,bt _ _ (dq h8 ho (fun z=>nomatch z)) h8,mN (fun c ys z=>bt _ _ (dq z ho (fun z=>nomatch z)) z) h9⟩
inductive Hs (CE:Addr) (vs:List V) (H:Hp) (Q:VK):Prop
 | mk (o dx T L:Addr) (us:List V) (ts:List Tm) (ls:List Nat) (z0:vs = [.ref o,.ref T,.ref L]) (ho:H o=some (.ins CE dx [])) (hT:H T=some (.lst us)) (eM:om H us ts) (hL:H L=some (.lst (ls.map nV))) (ok:BM ts ls) (tok:xO ts) (gb:Pa ts)
  (q:∀ H',fe o H H'->Q .cQ H'):Hs CE vs H Q
def Ni (CE:Addr):Sp:=fun vs H Q _=>Hs CE vs H Q
structure L8 (CE o dx T L:Addr) (us:List V) (ts:List Tm) (ls:List Nat) (H:Hp) (fs:List (Str × V)) (H':Hp):Prop where
 bt:fe o H H'
 ho:H' o=some (.ins CE dx fs)
 hT:H' T=some (.lst us)
 eM:om H' us ts
 hL:H' L=some (.lst (ls.map nV))
theorem L8.same {CE o dx T L:Addr}{us:List V}{ts:List Tm}{ls:List Nat}{H H1 H2:Hp}{fs:List (Str × V)} (h:L8 CE o dx T L us ts ls H fs H1) (sm:bp H1 H2):L8 CE o dx T L us ts ls H fs H2:=by
 obtain⟨bt,ho,hT,eM,hL⟩:=h
 exact⟨bt.same sm,sm _ _ ho,sm _ _ hT,gC sm eM,sm _ _ hL⟩
theorem L8.put {CE o dx T L:Addr}{us:List V}{ts:List Tm}{ls:List Nat}{H H1:Hp} {fs fs':List (Str × V)} (h:L8 CE o dx T L us ts ls H fs H1):L8 CE o dx T L us ts ls H fs' (aJ H1 o (.ins CE dx fs')):=by
 obtain⟨bt,ho,hT,eM,hL⟩:=h
 have nT:=dq hT ho (fun z=>nomatch z)
 have nL:=dq hL ho (fun z=>nomatch z)
 exact⟨bt.put,au,by rw[ax nT];exact hT,mN (fun c ys z=>by rw[ax (dq z ho (fun z=>nomatch z))];exact z) eM,by rw[ax nL];exact hL⟩
theorem wU {H H1:Hp}{C b dx:Addr}{o:HO} (hb:H b=none) (hd:H dx=none) (bt:fe b (aJ (aJ H dx (.own b)) b o) H1):bp H H1:=fun c u h=>by
 have n1:c≠b:=fun e=>by rw[e,hb]at h;cases h
 have n2:c≠dx:=fun e=>by rw[e,hd]at h;cases h
 exact bt c u n1 (by rw[ax n1,ax n2];exact h)
theorem Sl (Z:TopE K CE) (u4:dh P w K mg base 2 "marks" ["terms", "leads"] (GD P w)) (vU:ux P w K mg base 1 "Signs" CS ["self", "terms", "leads"] (Cb CS)) (vW:ux P w K mg base 2 "Names" CN ["self", "terms", "leads"] (Nl CN))
  (Td:dh P w K mg base 4 "learned" ["kind"] (yU (fun o ts ls H=>zE CS H o ts ls) (fun _=>7) (fun ts _ ks k=>WO ts ks k))) (zr:dh P w K mg base 4 "learned" ["kind"] (yU (fun o ts ls H=>mn CN H o ts ls) (fun ts=>2 ^ (de ts).length - 1) WQ))
  (D:tH K mg "Scene" CE "Scene.__init__" p8 ["self", "terms", "leads"]):ux P w K mg base 5 "Scene" CE ["self", "terms", "leads"] (Ni CE):=by
 refine D.has RO (fun vs H Q E h => ?_) (fun f cw A outer s H vs Q E hr h => ?_)
 ·obtain⟨o,dx,T,L,us,ts,ls,rfl,_⟩:=h;rfl
 obtain⟨o,dx,T,L,us,ts,ls,rfl,ho,hT,eM,hL,ok,tok,gb,q⟩:=h
 refine⟨_,(av (iq (pv 0) (pv 1) rfl)
  (av (iq (pv 0) (pv 2) rfl)
  (av (iq (pv 0) (bh u4 hr (by omega) rfl (ae (pv 1) (ae (pv 2) ao))) rfl)
  (av (iq (pv 0) (vB vU hr (by omega) gh rfl (ae (pv 1) (ae (pv 2) ao))) rfl)
  (av (iq (pv 0) (vB vW hr (by omega) gh rfl (ae (pv 1) (ae (pv 2) ao))) rfl)
  (av (iq (pv 0) (aY bL (bh Td hr (by omega) rfl (ae (cZ (pv 0) rfl) ao)) az (fun _ _=>rfl)) rfl)
  (aC (iq (pv 0) (aY bL (bh zr hr (by omega) rfl (ae (cZ (pv 0) rfl) ao)) az (fun _ _=>rfl)) rfl)))))))),?_⟩
 try dsimp only[dj]
 have i0:L8 CE o dx T L us ts ls H [] H:=⟨fe.refl _ _,ho,hT,eM,hL⟩
 refine⟨_,rfl,_,rfl,o,CE,dx,_,rfl,ho,Z.cE,Z.iZ,(show 0 < 1000 by decide),?_⟩
 have i1:=i0.put (fs':=(cP "terms" (.ref T) []))
 dsimp only
 generalize aJ H o (.ins CE dx (cP "terms" (.ref T) []))=H1 at i1 ⊢
 refine⟨_,rfl,_,rfl,o,CE,dx,_,rfl,i1.ho,Z.cE,Z.ye,(show 1 < 1000 by decide),?_⟩
 have i2:=i1.put (fs':=(cP "leads" (.ref L) (cP "terms" (.ref T) [])))
 dsimp only
 generalize aJ H1 o (.ins CE dx (cP "leads" (.ref L) (cP "terms" (.ref T) [])))=H2 at i2 ⊢
 refine⟨_,rfl,_,rfl,T,L,us,ts,ls,rfl,i2.hT,i2.eM,i2.hL,ok,fun p kvs H3 s3 hp dn tb => ?_⟩
 have i3:=i2.same s3
 refine⟨_,rfl,o,CE,dx,_,rfl,i3.ho,Z.cE,Z.aaS,(show 2 < 1000 by decide),?_⟩
 have i4:=i3.put (fs':=(cP "table" (.ref p) (cP "leads" (.ref L) (cP "terms" (.ref T) []))))
 dsimp only
 generalize aJ H3 o (.ins CE dx (cP "table" (.ref p) (cP "leads" (.ref L) (cP "terms" (.ref T) []))))=H4 at i4 ⊢
 refine⟨_,rfl,_,rfl,fun sg dg Xr hdg jO => ?_⟩
 have sN:bp H4 (aJ (aJ H4 dg (.own sg)) sg (.ins CS dg [])):=(aS hdg _).trans (aS (by rw[ax (fun z=>by first | exact jO z.symm | exact jO z)];exact Xr) _)
 have ns:sg≠o:=fun e=>by rw[e,i4.ho]at Xr;cases Xr
 refine⟨sg,dg,T,L,us,ls.map nV,rfl,au,sN _ _ i4.hT,sN _ _ i4.hL,fun H5 A1 A2 FU rK rJ e1 e2 e3=>⟨rfl,?_⟩⟩
 have s5:=wU (C:=CS) Xr hdg FU
 have i5:=i4.same s5
 have sg5:zE CS H5 sg ts ls:=⟨dg,A1,A2,us,e3,e1,i5.eM,e2⟩
 refine⟨_,rfl,o,CE,dx,_,rfl,i5.ho,Z.cE,Z.SD,(show 3 < 1000 by decide),?_⟩
 have i6:=i5.put (fs':=(cP "signs" (.ref sg) (cP "table" (.ref p) (cP "leads" (.ref L) (cP "terms" (.ref T) [])))))
 have sg6:=sg5.but i5.ho ns (fun c u n h=>by rw[ax n];exact h) (H':=aJ H5 o (.ins CE dx (cP "signs" (.ref sg) (cP "table" (.ref p) (cP "leads" (.ref L) (cP "terms" (.ref T) []))))))
 dsimp only
 generalize aJ H5 o (.ins CE dx (cP "signs" (.ref sg) (cP "table" (.ref p) (cP "leads" (.ref L) (cP "terms" (.ref T) [])))))=H6 at i6 sg6 ⊢
 refine⟨_,rfl,_,rfl,fun nm dm vR hdm ac3 => ?_⟩
 have sM:bp H6 (aJ (aJ H6 dm (.own nm)) nm (.ins CN dm [])):=(aS hdm _).trans (aS (by rw[ax (fun z=>by first | exact ac3 z.symm | exact ac3 z)];exact vR) _)
 have nn:nm≠o:=fun e=>by rw[e,i6.ho]at vR;cases vR
 refine⟨nm,dm,T,L,us,ts,ls,rfl,au,sM _ _ i6.hT,gC sM i6.eM,sM _ _ i6.hL,tok.2.2,ok.len,gb,fun H7 bt7 Lv=>⟨rfl,?_⟩⟩
 have s7:=wU (C:=CN) vR hdm bt7
 have i7:=i6.same s7
 have sg7:=sg6.same s7
 have nm7:=Lv.at_
 refine⟨_,rfl,o,CE,dx,_,rfl,i7.ho,Z.cE,Z.SE,(show 4 < 1000 by decide),?_⟩
 have kk:fe o H7 (aJ H7 o (.ins CE dx (cP "names" (.ref nm) (cP "signs" (.ref sg) (cP "table" (.ref p) (cP "leads" (.ref L) (cP "terms" (.ref T) []))))))):=fun c u n h=>by rw[ax n];exact h
 have i8:=i7.put (fs':=(cP "names" (.ref nm) (cP "signs" (.ref sg) (cP "table" (.ref p) (cP "leads" (.ref L) (cP "terms" (.ref T) []))))))
 have sg8:=sg7.but i7.ho ns kk
 have nm8:=nm7.but i7.ho nn kk
 dsimp only
 generalize aJ H7 o (.ins CE dx (cP "names" (.ref nm) (cP "signs" (.ref sg) (cP "table" (.ref p) (cP "leads" (.ref L) (cP "terms" (.ref T) []))))))=H8 at i8 sg8 nm8 ⊢
 refine⟨_,rfl,o,CE,dx,_,_,rfl,i8.ho,Z.cE,Z.SD,rfl,uQ.mk sg ts ls rfl sg8 tok ok.len gb fun pp N S ks H9 s9 hpp hN => ?_⟩
 have i9:=i8.same s9
 have nm9:=nm8.same s9
 refine⟨pp,_,0,_,rfl,rfl,bP.of hpp,aR (j:=0) rfl,_,rfl,o,CE,dx,_,rfl,i9.ho,Z.cE,Z.nKs,(show 5 < 1000 by decide),?_⟩
 have kk9:fe o H9 (aJ H9 o (.ins CE dx (cP "known_signs" (.ref N) (cP "names" (.ref nm) (cP "signs" (.ref sg) (cP "table" (.ref p) (cP "leads" (.ref L) (cP "terms" (.ref T) [])))))))):=fun c u n h=>by rw[ax n];exact h
 have i10:=i9.put (fs':=(cP "known_signs" (.ref N) (cP "names" (.ref nm) (cP "signs" (.ref sg) (cP "table" (.ref p) (cP "leads" (.ref L) (cP "terms" (.ref T) [])))))))
 have aaR:=nm9.but i9.ho nn kk9
 dsimp only
 generalize aJ H9 o (.ins CE dx (cP "known_signs" (.ref N) (cP "names" (.ref nm) (cP "signs" (.ref sg) (cP "table" (.ref p) (cP "leads" (.ref L) (cP "terms" (.ref T) [])))))))=uI at i10 aaR ⊢
 refine⟨_,rfl,o,CE,dx,_,_,rfl,i10.ho,Z.cE,Z.SE,rfl,uQ.mk nm ts ls rfl aaR tok ok.len gb fun pq N' S' ko wA AH hpq By => ?_⟩
 have i11:=i10.same AH
 refine⟨pq,_,0,_,rfl,rfl,bP.of hpq,aR (j:=0) rfl,_,rfl,o,CE,dx,_,rfl,i11.ho,Z.cE,Z.nKn,(show 6 < 1000 by decide),?_⟩
 exact q _ i11.put.bt
theorem ahT {ρ : Str->Option Int}{ts:List Tm}{es:List (Nat × Nat)}{ls:List Nat} (g:Gd ρ ts es) (c:eE ts es ls) (hl:ts.length<=150):BM ts ls :=
 ⟨g.ok.1,c.1,by omega,fun i x as h=>by have:=(g.ok.2.1 i x as h).1;omega,N2 g.ok.1 c⟩
theorem adW {ρ : Str->Option Int}{ts:List Tm}{es:List (Nat × Nat)} (g:Gd ρ ts es):∀ (i:Nat) n,ts[i]? = some (.num n)->nJ n:=fun i n h=>yt.mp (g.nums i n h)
theorem Oq {ρ : Str->Option Int}{ts:List Tm}{es:List (Nat × Nat)}{ls:List Nat} (g:Gd ρ ts es) (c:eE ts es ls):∀ k,k < ts.length->(cW ts ls k).length<=1:=fun k hk=>by
 rcases zc g.ok.1 g.ok.2.2 g.vals c (k:=k) (by rw[c.1];exact hk) with e | ⟨n,e,_⟩
 ·rw[e];exact bD _
 ·rw[e];exact aA _
theorem Kt (D:kC K CE "rule_news" "Scene.rule_news" nP ["self", "rule"]):mC P w K mg base 1 CE "rule_news" ["self", "rule"] (fun _ _ _ _=>False):=by
 obtain⟨fa,fd,F,hm,hb⟩:=D.ex
 exact⟨fa,fd,⟨fun vs H Q E h=>h.elim,fun A outer s H args us vs Q E _ _ _ _ h=>h.elim⟩,hm,hb⟩
inductive L6 (P:Program) (w:World) (CB CH:Addr) (vs:List V) (H:Hp) (Q:VK):Prop
 | mk (bn dn b dx L M EL R:Addr) (room:Int) (ts:List Tm) (es:List (Nat × Nat)) (ρ : Str->Option Int) (z0:vs = [.ref bn,.ref R]) (hb:dz P w CB CH H bn dn b dx L M EL room ts es) (hR:H R=some (.lst [])) (g:Gd ρ ts es) (hl:ts.length<=150)
  (q:∀ (F:Addr) (vs:List V) (ls ns:List Nat) (H':Hp),bp H H'->H F=none->H' F=some (.lst vs)->eE ts es ls->ns.Perm (dC (ts.map (mk ls)) ts.length)->xj H' vs (ns.filterMap (dH ts ls))->Q (.ref F) H'):L6 P w CB CH vs H Q
def RA (P:Program) (w:World) (CB CH:Addr):Sp:=fun vs H Q _=>L6 P w CB CH vs H Q
theorem Y8 (Zb:ph K CB) (Y:tO K CH) (Z:TopE K CE) (jT:dh P w K mg base 4 "leads_of" ["bench"] (Ca P w CB CH)) (yn:dh P w K mg base 3 "odds" ["terms", "leads"] JT) (Lm:dh P w K mg base 4 "sums" ["terms", "leads"] Rx) (vV:ux P w K mg base 5 "Scene" CE ["self", "terms", "leads"] (Ni CE)) (xD:mC P w K mg base 1 CE "rule_news" ["self", "rule"] (fun _ _ _ _=>False))
  (D:Def K mg "news" vk ["bench", "rules"]):dh P w K mg base 7 "news" ["bench", "rules"] (RA P w CB CH):=by
 have cE:=Z.cE
 refine D.has uV (fun vs H Q E h => ?_) (fun f cw A outer s H vs Q E hr h => ?_)
 ·obtain⟨bn,dn,b,dx,L,M,EL,R,room,ts,es, ρ,rfl,_⟩:=h;rfl
 obtain⟨bn,dn,b,dx,L,M,EL,R,room,ts,es, ρ,rfl,hb,hR,g,hl,q⟩:=h
 refine⟨_,(av (bH (i:=2) uV.nd rfl (aQ rfl) (cZ (cZ (pv 0) rfl) rfl))
  (av (bH (i:=3) uV.nd rfl (aQ rfl) (bh jT hr (by omega) rfl (ae (pv 0) ao)))
  (av (dy (b9 Ci (bh yn hr (by omega) rfl (ae (pv 2) (ae (pv 3) ao))) nD (bQ _)) (aC (bx (iY ao))) cq)
  (av (bH (i:=4) uV.nd rfl (aQ rfl) (bh Lm hr (by omega) rfl (ae (pv 2) (ae (pv 3) ao))))
  (av (bH (i:=5) uV.nd rfl (aQ rfl) (vB vV hr (by omega) gh rfl (ae (pv 2) (ae (pv 3) ao))))
  (av (fR cG rfl (jD (pv 1)) (cC (i:=6) uV.nd rfl (aQ rfl))
  (aC (gu (mS cj oS oR Bo (pv 4) (ae (pV xD cE hr (by omega) gh (pv 5) (ae (pv 6) ao)) ao)))))
  (aC (bx (pv 4))))))))),?_⟩
 try dsimp only[dj]
 obtain⟨us,hL,eM⟩:=id hb.hB.2.1
 refine⟨_,rfl,bn,CH,dn,_,_,rfl,hb.hn,Y.cH,Y.oY,rfl,b,CB,dx,_,_,rfl,hb.hB.1,Zb.cB,Zb.iZ,rfl,?_⟩
 dsimp only[cg]
 refine⟨_,rfl,yu.mk bn dn b dx L M EL room ts es rfl hb g.ok.1 (by omega) (fun i x as h=>by have:=(g.ok.2.1 i x as h).1;omega) g.ends fun D ls H1 s1 hD0 hD c => ?_⟩
 dsimp only[cg]
 have tl:=ahT g c hl
 refine⟨_,rfl,_,rfl,F4.mk L D us ts ls rfl (s1 _ _ hL) (gC s1 eM) hD c.1 (by omega) (Oq g c) fun H2 s2 => ?_⟩
 refine⟨rfl,_,rfl,hZ ?_⟩
 dsimp only[jR]
 have HI:=s1.trans s2
 refine⟨_,rfl,_,rfl,L3.mk L D us ts ls rfl (HI _ _ hL) (gC HI eM) (s2 _ _ hD) tl (adW g) fun F vs ns H3 s3 zZ hF pm hs => ?_⟩
 dsimp only[cg]
 have zR:=HI.trans s3
 refine⟨_,rfl,_,rfl,fun sc ds hsc XC jO => ?_⟩
 have sN:bp H3 (aJ (aJ H3 ds (.own sc)) sc (.ins CE ds [])):=(aS XC _).trans (aS (by rw[ax (fun z=>by first | exact jO z.symm | exact jO z)];exact hsc) _)
 refine Hs.mk sc ds L D us ts ls rfl au (sN _ _ (zR _ _ hL)) (gC (zR.trans sN) eM) (sN _ _ ((s2.trans s3) _ _ hD)) tl g.ok ⟨hl,g.held⟩ fun H4 bt=>⟨rfl,?_⟩
 have s4:=wU (C:=CE) hsc XC bt
 dsimp only[cg]
 have s04:=zR.trans s4
 refine⟨_,rfl,R,rfl,⟨_,bb.of (s04 _ _ hR)⟩,?_⟩
 refine qk (xs := []) (fun i σ H'=>∃ x6, σ = [some (.ref bn),some (.ref R),some (.ref L),some (.ref D),some (.ref F),some (.ref sc),x6]∧H'=H4) ⟨none,rfl,rfl⟩ ?_ ?_ ?_
 ·rintro i σ H' _ ⟨x6,rfl,rfl⟩
  exact bb.of (s04 _ _ hR)
 ·rintro i x σ H' hx
  cases hx
 ·rintro σ H' ⟨x6,rfl,rfl⟩
  exact⟨_,rfl,q F vs ls ns _ s04 (HI.free zZ) (s4 _ _ hF) c pm (qE (fun c ys=>s4 _ _) hs)⟩
inductive Wz (P:Program) (w:World) (CB CH:Addr) (vs:List V) (H:Hp) (Q:VK):Prop
 | mk (bn dn b dx L M EL S:Addr) (room:Int) (ts:List Tm) (es:List (Nat × Nat)) (Aq:List V) (ss:List me) (z0:vs = [.ref bn,.ref S]) (hb:dz P w CB CH H bn dn b dx L M EL room ts es) (hS:H S=some (.lst Aq)) (hs:xj H Aq ss) (nL:S≠L) (nE:S≠EL) (lr:((d7 ts ss).1.length:Int)<=room) (l9:(d7 ts ss).1.length<=900) (ln:∀ s∈ss,s.2.1.length<=2) (le:es.length+ss.length<=1000)
  (q:∀ v H',n6 L M EL H H'->dz P w CB CH H' bn dn b dx L M EL room (d7 ts ss).1 (es ++ (d7 ts ss).2)->Q v H'):Wz P w CB CH vs H Q
def aaj (P:Program) (w:World) (CB CH:Addr):Sp:=fun vs H Q _=>Wz P w CB CH vs H Q
inductive Pj (P:Program) (w:World) (CB CH bn dn b dx L M EL S Ed:Addr) (room:Int) (ts:List Tm) (es:List (Nat × Nat)) (Aq:List V) (ss:List me) (H:Hp) (i:Nat) (σ : L2.St) (H':Hp):Prop
 | mk (x2 x4 x5 x6 x7 x8 x9 zP:Option V) (v5:List V) (e : σ = [some (.ref bn),some (.ref S),x2,some (.ref Ed),x4,x5,x6,x7,x8,x9,zP]) (bt:iT L M H H') (hb:dz P w CB CH H' bn dn b dx L M EL room (d7 ts (ss.take i)).1 es) (LB:H' Ed=some (.lst v5)) (hf:zM H' v5 (d7 ts (ss.take i)).2):Pj P w CB CH bn dn b dx L M EL S Ed room ts es Aq ss H i σ H'
theorem MJ {n:Nat} (S3:2<=n) (B:j0 mg) (Zb:ph K CB) (Y:tO K CH) (qQ:rq P w K mg base (n+2) CB "put" ["self", "pattern", "binds"] [.cQ] (Jq P w CB n))
  (D:Def K mg "do_steps" mR ["bench", "steps"]):dh P w K mg base (n+3) "do_steps" ["bench", "steps"] (aaj P w CB CH):=by
 have cB:=Zb.cB
 refine D.has ic (fun vs H Q E h => ?_) (fun f cw A outer s H vs Q E hr h => ?_)
 ·obtain⟨bn,dn,b,dx,L,M,EL,S,room,ts,es,Aq,ss,rfl,_⟩:=h;rfl
 obtain⟨bn,dn,b,dx,L,M,EL,S,room,ts,es,Aq,ss,rfl,hb,hS,hs,nL,nE,lr,l9,ln,le,q⟩:=h
 refine⟨_,(av (bH (i:=2) ic.nd rfl (aQ rfl) (cy bY rfl B.gW bC (ae (cZ (cZ (pv 0) rfl) rfl) ao)))
  (av (bH (i:=3) ic.nd rfl (aQ rfl) (iY ao))
  (av (yZ (aC (fR cG rfl (jD (pv 1)) (tU rfl (fw (cC (i:=4) ic.nd rfl (aQ rfl)) (fw (cC (i:=5) ic.nd rfl (aQ rfl)) (fw (cC (i:=6) ic.nd rfl (aQ rfl)) (fw (cC (i:=7) ic.nd rfl (aQ rfl)) (fw (cC (i:=8) ic.nd rfl (aQ rfl)) qu))))))
  (av (bH (i:=9) ic.nd rfl (aQ rfl) (pV qQ.a cB hr (by omega) gh (cZ (pv 0) rfl) (ae (pv 6) (ae (pv 8) ao))))
  (av (bH (i:=10) ic.nd rfl (aQ rfl) (pV qQ.a cB hr (by omega) gh (cZ (pv 0) rfl) (ae (pv 7) (ae (pv 8) ao))))
  (aC (gu (mS cj cT cR gG (pv 3) (ae (eQ (ae (pv 9) (ae (pv 10) (ae (pv 5) (ae (pv 4) ao))))) ao)))))))))
  (av (gu (mS cj oS oR Bo (cZ (pv 0) rfl) (ae (pv 3) ao)))
  (aC (bx (cy bY rfl B.gW bC (ae (pv 1) ao)))))))),?_⟩
 try dsimp only[dj]
 obtain⟨us,hL⟩:=oO hb.hB
 have wY:=bj hs
 refine⟨_,rfl,bn,CH,dn,_,_,rfl,hb.hn,Y.cH,Y.oY,rfl,b,CB,dx,_,_,rfl,hb.hB.1,Zb.cB,Zb.iZ,rfl,L,us,rfl,.inl (bb.of hL),?_⟩
 dsimp only[cg]
 refine⟨bD _,fun Ed G6 => ?_⟩
 dsimp only[cg]
 have s1:=aS G6 (.lst [])
 have adE:=au (H:=H) (a:=Ed) (o := .lst [])
 generalize aJ H Ed (.lst [])=H1 at s1 adE ⊢
 have Dg:=oP hb.hB
 obtain⟨φ0,Dg⟩:=Dg
 obtain⟨ao2,hE0,_⟩:=id hb.hE
 have VG:Ed≠L:=fun z=>by rw[z,hL]at G6;cases G6
 have ano:Ed≠EL:=fun z=>by rw[z,hE0]at G6;cases G6
 have nSM:S≠M:=dq hS Dg (fun z=>nomatch z)
 refine ik (Pj P w CB CH bn dn b dx L M EL S Ed room ts es Aq ss H ss.length) ?_ (fun key => ?_)
 rotate_left
 ·refine⟨_,rfl,S,rfl,⟨Aq,bb.of (s1 _ _ hS)⟩,?_⟩
  refine qk (xs:=Aq) (Pj P w CB CH bn dn b dx L M EL S Ed room ts es Aq ss H) (Pj.mk _ none none none none none none none [] rfl (bp.Wo s1) (by rw[mq,d7];exact hb.same s1) adE (by rw[mq,d7];exact .nil)) ?_ ?_ ?_
  ·rintro i σ H' _ ⟨x2,x4,x5,x6,x7,x8,x9,zP,v5,rfl,bt,_⟩
   exact bb.of (bt _ _ nL nSM hS)
  ·rintro i y σ H' hy ⟨x2,x4,x5,x6,x7,x8,x9,zP,v5,rfl,bt,gH,LB,hf⟩
   obtain⟨st,jZ,hy1⟩:=Paired.at hs hy
   obtain⟨p,wy,lv,rv,z,rfl,hp,K8,K6⟩:=hy1
   have kt:=hb.hB.tup bt
   have mem:=aP jZ
   have two:=ln st mem
   have tk:ss.take (i+1)=ss.take i ++ [st]:=by rw[dD,jZ];rfl
   have ed:d7 ts (ss.take (i+1))=((eF (d7 ts (ss.take i)).1 st).1,(d7 ts (ss.take i)).2 ++ [(eF (d7 ts (ss.take i)).1 st).2]):=by rw[tk,Oz]
   have dl:=(ZA ss ts (i+1)).length_le
   rw[ed]at dl
   have dc:=FO (ss.take i) ts
   rw[bO]at dc
   have fl:=bj hf
   have il:=(ai.mp jZ).1
   have aoq:=je kt K8
   have aop:=je kt K6
   generalize d7 ts (ss.take i)=rF at gH hf ed dl dc fl
   have e1:(eF rF.1 st).1=(bJ b0 (bJ b0 rF.1 (.of st.1 (st.2.1.map T.num))).1 (.num st.2.2)).1:=rfl
   have e2:(eF rF.1 st).2=((bJ b0 rF.1 (.of st.1 (st.2.1.map T.num))).2,(bJ b0 (bJ b0 rF.1 (.of st.1 (st.2.1.map T.num))).1 (.num st.2.2)).2):=rfl
   have pl:=(si b0 (.num st.2.2) (bJ b0 rF.1 (.of st.1 (st.2.1.map T.num))).1).length_le
   rw[e1]at dl
   refine⟨p,_,rfl,bP.of (kt _ _ hp),rfl,_,_,rfl,_,_,rfl,_,_,rfl,_,_,rfl,_,_,rfl,rfl,?_⟩
   refine⟨_,rfl,bn,CH,dn,_,_,rfl,gH.hn,Y.cH,Y.oY,rfl,b,dx,_,rfl,gH.hB.1,rfl,_,rfl,_,rfl,zD.mk b dx L M room rF.1 lv z _ b0 rfl gH.hB aoq (by rw[T.depth];have:=HM st.2.1;omega) (by rw[T.kr,aq];exact⟨by omega,Su _⟩) (fun x hx=>by rw[T.kM,KC]at hx;cases hx) (by omega) (by omega) fun H2 rL Tj => ?_⟩
   have rH:=gH.put rL Tj
   have KS:=gH.hB.tup rL
   dsimp only[cg]
   refine⟨_,rfl,bn,CH,dn,_,_,rfl,rH.hn,Y.cH,Y.oY,rfl,b,dx,_,rfl,rH.hB.1,rfl,_,rfl,_,rfl,zD.mk b dx L M room _ rv z _ b0 rfl rH.hB (je KS aop) (by rw[T.depth];omega) (by rw[T.kr];trivial) (fun x hx=>by rw[T.kM]at hx;cases hx) (by omega) (by omega) fun H3 FV hB3 => ?_⟩
   have C9:=rH.put FV hB3
   have kt3:=rH.hB.tup FV
   dsimp only[cg]
   obtain⟨φ,Oj⟩:=oP gH.hB
   have aaT:Ed≠M:=dq LB Oj (fun z=>nomatch z)
   have adD:=FV _ _ VG aaT (rL _ _ VG aaT LB)
   have hf3:=jU kt3 (jU KS hf)
   refine⟨_,rfl,.inl ⟨rfl,_,bb.of adD⟩,_,rfl,_,rfl,_,rfl,_,rfl,(show 4<=sizeLine by decide),fun tp mH => ?_⟩
   have s4:=aS mH (.tup [nV (bJ b0 rF.1 (.of st.1 (st.2.1.map T.num))).2,nV (bJ b0 (bJ b0 rF.1 (.of st.1 (st.2.1.map T.num))).1 (.num st.2.2)).2,.int 1,wy])
   have hv:=au (H:=H3) (a:=tp) (o := .tup [nV (bJ b0 rF.1 (.of st.1 (st.2.1.map T.num))).2,nV (bJ b0 (bJ b0 rF.1 (.of st.1 (st.2.1.map T.num))).1 (.num st.2.2)).2,.int 1,wy])
   have FD:=C9.same s4
   have LA:=s4 _ _ adD
   have hf4:=jU (fun c ys=>s4 _ _) hf3
   generalize aJ H3 tp (.tup [nV (bJ b0 rF.1 (.of st.1 (st.2.1.map T.num))).2,nV (bJ b0 (bJ b0 rF.1 (.of st.1 (st.2.1.map T.num))).1 (.num st.2.2)).2,.int 1,wy])=H4 at s4 hv FD LA hf4 ⊢
   have ea:wD H4 (.ref tp) (eF rF.1 st).2:=⟨tp,_,rfl,hv⟩
   refine⟨Ed,v5,_,rfl,rfl,LA,dE (by omega),?_⟩
   have kp:=K2 (o' := .lst (v5 ++ [.ref tp])) LA trivial
   have bE:fe Ed H4 (aJ H4 Ed (.lst (v5 ++ [.ref tp]))):=(fe.refl Ed H4).put
   obtain⟨ao1,hE4,V1⟩:=id FD.hE
   have Tb:dz P w CB CH (aJ H4 Ed (.lst (v5 ++ [.ref tp]))) bn dn b dx L M EL room (eF rF.1 st).1 es:=⟨by rw[ax (dq FD.hn LA (fun z=>nomatch z))];exact FD.hn,FD.hB.keep LA VG bE,⟨ao1,by rw[ax (bV ano)];exact hE4,jU kp V1⟩,FD.ne⟩
   refine Pj.mk _ _ _ _ _ _ _ _ _ rfl (fun c o n1 n2 h => ?_) (by rw[ed];exact Tb) au (by rw[ed];exact gn (jU kp hf4) (ea.keep kp))
   rw[ax (fun e=>by rw[e,G6]at h;cases h)]
   exact s4 _ _ (FV c o n1 n2 (rL c o n1 n2 (bt c o n1 n2 h)))
  ·rintro σ H' ⟨x2,x4,x5,x6,x7,x8,x9,zP,v5,rfl,bt,gH,LB,hf⟩
   rw[wY]at gH hf
   exact key _ _ (Pj.mk _ _ _ _ _ _ _ _ _ rfl bt gH LB hf)
 rintro σ H' ⟨x2,x4,x5,x6,x7,x8,x9,zP,v5,rfl,bt,gH,LB,hf⟩
 rw[d0]at gH hf
 obtain⟨mI,hE,FA⟩:=id gH.hE
 have el:=bj FA
 have fl:=bj hf
 have dc:=FO ss ts
 refine⟨_,rfl,bn,CH,dn,_,_,rfl,gH.hn,Y.cH,Y.Bn,rfl,.inl ⟨rfl,_,bb.of hE⟩,_,rfl,EL,Ed,_,_,rfl,rfl,hE,LB,rb (dE (n:=_+_) (by omega)),?_⟩
 have Tb:=gH.more hE hf
 dsimp only
 have hS5:(aJ H' EL (.lst (mI ++ v5))) S=some (.lst Aq):=by rw[ax nE];exact bt _ _ nL nSM hS
 refine⟨_,rfl,S,_,rfl,.inl (bb.of hS5),q _ _ (fun c o n1 n2 n3 h=>by rw[ax n3];exact bt c o n1 n2 h) Tb⟩
structure Me (ρ : Str->Option Int) (Pr:Nat->List Tm->List (Nat × Nat)->Prop) (fQ m:Nat):Prop where
 pos:0 < fQ
 gb:∀ t ts es,Pr t ts es->ts.length<=150
 step:∀ (t:Nat) ts es (ls ns:List Nat),Gd ρ ts es->eE ts es ls->ns.Perm (dC (ts.map (mk ls)) ts.length)->Pr t ts es->ns.filterMap (dH ts ls) ≠ []->t+1 < fQ∧Pr (t+1) (d7 ts ((ns.filterMap (dH ts ls)).take m)).1 (es ++ (d7 ts ((ns.filterMap (dH ts ls)).take m)).2)
inductive F7 (P:Program) (w:World) (CB CH:Addr) (vs:List V) (H:Hp) (Q:VK):Prop
 | mk (bn dn b dx L M EL R:Addr) (fQ m:Nat) (ts:List Tm) (es:List (Nat × Nat)) (ρ : Str->Option Int) (Pr:Nat->List Tm->List (Nat × Nat)->Prop) (z0:vs = [.ref bn,.ref R,.int (fQ:Int),.int (m:Int)]) (hb:dz P w CB CH H bn dn b dx L M EL 300 ts es) (hR:H R=some (.lst [])) (nL:R≠L) (nE:R≠EL) (g:Gd ρ ts es) (ok:Me ρ Pr fQ m) (pr:Pr 0 ts es) (HY:fQ<=1000) (el:es.length<=150)
  (q:∀ (tp:Addr) (t:Nat) (bG:List Tm) (dB:List (Nat × Nat)) (H':Hp),n6 L M EL H H'->dz P w CB CH H' bn dn b dx L M EL 300 bG dB->Gd ρ bG dB->ts <+: bG->bG.length<=150->(∀ ls,eE bG dB ls->Rest bG ls)->H' tp=some (.tup [.str "rest",.int (t:Int)])->Q (.ref tp) H'):F7 P w CB CH vs H Q
def RC (P:Program) (w:World) (CB CH:Addr):Sp:=fun vs H Q _=>F7 P w CB CH vs H Q
inductive Yw (P:Program) (w:World) (CB CH bn dn b dx L M EL R:Addr) (fQ m:Nat) (ts:List Tm) (ρ : Str->Option Int) (Pr:Nat->List Tm->List (Nat × Nat)->Prop) (H:Hp) (i:Nat) (σ : L2.St) (H':Hp):Prop
 | mk (x4 x5:Option V) (bG:List Tm) (dB:List (Nat × Nat)) (e : σ = [some (.ref bn),some (.ref R),some (.int (fQ:Int)),some (.int (m:Int)),x4,x5]) (bt:n6 L M EL H H') (hb:dz P w CB CH H' bn dn b dx L M EL 300 bG dB) (g:Gd ρ bG dB) (pre:ts <+: bG) (pr:Pr i bG dB) (lt:i < fQ) (el:dB.length+xB ρ bG dB<=300):Yw P w CB CH bn dn b dx L M EL R fQ m ts ρ Pr H i σ H'
theorem Vf {ts:List Tm}{es:List (Nat × Nat)}{ls eI:List Nat} (c:eE ts es ls) (c':eE ts es eI) (h:Rest ts ls):Rest ts eI:=by
 rw[QM c' c]
 exact h
theorem Zc {n:Nat} (B:j0 mg) (Zb:ph K CB) (Y:tO K CH) (jT:dh P w K mg base 4 "leads_of" ["bench"] (Ca P w CB CH)) (yn:dh P w K mg base 3 "odds" ["terms", "leads"] JT) (Lp:dh P w K mg base 7 "news" ["bench", "rules"] (RA P w CB CH)) (zt:dh P w K mg base (n+3) "do_steps" ["bench", "steps"] (aaj P w CB CH))
  (D:QY K mg "grow" xY ["bench", "rules", "rounds", "size"] [.int 100]):Md P w K mg base (n+8) "grow" ["bench", "rules", "rounds", "size"] [.int 100] (RC P w CB CH):=by
 refine D.has GI (fun vs H Q E h => ?_) (fun f cw A outer s H vs Q E hr h => ?_)
 ·obtain⟨bn,dn,b,dx,L,M,EL,R,fQ,m,ts,es, ρ,Pr,rfl,_⟩:=h;rfl
 obtain⟨bn,dn,b,dx,L,M,EL,R,fQ,m,ts,es, ρ,Pr,rfl,hb,hR,nL,nE,g,ok,pr,HY,el,q⟩:=h
 refine⟨_,(av (fR lL rfl (tT rfl B.vx (ae (pv 2) ao)) (cC (i:=4) GI.nd rfl (aQ rfl))
  (av (dy (b9 Ci (bh yn hr (by omega) rfl (ae (cZ (cZ (pv 0) rfl) rfl) (ae (bh jT hr (by omega) rfl (ae (pv 0) ao)) ao))) nD (bQ _)) (aC (bx (eQ (ae cY (ae (pv 4) ao))))) cq)
  (av (bH (i:=5) GI.nd rfl (aQ rfl) (bh Lp hr (by omega) rfl (ae (pv 0) (ae (pv 1) ao))))
  (av (dy (xZ (yY (pv 5) (fun _=>rfl))) (aC (bx (eQ (ae cY (ae (pv 4) ao))))) cq)
  (aC (yZ (aC (gu (bh zt hr (by omega) rfl (ae (pv 0) (ae (vA Nu (pv 5) yb (ya (pv 3))) ao)))))))))))
  (aC (bx (eQ (ae cY (ae (pv 2) ao)))))),?_⟩
 try dsimp only[dj]
 obtain⟨φ,hM⟩:=oP hb.hB
 have nM:R≠M:=dq hR hM (fun z=>nomatch z)
 refine⟨_,rfl,_,rfl,by omega,by omega,?_⟩
 rw[b6]
 refine t8 (lo:=0) (Yw P w CB CH bn dn b dx L M EL R fQ m ts ρ Pr H) (Yw.mk none none ts es rfl (n6.refl _ _ _ _) hb g (jr _) pr ok.pos (by have:=GU ρ ts es;have:=ok.gb 0 ts es pr;omega)) ?_ ?_
 ·rintro i σ H' hi ⟨x4,x5,bG,dB,rfl,bt,gH,g',pre,pr',lt,el'⟩
  have ei:(0:Int)+(i:Int)=((i:Nat):Int):=by omega
  rw[ei]
  have gb:=ok.gb i bG dB pr'
  obtain⟨us,hL,eM⟩:=id gH.hB.2.1
  have Ls:=bt _ _ nL nM nE hR
  dsimp only[cg]
  refine⟨_,rfl,bn,CH,dn,_,_,rfl,gH.hn,Y.cH,Y.oY,rfl,b,CB,dx,_,_,rfl,gH.hB.1,Zb.cB,Zb.iZ,rfl,_,rfl,yu.mk bn dn b dx L M EL 300 bG dB rfl gH g'.ok.1 (by omega) (fun i x as h=>by have:=(g'.ok.2.1 i x as h).1;omega) g'.ends fun DD ls H1 s1 hD0 hD c => ?_⟩
  refine F4.mk L DD us bG ls rfl (s1 _ _ hL) (gC s1 eM) hD c.1 (by omega) (Oq g' c) fun H2 s2 => ?_
  refine⟨rfl,_,rfl,hZ ?_⟩
  dsimp only[jR]
  have HI:=s1.trans s2
  refine⟨_,rfl,_,rfl,L6.mk bn dn b dx L M EL R 300 bG dB ρ rfl (gH.same HI) (HI _ _ Ls) g' gb fun F vs eI ns H3 s3 zZ hF c' pm hs => ?_⟩
  dsimp only[cg]
  have zR:=HI.trans s3
  have wY:=bj hs
  refine j7 (fun cc Hc=>Hc=H3∧cc=vs.isEmpty) (fun Qc qc=>⟨_,rfl,_,.inl ⟨_,bb.of hF,rfl⟩,qc _ _ ⟨rfl,by simp⟩⟩) ?_ ?_
  ·rintro Hc ⟨rfl,ec⟩
   refine⟨_,rfl,(show 2<=sizeLine by decide),fun tp mH => ?_⟩
   have s4:=aS mH (.tup [.str "rest",.int ((i:Nat):Int)])
   have e0:ns.filterMap (dH bG eI) = []:=by
    have:vs = []:=Ey.mp ec.symm
    rw[this]at wY
    exact e9 wY.symm
   have rs:=YQ g'.ok.1 c' pm e0
   exact q tp i bG dB _ (bt.same (zR.trans s4)) (gH.same (zR.trans s4)) g' pre gb (fun l cl=>Vf c' cl rs) au
  ·rintro Hc ⟨rfl,ec⟩
   dsimp only[jR]
   have ne:ns.filterMap (dH bG eI) ≠ []:=fun z=>by
    rw[z]at wY
    rw[e9 wY]at ec
    cases ec
   obtain⟨lt',prn⟩:=ok.step i bG dB eI ns g' c' pm pr' ne
   have nd:ns.Nodup:=pm.nodup_iff.mpr (v9 _ _)
   have ro:=round g' c' nd m
   have avD:=ok.gb _ _ _ prn
   refine⟨_,rfl,_,rfl,_,rfl,_,rfl,F,_,rfl,bb.of hF,fun S hS => ?_⟩
   rw[OE]
   have s4:=aS hS (.lst (vs.take m))
   have Of:=au (H:=Hc) (a:=S) (o := .lst (vs.take m))
   have FD:=(gH.same zR).same s4
   have FI:=zR _ _ hL
   obtain⟨mI,hE,FA⟩:=id (gH.same zR).hE
   have nSL:S≠L:=fun z=>by rw[z,FI]at hS;cases hS
   have nSE:S≠EL:=fun z=>by rw[z,hE]at hS;cases hS
   have S1:xj (aJ Hc S (.lst (vs.take m))) (vs.take m) ((ns.filterMap (dH bG eI)).take m):=qE (fun c ys=>s4 _ _) (Sw.xw m hs)
   generalize aJ Hc S (.lst (vs.take m))=H4 at s4 Of FD S1 ⊢
   have sl:((ns.filterMap (dH bG eI)).take m).length<=150:=by
    have h1:=iM (dH bG eI) ns
    have h2:=pm.length_eq
    have h3:=qS (bG.map (mk eI)) bG.length
    rw[bO]
    omega
   refine Wz.mk bn dn b dx L M EL S 300 bG dB _ _ rfl FD Of S1 nSL nSE (by omega) (by omega) (fun s hs => ?_) (by omega) fun v H5 FU Tb => ?_
   ·obtain⟨k,_,e⟩:=eC.mp (gy hs)
    obtain⟨as,h⟩:=Ar e
    exact(NJ h.out).1
   ·have dc:=FO ((ns.filterMap (dH bG eI)).take m) bG
    refine Yw.mk _ _ _ _ rfl ((bt.same (zR.trans s4)).trans FU) Tb ro.gd (pre.trans ro.pre) prn lt' ?_
    rw[aG,dc]
    have:=ro.lk
    omega
 ·rintro σ H' ⟨x4,x5,bG,dB,rfl,bt,gH,g',pre,pr',lt,el'⟩
  exact absurd lt (eT _)
def iF (c p m:Int):Int:=c % p * 48271 % p % m
theorem zx (c p:Int) {m:Int} (h:0 < m):0<=iF c p m:=lh _ (by omega)
theorem Eb (c p:Int) {m:Int} (h:0 < m):iF c p m < m:=jC _ h
inductive Ul (vs:List V) (H:Hp) (Q:VK):Prop
 | mk (c p m:Int) (z0:vs = [.int c,.int p,.int m]) (z1:0 < p) (z2:p < 20000) (z3:0 < m) (z4:Q (.int (iF c p m)) H):Ul vs H Q
def Ay:Sp:=fun vs H Q _=>Ul vs H Q
theorem Zd (D:Def K mg "_law_draw" vo ["_law_cell", "_law_prime", "_law_many"]):dh P w K mg base 1 "_law_draw" ["_law_cell", "_law_prime", "_law_many"] Ay:=by
 refine D.has YM (fun vs H Q E h => ?_) (fun f cw A outer s H vs Q E hr h => ?_)
 ·obtain⟨c,f,m,rfl,_⟩:=h;rfl
 obtain⟨c,p,m,rfl,h0,h1,h2,q⟩:=h
 refine⟨_,(aC (bx (dQ vD (dQ vD (dQ aaE (dQ vD (pv 0) (pv 1)) az) (pv 1)) (pv 2)))),?_⟩
 try dsimp only[dj]
 have a0:0<=c % p:=lh _ (by omega)
 have a1:c % p < p:=jC _ h0
 exact⟨_,rfl,_,rfl,_,_,rfl,rfl,h0,_,_,rfl,rfl,.inl ⟨by omega,by omega⟩,_,rfl,_,_,rfl,rfl,h0,_,rfl,_,_,rfl,rfl,h2,q⟩
def vG (c:Int):Str:=hU "mmmmmmm" none (some (iF c 10007 8))
def Fc (c:Int):Int:=iF c 10009 ((vG c).length+1)
def fG (c k:Int):Str:=hU (vG c) none (some (Fc c)) ++ D3 k ++ hU (vG c) (some (Fc c)) none
theorem slice_le (x:Str) (lo hi:Option Int):(hU x lo hi).length<=x.length:=by
 show (hU x lo hi).cps.size<=x.cps.size
 rw[<- a8,RJ,bO,ke,a8]
 omega
theorem mm7 (c:Int):(vG c).length<=7:=cA (slice_le _ _ _) (by decide)
inductive Uc (vs:List V) (H:Hp) (Q:VK):Prop
 | mk (k c:Int) (z0:vs = [.int k,.int c]) (z4:Q (.str (fG c k)) H):Uc vs H Q
def JS:Sp:=fun vs H Q _=>Uc vs H Q
theorem Y2 (B:j0 mg) (gN:dh P w K mg base 1 "_law_draw" ["_law_cell", "_law_prime", "_law_many"] Ay) (D:Def K mg "_law_word" vf ["_law_k", "_law_cell"]):dh P w K mg base 2 "_law_word" ["_law_k", "_law_cell"] JS:=by
 refine D.has GG (fun vs H Q E h => ?_) (fun f cw A outer s H vs Q E hr h => ?_)
 ·obtain⟨k,c,rfl,_⟩:=h;rfl
 obtain⟨k,c,rfl,q⟩:=h
 refine⟨_,(av (bH (i:=2) GG.nd rfl (aQ rfl) (vA JZ cY yb (ya (bh gN hr (by omega) rfl (ae (pv 1) (ae az (ae az ao)))))))
  (av (bH (i:=3) GG.nd rfl (aQ rfl) (bh gN hr (by omega) rfl (ae (pv 1) (ae az (ae (dQ tV (cy LR rfl B.gW bC (ae (pv 2) ao)) az) ao)))))
  (aC (bx (dQ E5 (dQ E5 (vA JZ (pv 2) yb (ya (pv 3))) (aY acF cY (dQ vD (pv 0) az) (fun _ _=>rfl))) (vA JZ (pv 2) (ya (pv 3)) yb)))))),?_⟩
 try dsimp only[dj]
 have big:(1000:Nat)<=sizeLine:=by decide
 have l7:=mm7 c
 refine⟨_,rfl,c,10007,8,rfl,by decide,by decide,by decide,_,rfl,_,rfl,(by decide),?_⟩
 dsimp only[cg]
 refine⟨_,rfl,_,rfl,_,rfl,(show (vG c).length<=sizeLine by omega),_,_,rfl,rfl,c,10009,_,rfl,by decide,by decide,(show (0:Int) < ((vG c).length:Int)+1 by omega),?_⟩
 dsimp only[cg]
 have l1:=slice_le (vG c) none (some (Fc c))
 have l2:=slice_le (vG c) (some (Fc c)) none
 have hz:("abcdefghijklmnopqrstuvwxyz" : Str).length<=sizeLine:=by decide +kernel
 refine⟨_,rfl,_,rfl,_,rfl,_,rfl,(show (vG c).length<=sizeLine by omega),_,rfl,_,_,rfl,rfl,sj,_,_,_,rfl,rfl,hz,ZG k,_,_,rfl,rfl,?_,?_⟩
 ·show (hU (vG c) none (some (Fc c))).length+(D3 k).length<=sizeLine
  have:(D3 k).length=1:=rfl
  omega
 refine⟨_,rfl,_,rfl,_,rfl,_,rfl,(show (vG c).length<=sizeLine by omega),_,_,rfl,rfl,?_,q⟩
 show (hU (vG c) none (some (Fc c)) ++ D3 k).length+(hU (vG c) (some (Fc c)) none).length<=sizeLine
 have:(D3 k).length=1:=rfl
 rw[Str.length_append]
 omega
def zd (c:Int):List Int := [iF c 10067 4,c % 10 ^ (60:Int).toNat,c % 10 ^ (30:Int).toNat,10 ^ (60:Int).toNat - 1,c / 3 % 10 ^ (60:Int).toNat]
def qJ (c:Int):Int:=if iF c 10069 2=0 then (zd c).getD (iF c 10061 5).toNat 0 else -((zd c).getD (iF c 10061 5).toNat 0)
theorem VC (c:Int):∀ n∈zd c,0<=n∧n < 10 ^ 60:=by
 have b0:=zx c 10067 (m:=4) (by decide)
 have b1:=Eb c 10067 (m:=4) (by decide)
 have NI:(10:Int) ^ (60:Int).toNat=10 ^ 60:=rfl
 have p30:(10:Int) ^ (30:Int).toNat=10 ^ 30:=rfl
 have lt:(10:Int) ^ 30 < 10 ^ 60:=by decide
 have po:(4:Int) < 10 ^ 60:=by decide
 have po3:(0:Int) < 10 ^ 30:=by decide
 have m1:=lh c (b:=10 ^ 60) (by decide)
 have m2:=jC c (b:=10 ^ 60) (by decide)
 have m3:=lh c (b:=10 ^ 30) (by decide)
 have m4:=jC c (b:=10 ^ 30) (by decide)
 have m5:=lh (c / 3) (b:=10 ^ 60) (by decide)
 have m6:=jC (c / 3) (b:=10 ^ 60) (by decide)
 intro n hn
 unfold zd at hn
 rw[NI,p30]at hn
 rcases bo.mp hn with rfl | hn
 ·exact⟨b0,Int.lt_trans b1 po⟩
 rcases bo.mp hn with rfl | hn
 ·exact⟨m1,m2⟩
 rcases bo.mp hn with rfl | hn
 ·exact⟨m3,Int.lt_trans m4 lt⟩
 rcases bo.mp hn with rfl | hn
 ·exact⟨by decide,by decide⟩
 rw[bq.mp hn]
 exact⟨m5,m6⟩
theorem N3 (c:Int):(iF c 10061 5).toNat < (zd c).length:=by
 have:=zx c 10061 (m:=5) (by decide)
 have:=Eb c 10061 (m:=5) (by decide)
 show _ < 5
 omega
theorem NS (c:Int):lG (qJ c)=some (qJ c):=by
 refine yt.mpr ?_
 have:=VC c _ (getD_mem (N3 c))
 unfold qJ
 split <;> omega
inductive L5 (vs:List V) (H:Hp) (Q:VK):Prop
 | mk (c:Int) (z0:vs = [.int c]) (z1:∀ H',bp H H'->Q (.int (qJ c)) H'):L5  vs H Q
def DJ:Sp:=fun vs H Q _=>L5  vs H Q
theorem Sm (gN:dh P w K mg base 1 "_law_draw" ["_law_cell", "_law_prime", "_law_many"] Ay) (D:Def K mg "_law_number" qb ["_law_cell"]):dh P w K mg base 2 "_law_number" ["_law_cell"] DJ:=by
 refine D.has AE (fun vs H Q E h => ?_) (fun f cw A outer s H vs Q E hr h => ?_)
 ·obtain⟨c,rfl,_⟩:=h;rfl
 obtain⟨c,rfl,q⟩:=h
 refine⟨_,(av (bH (i:=1) AE.nd rfl (aQ rfl) (bh gN hr (by omega) rfl (ae (pv 0) (ae az (ae az ao)))))
  (av (bH (i:=2) AE.nd rfl (aQ rfl) (aY bL (eQ (ae (bh gN hr (by omega) rfl (ae (pv 0) (ae az (ae az ao)))) (ae (dQ vD (pv 0) (dQ vC az az)) (ae (dQ vD (pv 0) (dQ vC az az)) (ae (dQ E2 (dQ vC az az) az) (ae (dQ vD (dQ NN (pv 0) az) (dQ vC az az)) ao)))))) (pv 1) (fun _ _=>rfl)))
  (aC (bx (y4 (b9 dR (bh gN hr (by omega) rfl (ae (pv 0) (ae az (ae az ao)))) az (bQ _)) (pv 2) (Cg Ao (pv 2))))))),?_⟩
 try dsimp only[dj]
 refine⟨_,rfl,c,10061,5,rfl,by decide,by decide,by decide,?_⟩
 dsimp only[cg]
 have pw:∀ e:Int,e=60∨e=30->(0:Int) < 10 ^ e.toNat:=fun e h=>by rcases h with rfl | rfl <;> decide
 refine⟨_,rfl,c,10067,4,rfl,by decide,by decide,by decide,_,rfl,_,_,rfl,rfl,⟨by decide,by decide,by decide⟩,_,_,rfl,rfl,pw 60 (.inl rfl),_,rfl,_,_,rfl,rfl,⟨by decide,by decide,by decide⟩,_,_,rfl,rfl,pw 30 (.inr rfl),_,_,rfl,rfl,⟨by decide,by decide,by decide⟩,_,_,rfl,rfl,_,rfl,_,_,rfl,rfl,ao3,_,_,rfl,rfl,⟨by decide,by decide,by decide⟩,_,_,rfl,rfl,pw 60 (.inl rfl),(show 5<=sizeLine by decide),fun tp mH => ?_⟩
 have ek:iF c 10061 5=(((iF c 10061 5).toNat:Nat):Int):=by have:=zx c 10061 (m:=5) (by decide);omega
 have Lk:=int_at (N3 c)
 have gO:Q (.int (qJ c)) (aJ H tp (.tup ((zd c).map V.int))):=q _ (aS mH _)
 unfold qJ at gO
 refine⟨_,rfl,tp,(zd c).map V.int,(((iF c 10061 5).toNat:Nat):Int),_,rfl,congrArg V.int ek,bP.of au,Lk,?_⟩
 dsimp only[cg]
 refine⟨_,rfl,c,10069,2,rfl,by decide,by decide,by decide,rfl,_,rfl,dF (fun z => ?_) (fun z => ?_)⟩
 ·rw[if_pos (V.int.inj z)]at gO
  exact⟨_,rfl,gO⟩
 ·rw[if_neg (fun e=>z (congrArg V.int e))]at gO
  exact⟨_,rfl,_,rfl,gO⟩
def oV:Option Int->V
 | some n => .int n
 | none => .cQ
inductive OU (vs:List V) (H:Hp) (Q:VK):Prop
 | mk (n:Int) (z0:vs = [.int n]) (z1:Q (oV (lG n)) H):OU  vs H Q
def Nq:Sp:=fun vs H Q _=>OU  vs H Q
theorem VA (D:Def K mg "_law_bound" sf ["_law_due"]):dh P w K mg base 1 "_law_bound" ["_law_due"] Nq:=by
 refine D.has U9 (fun vs H Q E h => ?_) (fun f cw A outer s H vs Q E hr h => ?_)
 ·obtain⟨c,rfl,_⟩:=h;rfl
 obtain⟨n,rfl,q⟩:=h
 refine⟨_,(av (dy (PW.pt (pw_and (b9 Ci (pv 0) nD (bQ _)) (pw_and1 (Vk y9 y9 (Cg Ao (dQ vC az az)) (pv 0) (dQ vC az az))))) (aC (bx (pv 0))) cq)
  (aC (bx nD))),?_⟩
 try dsimp only[dj]
 have NI:(10:Int) ^ (60:Int).toNat=10 ^ 60:=rfl
 refine j7 (fun c Hc=>Hc=H∧c=decide (-(10 ^ 60) < n∧n < 10 ^ 60)) (fun Qc qc => ?_) ?_ ?_
 ·refine⟨_,rfl,rfl,_,rfl,jI ⟨_,_,rfl,rfl,⟨by decide,by decide,by decide⟩,_,rfl,_,rfl,_,_,rfl,rfl,_,rfl,?_⟩⟩
  rw[NI]
  by_cases h1 : -(10 ^ 60) < n
  ·rw[decide_eq_true h1]
   refine⟨_,_,rfl,rfl,⟨by decide,by decide,by decide⟩,_,_,rfl,rfl,_,rfl,qc _ _ ⟨rfl,?_⟩⟩
   rw[NI]
   exact decide_eq_decide.mpr ⟨fun z=>⟨h1,z⟩,fun z=>z.2⟩
  ·rw[decide_eq_false h1]
   exact⟨_,rfl,qc _ _ ⟨rfl,by rw[decide_eq_false (fun z=>h1 z.1)]⟩⟩
 ·rintro Hc ⟨rfl,ec⟩
  have h:=of_decide_eq_true ec.symm
  rw[show lG n=some n by unfold lG;rw[if_pos h]]at q
  exact⟨_,rfl,q⟩
 ·rintro Hc ⟨rfl,ec⟩
  have h:=of_decide_eq_false ec.symm
  rw[show lG n=none by unfold lG;rw[if_neg h]]at q
  exact q
inductive QS (vs:List V) (H:Hp) (Q:VK):Prop
 | mk (x:Str) (L:Addr) (os:List (Option Int)) (z0:vs = [.str x,.ref L]) (hL:H L=some (.lst (os.map oV))) (l1:1<=os.length) (l2:os.length<=2) (hb:∀ n,some n∈os->nJ n) (q:∀ H',bp H H'->Q (oV (fZ x os)) H'):QS vs H Q
def W2:Sp:=fun vs H Q _=>QS vs H Q
theorem aaL {o:Option Int}:decide (oV o = .cQ)=o.isNone:=by
 cases o with
 | none=>rfl
 | some n=>exact decide_eq_false (fun z=>nomatch z)
theorem PZ (B:j0 mg) (QN:mg "any" = none) (Cr:dh P w K mg base 1 "_law_bound" ["_law_due"] Nq) (D:Def K mg "_law_outcome" mD ["_law_word_here", "_law_row"]):dh P w K mg base 2 "_law_outcome" ["_law_word_here", "_law_row"] W2:=by
 refine D.has PJ (fun vs H Q E h => ?_) (fun f cw A outer s H vs Q E hr h => ?_)
 ·obtain⟨x,L,os,rfl,_⟩:=h;rfl
 obtain⟨x,L,os,rfl,hL,l1,l2,hb,q⟩:=h
 refine⟨_,(av (dy (kI (cy (T3 rfl) rfl QN T7 (ae (sk (te:=_) (own := ["_law_number_here"]) (caps := []) (jx (aw mD) ["_law_word_here", "_law_row"] rfl rfl rfl (by decide +kernel)) (jD (pv 1)) rfl (fun _ _ _=>cC (i:=0) (show (["_law_number_here"]:List Str).Nodup by decide +kernel) rfl (aQ rfl)) (fun _ _ _=>(jj Sj (pv 0) nD (bQ _)))) ao))) (aC (bx nD)) cq)
  (av (dy (PW.pt (pw_and (b9 dR (pv 0) cY (bQ _)) (pw_and1 (b9 dR (cy bY rfl B.gW bC (ae (pv 1) ao)) az (bQ _))))) (aC (bx (bh Cr hr (by omega) rfl (ae (dQ tV (aY cu (pv 1) az (fun _ _=>rfl)) (aY cu (pv 1) az (fun _ _=>rfl))) ao)))) cq)
  (av (dy (PW.pt (pw_and (b9 dR (pv 0) cY (bQ _)) (pw_and1 (b9 dR (cy bY rfl B.gW bC (ae (pv 1) ao)) az (bQ _))))) (aC (bx (bh Cr hr (by omega) rfl (ae (dQ NM (aY cu (pv 1) az (fun _ _=>rfl)) (aY cu (pv 1) az (fun _ _=>rfl))) ao)))) cq)
  (av (dy (PW.pt (pw_and (b9 dR (pv 0) cY (bQ _)) (pw_and1 (b9 dR (cy bY rfl B.gW bC (ae (pv 1) ao)) az (bQ _))))) (aC (bx (Cg Ao (aY cu (pv 1) az (fun _ _=>rfl))))) cq)
  (aC (bx nD)))))),?_⟩
 try dsimp only[dj]
 refine j7 (fun c Hc=>bp H Hc∧c=os.any Ad) (fun Qc qc => ?_) ?_ ?_
 ·refine⟨_,rfl,L,rfl,⟨_,bb.of hL⟩,?_⟩
  refine TQ (fun v => .bl (decide (v = .cQ))) (bb.of hL) (by rw[aq];omega) (fun y hy H' Q' hS q' => ?_) (fun D4 XS => ?_)
  ·exact⟨_,rfl,rfl,q'⟩
  ·have e:(os.map oV).map (fun v=>V.bl (decide (v = .cQ)))=(os.map Ad).map V.bl:=by
    rw[jB,jB]
    exact dM fun o _=>congrArg V.bl aaL
   rw[e]
   refine⟨D4,_,rfl,bb.of au,_,rfl,qc _ _ ⟨aS XS _,?_⟩⟩
   rw[List.any_map];rfl
 ·rintro Hc ⟨sm,ec⟩
  have en:fZ x os=none:=by
   cases e:fZ x os with
   | none=>rfl
   | some r =>
    obtain⟨o,ho,hn⟩:=nj.mp ec.symm
    obtain⟨a,ea⟩:=sr e o ho
    rw[ea]at hn;cases hn
  rw[en]at q
  exact q Hc sm
 rintro Hc ⟨sm,ec⟩
 have hs:∀ o∈os,∃ a,o=some a:=fun o ho=>by
  cases o with
  | some a=>exact⟨a,rfl⟩
  | none =>
   have:os.any Ad=true:=nj.mpr ⟨none,ho,rfl⟩
   rw[this]at ec;cases ec
 have nI:=sm _ _ hL
 have q':=q Hc sm
 dsimp only[jR]
 match os,l1,l2,hs,nI,hb,q' with
 | [o],_,_,hs,nI,hb,q' =>
  obtain⟨a,rfl⟩:=hs o (d6 _)
  have q':Q (oV (if x = "neg" then some (-a) else none)) Hc:=q'
  have n2:V.int (((([some a].map oV).length:Nat)):Int)≠V.int 2:=fun z=>absurd (V.int.inj z) (show ¬ ((1:Nat):Int)=2 by decide)
  refine j7 (fun c Hd=>Hd=Hc∧c=false) (fun Qc qc=>⟨_,rfl,rfl,_,rfl,dF (fun _=>⟨_,rfl,L,_,rfl,.inl (bb.of nI),rfl,_,rfl,qc _ _ ⟨rfl,decide_eq_false n2⟩⟩) (fun _=>qc _ _ ⟨rfl,rfl⟩)⟩) (fun Hd z=>absurd z.2 (by decide)) ?_
  rintro Hd ⟨rfl,_⟩
  dsimp only[jR]
  refine j7 (fun c He=>He=Hd∧c=false) (fun Qc qc=>⟨_,rfl,rfl,_,rfl,dF (fun _=>⟨_,rfl,L,_,rfl,.inl (bb.of nI),rfl,_,rfl,qc _ _ ⟨rfl,decide_eq_false n2⟩⟩) (fun _=>qc _ _ ⟨rfl,rfl⟩)⟩) (fun Hd z=>absurd z.2 (by decide)) ?_
  rintro He ⟨rfl,_⟩
  dsimp only[jR]
  refine j7 (fun c Hf=>Hf=He∧c=decide (x = "neg")) (fun Qc qc=>⟨_,rfl,rfl,_,rfl,dF (fun z=>⟨_,rfl,L,_,rfl,.inl (bb.of nI),rfl,_,rfl,qc _ _ ⟨rfl,by rw[decide_eq_true (V.str.inj z)];rfl⟩⟩) (fun z=>qc _ _ ⟨rfl,by rw[decide_eq_false (fun e=>z (congrArg V.str e))]⟩)⟩) ?_ ?_
  ·rintro Hf ⟨rfl,e⟩
   rw[if_pos (of_decide_eq_true e.symm)]at q'
   exact⟨_,rfl,L,_,0,_,rfl,rfl,bb.of nI,aR (j:=0) rfl,_,rfl,q'⟩
  ·rintro Hf ⟨rfl,e⟩
   rw[if_neg (of_decide_eq_false e.symm)]at q'
   exact q'
 | [o,o'],_,_,hs,nI,hb,q' =>
  obtain⟨a,rfl⟩:=hs o aT
  obtain⟨b,rfl⟩:=hs o' (aK _ (d6 _))
  have ia:=hb a aT
  have ib:=hb b (aK _ (d6 _))
  have q':Q (oV (if x = "plus" then lG (a+b) else if x = "times" then lG (a * b) else none)) Hc:=q'
  have y2:V.int (((([some a,some b].map oV).length:Nat)):Int)=V.int 2:=rfl
  have n1:V.int (((([some a,some b].map oV).length:Nat)):Int)≠V.int 1:=fun z=>absurd (V.int.inj z) (show ¬ ((2:Nat):Int)=1 by decide)
  refine j7 (fun c Hd=>Hd=Hc∧c=decide (x = "plus")) (fun Qc qc=>⟨_,rfl,rfl,_,rfl,dF (fun z=>⟨_,rfl,L,_,rfl,.inl (bb.of nI),rfl,_,rfl,qc _ _ ⟨rfl,by rw[decide_eq_true (V.str.inj z),decide_eq_true y2]⟩⟩) (fun z=>qc _ _ ⟨rfl,by rw[decide_eq_false (fun e=>z (congrArg V.str e))]⟩)⟩) ?_ ?_
  ·rintro Hd ⟨rfl,e⟩
   rw[if_pos (of_decide_eq_true e.symm)]at q'
   exact⟨_,rfl,L,_,0,_,rfl,rfl,bb.of nI,aR (j:=0) rfl,_,rfl,L,_,1,_,rfl,rfl,bb.of nI,aR (j:=1) rfl,_,_,rfl,rfl,_,rfl,q'⟩
  rintro Hd ⟨rfl,e⟩
  rw[if_neg (of_decide_eq_false e.symm)]at q'
  dsimp only[jR]
  refine j7 (fun c He=>He=Hd∧c=decide (x = "times")) (fun Qc qc=>⟨_,rfl,rfl,_,rfl,dF (fun z=>⟨_,rfl,L,_,rfl,.inl (bb.of nI),rfl,_,rfl,qc _ _ ⟨rfl,by rw[decide_eq_true (V.str.inj z),decide_eq_true y2]⟩⟩) (fun z=>qc _ _ ⟨rfl,by rw[decide_eq_false (fun e=>z (congrArg V.str e))]⟩)⟩) ?_ ?_
  ·rintro He ⟨rfl,e⟩
   rw[if_pos (of_decide_eq_true e.symm)]at q'
   exact⟨_,rfl,L,_,0,_,rfl,rfl,bb.of nI,aR (j:=0) rfl,_,rfl,L,_,1,_,rfl,rfl,bb.of nI,aR (j:=1) rfl,_,_,rfl,rfl,NX ia ib,_,rfl,q'⟩
  rintro He ⟨rfl,e⟩
  rw[if_neg (of_decide_eq_false e.symm)]at q'
  dsimp only[jR]
  refine j7 (fun c Hf=>Hf=He∧c=false) (fun Qc qc=>⟨_,rfl,rfl,_,rfl,dF (fun z=>⟨_,rfl,L,_,rfl,.inl (bb.of nI),rfl,_,rfl,qc _ _ ⟨rfl,decide_eq_false n1⟩⟩) (fun z=>qc _ _ ⟨rfl,rfl⟩)⟩) (fun Hf z=>absurd z.2 (by decide)) ?_
  rintro Hf ⟨rfl,_⟩
  exact q'
def uS (H:Hp) (v:V) (r:R3):Prop := ∃ a tv,v = .ref a∧H a=some (.tup [tv,oV r.2.1,.int (r.2.2:Int)])∧fz H r.1 tv
theorem uS.keep {H H':Hp}{v:V}{r:R3} (k:∀ c ys,H c=some (.tup ys)->H' c=some (.tup ys)) (h:uS H v r):uS H' v r:=by
 obtain⟨a,tv,e,h1,h2⟩:=h
 exact⟨a,tv,e,k _ _ h1,je k h2⟩
abbrev uR (H:Hp):List V->List R3->Prop:=Paired (uS H)
theorem fu {H H':Hp}{vs:List V}{rs:List R3} (k:∀ c ys,H c=some (.tup ys)->H' c=some (.tup ys)) (h:uR H vs rs):uR H' vs rs:=Paired.pJ h fun _ _ z=>z.keep k
inductive Hv (vs:List V) (H:Hp) (Q:VK):Prop
 | mk (c sd:Int) (N Pl:Addr) (eG fk:List V) (eR kj:List R3) (z0:vs = [.int c,.int sd,.ref N,.ref Pl]) (hN:H N=some (.lst eG)) (hP:H Pl=some (.lst fk)) (rN:uR H eG eR) (rP:uR H fk kj) (n0:0 < eR.length) (p0:0 < kj.length) (hb:∀ r∈kj,∀ n,r.2.1=some n->nJ n)
  (q:∀ v r H',bp H H'->uS H' v r->Built eR kj r->Q v H'):Hv vs H Q
def Np:Sp:=fun vs H Q _=>Hv vs H Q
theorem sU (c p:Int) {m:Nat} (h:0 < m):∃ k:Nat,k < m∧iF c p (m:Int)=(k:Int):=by
 have a:=zx c p (m:=(m:Int)) (by omega)
 have b:=Eb c p (m:=(m:Int)) (by omega)
 exact⟨(iF c p (m:Int)).toNat,by omega,by omega⟩
def Al (sd:Int):List Str := ["plus", "plus", "times", "neg", "plus", "times",fG sd 20]
theorem MO {vs:List V}{ns:List Int} (h:Paired (fun v n=>v=V.int n) vs ns):vs=ns.map V.int:=by
 induction h with
 | nil=>rfl
 | cons e _ ih=>rw[e,ih];rfl
theorem P2 {vs:List V}{os:List (Option Int)} (h:Paired (fun v o=>v=oV o) vs os):vs=os.map oV:=by
 induction h with
 | nil=>rfl
 | cons e _ ih=>rw[e,ih];rfl
theorem Vz (B:j0 mg) (gN:dh P w K mg base 1 "_law_draw" ["_law_cell", "_law_prime", "_law_many"] Ay) (vT:dh P w K mg base 2 "_law_word" ["_law_k", "_law_cell"] JS) (sL:dh P w K mg base 2 "_law_number" ["_law_cell"] DJ) (Bx:dh P w K mg base 2 "_law_outcome" ["_law_word_here", "_law_row"] W2)
  (D:Def K mg "_law_built" lW ["_law_cell", "_law_seed", "_law_names", "_law_pool"]):dh P w K mg base 3 "_law_built" ["_law_cell", "_law_seed", "_law_names", "_law_pool"] Np:=by
 refine D.has oF (fun vs H Q E h => ?_) (fun f cw A outer s H vs Q E hr h => ?_)
 ·obtain⟨c,sd,N,Pl,eG,fk,eR,kj,rfl,_⟩:=h;rfl
 obtain⟨c,sd,N,Pl,eG,fk,eR,kj,rfl,hN,hP,rN,rP,n0,p0,hb,q⟩:=h
 refine⟨_,(av (bH (i:=4) oF.nd rfl (aQ rfl) (bh gN hr (by omega) rfl (ae (pv 0) (ae az (ae az ao)))))
  (av (dy (b9 dR (pv 4) az (bQ _)) (av (bH (i:=5) oF.nd rfl (aQ rfl) (bh sL hr (by omega) rfl (ae (pv 0) ao)))
  (aC (bx (eQ (ae (eQ (ae cY (ae (pv 5) ao))) (ae (pv 5) (ae az ao))))))) cq)
  (av (dy (b9 dR (pv 4) az (bQ _)) (aC (bx (aY cu (pv 2) (bh gN hr (by omega) rfl (ae (pv 0) (ae az (ae (cy bY rfl B.gW bC (ae (pv 2) ao)) ao)))) (fun _ _=>rfl)))) cq)
  (av (bH (i:=6) oF.nd rfl (aQ rfl) (aY bL (eQ (ae cY (ae cY (ae cY (ae cY (ae cY (ae cY (ae (bh vT hr (by omega) rfl (ae az (ae (pv 1) ao))) ao)))))))) (bh gN hr (by omega) rfl (ae (pv 0) (ae az (ae az ao)))) (fun _ _=>rfl)))
  (av (bH (i:=7) oF.nd rfl (aQ rfl) (y4 (b9 dR (pv 6) cY (bQ _)) az az))
  (av (dy (b9 dR (bh gN hr (by omega) rfl (ae (pv 0) (ae az (ae az ao)))) az (bQ _)) (aC (bH (i:=7) oF.nd rfl (aQ rfl) (dQ E2 az (pv 7)))) cq)
  (av (bH (i:=8) oF.nd rfl (aQ rfl) (vA Nu (sk (te:=(qq (DW K) _ (yT _ _ _ (ER _ (ER _ (ER (tCB (fun xs H Q=>QU K xs H Q) (ER _ JL)) JL)))))) (own := ["_law_prime"]) (caps := [("_law_pool",3),("_law_cell",0)]) (jx (aw lW) ["_law_cell", "_law_seed", "_law_names", "_law_pool", "_law_kind", "_law_number_here", "_law_word_here", "_law_count", "_law_some", "_law_tree"] rfl rfl rfl (by decide +kernel)) (vz (eQ (ae az (ae az ao)))) rfl (fun _ _ _=>cC (i:=0) (show (["_law_prime", "_law_pool", "_law_cell"]:List Str).Nodup by decide +kernel) rfl (aQ rfl)) (fun _ _ _=>(aY cu (pv 1) (bh gN hr (by omega) rfl (ae (pv 2) (ae (pv 0) (ae (cy bY rfl B.gW bC (ae (pv 1) ao)) ao)))) (fun _ _=>rfl)))) yb (ya (pv 7))))
  (av (bH (i:=9) oF.nd rfl (aQ rfl) (eQ (ae cY (ae (pv 6) (ae (gZ pW rfl B.Ap pR (ae (sk (te:=(qq (Bc K) _ _)) (own := ["_law_row"]) (caps := []) (jx (aw lW) ["_law_cell", "_law_seed", "_law_names", "_law_pool", "_law_kind", "_law_number_here", "_law_word_here", "_law_count", "_law_some", "_law_tree"] rfl rfl rfl (by decide +kernel)) (jD (pv 8)) rfl (fun _ _ _=>cC (i:=0) (show (["_law_row"]:List Str).Nodup by decide +kernel) rfl (aQ rfl)) (fun _ _ _=>(aY bL (pv 0) az (fun _ _=>rfl)))) ao)) ao)))))
  (aC (bx (eQ (ae (pv 9) (ae (bh Bx hr (by omega) rfl (ae (pv 6) (ae (sk (te:=(qq (Bc K) _ _)) (own := ["_law_row"]) (caps := []) (jx (aw lW) ["_law_cell", "_law_seed", "_law_names", "_law_pool", "_law_kind", "_law_number_here", "_law_word_here", "_law_count", "_law_some", "_law_tree"] rfl rfl rfl (by decide +kernel)) (jD (pv 8)) rfl (fun _ _ _=>cC (i:=0) (show (["_law_row"]:List Str).Nodup by decide +kernel) rfl (aQ rfl)) (fun _ _ _=>(aY bL (pv 0) az (fun _ _=>rfl)))) ao))) (ae (dQ tV az (cy (TY rfl) rfl B.aa7 Iw (ae (sk (te:=(qq (Bc K) _ _)) (own := ["_law_row"]) (caps := []) (jx (aw lW) ["_law_cell", "_law_seed", "_law_names", "_law_pool", "_law_kind", "_law_number_here", "_law_word_here", "_law_count", "_law_some", "_law_tree"] rfl rfl rfl (by decide +kernel)) (jD (pv 8)) rfl (fun _ _ _=>cC (i:=0) (show (["_law_row"]:List Str).Nodup by decide +kernel) rfl (aQ rfl)) (fun _ _ _=>(aY bL (pv 0) az (fun _ _=>rfl)))) ao))) ao)))))))))))))),?_⟩
 try dsimp only[dj]
 have lN:=bj rN
 have lP:=bj rP
 refine⟨_,rfl,c,10079,9,rfl,by decide,by decide,by decide,?_⟩
 dsimp only[cg]
 refine⟨_,rfl,rfl,_,rfl,dF (fun z => ?_) (fun z => ?_)⟩
 ·refine⟨_,rfl,c,rfl,fun H1 s1 => ?_⟩
  dsimp only[cg]
  refine⟨_,rfl,(show 2<=sizeLine by decide),fun tn htn => ?_⟩
  have s2:=aS htn (.tup [.str "num",.int (qJ c)])
  have g2:=au (H:=H1) (a:=tn) (o := .tup [.str "num",.int (qJ c)])
  generalize aJ H1 tn (.tup [.str "num",.int (qJ c)])=H2 at s2 g2 ⊢
  refine⟨_,rfl,(show 3<=sizeLine by decide),fun tr K6 => ?_⟩
  have s3:=aS K6 (.tup [.ref tn,.int (qJ c),.int 1])
  refine q _ (.num (qJ c),some (qJ c),1) _ (s1.trans (s2.trans s3)) ⟨tr,.ref tn,rfl,au,?_⟩ (.num _ (NS c) rfl)
  rw[fz]
  exact⟨tn,rfl,s3 _ _ g2⟩
 dsimp only[jR]
 refine⟨_,rfl,rfl,_,rfl,dF (fun z1 => ?_) (fun z1 => ?_)⟩
 ·obtain⟨k,hk,ek⟩:=sU c 10091 (m:=eG.length) (by omega)
  have kv:eG[k]? = some eG[k]:=ah hk
  obtain⟨r,er,HY⟩:=Paired.at rN kv
  refine⟨_,rfl,_,rfl,_,rfl,N,eG,rfl,.inl (bb.of hN),c,10091,_,rfl,by decide,by decide,by omega,N,eG,(k:Int),_,rfl,congrArg V.int ek,bb.of hN,aR kv,?_⟩
  exact q _ r H (bp.refl _) HY (.name (aP er))
 dsimp only[jR]
 obtain⟨k,hk,ek⟩:=sU c 10093 (m:=7) (by decide)
 have Lk:rM ((Al sd).map V.str) (k:Int)=some (.str ((Al sd).getD k "")):=by
  refine aR ?_
  have C8:k < (Al sd).length:=hk
  rw[aD,ah C8,aN,ah C8]
  rfl
 generalize hx:(Al sd).getD k "" = x at Lk
 refine ik (fun bF H'=>bp H H' ∧ bF = [some (.int c),some (.int sd),some (.ref N),some (.ref Pl),some (.int (iF c 10079 9)),none,some (.str x),none,none,none]) ?_ (fun key => ?_)
 rotate_left
 ·refine⟨_,rfl,20,sd,rfl,(show 7<=sizeLine by decide),fun tp mH => ?_⟩
  refine⟨_,rfl,c,10093,7,rfl,by decide,by decide,by decide,tp,(Al sd).map V.str,(k:Int),_,rfl,congrArg V.int ek,bP.of au,Lk,?_⟩
  exact key _ _ ⟨aS mH _,rfl⟩
 rintro HD H1 ⟨s1,rfl⟩
 refine ik (fun bF H'=>H'=H1∧∃ cnt:Nat,1<=cnt∧cnt<=2 ∧ bF = [some (.int c),some (.int sd),some (.ref N),some (.ref Pl),some (.int (iF c 10079 9)),none,some (.str x),some (.int (cnt:Int)),none,none]) ?_ (fun key => ?_)
 rotate_left
 ·exact⟨_,rfl,rfl,_,rfl,dF (fun _=>key _ _ ⟨rfl,1,by decide,by decide,rfl⟩) (fun _=>key _ _ ⟨rfl,2,by decide,by decide,rfl⟩)⟩
 rintro pz H2 ⟨rfl,QL,c1,c2,rfl⟩
 refine ik (fun bF H'=>H'=H2∧∃ cnt:Nat,1<=cnt∧cnt<=2 ∧ bF = [some (.int c),some (.int sd),some (.ref N),some (.ref Pl),some (.int (iF c 10079 9)),none,some (.str x),some (.int (cnt:Int)),none,none]) ?_ (fun key => ?_)
 rotate_left
 ·refine⟨_,rfl,c,10099,9,rfl,by decide,by decide,by decide,rfl,_,rfl,dF (fun _ => ?_) (fun _=>key _ _ ⟨rfl,QL,c1,c2,rfl⟩)⟩
  refine⟨_,rfl,_,_,rfl,rfl,key _ _ ⟨rfl,3 - QL,by omega,by omega,?_⟩⟩
  have e:((3 - QL:Nat):Int)=3 - (QL:Int):=by omega
  rw[e]
  rfl
 rintro xU H3 ⟨rfl,cnt,d1,d2,rfl⟩
 -- some
 obtain⟨i1,uC,e1⟩:=sU c 10103 (m:=fk.length) (by omega)
 obtain⟨i2,qM,e2⟩:=sU c 10111 (m:=fk.length) (by omega)
 have v1:fk[i1]? = some fk[i1]:=ah uC
 have v2:fk[i2]? = some fk[i2]:=ah qM
 obtain⟨r1,er1,HY⟩:=Paired.at rP v1
 obtain⟨r2,er2,hr2⟩:=Paired.at rP v2
 generalize fk[i1]=y1 at v1 HY
 generalize fk[i2]=y2 at v2 hr2
 have m1:=aP er1
 have m2:=aP er2
 refine ik (fun bF H'=>bp H3 H'∧∃ So,H' So=some (.lst ([y1,y2].take cnt)) ∧ bF = [some (.int c),some (.int sd),some (.ref N),some (.ref Pl),some (.int (iF c 10079 9)),none,some (.str x),some (.int (cnt:Int)),some (.ref So),none]) ?_ (fun key => ?_)
 rotate_left
 ·refine⟨(show 2<=sizeLine by decide),fun tp mH => ?_⟩
  have sp:=aS mH (.tup [.int 10103,.int 10111])
  have gp:=au (H:=H3) (a:=tp) (o := .tup [.int 10103,.int 10111])
  generalize aJ H3 tp (.tup [.int 10103,.int 10111])=H4 at sp gp ⊢
  refine⟨tp,rfl,⟨_,bP.of gp⟩,?_⟩
  have Ic:=(s1.trans sp) _ _ hP
  refine Im (ys := [y1,y2]) (bP.of gp) (by decide) rfl (fun i xx yy hx hy H' sm Q' q' => ?_) (fun D4 H5 XS s5 hD5 => ?_)
  ·match i,hx,hy with
   | 0,hx,hy =>
    cases hx;cases hy
    exact⟨_,rfl,_,rfl,_,rfl,_,rfl,Pl,fk,rfl,.inl (bb.of (sm _ _ Ic)),c,10103,_,rfl,by decide,by decide,by omega,Pl,fk,(i1:Int),_,rfl,congrArg V.int e1,bb.of (sm _ _ Ic),aR v1,q' _ (bp.refl _)⟩
   | 1,hx,hy =>
    cases hx;cases hy
    exact⟨_,rfl,_,rfl,_,rfl,_,rfl,Pl,fk,rfl,.inl (bb.of (sm _ _ Ic)),c,10111,_,rfl,by decide,by decide,by omega,Pl,fk,(i2:Int),_,rfl,congrArg V.int e2,bb.of (sm _ _ Ic),aR v2,q' _ (bp.refl _)⟩
   | i+2,hx,hy=>cases hx
  ·refine⟨_,rfl,_,rfl,D4,_,rfl,bb.of hD5,fun So Oe => ?_⟩
   rw[OE]
   exact key _ _ ⟨(sp.trans s5).trans (aS Oe _),So,au,rfl⟩
 rintro σ5 H5 ⟨s5,So,Oe,rfl⟩
 have sA:=s1.trans s5
 -- vd rows avb
 have RV:uR H5 ([y1,y2].take cnt) ([r1,r2].take cnt):=Sw.xw cnt (.cons (HY.keep fun c ys=>sA _ _) (.cons (hr2.keep fun c ys=>sA _ _) .nil))
 have vw:∀ a ∈ [r1,r2].take cnt,a∈kj:=fun a ha=>by
  have:=gy ha
  rcases bo.mp this with rfl | h
  ·exact m1
  ·rw[bq.mp h];exact m2
 have ln:([r1,r2].take cnt).length=cnt:=by rw[bO];show min cnt 2=cnt;omega
 generalize [y1,y2].take cnt=zs at Oe RV
 generalize [r1,r2].take cnt=as at RV vw ln
 have lz:=bj RV
 -- vd tree
 refine⟨_,rfl,_,rfl,So,rfl,⟨_,bb.of Oe⟩,?_⟩
 refine uO (R:=fun H v t=>fz H t v) (bs:=as.map (·.1)) (fun _ _ _ _ k h=>je k h) (bb.of Oe) (by omega) (by rw[aq];omega) (fun i xx t hx ht H' sm Q' q' => ?_) (fun D4 H6 ys XS s6 XR hys => ?_)
 ·obtain⟨r,hr,a,tv,rfl,ha,K5⟩:=Paired.at RV hx
  rw[aD,hr]at ht
  cases ht
  exact⟨_,rfl,a,_,0,_,rfl,rfl,bP.of (sm _ _ ha),aR (j:=0) rfl,q' _ _ (bp.refl _) (B8 sm K5)⟩
 refine⟨D4,_,rfl,.inl ⟨bb.of XR,fun tl K8 => ?_⟩⟩
 have s7:=aS K8 (.tup ys)
 have g7:=au (H:=H6) (a:=tl) (o := .tup ys)
 generalize aJ H6 tl (.tup ys)=H7 at s7 g7 ⊢
 refine⟨(show 3<=sizeLine by decide),fun tp mH => ?_⟩
 have s8:=aS mH (.tup [.str "of",.str x,.ref tl])
 have g8:=au (H:=H7) (a:=tp) (o := .tup [.str "of",.str x,.ref tl])
 generalize aJ H7 tp (.tup [.str "of",.str x,.ref tl])=H8 at s8 g8 ⊢
 have Kg:=s6.trans (s7.trans s8)
 have K6:fz H8 (.of x (as.map (·.1))) (.ref tp):=by
  rw[fz]
  exact⟨tp,tl,ys,rfl,g8,s8 _ _ g7,JE (s7.trans s8) (EK hys)⟩
 dsimp only[cg]
 have rw8:=fu (fun c ys=>Kg _ _) RV
 have V7:=Kg _ _ Oe
 -- aj5 it avj to
 refine⟨_,rfl,_,rfl,_,rfl,So,rfl,⟨_,bb.of V7⟩,?_⟩
 refine uO (R:=fun _ v o=>v=oV o) (bs:=as.map (·.2.1)) (fun _ _ _ _ _ h=>h) (bb.of V7) (by omega) (by rw[aq];omega) (fun i xx t hx ht H' sm Q' q' => ?_) (fun D5 H9 ws hD5 s9 hD9 hws => ?_)
 ·obtain⟨r,hr,a,tv,rfl,ha,K5⟩:=Paired.at rw8 hx
  rw[aD,hr]at ht
  cases ht
  exact⟨_,rfl,a,_,1,_,rfl,rfl,bP.of (sm _ _ ha),aR (j:=1) rfl,q' _ _ (bp.refl _) rfl⟩
 have ew:=P2 hws
 subst ew
 refine QS.mk x D5 (as.map (·.2.1)) rfl hD9 (by rw[aq];omega) (by rw[aq];omega) (fun n hn => ?_) fun uI CY => ?_
 ·obtain⟨a,ha,ea⟩:=cM.mp hn
  exact hb a (vw a ha) n ea
 have CW:=s9.trans CY
 have ak4:=fu (fun c ys=>CW _ _) rw8
 have XH:=CW _ _ V7
 refine⟨_,rfl,So,rfl,⟨_,bb.of XH⟩,?_⟩
 refine uO (R:=fun _ v n=>v=V.int n) (bs:=as.map fun r=>(r.2.2:Int)) (fun _ _ _ _ _ h=>h) (bb.of XH) (by omega) (by rw[aq];omega) (fun i xx t hx ht H' sm Q' q' => ?_) (fun D6 wA ds XR AH aoL XC => ?_)
 ·obtain⟨r,hr,a,tv,rfl,ha,K5⟩:=Paired.at ak4 hx
  rw[aD,hr]at ht
  cases ht
  exact⟨_,rfl,a,_,2,_,rfl,rfl,bP.of (sm _ _ ha),aR (j:=2) rfl,q' _ _ (bp.refl _) rfl⟩
 have ed:=MO XC
 subst ed
 refine⟨D6,_,rfl,bb.of aoL,by rw[aq];omega,fun mx hmx aox => ?_⟩
 obtain⟨ra,hra,era⟩:=cM.mp hmx
 refine⟨_,_,rfl,rfl,(show 3<=sizeLine by decide),fun tq K7 => ?_⟩
 have Ny:=aS K7 (.tup [.ref tp,oV (fZ x (as.map (·.2.1))),.int (1+mx)])
 have em:(1:Int)+mx=((1+ra.2.2:Nat):Int):=by rw[<- era];push_cast;rfl
 have sZ:=Kg.trans (CW.trans (AH.trans Ny))
 refine q _ (.of x (as.map (·.1)),fZ x (as.map (·.2.1)),1+ra.2.2) _ (sA.trans sZ) ⟨tq,.ref tp,rfl,?_,B8 (CW.trans (AH.trans Ny)) K6⟩ (.of x as ra.2.2 (by omega) (by omega) vw (fun a ha => ?_) rfl)
 ·show _=some (HO.tup [.ref tp,oV (fZ x (as.map (·.2.1))),.int (((1+ra.2.2:Nat)):Int)])
  rw[<- em]
  exact au
 ·have:=aox _ (dJ (f:=fun r:R3=>(r.2.2:Int)) ha)
  rw[<- era]at this
  exact Int.ofNat_le.mp this
theorem abY {K:ak}:tw K (.type "list") (.type "list")=some true:=by rfl
theorem abX {K:ak}:tw K (.type "tuple") (.type "tuple")=some true:=by rfl
theorem zy {H:Hp}{b:Addr}{ks:List Int} (hb:H b=some (.lst (ks.map V.int))):Den H (.lst (ks.map D.int)) (.ref b):=by
 rw[Den]
 refine⟨b,_,rfl,hb,?_⟩
 clear hb
 induction ks with
 | nil=>exact Wi
 | cons n l ih=>rw[aL,aL];exact TJ (by rw[Den];exact .inl rfl) ih
theorem Ik (ks:List Int):L2.D.jV (ks.map D.int)<=150:=by
 induction ks with
 | nil=>rw[eV,L2.D.jV];omega
 | cons n l ih=>rw[aL,L2.D.jV,L2.D.deep];omega
theorem Zq:∀ j,j < 4->∀ k,k < 4->(D3 ((j:Nat):Int)).cps.toList=(D3 ((k:Nat):Int)).cps.toList->j=k:=by decide +kernel
theorem Q5 (c:Int) {j k:Nat} (hj:j < 4) (hk:k < 4) (e:fG c (j:Int)=fG c (k:Int)):j=k:=by
 have e1:(fG c (j:Int)).cps.toList=(fG c (k:Int)).cps.toList:=by rw[e]
 unfold fG at e1
 generalize hU (vG c) none (some (Fc c))=a at e1
 generalize hU (vG c) (some (Fc c)) none=b at e1
 have ap:∀ x y:Str,(x ++ y).cps.toList=x.cps.toList ++ y.cps.toList:=fun x y=>by show (x.cps ++ y.cps).toList=_;exact dw
 rw[ap,ap,ap,ap]at e1
 exact Zq j hj k hk (List.append_cancel_left (List.append_cancel_right e1))
def tW (sd:Int) (k:Nat):Int:=qJ (sd / ((k:Int)+2))
def qG (sd:Int) (x:Str):Option Int:=(bB 4).findSome? fun k:Nat=>if fG sd (k:Int)=x then some (tW sd k) else none
theorem aat (sd:Int) {k:Nat} (hk:k < 4):qG sd (fG sd (k:Int))=some (tW sd k):=by
 have:∀ l:List Nat,(∀ j∈l,j < 4)->k∈l->(l.findSome? fun j:Nat=>if fG sd (j:Int)=fG sd (k:Int) then some (tW sd j) else none)=some (tW sd k):=fun l=>by
  induction l with
  | nil=>intro _ h;cases h
  | cons j l ih =>
   intro hl hm
   rw[List.findSome?_cons]
   by_cases e:fG sd (j:Int)=fG sd (k:Int)
   ·rw[if_pos e,Q5 sd (hl j aT) hk e]
   ·rw[if_neg e]
    refine ih (fun i hi=>hl i (aK _ hi)) ?_
    rcases bo.mp hm with rfl | h
    ·exact absurd rfl e
    ·exact h
 exact this _ (fun j hj=>di.mp hj) (di.mpr hk)
def P6 (sd:Int) (k:Nat):R3:=(.name (fG sd (k:Int)),some (tW sd k),1)
def pO (sd:Int) (i:Nat):List R3:=(bB i).map (P6 sd)
theorem C2 (sd:Int) (i:Nat):pO sd (i+1)=pO sd i ++ [P6 sd i]:=by unfold pO;rw[ou,dX];rfl
theorem dz.Qj {H H':Hp}{bn dn b dx L M EL R:Addr}{room:Int}{ts:List Tm}{es:List (Nat × Nat)}{us:List V} (h:dz P w CB CH H bn dn b dx L M EL room ts es) (hR:H R=some (.lst us)) (nL:R≠L) (nE:R≠EL) (bt:fe R H H'):dz P w CB CH H' bn dn b dx L M EL room ts es:=by
 obtain⟨mI,hE,FA⟩:=h.hE
 exact⟨bt _ _ (dq h.hn hR (fun z=>nomatch z)) h.hn,h.hB.keep hR nL bt,⟨mI,bt _ _ (bV nE) hE,jU (bt.tup hR) FA⟩,h.ne⟩
def L9 (H:Hp) (v:V) (p:Nat × Option Int):Prop := ∃ a,v = .ref a∧H a=some (.tup [nV p.1,oV p.2])
theorem L9.keep {H H':Hp}{v:V}{p:Nat × Option Int} (k:∀ c ys,H c=some (.tup ys)->H' c=some (.tup ys)) (h:L9 H v p):L9 H' v p:=by
 obtain⟨a,e,h⟩:=h
 exact⟨a,e,k _ _ h⟩
structure Yp (H0:Hp) (L M EL N Pl Pc:Addr):Prop where
 l0:H0 L=none
 m0:H0 M=none
 e0:H0 EL=none
 n0:H0 N=none
 p0:H0 Pl=none
 c0:H0 Pc=none
 nL:N≠L
 nE:N≠EL
 pL:Pl≠L
 pE:Pl≠EL
 cL:Pc≠L
 cE:Pc≠EL
 np:N≠Pl
 nc:N≠Pc
 pc:Pl≠Pc
structure Lw (P:Program) (w:World) (CB CH:Addr) (H0 H:Hp) (bn dn b dx L M EL N Pl Pc:Addr) (ts:List Tm) (es:List (Nat × Nat)) (eG fk jv:List V) (eR kj:List R3) (jy:List (Nat × Option Int)):Prop where
 sm:bp H0 H
 hb:dz P w CB CH H bn dn b dx L M EL 300 ts es
 hN:H N=some (.lst eG)
 hP:H Pl=some (.lst fk)
 hC:H Pc=some (.lst jv)
 rN:uR H eG eR
 rP:uR H fk kj
 rC:Paired (L9 H) jv jy
theorem Lw.Hl {H0 H H':Hp}{bn dn b dx L M EL N Pl Pc:Addr}{ts bG:List Tm}{es dB:List (Nat × Nat)}{eG fk jv:List V}{eR kj:List R3}{jy:List (Nat × Option Int)} (h:Lw P w CB CH H0 H bn dn b dx L M EL N Pl Pc ts es eG fk jv eR kj jy) (n:Yp H0 L M EL N Pl Pc) (bt:n6 L M EL H H') (gH:dz P w CB CH H' bn dn b dx L M EL 300 bG dB):Lw P w CB CH H0 H' bn dn b dx L M EL N Pl Pc bG dB eG fk jv eR kj jy:=by
 obtain⟨φ,hM⟩:=oP h.hb.hB
 have kt:=h.hb.tup bt
 refine⟨fun c o z=>bt c o (fun e=>by rw[e,n.l0]at z;cases z) (fun e=>by rw[e,n.m0]at z;cases z) (fun e=>by rw[e,n.e0]at z;cases z) (h.sm _ _ z),gH,bt _ _ n.nL (dq h.hN hM (fun z=>nomatch z)) n.nE h.hN,bt _ _ n.pL (dq h.hP hM (fun z=>nomatch z)) n.pE h.hP,bt _ _ n.cL (dq h.hC hM (fun z=>nomatch z)) n.cE h.hC,fu kt h.rN,fu kt h.rP,Paired.pJ h.rC fun _ _ z=>z.keep kt⟩
theorem Lw.same {H0 H H':Hp}{bn dn b dx L M EL N Pl Pc:Addr}{ts:List Tm}{es:List (Nat × Nat)}{eG fk jv:List V}{eR kj:List R3}{jy:List (Nat × Option Int)} (h:Lw P w CB CH H0 H bn dn b dx L M EL N Pl Pc ts es eG fk jv eR kj jy) (s:bp H H'):Lw P w CB CH H0 H' bn dn b dx L M EL N Pl Pc ts es eG fk jv eR kj jy :=
 ⟨h.sm.trans s,h.hb.same s,s _ _ h.hN,s _ _ h.hP,s _ _ h.hC,fu (fun c ys=>s _ _) h.rN,fu (fun c ys=>s _ _) h.rP,Paired.pJ h.rC fun _ _ z=>z.keep fun c ys=>s _ _⟩
theorem Lw.Vm {H0 H:Hp}{bn dn b dx L M EL N Pl Pc:Addr}{ts:List Tm}{es:List (Nat × Nat)}{eG fk jv:List V}{eR kj:List R3}{jy:List (Nat × Option Int)}{v:V}{r:R3} (h:Lw P w CB CH H0 H bn dn b dx L M EL N Pl Pc ts es eG fk jv eR kj jy) (n:Yp H0 L M EL N Pl Pc) (hv:uS H v r):Lw P w CB CH H0 (aJ H Pl (.lst (fk ++ [v]))) bn dn b dx L M EL N Pl Pc ts es eG (fk ++ [v]) jv eR (kj ++ [r]) jy:=by
 have bt:fe Pl H (aJ H Pl (.lst (fk ++ [v]))):=(fe.refl Pl H).put
 have kt:=bt.tup h.hP
 exact⟨h.sm.put n.p0,h.hb.Qj h.hP n.pL n.pE bt,bt _ _ n.np h.hN,au,bt _ _ (bV n.pc) h.hC,fu kt h.rN,gn (fu kt h.rP) (hv.keep kt),Paired.pJ h.rC fun _ _ z=>z.keep kt⟩
theorem Lw.place {H0 H:Hp}{bn dn b dx L M EL N Pl Pc:Addr}{ts:List Tm}{es:List (Nat × Nat)}{eG fk jv:List V}{eR kj:List R3}{jy:List (Nat × Option Int)}{v:V}{p:Nat × Option Int} (h:Lw P w CB CH H0 H bn dn b dx L M EL N Pl Pc ts es eG fk jv eR kj jy) (n:Yp H0 L M EL N Pl Pc) (hv:L9 H v p):Lw P w CB CH H0 (aJ H Pc (.lst (jv ++ [v]))) bn dn b dx L M EL N Pl Pc ts es eG fk (jv ++ [v]) eR kj (jy ++ [p]):=by
 have bt:fe Pc H (aJ H Pc (.lst (jv ++ [v]))):=(fe.refl Pc H).put
 have kt:=bt.tup h.hC
 exact⟨h.sm.put n.c0,h.hb.Qj h.hC n.cL n.cE bt,bt _ _ n.nc h.hN,bt _ _ n.pc h.hP,au,fu kt h.rN,fu kt h.rP,gn (Paired.pJ h.rC fun _ _ z=>z.keep kt) (hv.keep kt)⟩
structure Tr (ρ : Str->Option Int) (ts:List Tm) (es:List (Nat × Nat)) (eR rs:List R3) (jy:List (Nat × Option Int)):Prop where
 gd:Gd ρ ts es
 dp:∀ i,i < ts.length->Dp ts 5 i
 nm:∀ r∈eR,∃ k,oo ρ ts r k
 pl:Paired (fun r (p:Nat × Option Int)=>oo ρ ts r p.1∧r.2.1=p.2∧r.2.2<=5) rs jy
theorem Tr.rows {ρ : Str->Option Int}{ts:List Tm}{es:List (Nat × Nat)}{eR rs:List R3}{jy:List (Nat × Option Int)} (h:Tr ρ ts es eR rs jy):∀ r∈eR ++ rs,∃ k,oo ρ ts r k:=fun r hr=>by
 rcases bX.mp hr with z | z
 ·exact h.nm r z
 ·obtain⟨p,_,q,_⟩:=(kJ h.pl).1 r z
  exact⟨p.1,q⟩
theorem Tr.put {ρ : Str->Option Int}{ts:List Tm}{es:List (Nat × Nat)}{eR rs:List R3}{jy:List (Nat × Option Int)}{r:R3} (h:Tr ρ ts es eR rs jy) (hb:Built eR (eR ++ rs) r) (hd:r.2.2<=5):Tr ρ (bJ b0 ts r.1).1 es eR (rs ++ [r]) (jy ++ [((bJ b0 ts r.1).2,r.2.1)])∧Jx ρ ts es r (bJ b0 ts r.1).1 (bJ b0 ts r.1).2:=by
 have po:=YT h.gd h.rows (fun a ha=>cO _ ha) hb
 have pr:=si b0 r.1 ts
 have nd:=po.gd.ok.2.2
 refine⟨⟨po.gd,fun i hi => ?_,fun a ha => ?_,gn (Paired.pJ h.pl fun a p z=>⟨z.1.ext pr nd,z.2⟩) ⟨po.row,rfl,hd⟩⟩,po⟩
 ·by_cases z:i < ts.length
  ·exact BC pr (h.dp i z)
  ·rw[po.last i (by omega) hi]
   exact Ct po.row.dp hd
 ·obtain⟨k,hk⟩:=h.nm a ha
  exact⟨k,hk.ext pr nd⟩
inductive Yl (K:ak) (vs:List V) (H:Hp) (Q:VK):Prop
 | mk (a:Addr) (ns:List Int) (z0:vs = [.ref a]) (z1:bb K H a (ns.map V.int)) (z2:ns.length<=63) (z3:∀ H',Q (.bl true) H'):Yl K vs H Q
def Jr (K:ak):Sp:=fun vs H Q _=>Yl K vs H Q
inductive Um (P:Program) (w:World) (CB CH:Addr) (H0:Hp) (S bn dn b dx L M EL N:Addr) (sd:Int) (i:Nat) (σ : L2.St) (H:Hp):Prop
 | mk (x4 x5:Option V) (ts:List Tm) (es:List (Nat × Nat)) (eG:List V) (e : σ = [some (.ref S),some (.int sd),some (.ref bn),some (.ref N),x4,x5,none,none,none,none,none,none,none,none,none,none]) (sm:bp H0 H) (hb:dz P w CB CH H bn dn b dx L M EL 300 ts es) (hN:H N=some (.lst eG)) (rN:uR H eG (pO sd i)) (tr:Tr (qG sd) ts es (pO sd i) [] []) (tl:ts.length<=2 * i) (el:es.length=i):Um P w CB CH H0 S bn dn b dx L M EL N sd i σ H
inductive Mt (P:Program) (w:World) (CB CH:Addr) (H0:Hp) (S bn dn b dx L M EL N Pl Pc:Addr) (sd:Int) (eG:List V) (eR:List R3) (es:List (Nat × Nat)) (i:Nat) (σ : L2.St) (H:Hp):Prop
 | mk (x4 x5 x8 x9:Option V) (ts:List Tm) (fk jv:List V) (rs:List R3) (jy:List (Nat × Option Int)) (e : σ = [some (.ref S),some (.int sd),some (.ref bn),some (.ref N),x4,x5,some (.ref Pl),some (.ref Pc),x8,x9,none,none,none,none,none,none]) (lw:Lw P w CB CH H0 H bn dn b dx L M EL N Pl Pc ts es eG fk jv eR (eR ++ rs) jy) (tr:Tr (qG sd) ts es eR rs jy) (tl:ts.length<=36) (rl:rs.length<=i):Mt P w CB CH H0 S bn dn b dx L M EL N Pl Pc sd eG eR es i σ H
inductive Yv (P:Program) (w:World) (CB CH:Addr) (H0:Hp) (S bn dn b dx L M EL N Pl Pc:Addr) (sd:Int) (eG fk jv:List V) (eR rs:List R3) (jy:List (Nat × Option Int)) (tp:Addr) (t:Nat) (σ : L2.St) (H:Hp):Prop
 | mk (x4 x5 x8 x9 zP:Option V) (ts:List Tm) (es:List (Nat × Nat)) (e : σ = [some (.ref S),some (.int sd),some (.ref bn),some (.ref N),x4,x5,some (.ref Pl),some (.ref Pc),x8,x9,zP,some (.ref tp),none,none,none,none]) (lw:Lw P w CB CH H0 H bn dn b dx L M EL N Pl Pc ts es eG fk jv eR (eR ++ rs) jy) (gd:Gd (qG sd) ts es) (pl:Paired (fun r (p:Nat × Option Int)=>oo (qG sd) ts r p.1∧r.2.1=p.2∧r.2.2<=5) rs jy) (tl:ts.length<=150) (rest:∀ ls,eE ts es ls->Rest ts ls) (ht:H tp=some (.tup [.str "rest",.int (t:Int)])):Yv P w CB CH H0 S bn dn b dx L M EL N Pl Pc sd eG fk jv eR rs jy tp t σ H
theorem adV (ρ : Str->Option Int):Gd ρ [] []:=⟨UW,fun a b h=>(nomatch h),fun a b h=>(nomatch h),fun i x n h=>by simp at h,fun i n h=>by simp at h,by decide⟩
theorem aaJ (B:j0 mg) (Zb:ph K CB) (Y:tO K CH) (gN:dh P w K mg base 1 "_law_draw" ["_law_cell", "_law_prime", "_law_many"] Ay) (vT:dh P w K mg base 2 "_law_word" ["_law_k", "_law_cell"] JS) (sL:dh P w K mg base 2 "_law_number" ["_law_cell"] DJ) (G4:dh P w K mg base 3 "_law_built" ["_law_cell", "_law_seed", "_law_names", "_law_pool"] Np)
  (Lq:ux P w K mg base 3 "Bench" CH ["self", "room"] (Nr P w CB CH)) (Ll:rq P w K mg base 9 CH "tell" ["self", "one", "other", "weight"] [.int 1] (Rw P w CB CH 5)) (FG:mC P w K mg base 8 CH "put" ["self", "tree"] (RD P w CB CH 5)) (jT:dh P w K mg base 4 "leads_of" ["bench"] (Ca P w CB CH)) (kQ:dh P w K mg base 2 "numbers" ["terms", "leads", "k"] wM)
  (FF:Md P w K mg base 13 "grow" ["bench", "rules", "rounds", "size"] [.int 100] (RC P w CB CH)) {f:Addr}{fd:FuncData} (F:Af K "law" "law" uL f fd) :
  kz P w K mg base DB 14 f fd ["_law_script"] (Jr K):=by
 have cH:=Y.cH
 refine F.ok iX (fun vs H Q E h => ?_) (fun cw A outer s H vs Q E hr h => ?_)
 ·obtain⟨a,ns,rfl,_⟩:=h;rfl
 obtain⟨S,ns,rfl,hS,h63,q⟩:=h
 refine⟨_,(av (bH (i:=1) iX.nd rfl (aQ rfl) (y4 (b9 PX (cy bY rfl B.gW bC (ae (pv 0) ao)) az (bQ _)) (aY cu (pv 0) az (fun _ _=>rfl)) az))
  (av (bH (i:=2) iX.nd rfl (aQ rfl) (vB Lq hr (by omega) gh rfl (ae az ao)))
  (av (bH (i:=3) iX.nd rfl (aQ rfl) (iY ao))
  (av (fR cG rfl (tT rfl B.vx (ae (dQ tV az (bh gN hr (by omega) rfl (ae (pv 1) (ae az (ae az ao))))) ao)) (cC (i:=4) iX.nd rfl (aQ rfl))
  (av (bH (i:=5) iX.nd rfl (aQ rfl) (bh sL hr (by omega) rfl (ae (dQ NN (pv 1) (dQ tV (pv 4) az)) ao)))
  (av (gu (mS cj cT cR gG (pv 3) (ae (eQ (ae (eQ (ae cY (ae (bh vT hr (by omega) rfl (ae (pv 4) (ae (pv 1) ao))) ao))) (ae (pv 5) (ae az ao)))) ao)))
  (aC (gu (pV Ll.a cH hr (by omega) gh (pv 2) (ae (eQ (ae cY (ae (bh vT hr (by omega) rfl (ae (pv 4) (ae (pv 1) ao))) ao))) (ae (eQ (ae cY (ae (pv 5) ao))) (ae (dQ tV az (pv 4)) ao)))))))))
  (av (bH (i:=6) iX.nd rfl (aQ rfl) (gZ j8 rfl B.uM jW (ae (pv 3) ao)))
  (av (bH (i:=7) iX.nd rfl (aQ rfl) (iY ao))
  (av (fR cG rfl (jD (pv 0)) (cC (i:=8) iX.nd rfl (aQ rfl))
  (av (bH (i:=9) iX.nd rfl (aQ rfl) (bh G4 hr (by omega) rfl (ae (pv 8) (ae (pv 1) (ae (pv 3) (ae (pv 6) ao))))))
  (aC (dy (PW.pt (pw_and (b9 y9 (cy bY rfl B.gW bC (ae (cZ (cZ (pv 2) rfl) rfl) ao)) az (bQ _)) (pw_and1 (b9 y9 (aY bL (pv 9) az (fun _ _=>rfl)) az (bQ _))))) (av (gu (mS cj cT cR gG (pv 6) (ae (pv 9) ao)))
  (aC (gu (mS cj cT cR gG (pv 7) (ae (eQ (ae (pV FG cH hr (by omega) gh (pv 2) (ae (aY bL (pv 9) az (fun _ _=>rfl)) ao)) (ae (aY bL (pv 9) az (fun _ _=>rfl)) ao))) ao))))) cq))))
  (av (bH (i:=10) iX.nd rfl (aQ rfl) (aY bL (eQ (ae az (ae az ao))) (bh gN hr (by omega) rfl (ae (pv 1) (ae az (ae az ao)))) (fun _ _=>rfl)))
  (av (dy (PW.pt (pw_or (b9 PX (cy bY rfl B.gW bC (ae (pv 7) ao)) az (bQ _)) (pw_or1 (b9 dR (bh gN hr (by omega) rfl (ae (pv 1) (ae az (ae az ao)))) az (bQ _))))) (aC (bH (i:=11) iX.nd rfl (aQ rfl) (Sf FF hr (by omega) rfl (ae (pv 2) (ae (iY ao) (ae (pv 10) ao)))))) (aC (bH (i:=11) iX.nd rfl (aQ rfl) (Sg FF hr (by omega) rfl (ae (pv 2) (ae (iY ao) (ae az (ae az ao))))))))
  (av (bH (i:=12) iX.nd rfl (aQ rfl) (bh jT hr (by omega) rfl (ae (pv 2) ao)))
  (av (fR cG rfl (jD (pv 7)) (tU rfl (fw (cC (i:=13) iX.nd rfl (aQ rfl)) (fw (cC (i:=14) iX.nd rfl (aQ rfl)) qu)))
  (av (bH (i:=15) iX.nd rfl (aQ rfl) (bh kQ hr (by omega) rfl (ae (gZ j8 rfl B.uM jW (ae (cZ (cZ (pv 2) rfl) rfl) ao)) (ae (gZ j8 rfl B.uM jW (ae (pv 12) ao)) (ae (pv 13) ao)))))
  (aC (dy (PW.pt (pw_or (xZ (kI (cy LS rfl B.C6 wd (ae (pv 15) (ae (NH (v := .ty "list") rfl B.uM jW rfl) ao))))) (pw_or1 (b9 (aaD (ahk hr)) (pv 15) (y4 (b9 Sj (pv 14) nD (bQ _)) (iY ao) (iY (ae (pv 14) ao))) (bQ _))))) (aC (bx y8)) cq))))
  (av (fR cG rfl (tT rfl B.vx (ae (cy bY rfl B.gW bC (ae (pv 7) ao)) ao)) (cC (i:=4) iX.nd rfl (aQ rfl))
  (aC (dy (b9 E3 (pV FG cH hr (by omega) gh (pv 2) (ae (aY bL (aY cu (pv 6) (dQ tV (cy bY rfl B.gW bC (ae (pv 3) ao)) (pv 4)) (fun _ _=>rfl)) az (fun _ _=>rfl)) ao)) (aY bL (aY cu (pv 7) (pv 4) (fun _ _=>rfl)) az (fun _ _=>rfl)) (bQ _)) (aC (bx y8)) cq)))
  (aC (bx (qI (cy LS rfl B.C6 wd (ae (pv 11) (ae (NH (v := .ty "tuple") rfl B.Ap pR rfl) ao))) (Bk (jj dR (aY bL (pv 11) az (fun _ _=>rfl)) cY (bQ _)))))))))))))))))),?_⟩
 try dsimp only[dj]
 refine ik (fun σ H'=>∃ sd:Int, σ = [some (.ref S),some (.int sd),none,none,none,none,none,none,none,none,none,none,none,none,none,none]∧H'=H) ?_ (fun key => ?_)
 rotate_left
 ·refine⟨_,rfl,S,_,rfl,.inl hS,_,_,rfl,rfl,_,rfl,dF (fun c => ?_) (fun _=>key _ _ ⟨0,rfl,rfl⟩)⟩
  rw[aq]at c
  have h0:0 < ns.length:=by omega
  exact⟨_,rfl,S,_,0,_,rfl,rfl,hS,aR (j:=0) (by rw[aD,ah h0];rfl),key _ _ ⟨ns[0],rfl,rfl⟩⟩
 rintro bF H' ⟨sd,rfl,rfl⟩
 -- vd avl
 intro bn dn hbn hdn jO
 refine Hw.mk bn dn 300 rfl au fun H1 b dx L M EL bt Dh Dg hE0 hb=>⟨rfl,?_⟩
 have s1:=wU (C:=CH) hbn hdn bt
 have oI:∀ c,(aJ (aJ H' dn (.own bn)) bn (.ins CH dn [])) c=none->H' c=none:=fun c h=>by
  by_cases e1:c=bn
  ·rw[e1];exact hbn
  ·rw[ax e1]at h
   by_cases e2:c=dn
   ·rw[e2];exact hdn
   ·rw[ax e2]at h;exact h
 have l0:=oI L Dh
 have m0:=oI M Dg
 have e0:=oI EL hE0
 dsimp only[cg]
 refine⟨bD _,fun N vX => ?_⟩
 dsimp only[cg]
 obtain⟨us0,vY⟩:=oO hb.hB
 obtain⟨ao2,XQ,_⟩:=id hb.hE
 have nL:N≠L:=fun z=>by rw[z,vY]at vX;cases vX
 have nE:N≠EL:=fun z=>by rw[z,XQ]at vX;cases vX
 have n0:H' N=none:=s1.free vX
 have sN:=aS vX (.lst [])
 have Oh:=au (H:=H1) (a:=N) (o := .lst [])
 have rH:=hb.same sN
 have s2:=s1.trans sN
 generalize aJ H1 N (.lst [])=H2 at sN Oh rH s2 ⊢
 -- vd names
 obtain⟨cn,hcn,ecn⟩:=sU sd 10133 (m:=4) (by decide)
 refine ik (Um P w CB CH H' S bn dn b dx L M EL N sd (1+cn)) ?_ (fun key => ?_)
 rotate_left
 ·refine⟨_,rfl,sd,10133,4,rfl,by decide,by decide,by decide,_,_,rfl,rfl,_,rfl,?_,?_,?_⟩
  ·rw[show iF sd 10133 4=(cn:Int) from ecn];omega
  ·rw[show iF sd 10133 4=(cn:Int) from ecn];omega
  have en:((1:Int)+iF sd 10133 4).toNat=1+cn:=by rw[show iF sd 10133 4=(cn:Int) from ecn];omega
  rw[en]
  refine t8 (lo:=0) (Um P w CB CH H' S bn dn b dx L M EL N sd) (Um.mk none none [] [] [] rfl s2 rH Oh .nil ⟨adV _,fun i hi=>absurd hi (iL _),fun r hr=>(nomatch hr),.nil⟩ (aA _) rfl) ?_ (fun σ H3 h=>key _ _ h)
  rintro i σ H3 hi ⟨x4,x5,ts,es,eG,rfl,sm,C9,Df,rN,tr,tl,el⟩
  have ei:(0:Int)+(i:Int)=((i:Nat):Int):=by omega
  rw[ei]
  dsimp only[cg]
  refine⟨_,rfl,_,rfl,_,_,rfl,rfl,_,_,rfl,rfl,⟨by omega,by omega⟩,_,rfl,fun H4 s4 => ?_⟩
  dsimp only[cg]
  have em:qJ (sd / ((i:Int)+2))=tW sd i:=rfl
  rw[em]
  have nl:=bj rN
  have nr:(pO sd i).length=i:=by unfold pO;rw[aq,da]
  refine⟨_,rfl,.inl ⟨rfl,_,bb.of (s4 _ _ Df)⟩,_,rfl,_,rfl,(i:Int),sd,rfl,(show 2<=sizeLine by decide),fun tn htn => ?_⟩
  have s5:=aS htn (.tup [.str "name",.str (fG sd (i:Int))])
  have g5:=au (H:=H4) (a:=tn) (o := .tup [.str "name",.str (fG sd (i:Int))])
  generalize aJ H4 tn (.tup [.str "name",.str (fG sd (i:Int))])=H5 at s5 g5 ⊢
  refine⟨_,rfl,(show 3<=sizeLine by decide),fun tq K7 => ?_⟩
  have s6:=aS K7 (.tup [.ref tn,.int (tW sd i),.int 1])
  have g6:=au (H:=H5) (a:=tq) (o := .tup [.ref tn,.int (tW sd i),.int 1])
  have RS:=s4.trans (s5.trans s6)
  have g56:=s6 _ _ g5
  generalize aJ H5 tq (.tup [.ref tn,.int (tW sd i),.int 1])=H6 at s6 g6 RS g56 ⊢
  have Dd:=RS _ _ Df
  refine⟨N,eG,_,rfl,rfl,Dd,dE (by omega),?_⟩
  have bN:fe N H6 (aJ H6 N (.lst (eG ++ [.ref tq]))):=(fe.refl N H6).put
  have kN:=bN.tup Dd
  have ak5:uS H6 (.ref tq) (P6 sd i):=⟨tq,.ref tn,rfl,g6,by show fz H6 (.name (fG sd (i:Int))) (.ref tn);rw[fz];exact⟨tn,rfl,g56⟩⟩
  have rN7:uR (aJ H6 N (.lst (eG ++ [.ref tq]))) (eG ++ [.ref tq]) (pO sd (i+1)):=by
   rw[C2]
   exact gn (fu kN (fu (fun c ys=>RS _ _) rN)) (ak5.keep kN)
  have Ta:=(C9.same RS).Qj Dd nL nE bN
  have sm7:=(sm.trans RS).put (o := .lst (eG ++ [.ref tq])) n0
  have Lv:=au (H:=H6) (a:=N) (o := .lst (eG ++ [.ref tq]))
  generalize aJ H6 N (.lst (eG ++ [.ref tq]))=H7 at rN7 Ta sm7 Lv ⊢
  -- avp
  dsimp only
  refine⟨_,rfl,bn,dn,_,rfl,Ta.hn,rfl,_,rfl,_,rfl,(i:Int),sd,rfl,(show 2<=sizeLine by decide),fun t1 ht1 => ?_⟩
  have s8:=aS ht1 (.tup [.str "name",.str (fG sd (i:Int))])
  have g8:=au (H:=H7) (a:=t1) (o := .tup [.str "name",.str (fG sd (i:Int))])
  generalize aJ H7 t1 (.tup [.str "name",.str (fG sd (i:Int))])=H8 at s8 g8 ⊢
  refine⟨_,rfl,(show 2<=sizeLine by decide),fun t2 ht2 => ?_⟩
  have s9:=aS ht2 (.tup [.str "num",.int (tW sd i)])
  have g9:=au (H:=H8) (a:=t2) (o := .tup [.str "num",.int (tW sd i)])
  have Kf:=s8.trans s9
  have g89:=s9 _ _ g8
  generalize aJ H8 t2 (.tup [.str "num",.int (tW sd i)])=H9 at s9 g9 Kf g89 ⊢
  have p1:bJ b0 ts (.name (fG sd (i:Int)))=cF ts (.name (fG sd (i:Int))):=by rw[bJ]
  have p2:bJ b0 (cF ts (.name (fG sd (i:Int)))).1 (.num (tW sd i))=cF (cF ts (.name (fG sd (i:Int)))).1 (.num (tW sd i)):=by rw[bJ]
  have o1:=qx ts (.name (fG sd (i:Int)))
  have o2:=qx (cF ts (.name (fG sd (i:Int)))).1 (.num (tW sd i))
  obtain⟨gt,rt,dt⟩:=Zw tr.gd (aat sd (k:=i) (by omega)) (NS _) (by omega)
  refine⟨_,rfl,_,_,rfl,rfl,L1.mk bn dn b dx L M EL 300 _ ts es (.ref t1) (.ref t2) (.name (fG sd (i:Int))) (.num (tW sd i)) rfl (Ta.same Kf) (by rw[fz];exact⟨t1,rfl,g89⟩) (by rw[T.depth];decide) (by rw[T.kr];trivial) (by rw[T.kM]) (by rw[fz];exact⟨t2,rfl,g9⟩) (by rw[T.depth];decide) (by rw[T.kr];trivial) (by rw[T.kM]) (by rw[p1,p2];omega) (by rw[p1,p2];omega) (by omega) fun v uI Wq ado => ?_⟩
  rw[p1,p2]at ado
  obtain⟨φ,XM⟩:=oP (Ta.same Kf).hB
  have Tg:=Kf _ _ Lv
  have kt:=(Ta.same Kf).tup Wq
  have pr:=(jo ts (.name (fG sd (i:Int)))).trans (jo (cF ts (.name (fG sd (i:Int)))).1 (.num (tW sd i)))
  refine Um.mk _ _ _ _ _ rfl (fun c o z=>Wq c o (fun e=>by rw[e,l0]at z;cases z) (fun e=>by rw[e,m0]at z;cases z) (fun e=>by rw[e,e0]at z;cases z) ((sm7.trans Kf) _ _ z)) ado (Wq _ _ nL (dq Tg XM (fun z=>nomatch z)) nE Tg) (fu kt (fu (fun c ys=>Kf _ _) rN7)) ⟨gt,fun j hj => ?_,fun r hr => ?_,.nil⟩ (by omega) (by rw[aG,el];rfl)
  ·by_cases z:j < ts.length
   ·exact BC pr (tr.dp j z)
   ·exact Ct (dt j hj (by omega)) (by decide)
  ·rw[C2]at hr
   rcases bX.mp hr with z | z
   ·obtain⟨k,hk⟩:=tr.nm r z
    exact⟨k,hk.ext pr gt.ok.2.2⟩
   ·rw[bq.mp z]
    exact⟨_,rt⟩
 rintro xU H3 ⟨x4,x5,ts,es,eG,rfl,JY,C9,Df,rN,tr3,tl3,el3⟩
 generalize hnr:pO sd (1+cn)=eR at rN tr3
 have lnr:eR.length=1+cn:=by rw[<- hnr];unfold pO;rw[aq,da]
 have lnv:=bj rN
 -- vd Vm and vd ar2
 refine⟨_,rfl,N,eG,rfl,.inl (bb.of Df),fun Pl Lu => ?_⟩
 dsimp only[cg]
 obtain⟨us3,FI⟩:=oO C9.hB
 obtain⟨avE,hE3,_⟩:=id C9.hE
 have pL:Pl≠L:=fun z=>by rw[z,FI]at Lu;cases Lu
 have pE:Pl≠EL:=fun z=>by rw[z,hE3]at Lu;cases Lu
 have np:N≠Pl:=fS Df Lu
 have p0:=JY.free Lu
 have s4:=aS Lu (.lst eG)
 have Ic:=au (H:=H3) (a:=Pl) (o := .lst eG)
 generalize aJ H3 Pl (.lst eG)=H4 at s4 Ic ⊢
 refine⟨bD _,fun Pc Ia => ?_⟩
 dsimp only[cg]
 have cL:Pc≠L:=fun z=>by rw[z,s4 _ _ FI]at Ia;cases Ia
 have cE:Pc≠EL:=fun z=>by rw[z,s4 _ _ hE3]at Ia;cases Ia
 have nc:N≠Pc:=fS (s4 _ _ Df) Ia
 have pc:Pl≠Pc:=fS Ic Ia
 have c0:=(JY.trans s4).free Ia
 have s5:=aS Ia (.lst [])
 have hC5:=au (H:=H4) (a:=Pc) (o := .lst [])
 have RT:=s4.trans s5
 have hP5:=s5 _ _ Ic
 generalize aJ H4 Pc (.lst [])=H5 at s5 hC5 RT hP5 ⊢
 have nw:Yp H' L M EL N Pl Pc:=⟨l0,m0,e0,n0,p0,c0,nL,nE,pL,pE,cL,cE,np,nc,pc⟩
 have rN5:=fu (fun c ys=>RT _ _) rN
 have lw5:Lw P w CB CH H' H5 bn dn b dx L M EL N Pl Pc ts es eG eG [] eR (eR ++ []) []:=⟨JY.trans RT,C9.same RT,RT _ _ Df,hP5,hC5,rN5,by rw[eJ];exact rN5,.nil⟩
 refine ik (Mt P w CB CH H' S bn dn b dx L M EL N Pl Pc sd eG eR es ns.length) ?_ (fun key => ?_)
 rotate_left
 ·refine⟨_,rfl,S,rfl,⟨_,lw5.sm.seq hS⟩,?_⟩
  refine qk (xs:=ns.map V.int) (Mt P w CB CH H' S bn dn b dx L M EL N Pl Pc sd eG eR es) (Mt.mk _ _ none none ts eG [] [] [] rfl lw5 tr3 (by omega) (aA _)) ?_ ?_ ?_
  ·rintro i σ H6 _ ⟨x4,x5,x8,x9,ts,fk,jv,rs,jy,rfl,lw,tr,tl,rl⟩
   exact lw.sm.seq hS
  ·rintro i y σ H6 hy ⟨x4,x5,x8,x9,ts,fk,jv,rs,jy,rfl,lw,tr,tl,rl⟩
   have il:=(ai.mp hy).1
   rw[aq]at il
   rw[aD]at hy
   obtain⟨c,hc,rfl⟩:=b7.mp hy
   dsimp only[cg]
   refine⟨_,rfl,_,rfl,_,rfl,_,rfl,Hv.mk c sd N Pl eG fk eR (eR ++ rs) rfl lw.hN lw.hP lw.rN lw.rP (by omega) (by rw[aG];omega) (fun r hr n hn => ?_) fun v r H7 s7 hv bu => ?_⟩
   ·obtain⟨k,hk⟩:=tr.rows r hr
    exact yt.mp (hk.Fm n hn)
   dsimp only[cg]
   have tY:=lw.same s7
   obtain⟨us,hL⟩:=oO tY.hb.hB
   obtain⟨fc,nI,aoo⟩:=id tY.hb.hB.2.1
   have lu:=bj aoo
   obtain⟨ra,tv,rfl,hra,K5⟩:=id hv
   have Au:Mt P w CB CH H' S bn dn b dx L M EL N Pl Pc sd eG eR es (i+1) [some (.ref S),some (.int sd),some (.ref bn),some (.ref N),x4,x5,some (.ref Pl),some (.ref Pc),some (.int c),some (.ref ra),none,none,none,none,none,none] H7:=Mt.mk _ _ _ _ ts fk jv rs jy rfl tY tr tl (by omega)
   refine j7 (fun cc Hc=>Hc=H7∧(cc=true->fc.length < 36∧r.2.2<=5)) (fun Qc qc => ?_) ?_ (fun Hc z=>by rw[z.1];exact Au)
   ·refine⟨_,rfl,bn,CH,dn,_,_,rfl,tY.hb.hn,Y.cH,Y.oY,rfl,b,CB,dx,_,_,rfl,tY.hb.hB.1,Zb.cB,Zb.iZ,rfl,L,fc,rfl,.inl (bb.of nI),_,_,rfl,rfl,_,rfl,dF (fun z => ?_) (fun _=>qc _ _ ⟨rfl,fun z=>(nomatch z)⟩)⟩
    refine⟨_,rfl,ra,_,2,_,rfl,rfl,bP.of hra,aR (j:=2) rfl,_,_,rfl,rfl,_,rfl,qc _ _ ⟨rfl,fun z2 => ?_⟩⟩
    have z2:=of_decide_eq_true z2
    exact⟨by omega,by omega⟩
   rintro Hc ⟨rfl,ok⟩
   obtain⟨avw,d5⟩:=ok rfl
   obtain⟨tr',po⟩:=tr.put bu d5
   -- Vm.append(row)
   have lpv:=bj tY.rP
   rw[aG]at lpv
   refine⟨_,rfl,.inl ⟨rfl,_,bb.of tY.hP⟩,_,rfl,Pl,fk,_,rfl,rfl,tY.hP,dE (by omega),?_⟩
   have C3:=tY.Vm nw hv
   have kP:=((fe.refl Pl Hc).put (o := .lst (fk ++ [.ref ra]))).tup tY.hP
   have VX:=kP _ _ hra
   have acR:=je kP K5
   generalize aJ Hc Pl (.lst (fk ++ [.ref ra]))=H8 at C3 VX acR ⊢
   dsimp only
   have lcv:=bj C3.rC
   have lpl:=bj tr.pl
   refine⟨_,rfl,.inl ⟨rfl,_,bb.of C3.hC⟩,_,rfl,bn,dn,_,rfl,C3.hb.hn,rfl,_,rfl,ra,_,0,_,rfl,rfl,bP.of VX,aR (j:=0) rfl,F8.mk bn dn b dx L M EL 300 ts es tv r.1 rfl C3.hb acR (cA po.row.deep d5) po.row.slim po.row.kM (by have:=po.len;omega) (by have:=po.len;omega) fun H9 bt9 hb9 => ?_⟩
   have kt9:=C3.hb.hB.tup bt9
   have Ff:=C3.Hl nw (iT.Hl bt9) hb9
   refine⟨_,rfl,ra,_,1,_,rfl,rfl,bP.of (kt9 _ _ VX),aR (j:=1) rfl,(show 2<=sizeLine by decide),fun tq K7 => ?_⟩
   have CY:=aS K7 (.tup [nV (bJ b0 ts r.1).2,oV r.2.1])
   have g10:=au (H:=H9) (a:=tq) (o := .tup [nV (bJ b0 ts r.1).2,oV r.2.1])
   have GS:=Ff.same CY
   generalize aJ H9 tq (.tup [nV (bJ b0 ts r.1).2,oV r.2.1])=uI at CY g10 GS ⊢
   refine⟨Pc,jv,_,rfl,rfl,GS.hC,dE (by omega),?_⟩
   have vK:=GS.place nw (v := .ref tq) (p:=((bJ b0 ts r.1).2,r.2.1)) ⟨tq,rfl,g10⟩
   rw[aZ]at vK
   exact Mt.mk _ _ _ _ _ _ _ _ _ rfl vK tr' (by have:=po.len;omega) (by rw[aG];show rs.length+1<=i+1;omega)
  ·rintro σ H6 h
   rw[aq]at h
   exact key _ _ h
 rintro σ6 H6 ⟨x4',x5',x8,x9,ZY,fk,jv,rs,jy,rfl,lw,tr,tl,rl⟩
 have lcv:=bj lw.rC
 have lpl:=bj tr.pl
 have lpv:=bj lw.rP
 rw[aG]at lpv
 have el6:es.length<=150:=by omega
 -- arc
 obtain⟨ri,hri,eri⟩:=sU sd 10139 (m:=2) (by decide)
 refine ik (fun σ H7=>∃ fQ:Nat,8<=fQ∧fQ<=100∧bp H6 H7 ∧ σ = [some (.ref S),some (.int sd),some (.ref bn),some (.ref N),x4',x5',some (.ref Pl),some (.ref Pc),x8,x9,some (.int (fQ:Int)),none,none,none,none,none]) ?_ (fun key => ?_)
 rotate_left
 ·refine⟨(show 2<=sizeLine by decide),fun tp mH=>⟨_,rfl,sd,10139,2,rfl,by decide,by decide,by decide,tp, [.int 8,.int 100],(ri:Int),_,rfl,congrArg V.int eri,bP.of au,aR (ah hri),?_⟩⟩
  match ri,hri with
  | 0,_=>exact key _ _ ⟨8,by decide,by decide,aS mH _,rfl⟩
  | 1,_=>exact key _ _ ⟨100,by decide,by decide,aS mH _,rfl⟩
 rintro zO H7 ⟨fQ,r8,avu,s7,rfl⟩
 have tY:=lw.same s7
 have okA:Me (qG sd) (zG (qG sd)) fQ 100:=⟨by omega,fun t ts es h=>by have:=h.2.2;omega,fun t ts es ls ns g c pm pr ne=>agb r8 g c pm pr ne⟩
 have okO:Me (qG sd) (zF (qG sd)) 100 1:=⟨by omega,fun t ts es h=>by have:=h.2;omega,fun t ts es ls ns g c pm pr ne=>aaG g c pm pr ne⟩
 refine ik (fun σ H8=>∃ tp t,Yv P w CB CH H' S bn dn b dx L M EL N Pl Pc sd eG fk jv eR rs jy tp t σ H8) ?_ (fun key => ?_)
 rotate_left
 ·have gO:∀ (H8:Hp) (tp:Addr) (t:Nat) (bG:List Tm) (dB:List (Nat × Nat)) (Ha:Hp),bp H7 Ha->n6 L M EL Ha H8->dz P w CB CH H8 bn dn b dx L M EL 300 bG dB->Gd (qG sd) bG dB->ZY <+: bG->bG.length<=150->(∀ ls,eE bG dB ls->Rest bG ls)->H8 tp=some (.tup [.str "rest",.int (t:Int)])->Yv P w CB CH H' S bn dn b dx L M EL N Pl Pc sd eG fk jv eR rs jy tp t [some (.ref S),some (.int sd),some (.ref bn),some (.ref N),x4',x5',some (.ref Pl),some (.ref Pc),x8,x9,some (.int (fQ:Int)),some (.ref tp),none,none,none,none] H8:=fun H8 tp t bG dB Ha sa bt gH g' pre gb rest ht =>
   Yv.mk _ _ _ _ _ bG dB rfl ((tY.same sa).Hl nw bt gH) g' (Paired.pJ tr.pl fun r p z=>⟨z.1.ext pre g'.ok.2.2,z.2⟩) gb rest ht
  have fr:∀ (Ha:Hp) (R:Addr),bp H7 Ha->Ha R=none->R≠L∧R≠EL:=fun Ha R sa hR=>by
   obtain⟨us,h1⟩:=oO (tY.same sa).hb.hB
   obtain⟨mI,h2,_⟩:=id (tY.same sa).hb.hE
   exact⟨fun z=>(by rw[z,h1]at hR;cases hR),fun z=>(by rw[z,h2]at hR;cases hR)⟩
  refine j7 (fun cc Hc=>Hc=H7) (fun Qc qc => ?_) (fun Hc z => ?_) (fun Hc z => ?_)
  ·refine⟨_,rfl,Pc,jv,rfl,.inl (bb.of tY.hC),_,_,rfl,rfl,_,rfl,dF (fun _=>qc _ _ rfl) (fun _ => ?_)⟩
   exact⟨_,rfl,sd,10141,3,rfl,by decide,by decide,by decide,rfl,_,rfl,qc _ _ rfl⟩
  ·subst z
   refine⟨_,rfl,bD _,fun R hR => ?_⟩
   have sR:=aS hR (.lst [])
   obtain⟨a1,a2⟩:=fr _ R (bp.refl _) hR
   refine⟨_,rfl,F7.mk bn dn b dx L M EL R fQ 100 ZY es (qG sd) (zG (qG sd)) rfl (tY.hb.same sR) au a1 a2 tr.gd okA (Ww tr.gd tr.dp tl) (by omega) el6 fun tp t bG dB H8 bt gH g' pre gb rest ht => ?_⟩
   exact key _ _ ⟨tp,t,gO H8 tp t bG dB _ sR bt gH g' pre gb rest ht⟩
  ·subst z
   refine⟨_,rfl,bD _,fun R hR => ?_⟩
   have sR:=aS hR (.lst [])
   obtain⟨a1,a2⟩:=fr _ R (bp.refl _) hR
   refine F7.mk bn dn b dx L M EL R 100 1 ZY es (qG sd) (zF (qG sd)) rfl (tY.hb.same sR) au a1 a2 tr.gd okO (Vs tl) (by omega) el6 fun tp t bG dB H8 bt gH g' pre gb rest ht => ?_
   exact key _ _ ⟨tp,t,gO H8 tp t bG dB _ sR bt gH g' pre gb rest ht⟩
 rintro σ8 H8 ⟨tp,t,x4,x5,x8,x9,zP,M8,es8,rfl,C3,g8,pl8,tl8,ahy,ht8⟩
 -- vd ave
 refine⟨_,rfl,yu.mk bn dn b dx L M EL 300 M8 es8 rfl C3.hb g8.ok.1 (by omega) (fun i x as h=>by have:=(g8.ok.2.1 i x as h).1;omega) g8.ends fun R ls H9 s9 hR0 hR c => ?_⟩
 dsimp only[cg]
 have Ff:=C3.same s9
 have hr8:=ahy ls c
 obtain⟨Q8,hL9,aon⟩:=id Ff.hb.hB.2.1
 have ht9:=s9 _ _ ht8
 refine ik (fun σ uI=>bp H9 uI∧∃ JB JA Jz:Option V, σ = [some (.ref S),some (.int sd),some (.ref bn),some (.ref N),x4,x5,some (.ref Pl),some (.ref Pc),x8,x9,zP,some (.ref tp),some (.ref R),JB,JA,Jz]) ?_ (fun key => ?_)
 rotate_left
 ·refine⟨_,rfl,Pc,rfl,⟨_,bb.of Ff.hC⟩,?_⟩
  refine qk (xs:=jv) (fun i σ uI=>bp H9 uI∧∃ JB JA Jz:Option V, σ = [some (.ref S),some (.int sd),some (.ref bn),some (.ref N),x4,x5,some (.ref Pl),some (.ref Pc),x8,x9,zP,some (.ref tp),some (.ref R),JB,JA,Jz]) ⟨bp.refl _,none,none,none,rfl⟩ ?_ ?_ (fun σ uI h=>key _ _ h)
  ·rintro i σ uI _ ⟨sm,_⟩
   exact bb.of (sm _ _ Ff.hC)
  ·rintro i y σ uI hy ⟨sm,JB,JA,Jz,rfl⟩
   obtain⟨p,hp,a,rfl,ha⟩:=Paired.at Ff.rC hy
   obtain⟨r,hrm,vw,er,_⟩:=(kJ pl8).2 p (aP hp)
   refine⟨a,_,rfl,bP.of (sm _ _ ha),rfl,_,_,rfl,_,_,rfl,rfl,?_⟩
   refine⟨_,rfl,bn,CH,dn,_,_,rfl,sm _ _ Ff.hb.hn,Y.cH,Y.oY,rfl,b,CB,dx,_,_,rfl,sm _ _ Ff.hb.hB.1,Zb.cB,Zb.iZ,rfl,L,Q8,rfl,.inl (bb.of (sm _ _ hL9)),fun T1 Dc => ?_⟩
   have AH:=aS Dc (.lst Q8)
   have gT:=au (H:=uI) (a:=T1) (o := .lst Q8)
   generalize aJ uI T1 (.lst Q8)=wA at AH gT ⊢
   refine⟨_,rfl,R,_,rfl,.inl (bb.of ((sm.trans AH) _ _ hR)),fun T2 Lr => ?_⟩
   have Ny:=aS Lr (.lst (ls.map nV))
   have gL:=au (H:=wA) (a:=T2) (o := .lst (ls.map nV))
   have adX:=Ny _ _ gT
   have Vc:=sm.trans (AH.trans Ny)
   generalize aJ wA T2 (.lst (ls.map nV))=H12 at Ny gL adX Vc ⊢
   refine⟨_,rfl,T1,T2,Q8,M8,ls,p.1,rfl,adX,gC Vc aon,gL,c.1,by omega,vw.lt,fun Nn H13 s13 vX Tf => ?_⟩
   dsimp only[cg]
   have vR:=RY g8.ok.1 g8.ok.2.2 g8.vals c (fun j x n h1 h2=>zi c (ai.mp h1).1 (g8.names j x n h1 h2)) hr8 vw.lt
   rw[vw.val,er]at vR
   have ak3:=Vc.trans s13
   refine j7 (fun cc Hc=>cc=false∧bp H13 Hc) (fun Qc qc => ?_) (fun Hc z=>absurd z.1 (by decide)) (fun Hc z=>⟨ak3.trans z.2,_,_,_,rfl⟩)
   refine⟨_,rfl,.ref Nn, "list",.type "list",true,rfl,.lst Tf,abY,_,rfl,hZ ?_⟩
   refine⟨_,rfl,_,rfl,rfl,?_⟩
   cases eo:p.2 with
   | none =>
    rw[eo]at vR
    rw[vR]at Tf
    refine⟨_,rfl,jI ⟨bD _,fun Le hLe => ?_⟩⟩
    have sE:=aS hLe (.lst [])
    refine⟨_,_,.inr ⟨zy (ks := []) (sE _ _ Tf),zy (ks := []) au⟩,Ik _,_,rfl,qc _ _ ⟨by rw[decide_eq_true rfl];rfl,sE⟩⟩
   | some n =>
    rw[eo]at vR
    rw[vR]at Tf
    refine⟨_,rfl,hZ ⟨_,rfl,(show 1<=sizeLine by decide),fun Le hLe => ?_⟩⟩
    have sE:=aS hLe (.lst [.int n])
    refine⟨_,_,.inr ⟨zy (ks := [n]) (sE _ _ Tf),zy (ks := [n]) au⟩,Ik _,_,rfl,qc _ _ ⟨by rw[decide_eq_true rfl];rfl,sE⟩⟩
 rintro avn uI ⟨CY,JB,JA,Jz,rfl⟩
 have GS:=Ff.same CY
 have aor:=CY _ _ ht9
 -- put avv more
 refine ik (fun σ wA=>(∃ x4:Option V, σ = [some (.ref S),some (.int sd),some (.ref bn),some (.ref N),x4,x5,some (.ref Pl),some (.ref Pc),x8,x9,zP,some (.ref tp),some (.ref R),JB,JA,Jz])∧wA tp=some (.tup [.str "rest",.int (t:Int)])) ?_ (fun key => ?_)
 rotate_left
 ·refine⟨_,rfl,Pc,jv,rfl,.inl (bb.of GS.hC),_,rfl,by omega,by omega,?_⟩
  rw[b6]
  refine t8 (lo:=0) (fun i σ wA=>(∃ x4:Option V, σ = [some (.ref S),some (.int sd),some (.ref bn),some (.ref N),x4,x5,some (.ref Pl),some (.ref Pc),x8,x9,zP,some (.ref tp),some (.ref R),JB,JA,Jz])∧wA tp=some (.tup [.str "rest",.int (t:Int)])∧Lw P w CB CH H' wA bn dn b dx L M EL N Pl Pc M8 es8 eG fk jv eR (eR ++ rs) jy) ⟨⟨_,rfl⟩,aor,GS⟩ ?_ (fun σ wA h=>key _ _ ⟨h.1,h.2.1⟩)
  rintro i σ wA hi ⟨⟨x4,rfl⟩,Qo,vK⟩
  have ei:(0:Int)+(i:Int)=((i:Nat):Int):=by omega
  rw[ei]
  have ip:i < jy.length:=by omega
  have ir:i < rs.length:=by omega
  have er:rs[i]? = some rs[i]:=ah ir
  obtain⟨p,hp,vw,_,rd⟩:=Paired.at pl8 er
  generalize rs[i]=r at er vw rd
  have ev:fk[eG.length+i]? = some (fk[eG.length+i]'(by omega)):=ah (by omega)
  generalize (fk[eG.length+i]'(by omega))=v at ev
  obtain⟨r',er',a,tv,rfl,ha,K5⟩:=Paired.at vK.rP ev
  have e1:r'=r:=by
   rw[dk (by omega)]at er'
   have:eG.length+i - eR.length=i:=by omega
   rw[this,er]at er'
   exact(aE er').symm
  subst e1
  have ec:jv[i]? = some (jv[i]'(by omega)):=ah (by omega)
  generalize (jv[i]'(by omega))=cv at ec
  obtain⟨p',hp',ca,rfl,hca⟩:=Paired.at vK.rC ec
  have e2:p'=p:=aE (hp'.symm.trans hp)
  subst e2
  dsimp only[cg]
  have ea:((eG.length:Nat):Int)+(i:Int)=((eG.length+i:Nat):Int):=by omega
  refine⟨_,rfl,bn,dn,_,rfl,vK.hb.hn,rfl,_,rfl,_,rfl,N,eG,rfl,.inl (bb.of vK.hN),_,rfl,_,_,rfl,rfl,Pl,fk,((eG.length+i:Nat):Int),_,rfl,congrArg V.int ea,bb.of vK.hP,aR ev,a,_,0,_,rfl,rfl,bP.of ha,aR (j:=0) rfl,F8.mk bn dn b dx L M EL 300 M8 es8 tv r'.1 rfl vK.hb K5 ?_ vw.slim vw.kM (by rw[vw.put];show M8.length<=900;omega) (by rw[vw.put];show ((M8.length:Nat):Int)<=300;omega) fun H12 af8 adn => ?_⟩
  ·exact cA vw.deep rd
  ·rw[vw.put]at adn ⊢
   have aa8:=vK.Hl nw (iT.Hl af8) adn
   have kt:=vK.hb.hB.tup af8
   refine⟨_,rfl,_,rfl,Pc,jv,(i:Int),_,rfl,rfl,bb.of aa8.hC,aR ec,ca,_,0,_,rfl,rfl,bP.of (kt _ _ hca),aR (j:=0) rfl,rfl,_,rfl,?_⟩
   rw[decide_eq_true rfl]
   exact hZ ⟨⟨_,rfl⟩,kt _ _ Qo,aa8⟩
 rintro avm wA ⟨⟨x4,rfl⟩,Qo⟩
 refine⟨_,rfl,.ref tp, "tuple",.type "tuple",true,rfl,.tup Qo,abX,?_⟩
 refine⟨_,rfl,jI ⟨_,rfl,tp,_,0,_,rfl,rfl,bP.of Qo,aR (j:=0) rfl,rfl,?_⟩⟩
 exact q _
end
end Up
namespace Up
open PySem L2
theorem tJ {n:Nat}{us:List Value} (h:us.length=n+1):∃ v vs,us=v :: vs∧vs.length=n:=by cases us with | nil=>cases h | cons v vs=>exact⟨v,vs,rfl,Nat.succ.inj h⟩
theorem pe {fd:FuncData}{ps:List Str} (h:∀ v0:Value,bindArgs fd ⟨[v0], []⟩=pure (ps.zip [v0])):∀ us:List Value,us.length=1->bindArgs fd ⟨us, []⟩=pure (ps.zip us):=fun us h0=>by obtain⟨v0,us,rfl,h1⟩:=tJ h0;obtain rfl:=e9 h1;exact h v0
open PySem L2 Sw
theorem jw {fd:FuncData}{ps:List Str} (h:∀ v0 v1:Value,bindArgs fd ⟨[v0,v1], []⟩=pure (ps.zip [v0,v1])):∀ us:List Value,us.length=2->bindArgs fd ⟨us, []⟩=pure (ps.zip us):=fun us h0=>by obtain⟨v0,us,rfl,h1⟩:=tJ h0;obtain⟨v1,us,rfl,h2⟩:=tJ h1;obtain rfl:=e9 h2;exact h v0 v1
open PySem L2 Sw
theorem mY {fd:FuncData}{ps:List Str} (h:∀ v0 v1 v2:Value,bindArgs fd ⟨[v0,v1,v2], []⟩=pure (ps.zip [v0,v1,v2])):∀ us:List Value,us.length=3->bindArgs fd ⟨us, []⟩=pure (ps.zip us):=fun us h0=>by obtain⟨v0,us,rfl,h1⟩:=tJ h0;obtain⟨v1,us,rfl,h2⟩:=tJ h1;obtain⟨v2,us,rfl,h3⟩:=tJ h2;obtain rfl:=e9 h3;exact h v0 v1 v2
open PySem L2 Sw
theorem ahH {fd:FuncData}{ps:List Str} (h:∀ v0 v1 v2 v3:Value,bindArgs fd ⟨[v0,v1,v2,v3], []⟩=pure (ps.zip [v0,v1,v2,v3])):∀ us:List Value,us.length=4->bindArgs fd ⟨us, []⟩=pure (ps.zip us):=fun us h0=>by obtain⟨v0,us,rfl,h1⟩:=tJ h0;obtain⟨v1,us,rfl,h2⟩:=tJ h1;obtain⟨v2,us,rfl,h3⟩:=tJ h2;obtain⟨v3,us,rfl,h4⟩:=tJ h3;obtain rfl:=e9 h4;exact h v0 v1 v2 v3
open PySem L2 Sw
theorem all_mk {l:Ge}{w:World}{K:ak}{h:Heap}{mg:Str->Option Value}{fa CB CH CK CS CN CE f0 f1 f2 f3 f4 f5 f6 f7 f8 f9 X6 Tv f12 f13 f14 f15 f16 f17 f18 f19 f20 Ou X5 X4 X3 X2 X1 X0 XZ f29 f30 f31 f32 f33 f34 f35 f36 f37 f38 f39 XY XX f42 f43 XW f45 f46 f47 f48 f49 f50 f51 lq:Addr} (X:K.In h) (G:h.Ns mainGlobals mg) (hfa:mg "law" = some (.ref fa))
  {od0 an0 od1 an1 od2 an2 od3 an3 od4 an4 od5 an5 od6 an6 od7 an7 od8 an8 od9 an9 amB aq5 amA aq4 amz aq3 amy aq2 amx aq1 amw aq0 amv aqZ amu aqY amt aqX ams aqW amr aqV amq aqU amo aqT amn aqS amm aqR aml aqQ amk aqP amj aqO ami aqN amh aqM amg aqL amf aqK ame aqJ amd aqI amc aqH amb aqG ama aqF al9 aqE al8 aqD al7 aqC al6 aqB al5 aqA al4 aqz al3 aqy al2 aqx al1 aqw al0 aqv alZ aqu alY aqt alX aqs alW aqr alV aga:Option Addr}{sl0 sl1 sl2 sl3 sl4 sl5 sl6 sl7 sl8 sl9 ak1 ak0 akZ akY akX akW akV akU akT akS akR akQ akP akO akN akM akL akK akJ akI akH akG akF akE akD akC akB akA akz aky akx akw akv aku akt aks akr akq akp ako akn akm:Array (Option Value)}{oc0 kV0 dc0 pm0 cd0 ct0 oc1 kV1 dc1 pm1 cd1 ct1 oc2 kV2 dc2 pm2 cd2 ct2 oc3 kV3 dc3 pm3 cd3 ct3 oc4 kV4 dc4 pm4 cd4 ct4 oc5 kV5 dc5 pm5 cd5 ct5 oc6 kV6 dc6 pm6 cd6 ct6 oc7 kV7 dc7 pm7 cd7 ct7 oc8 kV8 dc8 pm8 cd8 ct8 oc9 kV9 dc9 pm9 cd9 ct9 ani aoj apJ alS afq aqp anh aoi apI alR afp aqo ang aoh apH alQ afo aqn anf aog apG alP afn aqm ane aof apF alO afm aql anc aoe apE alN afl aqk anb aod apD alM afk aqj ana aoc apC alL afj aqi am9 aob apB alK afi aqh am8 aoa apA alJ afh aqg am7 anZ apz alI afg aqf am6 anY apy alH aff aqe am5 anW apx alG afe aqd am4 anV apw alF afd aqc am3 anU apv alE afc aqb am2 anT apu alD afb aqa am1 anS apt alC afa ap9 am0 anR aps alB ae9 ap8 amZ anQ apr alA ae8 ap7 amY anP apq alz ae7 ap6 amX anO apo aly ae6 ap5 amW anN apn alx ae5 ap4 amV anM apm alw ae4 ap3 amU anL apl alv ae3 ap2 amT anK apk alu ae2 ap1 amS anJ apj als ae1 ap0 amR anI api alr ae0 apZ amQ anH aph alq aeZ apY amP anG apg alp aeY apX amO anF apf alo aeX apW amN anE ape aln aeW apV amM anD apd alm aeV apU amL anC apc alk aeU apT amK anB apb alj aeT apS amJ anA apa ali aeS apR amI anz ao9 alh aeR apQ amH anx ao8 alg aeQ apP amG anw ao7 alf aeP apO amF anv ao6 ale aeO apN amE anu ao5 ald aeN apM amD ant ao4 alc aeM apL amC ab3 aeF aax Wm aeH:Value}
  {td1 Z1 Z0:Addr}{tc1 ake akd:Value}{tt1 aj7 aj6:Option Addr}{tn1 akc akb:Nat}{rF aj9 aj8:Array (Option Value)}{ZW ZV:Tok}
  {Po UU Pn Pp Je Jd Jc:Tok}
  {JJ:Option Addr}{JG:Nat}{JD:Array (Option Value)}
  (Hr:aM K mainGlobals "Bank" = some (some (.ref CB)))
  (Ep:aM K mainGlobals "Bench" = some (some (.ref CH)))
  (Hq:aM K mainGlobals "Kind" = some (some (.ref CK)))
  (Em:aM K mainGlobals "Signs" = some (some (.ref CS)))
  (Eo:aM K mainGlobals "Names" = some (some (.ref CN)))
  (En:aM K mainGlobals "Scene" = some (some (.ref CE)))
  (Ho:aH K (.ref CB) "__init__" = some (some (.ref f0)))
  (l0:K.lookup f0=some ⟨oc0,od0,.func (aO "__init__" "Bank.__init__" (bK vn) (bw vn) (aw vn) .none kV0 dc0 pm0 an0 cd0 ct0),sl0⟩)
  (c0:aI K cd0 "Bank.__init__" = true)
  (k0:aB K (.ref f0)=true)
  (n0:du K (.ref f0)=true)
  (a1:aH K (.ref CB) "put" = some (some (.ref f1)))
  (l1:K.lookup f1=some ⟨oc1,od1,.func (aO "put" "Bank.put" (bK Ce) (bw Ce) (aw Ce) (.ref td1) kV1 dc1 pm1 an1 cd1 ct1),sl1⟩)
  (t1:K.lookup td1=some ⟨tc1,tt1,.seq #[.none] tn1,rF⟩)
  (c1:aI K cd1 "Bank.put" = true)
  (k1:aB K (.ref f1)=true)
  (n1:du K (.ref f1)=true)
  (a2:aH K (.ref CB) "put_part" = some (some (.ref f2)))
  (l2:K.lookup f2=some ⟨oc2,od2,.func (aO "put_part" "Bank.put_part" (bK mP) (bw mP) (aw mP) .none kV2 dc2 pm2 an2 cd2 ct2),sl2⟩)
  (c2:aI K cd2 "Bank.put_part" = true)
  (k2:aB K (.ref f2)=true)
  (n2:du K (.ref f2)=true)
  (a3:aH K (.ref CB) "put_term" = some (some (.ref f3)))
  (l3:K.lookup f3=some ⟨oc3,od3,.func (aO "put_term" "Bank.put_term" (bK mO) (bw mO) (aw mO) .none kV3 dc3 pm3 an3 cd3 ct3),sl3⟩)
  (c3:aI K cd3 "Bank.put_term" = true)
  (k3:aB K (.ref f3)=true)
  (n3:du K (.ref f3)=true)
  (a4:aM K mainGlobals "mark" = some (some (.ref f4)))
  (l4:K.lookup f4=some ⟨oc4,od4,.func (aO "mark" "mark" (bK tS) (bw tS) (aw tS) .none kV4 dc4 pm4 an4 cd4 ct4),sl4⟩)
  (c4:aI K cd4 "mark" = true)
  (k4:aB K (.ref f4)=true)
  (a5:aM K mainGlobals "join_classes" = some (some (.ref f5)))
  (l5:K.lookup f5=some ⟨oc5,od5,.func (aO "join_classes" "join_classes" (bK ji) (bw ji) (aw ji) .none kV5 dc5 pm5 an5 cd5 ct5),sl5⟩)
  (c5:aI K cd5 "join_classes" = true)
  (k5:aB K (.ref f5)=true)
  (a6:aM K mainGlobals "join_like" = some (some (.ref f6)))
  (l6:K.lookup f6=some ⟨oc6,od6,.func (aO "join_like" "join_like" (bK lx) (bw lx) (aw lx) .none kV6 dc6 pm6 an6 cd6 ct6),sl6⟩)
  (c6:aI K cd6 "join_like" = true)
  (k6:aB K (.ref f6)=true)
  (a7:aM K mainGlobals "closed" = some (some (.ref f7)))
  (l7:K.lookup f7=some ⟨oc7,od7,.func (aO "closed" "closed" (bK qe) (bw qe) (aw qe) .none kV7 dc7 pm7 an7 cd7 ct7),sl7⟩)
  (c7:aI K cd7 "closed" = true)
  (k7:aB K (.ref f7)=true)
  (El:aH K (.ref CH) "__init__" = some (some (.ref f8)))
  (l8:K.lookup f8=some ⟨oc8,od8,.func (aO "__init__" "Bench.__init__" (bK sh) (bw sh) (aw sh) .none kV8 dc8 pm8 an8 cd8 ct8),sl8⟩)
  (c8:aI K cd8 "Bench.__init__" = true)
  (k8:aB K (.ref f8)=true)
  (n8:du K (.ref f8)=true)
  (a9:aH K (.ref CH) "put" = some (some (.ref f9)))
  (l9:K.lookup f9=some ⟨oc9,od9,.func (aO "put" "Bench.put" (bK vt) (bw vt) (aw vt) .none kV9 dc9 pm9 an9 cd9 ct9),sl9⟩)
  (c9:aI K cd9 "Bench.put" = true)
  (k9:aB K (.ref f9)=true)
  (n9:du K (.ref f9)=true)
  (a10:aH K (.ref CH) "pair" = some (some (.ref X6)))
  (l10:K.lookup X6=some ⟨ani,amB,.func (aO "pair" "Bench.pair" (bK vh) (bw vh) (aw vh) .none aoj apJ alS aq5 afq aqp),ak1⟩)
  (c10:aI K afq "Bench.pair" = true)
  (Xm:aB K (.ref X6)=true)
  (n10:du K (.ref X6)=true)
  (a11:aH K (.ref CH) "tell" = some (some (.ref Tv)))
  (l11:K.lookup Tv=some ⟨anh,amA,.func (aO "tell" "Bench.tell" (bK xX) (bw xX) (aw xX) (.ref Z1) aoi apI alR aq4 afp aqo),ak0⟩)
  (WW:K.lookup Z1=some ⟨ake,aj7,.seq #[.int 1 ZW] akc,aj9⟩)
  (c11:aI K afp "Bench.tell" = true)
  (k11:aB K (.ref Tv)=true)
  (n11:du K (.ref Tv)=true)
  (a12:aM K mainGlobals "leads_of" = some (some (.ref f12)))
  (l12:K.lookup f12=some ⟨ang,amz,.func (aO "leads_of" "leads_of" (bK mQ) (bw mQ) (aw mQ) .none aoh apH alQ aq3 afo aqn),akZ⟩)
  (c12:aI K afo "leads_of" = true)
  (k12:aB K (.ref f12)=true)
  (a13:aM K mainGlobals "is_sum" = some (some (.ref f13)))
  (l13:K.lookup f13=some ⟨anf,amy,.func (aO "is_sum" "is_sum" (bK qd) (bw qd) (aw qd) .none aog apG alP aq2 afn aqm),akY⟩)
  (c13:aI K afn "is_sum" = true)
  (k13:aB K (.ref f13)=true)
  (a14:aM K mainGlobals "is_product" = some (some (.ref f14)))
  (l14:K.lookup f14=some ⟨ane,amx,.func (aO "is_product" "is_product" (bK j6) (bw j6) (aw j6) .none aof apF alO aq1 afm aql),akX⟩)
  (c14:aI K afm "is_product" = true)
  (k14:aB K (.ref f14)=true)
  (a15:aM K mainGlobals "is_opposite" = some (some (.ref f15)))
  (l15:K.lookup f15=some ⟨anc,amw,.func (aO "is_opposite" "is_opposite" (bK jH) (bw jH) (aw jH) .none aoe apE alN aq0 afl aqk),akW⟩)
  (c15:aI K afl "is_opposite" = true)
  (k15:aB K (.ref f15)=true)
  (a16:aM K mainGlobals "is_binder" = some (some (.ref f16)))
  (l16:K.lookup f16=some ⟨anb,amv,.func (aO "is_binder" "is_binder" (bK lA) (bw lA) (aw lA) .none aod apD alM aqZ afk aqj),akV⟩)
  (c16:aI K afk "is_binder" = true)
  (k16:aB K (.ref f16)=true)
  (a17:aM K mainGlobals "sign_of_number" = some (some (.ref f17)))
  (l17:K.lookup f17=some ⟨ana,amu,.func (aO "sign_of_number" "sign_of_number" (bK gS) (bw gS) (aw gS) .none aoc apC alL aqY afj aqi),akU⟩)
  (c17:aI K afj "sign_of_number" = true)
  (k17:aB K (.ref f17)=true)
  (a18:aM K mainGlobals "add_signs" = some (some (.ref f18)))
  (l18:K.lookup f18=some ⟨am9,amt,.func (aO "add_signs" "add_signs" (bK lB) (bw lB) (aw lB) .none aob apB alK aqX afi aqh),akT⟩)
  (c18:aI K afi "add_signs" = true)
  (k18:aB K (.ref f18)=true)
  (a19:aM K mainGlobals "multiply_signs" = some (some (.ref f19)))
  (l19:K.lookup f19=some ⟨am8,ams,.func (aO "multiply_signs" "multiply_signs" (bK gU) (bw gU) (aw gU) .none aoa apA alJ aqW afh aqg),akS⟩)
  (c19:aI K afh "multiply_signs" = true)
  (k19:aB K (.ref f19)=true)
  (a20:aM K mainGlobals "sign_of_pair" = some (some (.ref f20)))
  (l20:K.lookup f20=some ⟨am7,amr,.func (aO "sign_of_pair" "sign_of_pair" (bK jf) (bw jf) (aw jf) .none anZ apz alI aqV afg aqf),akR⟩)
  (c20:aI K afg "sign_of_pair" = true)
  (k20:aB K (.ref f20)=true)
  (GW:aM K mainGlobals "Kind" = some (some (.ref CK)))
  (GX:uD K (.ref CK) "__getattribute__" = some (some (.builtin "type.__getattribute__")))
  (GV:Ga K CK (.type "type")=true)
  (GY:Gb K (.ref CK) (.type "type") "__init__" = some (.val (.ref Ou)))
  (Hn:aH K (.ref CK) "__init__" = some (some (.ref Ou)))
  (Ei:aH K (.ref CS) "__init__" = some (some (.ref Ou)))
  (l21:K.lookup Ou=some ⟨am6,amq,.func (aO "__init__" "Kind.__init__" (bK nQ) (bw nQ) (aw nQ) .none anY apy alH aqU aff aqe),akQ⟩)
  (c21:aI K aff "Kind.__init__" = true)
  (k21:aB K (.ref Ou)=true)
  (Xd:du K (.ref Ou)=true)
  (a22:aH K (.ref CK) "top" = some (some (.ref X5)))
  (l22:K.lookup X5=some ⟨am5,amo,.func (aO "top" "Kind.top" (bK AG) (bw AG) (aw AG) .none anW apx alG aqT afe aqd),akP⟩)
  (c22:aI K afe "Kind.top" = true)
  (Xl:aB K (.ref X5)=true)
  (n22:du K (.ref X5)=true)
  (a23:aH K (.ref CK) "worth" = some (some (.ref X4)))
  (l23:K.lookup X4=some ⟨am4,amn,.func (aO "worth" "Kind.worth" (bK vm) (bw vm) (aw vm) .none anV apw alF aqS afd aqc),akO⟩)
  (c23:aI K afd "Kind.worth" = true)
  (Xk:aB K (.ref X4)=true)
  (n23:du K (.ref X4)=true)
  (a24:aH K (.ref CS) "top" = some (some (.ref X3)))
  (l24:K.lookup X3=some ⟨am3,amm,.func (aO "top" "Signs.top" (bK vg) (bw vg) (aw vg) .none anU apv alE aqR afc aqb),akN⟩)
  (c24:aI K afc "Signs.top" = true)
  (Xj:aB K (.ref X3)=true)
  (n24:du K (.ref X3)=true)
  (a25:aH K (.ref CS) "worth" = some (some (.ref X2)))
  (l25:K.lookup X2=some ⟨am2,aml,.func (aO "worth" "Signs.worth" (bK p7) (bw p7) (aw p7) .none anT apu alD aqQ afb aqa),akM⟩)
  (c25:aI K afb "Signs.worth" = true)
  (Xi:aB K (.ref X2)=true)
  (n25:du K (.ref X2)=true)
  (Ek:aH K (.ref CN) "__init__" = some (some (.ref X1)))
  (l26:K.lookup X1=some ⟨am1,amk,.func (aO "__init__" "Names.__init__" (bK qt) (bw qt) (aw qt) .none anS apt alC aqP afa ap9),akL⟩)
  (c26:aI K afa "Names.__init__" = true)
  (k26:aB K (.ref X1)=true)
  (n26:du K (.ref X1)=true)
  (a27:aH K (.ref CN) "top" = some (some (.ref X0)))
  (l27:K.lookup X0=some ⟨am0,amj,.func (aO "top" "Names.top" (bK vj) (bw vj) (aw vj) .none anR aps alB aqO ae9 ap8),akK⟩)
  (c27:aI K ae9 "Names.top" = true)
  (Xh:aB K (.ref X0)=true)
  (n27:du K (.ref X0)=true)
  (a28:aH K (.ref CN) "worth" = some (some (.ref XZ)))
  (l28:K.lookup XZ=some ⟨amZ,ami,.func (aO "worth" "Names.worth" (bK p9) (bw p9) (aw p9) .none anQ apr alA aqN ae8 ap7),akJ⟩)
  (c28:aI K ae8 "Names.worth" = true)
  (Xg:aB K (.ref XZ)=true)
  (n28:du K (.ref XZ)=true)
  (a29:aM K mainGlobals "members" = some (some (.ref f29)))
  (l29:K.lookup f29=some ⟨amY,amh,.func (aO "members" "members" (bK mF) (bw mF) (aw mF) .none anP apq alz aqM ae7 ap6),akI⟩)
  (c29:aI K ae7 "members" = true)
  (k29:aB K (.ref f29)=true)
  (a30:aM K mainGlobals "learned" = some (some (.ref f30)))
  (l30:K.lookup f30=some ⟨amX,amg,.func (aO "learned" "learned" (bK oG) (bw oG) (aw oG) .none anO apo aly aqL ae6 ap5),akH⟩)
  (c30:aI K ae6 "learned" = true)
  (k30:aB K (.ref f30)=true)
  (a31:aM K mainGlobals "numbers" = some (some (.ref f31)))
  (l31:K.lookup f31=some ⟨amW,amf,.func (aO "numbers" "numbers" (bK mE) (bw mE) (aw mE) .none anN apn alx aqK ae5 ap4),akG⟩)
  (c31:aI K ae5 "numbers" = true)
  (k31:aB K (.ref f31)=true)
  (a32:aM K mainGlobals "odds" = some (some (.ref f32)))
  (l32:K.lookup f32=some ⟨amV,ame,.func (aO "odds" "odds" (bK vi) (bw vi) (aw vi) .none anM apm alw aqJ ae4 ap3),akF⟩)
  (c32:aI K ae4 "odds" = true)
  (k32:aB K (.ref f32)=true)
  (a33:aM K mainGlobals "marks" = some (some (.ref f33)))
  (l33:K.lookup f33=some ⟨amU,amd,.func (aO "marks" "marks" (bK se) (bw se) (aw se) .none anL apl alv aqI ae3 ap2),akE⟩)
  (c33:aI K ae3 "marks" = true)
  (k33:aB K (.ref f33)=true)
  (a34:aM K mainGlobals "nodes" = some (some (.ref f34)))
  (l34:K.lookup f34=some ⟨amT,amc,.func (aO "nodes" "nodes" (bK r9) (bw r9) (aw r9) .none anK apk alu aqH ae2 ap1),akD⟩)
  (c34:aI K ae2 "nodes" = true)
  (k34:aB K (.ref f34)=true)
  (a35:aM K mainGlobals "node_numbers" = some (some (.ref f35)))
  (l35:K.lookup f35=some ⟨amS,amb,.func (aO "node_numbers" "node_numbers" (bK jg) (bw jg) (aw jg) .none anJ apj als aqG ae1 ap0),akC⟩)
  (c35:aI K ae1 "node_numbers" = true)
  (k35:aB K (.ref f35)=true)
  (a36:aM K mainGlobals "known_values" = some (some (.ref f36)))
  (l36:K.lookup f36=some ⟨amR,ama,.func (aO "known_values" "known_values" (bK jh) (bw jh) (aw jh) .none anI api alr aqF ae0 apZ),akB⟩)
  (c36:aI K ae0 "known_values" = true)
  (k36:aB K (.ref f36)=true)
  (a37:aM K mainGlobals "worked_out" = some (some (.ref f37)))
  (l37:K.lookup f37=some ⟨amQ,al9,.func (aO "worked_out" "worked_out" (bK j5) (bw j5) (aw j5) .none anH aph alq aqE aeZ apY),akA⟩)
  (c37:aI K aeZ "worked_out" = true)
  (k37:aB K (.ref f37)=true)
  (a38:aM K mainGlobals "is_number" = some (some (.ref f38)))
  (l38:K.lookup f38=some ⟨amP,al8,.func (aO "is_number" "is_number" (bK ly) (bw ly) (aw ly) .none anG apg alp aqD aeY apX),akz⟩)
  (c38:aI K aeY "is_number" = true)
  (k38:aB K (.ref f38)=true)
  (a39:aM K mainGlobals "sums" = some (some (.ref f39)))
  (l39:K.lookup f39=some ⟨amO,al7,.func (aO "sums" "sums" (bK tR) (bw tR) (aw tR) .none anF apf alo aqC aeX apW),aky⟩)
  (c39:aI K aeX "sums" = true)
  (k39:aB K (.ref f39)=true)
  (Ej:aH K (.ref CE) "__init__" = some (some (.ref XY)))
  (l40:K.lookup XY=some ⟨amN,al6,.func (aO "__init__" "Scene.__init__" (bK p8) (bw p8) (aw p8) .none anE ape aln aqB aeW apV),akx⟩)
  (c40:aI K aeW "Scene.__init__" = true)
  (k40:aB K (.ref XY)=true)
  (n40:du K (.ref XY)=true)
  (IF:aH K (.ref CE) "rule_news" = some (some (.ref XX)))
  (l41:K.lookup XX=some ⟨amM,al5,.func (aO "rule_news" "Scene.rule_news" (bK nP) (bw nP) (aw nP) .none anD apd alm aqA aeV apU),akw⟩)
  (c41:aI K aeV "Scene.rule_news" = true)
  (Xf:aB K (.ref XX)=true)
  (n41:du K (.ref XX)=true)
  (IE:aM K mainGlobals "news" = some (some (.ref f42)))
  (l42:K.lookup f42=some ⟨amL,al4,.func (aO "news" "news" (bK vk) (bw vk) (aw vk) .none anC apc alk aqz aeU apT),akv⟩)
  (c42:aI K aeU "news" = true)
  (k42:aB K (.ref f42)=true)
  (ID:aM K mainGlobals "do_steps" = some (some (.ref f43)))
  (l43:K.lookup f43=some ⟨amK,al3,.func (aO "do_steps" "do_steps" (bK mR) (bw mR) (aw mR) .none anB apb alj aqy aeT apS),aku⟩)
  (c43:aI K aeT "do_steps" = true)
  (k43:aB K (.ref f43)=true)
  (a44:aM K mainGlobals "grow" = some (some (.ref XW)))
  (l44:K.lookup XW=some ⟨amJ,al2,.func (aO "grow" "grow" (bK xY) (bw xY) (aw xY) (.ref Z0) anA apa ali aqx aeS apR),akt⟩)
  (WV:K.lookup Z0=some ⟨akd,aj6,.seq #[.int 100 ZV] akb,aj8⟩)
  (c44:aI K aeS "grow" = true)
  (k44:aB K (.ref XW)=true)
  (a45:aM K mainGlobals "_law_draw" = some (some (.ref f45)))
  (l45:K.lookup f45=some ⟨amI,al1,.func (aO "_law_draw" "_law_draw" (bK vo) (bw vo) (aw vo) .none anz ao9 alh aqw aeR apQ),aks⟩)
  (c45:aI K aeR "_law_draw" = true)
  (k45:aB K (.ref f45)=true)
  (a46:aM K mainGlobals "_law_word" = some (some (.ref f46)))
  (l46:K.lookup f46=some ⟨amH,al0,.func (aO "_law_word" "_law_word" (bK vf) (bw vf) (aw vf) .none anx ao8 alg aqv aeQ apP),akr⟩)
  (c46:aI K aeQ "_law_word" = true)
  (k46:aB K (.ref f46)=true)
  (a47:aM K mainGlobals "_law_number" = some (some (.ref f47)))
  (l47:K.lookup f47=some ⟨amG,alZ,.func (aO "_law_number" "_law_number" (bK qb) (bw qb) (aw qb) .none anw ao7 alf aqu aeP apO),akq⟩)
  (c47:aI K aeP "_law_number" = true)
  (k47:aB K (.ref f47)=true)
  (a48:aM K mainGlobals "_law_bound" = some (some (.ref f48)))
  (l48:K.lookup f48=some ⟨amF,alY,.func (aO "_law_bound" "_law_bound" (bK sf) (bw sf) (aw sf) .none anv ao6 ale aqt aeO apN),akp⟩)
  (c48:aI K aeO "_law_bound" = true)
  (k48:aB K (.ref f48)=true)
  (a49:aM K mainGlobals "_law_outcome" = some (some (.ref f49)))
  (l49:K.lookup f49=some ⟨amE,alX,.func (aO "_law_outcome" "_law_outcome" (bK mD) (bw mD) (aw mD) .none anu ao5 ald aqs aeN apM),ako⟩)
  (c49:aI K aeN "_law_outcome" = true)
  (k49:aB K (.ref f49)=true)
  (a50:aM K mainGlobals "_law_built" = some (some (.ref f50)))
  (l50:K.lookup f50=some ⟨amD,alW,.func (aO "_law_built" "_law_built" (bK lW) (bw lW) (aw lW) .none ant ao4 alc aqr aeM apL),akn⟩)
  (c50:aI K aeM "_law_built" = true)
  (k50:aB K (.ref f50)=true)
  (IC:aM K mainGlobals "law" = some (some (.ref f51)))
  (l51:K.lookup f51=some ⟨amC,alV,.func (aO "law" "law" (bK uL) (bw uL) (aw uL) .none ab3 aeF aax aga Wm aeH),akm⟩)
  (c51:aI K Wm "law" = true)
  (k51:aB K (.ref f51)=true)
  (DT:iI K CB=true)
  (DV:aB K (.ref CB)=true)
  (DR:fx K CB qy=true)
  (DY:fK K CB=true)
  (DP:gE K CB=true)
  (DM:aH K (.ref CB) "__setattr__" = some (some (.builtin "object.__setattr__")))
  (vE:aH K (.ref CB) "room" = some none)
  (uw:aH K (.ref CB) "terms" = some none)
  (sI:aH K (.ref CB) "places" = some none)
  (A7:iI K CH=true)
  (Bb:aB K (.ref CH)=true)
  (AY:fx K CH qy=true)
  (Bg:fK K CH=true)
  (AU:gE K CH=true)
  (AO:aH K (.ref CH) "__setattr__" = some (some (.builtin "object.__setattr__")))
  (uv:aH K (.ref CH) "bank" = some none)
  (sH:aH K (.ref CH) "edges" = some none)
  (DS:iI K CK=true)
  (DU:aB K (.ref CK)=true)
  (DQ:fx K CK qy=true)
  (DX:fK K CK=true)
  (DO:gE K CK=true)
  (DL:aH K (.ref CK) "__setattr__" = some (some (.builtin "object.__setattr__")))
  (zS:aH K (.ref CK) "terms" = some none)
  (zT:aH K (.ref CK) "leads" = some none)
  (AZ:iI K CS=true)
  (A8:aB K (.ref CS)=true)
  (AV:fx K CS qy=true)
  (Bd:fK K CS=true)
  (AQ:gE K CS=true)
  (AL:aH K (.ref CS) "__setattr__" = some (some (.builtin "object.__setattr__")))
  (oZ:aH K (.ref CS) "terms" = some none)
  (o4:aH K (.ref CS) "leads" = some none)
  (A6:iI K CN=true)
  (Ba:aB K (.ref CN)=true)
  (AX:fx K CN qy=true)
  (Bf:fK K CN=true)
  (AS:gE K CN=true)
  (AN:aH K (.ref CN) "__setattr__" = some (some (.builtin "object.__setattr__")))
  (o6:aH K (.ref CN) "terms" = some none)
  (o7:aH K (.ref CN) "leads" = some none)
  (ur:aH K (.ref CN) "held" = some none)
  (uu:aH K (.ref CN) "bits" = some none)
  (pI:aH K (.ref CN) "standing" = some none)
  (A0:iI K CE=true)
  (A9:aB K (.ref CE)=true)
  (AW:fx K CE qy=true)
  (Be:fK K CE=true)
  (AR:gE K CE=true)
  (AM:aH K (.ref CE) "__setattr__" = some (some (.builtin "object.__setattr__")))
  (su:aH K (.ref CE) "terms" = some none)
  (sG:aH K (.ref CE) "leads" = some none)
  (sv:aH K (.ref CE) "table" = some none)
  (sC:aH K (.ref CE) "signs" = some none)
  (sD:aH K (.ref CE) "names" = some none)
  (mU:aH K (.ref CE) "known_signs" = some none)
  (mV:aH K (.ref CE) "known_names" = some none)
  (xJ:aM K mainGlobals "NEGATIVE" = some (some (.int 1 Po)))
  (BA:aM K mainGlobals "NOUGHT" = some (some (.int 2 UU)))
  (xI:aM K mainGlobals "POSITIVE" = some (some (.int 4 Pn)))
  (xK:aM K mainGlobals "ANY_SIGN" = some (some (.int 7 Pp)))
  (vZ:aM K mainGlobals "SIGN_BITS" = some (some (.ref lq)))
  (vL:K.lookup lq=some ⟨.type "tuple",JJ,.seq #[.int 1 Je,.int 2 Jd,.int 4 Jc] JG,JD⟩)
  (z0:aM K mainGlobals "len" = some none)
  (z1:aM K mainGlobals "min" = some none)
  (z2:aM K mainGlobals "max" = some none)
  (z3:aM K mainGlobals "sum" = some none)
  (z4:aM K mainGlobals "range" = some none)
  (z5:aM K mainGlobals "enumerate" = some none)
  (z6:aM K mainGlobals "isinstance" = some none)
  (z7:aM K mainGlobals "tuple" = some none)
  (z8:aM K mainGlobals "int" = some none)
  (z9:aM K mainGlobals "bool" = some none)
  (WN:aM K mainGlobals "str" = some none)
  (WM:aM K mainGlobals "list" = some none)
  (ZS:aM K mainGlobals "abs" = some none)
  (ZR:aM K mainGlobals "any" = some none)
  (ZQ:aM K mainGlobals "sorted" = some none) :
  ∃ fd:FuncData,(∀ (s:Shared) (v:Value),BindsTo s fd ⟨[v], []⟩ [("_law_script",v)])∧∀ base:Heap,K.In base->base.Ns mainGlobals mg->kz l.prog w K mg base DB 14 fa fd ["_law_script"] (Jr K):=by
 have e:=hfa.symm.trans (aW X G IC)
 cases e
 have B:j0 mg:=⟨df X G z0,df X G z1,df X G z2,df X G z3,df X G z4,df X G z5,df X G z6,df X G z7,df X G z8,df X G z9,df X G WN,df X G WM⟩
 have QO:=df X G ZS
 have QN:=df X G ZR
 have sW:=df X G ZQ
 have Wl:nK K CB:=⟨DR,DY,DP,DM⟩
 have TV:nK K CH:=⟨AY,Bg,AU,AO⟩
 have aqq:nK K CK:=⟨DQ,DX,DO,DL⟩
 have Ip:nK K CS:=⟨AV,Bd,AQ,AL⟩
 have Iq:nK K CN:=⟨AX,Bf,AS,AN⟩
 have TU:nK K CE:=⟨AW,Be,AR,AM⟩
 have iC:∃ t,mg "NEGATIVE" = some (.int 1 t):=⟨_,aW X G xJ⟩
 have iz:∃ t,mg "NOUGHT" = some (.int 2 t):=⟨_,aW X G BA⟩
 have kR:∃ t,mg "POSITIVE" = some (.int 4 t):=⟨_,aW X G xI⟩
 have iE:∃ t,mg "ANY_SIGN" = some (.int 7 t):=⟨_,aW X G xK⟩
 have nU:=aW X G vZ
 have ME:∀ H:Hp,bP K H lq [.int 1,.int 2,.int 4]:=fun H => .inr ⟨_,_,_,vL,rfl,rfl,(show 3<=sizeLine by decide),.cons ⟨_,rfl⟩ (.cons ⟨_,rfl⟩ (.cons ⟨_,rfl⟩ (.nil)))⟩
 have UK:=cJ (st:=vn) l0 c0 k0
 have MZ:tH K mg "Bank" CB "Bank.__init__" vn ["self", "room"]:=⟨_,_,UK,aW X G Hr,⟨DT,Ho,n0,DV⟩,UK.binds fun _ _ _ _ _ _ us hl=>jw (fun _ _=>rfl) us hl⟩
 have ahY:CC K CB "put" "Bank.put" Ce ["self", "pattern", "binds"] [.cQ]:=by
  refine⟨f1,_, [.none],⟨⟨_,_,_,_,_,_,_,_,_,_,rfl,l1,c1⟩⟩,⟨a1,n1,k1⟩,?_,.cons rfl (.nil),?_⟩
  ·intro s us KX hl
   have t5:us.length=2:=by simpa using hl
   match us,t5 with
   | [u0,u1],_=>exact kU KX rfl t1 rfl rfl rfl
  ·intro s us KX hl
   have t5:us.length=3:=by simpa using hl
   match us,t5 with
   | [u0,u1,u2],_=>exact kU KX rfl t1 rfl rfl rfl
 have Gu:=cJ (st:=mP) l2 c2 k2
 have Q0:kC K CB "put_part" "Bank.put_part" mP ["self", "pattern", "binds"]:=⟨_,_,Gu,⟨a2,n2,k2⟩,Gu.binds fun _ _ _ _ _ _ us hl=>mY (fun _ _ _=>rfl) us hl⟩
 have Gs:=cJ (st:=mO) l3 c3 k3
 have QZ:kC K CB "put_term" "Bank.put_term" mO ["self", "term"]:=⟨_,_,Gs,⟨a3,n3,k3⟩,Gs.binds fun _ _ _ _ _ _ us hl=>jw (fun _ _=>rfl) us hl⟩
 have UI:=cJ (st:=tS) l4 c4 k4
 have ag9:Def K mg "mark" tS ["term", "leads"]:=⟨_,_,UI,aW X G a4,UI.binds fun _ _ _ _ _ _ us hl=>jw (fun _ _=>rfl) us hl⟩
 have yL:=cJ (st:=ji) l5 c5 k5
 have HB:Def K mg "join_classes" ji ["leads", "a", "b"]:=⟨_,_,yL,aW X G a5,yL.binds fun _ _ _ _ _ _ us hl=>mY (fun _ _ _=>rfl) us hl⟩
 have Dx:=cJ (st:=lx) l6 c6 k6
 have MW:Def K mg "join_like" lx ["terms", "leads"]:=⟨_,_,Dx,aW X G a6,Dx.binds fun _ _ _ _ _ _ us hl=>jw (fun _ _=>rfl) us hl⟩
 have Mm:=cJ (st:=qe) l7 c7 k7
 have WI:Def K mg "closed" qe ["terms", "edges"]:=⟨_,_,Mm,aW X G a7,Mm.binds fun _ _ _ _ _ _ us hl=>jw (fun _ _=>rfl) us hl⟩
 have Ph:=cJ (st:=sh) l8 c8 k8
 have Ms:tH K mg "Bench" CH "Bench.__init__" sh ["self", "room"]:=⟨_,_,Ph,aW X G Ep,⟨A7,El,n8,Bb⟩,Ph.binds fun _ _ _ _ _ _ us hl=>jw (fun _ _=>rfl) us hl⟩
 have UM:=cJ (st:=vt) l9 c9 k9
 have ahc:kC K CH "put" "Bench.put" vt ["self", "tree"]:=⟨_,_,UM,⟨a9,n9,k9⟩,UM.binds fun _ _ _ _ _ _ us hl=>jw (fun _ _=>rfl) us hl⟩
 have UD:=cJ (st:=vh) l10 c10 Xm
 have ag5:kC K CH "pair" "Bench.pair" vh ["self", "one", "other"]:=⟨_,_,UD,⟨a10,n10,Xm⟩,UD.binds fun _ _ _ _ _ _ us hl=>mY (fun _ _ _=>rfl) us hl⟩
 have ag2:CC K CH "tell" "Bench.tell" xX ["self", "one", "other", "weight"] [.int 1]:=by
  refine⟨Tv,_, [.int 1 ZW],⟨⟨_,_,_,_,_,_,_,_,_,_,rfl,l11,c11⟩⟩,⟨a11,n11,k11⟩,?_,.cons ⟨_,rfl⟩ (.nil),?_⟩
  ·intro s us KX hl
   have t5:us.length=3:=by simpa using hl
   match us,t5 with
   | [u0,u1,u2],_=>exact kU KX rfl WW rfl rfl rfl
  ·intro s us KX hl
   have t5:us.length=4:=by simpa using hl
   match us,t5 with
   | [u0,u1,u2,u3],_=>exact kU KX rfl WW rfl rfl rfl
 have Gv:=cJ (st:=mQ) l12 c12 k12
 have Q1:Def K mg "leads_of" mQ ["bench"]:=⟨_,_,Gv,aW X G a12,Gv.binds fun _ _ _ _ _ _ us hl=>pe (fun _=>rfl) us hl⟩
 have Ml:=cJ (st:=qd) l13 c13 k13
 have WH:Def K mg "is_sum" qd ["term"]:=⟨_,_,Ml,aW X G a13,Ml.binds fun _ _ _ _ _ _ us hl=>pe (fun _=>rfl) us hl⟩
 have BY:=cJ (st:=j6) l14 c14 k14
 have Mo:Def K mg "is_product" j6 ["term"]:=⟨_,_,BY,aW X G a14,BY.binds fun _ _ _ _ _ _ us hl=>pe (fun _=>rfl) us hl⟩
 have Ag:=cJ (st:=jH) l15 c15 k15
 have Jp:Def K mg "is_opposite" jH ["term"]:=⟨_,_,Ag,aW X G a15,Ag.binds fun _ _ _ _ _ _ us hl=>pe (fun _=>rfl) us hl⟩
 have Dz:=cJ (st:=lA) l16 c16 k16
 have MY:Def K mg "is_binder" lA ["term"]:=⟨_,_,Dz,aW X G a16,Dz.binds fun _ _ _ _ _ _ us hl=>pe (fun _=>rfl) us hl⟩
 have wB:=cJ (st:=gS) l17 c17 k17
 have EC:Def K mg "sign_of_number" gS ["number"]:=⟨_,_,wB,aW X G a17,wB.binds fun _ _ _ _ _ _ us hl=>pe (fun _=>rfl) us hl⟩
 have DA:=cJ (st:=lB) l18 c18 k18
 have M4:Def K mg "add_signs" lB ["one", "other"]:=⟨_,_,DA,aW X G a18,DA.binds fun _ _ _ _ _ _ us hl=>jw (fun _ _=>rfl) us hl⟩
 have wC:=cJ (st:=gU) l19 c19 k19
 have ED:Def K mg "multiply_signs" gU ["one", "other"]:=⟨_,_,wC,aW X G a19,wC.binds fun _ _ _ _ _ _ us hl=>jw (fun _ _=>rfl) us hl⟩
 have yI:=cJ (st:=jf) l20 c20 k20
 have Hy:Def K mg "sign_of_pair" jf ["combine", "fact", "other_fact"]:=⟨_,_,yI,aW X G a20,yI.binds fun _ _ _ _ _ _ us hl=>mY (fun _ _ _=>rfl) us hl⟩
 have u6:=cJ (st:=nQ) l21 c21 k21
 have ZK:QX K mg "Kind" "__init__" "Kind.__init__" nQ ["self", "terms", "leads"]:=⟨_,_,_,u6,aW X G GW,⟨GX,GV,GY⟩,u6.binds fun _ _ _ _ _ _ us hl=>mY (fun _ _ _=>rfl) us hl⟩
 have ahh:tH K mg "Kind" CK "Kind.__init__" nQ ["self", "terms", "leads"]:=⟨_,_,u6,aW X G Hq,⟨DS,Hn,Xd,DU⟩,u6.binds fun _ _ _ _ _ _ us hl=>mY (fun _ _ _=>rfl) us hl⟩
 have Mp:tH K mg "Signs" CS "Kind.__init__" nQ ["self", "terms", "leads"]:=⟨_,_,u6,aW X G Em,⟨AZ,Ei,Xd,A8⟩,u6.binds fun _ _ _ _ _ _ us hl=>mY (fun _ _ _=>rfl) us hl⟩
 have UJ:=cJ (st:=AG) l22 c22 Xl
 have au9:kC K CK "top" "Kind.top" AG ["self"]:=⟨_,_,UJ,⟨a22,n22,Xl⟩,UJ.binds fun _ _ _ _ _ _ us hl=>pe (fun _=>rfl) us hl⟩
 have Mj:=cJ (st:=vm) l23 c23 Xk
 have ara:kC K CK "worth" "Kind.worth" vm ["self", "term", "known"]:=⟨_,_,Mj,⟨a23,n23,Xk⟩,Mj.binds fun _ _ _ _ _ _ us hl=>mY (fun _ _ _=>rfl) us hl⟩
 have UC:=cJ (st:=vg) l24 c24 Xj
 have ag4:kC K CS "top" "Signs.top" vg ["self"]:=⟨_,_,UC,⟨a24,n24,Xj⟩,UC.binds fun _ _ _ _ _ _ us hl=>pe (fun _=>rfl) us hl⟩
 have Mf:=cJ (st:=p7) l25 c25 Xi
 have WD:kC K CS "worth" "Signs.worth" p7 ["self", "term", "known"]:=⟨_,_,Mf,⟨a25,n25,Xi⟩,Mf.binds fun _ _ _ _ _ _ us hl=>mY (fun _ _ _=>rfl) us hl⟩
 have Pd:=cJ (st:=qt) l26 c26 k26
 have Mr:tH K mg "Names" CN "Names.__init__" qt ["self", "terms", "leads"]:=⟨_,_,Pd,aW X G Eo,⟨A6,Ek,n26,Ba⟩,Pd.binds fun _ _ _ _ _ _ us hl=>mY (fun _ _ _=>rfl) us hl⟩
 have UG:=cJ (st:=vj) l27 c27 Xh
 have ag7:kC K CN "top" "Names.top" vj ["self"]:=⟨_,_,UG,⟨a27,n27,Xh⟩,UG.binds fun _ _ _ _ _ _ us hl=>pe (fun _=>rfl) us hl⟩
 have Mh:=cJ (st:=p9) l28 c28 Xg
 have WE:kC K CN "worth" "Names.worth" p9 ["self", "term", "known"]:=⟨_,_,Mh,⟨a28,n28,Xg⟩,Mh.binds fun _ _ _ _ _ _ us hl=>mY (fun _ _ _=>rfl) us hl⟩
 have I9:=cJ (st:=mF) l29 c29 k29
 have UP:Def K mg "members" mF ["leads", "k"]:=⟨_,_,I9,aW X G a29,I9.binds fun _ _ _ _ _ _ us hl=>jw (fun _ _=>rfl) us hl⟩
 have Ja:=cJ (st:=oG) l30 c30 k30
 have Jb:Def K mg "learned" oG ["kind"]:=⟨_,_,Ja,aW X G a30,Ja.binds fun _ _ _ _ _ _ us hl=>pe (fun _=>rfl) us hl⟩
 have I8:=cJ (st:=mE) l31 c31 k31
 have UO:Def K mg "numbers" mE ["terms", "leads", "k"]:=⟨_,_,I8,aW X G a31,I8.binds fun _ _ _ _ _ _ us hl=>mY (fun _ _ _=>rfl) us hl⟩
 have UE:=cJ (st:=vi) l32 c32 k32
 have ag6:Def K mg "odds" vi ["terms", "leads"]:=⟨_,_,UE,aW X G a32,UE.binds fun _ _ _ _ _ _ us hl=>jw (fun _ _=>rfl) us hl⟩
 have Pe:=cJ (st:=se) l33 c33 k33
 have ZJ:Def K mg "marks" se ["terms", "leads"]:=⟨_,_,Pe,aW X G a33,Pe.binds fun _ _ _ _ _ _ us hl=>jw (fun _ _=>rfl) us hl⟩
 have Pb:=cJ (st:=r9) l34 c34 k34
 have ZI:Def K mg "nodes" r9 ["terms", "leads"]:=⟨_,_,Pb,aW X G a34,Pb.binds fun _ _ _ _ _ _ us hl=>jw (fun _ _=>rfl) us hl⟩
 have yJ:=cJ (st:=jg) l35 c35 k35
 have Hz:Def K mg "node_numbers" jg ["terms", "leads"]:=⟨_,_,yJ,aW X G a35,yJ.binds fun _ _ _ _ _ _ us hl=>jw (fun _ _=>rfl) us hl⟩
 have yK:=cJ (st:=jh) l36 c36 k36
 have HA:Def K mg "known_values" jh ["terms", "leads", "term"]:=⟨_,_,yK,aW X G a36,yK.binds fun _ _ _ _ _ _ us hl=>mY (fun _ _ _=>rfl) us hl⟩
 have BX:=cJ (st:=j5) l37 c37 k37
 have Mn:Def K mg "worked_out" j5 ["term", "values"]:=⟨_,_,BX,aW X G a37,BX.binds fun _ _ _ _ _ _ us hl=>jw (fun _ _=>rfl) us hl⟩
 have Dy:=cJ (st:=ly) l38 c38 k38
 have MX:Def K mg "is_number" ly ["value"]:=⟨_,_,Dy,aW X G a38,Dy.binds fun _ _ _ _ _ _ us hl=>pe (fun _=>rfl) us hl⟩
 have UB:=cJ (st:=tR) l39 c39 k39
 have ag3:Def K mg "sums" tR ["terms", "leads"]:=⟨_,_,UB,aW X G a39,UB.binds fun _ _ _ _ _ _ us hl=>jw (fun _ _=>rfl) us hl⟩
 have Mg:=cJ (st:=p8) l40 c40 k40
 have Mq:tH K mg "Scene" CE "Scene.__init__" p8 ["self", "terms", "leads"]:=⟨_,_,Mg,aW X G En,⟨A0,Ej,n40,A9⟩,Mg.binds fun _ _ _ _ _ _ us hl=>mY (fun _ _ _=>rfl) us hl⟩
 have Dw:=cJ (st:=nP) l41 c41 Xf
 have MV:kC K CE "rule_news" "Scene.rule_news" nP ["self", "rule"]:=⟨_,_,Dw,⟨IF,n41,Xf⟩,Dw.binds fun _ _ _ _ _ _ us hl=>jw (fun _ _=>rfl) us hl⟩
 have UH:=cJ (st:=vk) l42 c42 k42
 have ag8:Def K mg "news" vk ["bench", "rules"]:=⟨_,_,UH,aW X G IE,UH.binds fun _ _ _ _ _ _ us hl=>jw (fun _ _=>rfl) us hl⟩
 have Gw:=cJ (st:=mR) l43 c43 k43
 have Q2:Def K mg "do_steps" mR ["bench", "steps"]:=⟨_,_,Gw,aW X G ID,Gw.binds fun _ _ _ _ _ _ us hl=>jw (fun _ _=>rfl) us hl⟩
 have aha:QY K mg "grow" xY ["bench", "rules", "rounds", "size"] [.int 100]:=by
  refine⟨XW,_, [.int 100 ZV],⟨⟨_,_,_,_,_,_,_,_,_,_,rfl,l44,c44⟩⟩,aW X G a44,k44,?_,.cons ⟨_,rfl⟩ (.nil),?_⟩
  ·intro s us KX hl
   have t5:us.length=3:=by simpa using hl
   match us,t5 with
   | [u0,u1,u2],_=>exact kU KX rfl WV rfl rfl rfl
  ·intro s us KX hl
   have t5:us.length=4:=by simpa using hl
   match us,t5 with
   | [u0,u1,u2,u3],_=>exact kU KX rfl WV rfl rfl rfl
 have UL:=cJ (st:=vo) l45 c45 k45
 have ahb:Def K mg "_law_draw" vo ["_law_cell", "_law_prime", "_law_many"]:=⟨_,_,UL,aW X G a45,UL.binds fun _ _ _ _ _ _ us hl=>mY (fun _ _ _=>rfl) us hl⟩
 have UA:=cJ (st:=vf) l46 c46 k46
 have ag1:Def K mg "_law_word" vf ["_law_k", "_law_cell"]:=⟨_,_,UA,aW X G a46,UA.binds fun _ _ _ _ _ _ us hl=>jw (fun _ _=>rfl) us hl⟩
 have Mi:=cJ (st:=qb) l47 c47 k47
 have WG:Def K mg "_law_number" qb ["_law_cell"]:=⟨_,_,Mi,aW X G a47,Mi.binds fun _ _ _ _ _ _ us hl=>pe (fun _=>rfl) us hl⟩
 have Pg:=cJ (st:=sf) l48 c48 k48
 have ZM:Def K mg "_law_bound" sf ["_law_due"]:=⟨_,_,Pg,aW X G a48,Pg.binds fun _ _ _ _ _ _ us hl=>pe (fun _=>rfl) us hl⟩
 have IZ:=cJ (st:=mD) l49 c49 k49
 have UN:Def K mg "_law_outcome" mD ["_law_word_here", "_law_row"]:=⟨_,_,IZ,aW X G a49,IZ.binds fun _ _ _ _ _ _ us hl=>jw (fun _ _=>rfl) us hl⟩
 have Pf:=cJ (st:=lW) l50 c50 k50
 have ZL:Def K mg "_law_built" lW ["_law_cell", "_law_seed", "_law_names", "_law_pool"]:=⟨_,_,Pf,aW X G a50,Pf.binds fun _ _ _ _ _ _ us hl=>ahH (fun _ _ _ _=>rfl) us hl⟩
 have ahX:=cJ (st:=uL) l51 c51 k51
 refine⟨aO "law" "law" (bK uL) (bw uL) (aw uL) .none ab3 aeF aax aga Wm aeH,fun s v => .of_eq rfl,fun base _ _ => ?_⟩
 have Zb:ph K CB:=⟨Wl,vE,uw,sI⟩
 have Yh:tO K CH:=⟨TV,uv,sH⟩
 have Zs:BL K mg CS lq:=⟨Ip,oZ,o4,iC,iz,kR,iE,nU,ME⟩
 have Zn:LZ K CN:=⟨Iq,o6,o7,ur,uu,pI⟩
 have Ze:TopE K CE:=⟨TU,su,sG,sv,sC,sD,mU,mV⟩
 have mZ:=Sq (P:=l.prog) (w:=w) (base:=base) B WH
 have ix:=Jj (P:=l.prog) (w:=w) (base:=base) B Mo
 have kE:=GO (P:=l.prog) (w:=w) (base:=base) B Jp
 have xG:=Kw (P:=l.prog) (w:=w) (base:=base) B MY
 have qh:=CI (P:=l.prog) (w:=w) (base:=base) Zs EC
 have xH:=Kx (P:=l.prog) (w:=w) (base:=base) Zs M4
 have qi:=CJ (P:=l.prog) (w:=w) (base:=base) Zs ED
 have ma:=E6 (P:=l.prog) (w:=w) (base:=base) Zs Hy
 have vU:=Vy (P:=l.prog) (w:=w) (base:=base) B Zs Mp
 have G3:=Sn (P:=l.prog) (w:=w) (base:=base) B Zn ZK
 have vW:=Vw B Zn G3 Mr
 have adq:=aaH (P:=l.prog) (w:=w) (base:=base) Zs ag4
 have ads:=Y3 (P:=l.prog) (w:=w) (base:=base) B Zn ag7
 have V4:=Vu Zs mZ ix kE qh ma xH qi WD
 have V5:=Sk B Zn xG WE
 have qR:=Y9 (P:=l.prog) (w:=w) (base:=base) B ag9
 have j1:=E9 (P:=l.prog) (w:=w) (base:=base) B HB
 have xE:=Ku B qR j1 MW
 have D9:=Sr B j1 xE WI
 have oM:=P1 (P:=l.prog) (w:=w) (base:=base) B UP
 have kQ:=P0 oM UO
 have yn:=Y7 B sW kQ ag6
 have Qx:=C1 B (anp (K:=K)) (aA 3) Ip oZ o4 adq V4 oM Jb
 have zr:=C1 B (anq (K:=K)) (show 2<=3 by decide) Iq o6 o7 ads V5 oM Jb
 have u4:=Vx B qR ZJ
 have G2:=Vv B qR ZI
 have sO:=E7 sW G2 Hz
 have xF:=Kv (P:=l.prog) (w:=w) (base:=base) QO MX
 have vS:=Ji mZ ix Mn
 have sP:=E8 B mZ ix kE kQ HA
 have Lm:=Y5 B u4 sO sP vS xF ag3
 have vV:=Sl Ze u4 vU vW Qx zr Mq
 have xD:=Kt (P:=l.prog) (w:=w) (mg:=mg) (base:=base) MV
 have adu:=Za (P:=l.prog) (w:=w) (base:=base) Zb MZ
 have qO:=MF (P:=l.prog) (w:=w) (base:=base) B Zb QZ
 have qP:=C0 B Zb qO Q0 5
 have qQ:=aaI B Zb qP ahY
 have Zt:=VB Yh adu Ms
 have FG:=Zf Zb Yh qQ ahc
 have Ln:=Y6 B Zb Yh qQ ag5
 have Ll:=Y4 B Zb Yh Ln ag2
 have jT:=MG Zb Yh D9 Q1
 have Lp:=Y8 Zb Yh Ze jT yn Lm vV xD ag8
 have zt:=MJ (by decide) B Zb Yh qQ Q2
 have FF:=Zc B Zb Yh jT yn Lp zt aha
 have gN:=Zd (P:=l.prog) (w:=w) (mg:=mg) (base:=base) ahb
 have vT:=Y2 B gN ag1
 have sL:=Sm gN WG
 have Cr:=VA (P:=l.prog) (w:=w) (mg:=mg) (base:=base) ZM
 have Bx:=PZ B QN Cr UN
 have G4:=Vz B gN vT sL Bx ZL
 exact aaJ B Zb Yh gN vT sL G4 Zt Ll FG jT kQ FF ahX
theorem walk {l:Ge}{q:Program}{loose:List Str}{XP:(Str->Option Value)->Heap->Prop}{YP:World->Heap->Prop}{d:DefRec}{K:Params->ak} (hn:l.most=some 63) (hdf:d.params.defaults = [])
  (hY:∀ (w:World) (h:Heap),YP w h->(K w.params).In h)
  (F:∀ (w:World) (mg:Str->Option Value) (fa:Addr) (h:Heap),(K w.params).In h->h.Ns mainGlobals mg->mg d.name=some (.ref fa) ->
   ∃ fd:FuncData,(∀ (s:Shared) (u:Value),BindsTo s fd ⟨[u], []⟩ [("_law_script",u)])∧∀ base:Heap,(K w.params).In base->base.Ns mainGlobals mg->kz l.prog w (K w.params) mg base DB 14 fa fd ["_law_script"] (Jr (K w.params))) :
  PySem.W.WalkO q loose XP YP l.row.toRowW d [] (fun f vs=>PySem.call f vs) :=
 L2.US (n:=63) (k:=14) (x := "_law_script") (CX:=fun _=>DB) (sp:=fun w=>Jr (K w.params)) hn (by decide) hdf ⟨rfl,by decide,by decide⟩ hY F (fun _ _ a ns hl hb hS=>⟨a,ns,rfl,hS,hl,fun _=>rfl⟩) fun _ _ _ _ _ z=>z
end Up
end
open PySem PySem.W PyProof.Rows
set_option maxRecDepth 100000 in
set_option maxHeartbeats 0 in
theorem PySem.Challenge.cw_samewise_k59_sums_known_holds : PySem.Challenge.rw_samewise_k59_sums_known.Holds := by
 refine KHd.top ?_
 k_fill
 refine Up.walk (l:=PySem.Challenge.rw_samewise_k59_sums_known) rfl rfl (fun w h Y=>PySem.W.kIn_of Y) ?F
 case F =>
  intro w mg fa h KX G Fq
  refine' Up.all_mk KX G Fq ?Hr ?Ep ?Hq ?Em ?Eo ?En ?Ho ?l0 ?c0 ?k0 ?n0 ?a1 ?l1 ?t1 ?c1 ?k1 ?n1 ?a2 ?l2 ?c2 ?k2 ?n2 ?a3 ?l3 ?c3 ?k3 ?n3 ?a4 ?l4 ?c4 ?k4 ?a5 ?l5 ?c5 ?k5 ?a6 ?l6 ?c6 ?k6 ?a7 ?l7 ?c7 ?k7 ?El ?l8 ?c8 ?k8 ?n8 ?a9 ?l9 ?c9 ?k9 ?n9 ?a10 ?l10 ?c10 ?Xm ?n10 ?a11 ?l11 ?WW ?c11 ?k11 ?n11 ?a12 ?l12 ?c12 ?k12 ?a13 ?l13 ?c13 ?k13 ?a14 ?l14 ?c14 ?k14 ?a15 ?l15 ?c15 ?k15 ?a16 ?l16 ?c16 ?k16 ?a17 ?l17 ?c17 ?k17 ?a18 ?l18 ?c18 ?k18 ?a19 ?l19 ?c19 ?k19 ?a20 ?l20 ?c20 ?k20 ?GW ?GX ?GV ?GY ?Hn ?Ei ?l21 ?c21 ?k21 ?Xd ?a22 ?l22 ?c22 ?Xl ?n22 ?a23 ?l23 ?c23 ?Xk ?n23 ?a24 ?l24 ?c24 ?Xj ?n24 ?a25 ?l25 ?c25 ?Xi ?n25 ?Ek ?l26 ?c26 ?k26 ?n26 ?a27 ?l27 ?c27 ?Xh ?n27 ?a28 ?l28 ?c28 ?Xg ?n28 ?a29 ?l29 ?c29 ?k29 ?a30 ?l30 ?c30 ?k30 ?a31 ?l31 ?c31 ?k31 ?a32 ?l32 ?c32 ?k32 ?a33 ?l33 ?c33 ?k33 ?a34 ?l34 ?c34 ?k34 ?a35 ?l35 ?c35 ?k35 ?a36 ?l36 ?c36 ?k36 ?a37 ?l37 ?c37 ?k37 ?a38 ?l38 ?c38 ?k38 ?a39 ?l39 ?c39 ?k39 ?Ej ?l40 ?c40 ?k40 ?n40 ?IF ?l41 ?c41 ?Xf ?n41 ?IE ?l42 ?c42 ?k42 ?ID ?l43 ?c43 ?k43 ?a44 ?l44 ?WV ?c44 ?k44 ?a45 ?l45 ?c45 ?k45 ?a46 ?l46 ?c46 ?k46 ?a47 ?l47 ?c47 ?k47 ?a48 ?l48 ?c48 ?k48 ?a49 ?l49 ?c49 ?k49 ?a50 ?l50 ?c50 ?k50 ?IC ?l51 ?c51 ?k51 ?DT ?DV ?DR ?DY ?DP ?DM ?vE ?uw ?sI ?A7 ?Bb ?AY ?Bg ?AU ?AO ?uv ?sH ?DS ?DU ?DQ ?DX ?DO ?DL ?zS ?zT ?AZ ?A8 ?AV ?Bd ?AQ ?AL ?oZ ?o4 ?A6 ?Ba ?AX ?Bf ?AS ?AN ?o6 ?o7 ?ur ?uu ?pI ?A0 ?A9 ?AW ?Be ?AR ?AM ?su ?sG ?sv ?sC ?sD ?mU ?mV ?xJ ?BA ?xI ?xK ?vZ ?vL ?z0 ?z1 ?z2 ?z3 ?z4 ?z5 ?z6 ?z7 ?z8 ?z9 ?WN ?WM ?ZS ?ZR ?ZQ
  (case Hr=>k_is)
  (case Ep=>k_is)
  (case Hq=>k_is)
  (case Em=>k_is)
  (case Eo=>k_is)
  (case En=>k_is)
  (case Ho=>k_is)
  (case l0=>k_is)
  (case c0=>k_is)
  (case k0=>k_is)
  (case n0=>k_is)
  (case a1=>k_is)
  (case l1=>k_is)
  (case t1=>k_is)
  (case c1=>k_is)
  (case k1=>k_is)
  (case n1=>k_is)
  (case a2=>k_is)
  (case l2=>k_is)
  (case c2=>k_is)
  (case k2=>k_is)
  (case n2=>k_is)
  (case a3=>k_is)
  (case l3=>k_is)
  (case c3=>k_is)
  (case k3=>k_is)
  (case n3=>k_is)
  (case a4=>k_is)
  (case l4=>k_is)
  (case c4=>k_is)
  (case k4=>k_is)
  (case a5=>k_is)
  (case l5=>k_is)
  (case c5=>k_is)
  (case k5=>k_is)
  (case a6=>k_is)
  (case l6=>k_is)
  (case c6=>k_is)
  (case k6=>k_is)
  (case a7=>k_is)
  (case l7=>k_is)
  (case c7=>k_is)
  (case k7=>k_is)
  (case El=>k_is)
  (case l8=>k_is)
  (case c8=>k_is)
  (case k8=>k_is)
  (case n8=>k_is)
  (case a9=>k_is)
  (case l9=>k_is)
  (case c9=>k_is)
  (case k9=>k_is)
  (case n9=>k_is)
  (case a10=>k_is)
  (case l10=>k_is)
  (case c10=>k_is)
  (case Xm=>k_is)
  (case n10=>k_is)
  (case a11=>k_is)
  (case l11=>k_is)
  (case WW=>k_is)
  (case c11=>k_is)
  (case k11=>k_is)
  (case n11=>k_is)
  (case a12=>k_is)
  (case l12=>k_is)
  (case c12=>k_is)
  (case k12=>k_is)
  (case a13=>k_is)
  (case l13=>k_is)
  (case c13=>k_is)
  (case k13=>k_is)
  (case a14=>k_is)
  (case l14=>k_is)
  (case c14=>k_is)
  (case k14=>k_is)
  (case a15=>k_is)
  (case l15=>k_is)
  (case c15=>k_is)
  (case k15=>k_is)
  (case a16=>k_is)
  (case l16=>k_is)
  (case c16=>k_is)
  (case k16=>k_is)
  (case a17=>k_is)
  (case l17=>k_is)
  (case c17=>k_is)
  (case k17=>k_is)
  (case a18=>k_is)
  (case l18=>k_is)
  (case c18=>k_is)
  (case k18=>k_is)
  (case a19=>k_is)
  (case l19=>k_is)
  (case c19=>k_is)
  (case k19=>k_is)
  (case a20=>k_is)
  (case l20=>k_is)
  (case c20=>k_is)
  (case k20=>k_is)
  (case GW=>k_is)
  (case GX=>k_is)
  (case GV=>k_is)
  (case GY=>k_is)
  (case Hn=>k_is)
  (case Ei=>k_is)
  (case l21=>k_is)
  (case c21=>k_is)
  (case k21=>k_is)
  (case Xd=>k_is)
  (case a22=>k_is)
  (case l22=>k_is)
  (case c22=>k_is)
  (case Xl=>k_is)
  (case n22=>k_is)
  (case a23=>k_is)
  (case l23=>k_is)
  (case c23=>k_is)
  (case Xk=>k_is)
  (case n23=>k_is)
  (case a24=>k_is)
  (case l24=>k_is)
  (case c24=>k_is)
  (case Xj=>k_is)
  (case n24=>k_is)
  (case a25=>k_is)
  (case l25=>k_is)
  (case c25=>k_is)
  (case Xi=>k_is)
  (case n25=>k_is)
  (case Ek=>k_is)
  (case l26=>k_is)
  (case c26=>k_is)
  (case k26=>k_is)
  (case n26=>k_is)
  (case a27=>k_is)
  (case l27=>k_is)
  (case c27=>k_is)
  (case Xh=>k_is)
  (case n27=>k_is)
  (case a28=>k_is)
  (case l28=>k_is)
  (case c28=>k_is)
  (case Xg=>k_is)
  (case n28=>k_is)
  (case a29=>k_is)
  (case l29=>k_is)
  (case c29=>k_is)
  (case k29=>k_is)
  (case a30=>k_is)
  (case l30=>k_is)
  (case c30=>k_is)
  (case k30=>k_is)
  (case a31=>k_is)
  (case l31=>k_is)
  (case c31=>k_is)
  (case k31=>k_is)
  (case a32=>k_is)
  (case l32=>k_is)
  (case c32=>k_is)
  (case k32=>k_is)
  (case a33=>k_is)
  (case l33=>k_is)
  (case c33=>k_is)
  (case k33=>k_is)
  (case a34=>k_is)
  (case l34=>k_is)
  (case c34=>k_is)
  (case k34=>k_is)
  (case a35=>k_is)
  (case l35=>k_is)
  (case c35=>k_is)
  (case k35=>k_is)
  (case a36=>k_is)
  (case l36=>k_is)
  (case c36=>k_is)
  (case k36=>k_is)
  (case a37=>k_is)
  (case l37=>k_is)
  (case c37=>k_is)
  (case k37=>k_is)
  (case a38=>k_is)
  (case l38=>k_is)
  (case c38=>k_is)
  (case k38=>k_is)
  (case a39=>k_is)
  (case l39=>k_is)
  (case c39=>k_is)
  (case k39=>k_is)
  (case Ej=>k_is)
  (case l40=>k_is)
  (case c40=>k_is)
  (case k40=>k_is)
  (case n40=>k_is)
  (case IF=>k_is)
  (case l41=>k_is)
  (case c41=>k_is)
  (case Xf=>k_is)
  (case n41=>k_is)
  (case IE=>k_is)
  (case l42=>k_is)
  (case c42=>k_is)
  (case k42=>k_is)
  (case ID=>k_is)
  (case l43=>k_is)
  (case c43=>k_is)
  (case k43=>k_is)
  (case a44=>k_is)
  (case l44=>k_is)
  (case WV=>k_is)
  (case c44=>k_is)
  (case k44=>k_is)
  (case a45=>k_is)
  (case l45=>k_is)
  (case c45=>k_is)
  (case k45=>k_is)
  (case a46=>k_is)
  (case l46=>k_is)
  (case c46=>k_is)
  (case k46=>k_is)
  (case a47=>k_is)
  (case l47=>k_is)
  (case c47=>k_is)
  (case k47=>k_is)
  (case a48=>k_is)
  (case l48=>k_is)
  (case c48=>k_is)
  (case k48=>k_is)
  (case a49=>k_is)
  (case l49=>k_is)
  (case c49=>k_is)
  (case k49=>k_is)
  (case a50=>k_is)
  (case l50=>k_is)
  (case c50=>k_is)
  (case k50=>k_is)
  (case IC=>k_is)
  (case l51=>k_is)
  (case c51=>k_is)
  (case k51=>k_is)
  (case DT=>k_is)
  (case DV=>k_is)
  (case DR=>k_is)
  (case DY=>k_is)
  (case DP=>k_is)
  (case DM=>k_is)
  (case vE=>k_is)
  (case uw=>k_is)
  (case sI=>k_is)
  (case A7=>k_is)
  (case Bb=>k_is)
  (case AY=>k_is)
  (case Bg=>k_is)
  (case AU=>k_is)
  (case AO=>k_is)
  (case uv=>k_is)
  (case sH=>k_is)
  (case DS=>k_is)
  (case DU=>k_is)
  (case DQ=>k_is)
  (case DX=>k_is)
  (case DO=>k_is)
  (case DL=>k_is)
  (case zS=>k_is)
  (case zT=>k_is)
  (case AZ=>k_is)
  (case A8=>k_is)
  (case AV=>k_is)
  (case Bd=>k_is)
  (case AQ=>k_is)
  (case AL=>k_is)
  (case oZ=>k_is)
  (case o4=>k_is)
  (case A6=>k_is)
  (case Ba=>k_is)
  (case AX=>k_is)
  (case Bf=>k_is)
  (case AS=>k_is)
  (case AN=>k_is)
  (case o6=>k_is)
  (case o7=>k_is)
  (case ur=>k_is)
  (case uu=>k_is)
  (case pI=>k_is)
  (case A0=>k_is)
  (case A9=>k_is)
  (case AW=>k_is)
  (case Be=>k_is)
  (case AR=>k_is)
  (case AM=>k_is)
  (case su=>k_is)
  (case sG=>k_is)
  (case sv=>k_is)
  (case sC=>k_is)
  (case sD=>k_is)
  (case mU=>k_is)
  (case mV=>k_is)
  (case xJ=>k_is)
  (case BA=>k_is)
  (case xI=>k_is)
  (case xK=>k_is)
  (case vZ=>k_is)
  (case vL=>k_is)
  (case z0=>k_is)
  (case z1=>k_is)
  (case z2=>k_is)
  (case z3=>k_is)
  (case z4=>k_is)
  (case z5=>k_is)
  (case z6=>k_is)
  (case z7=>k_is)
  (case z8=>k_is)
  (case z9=>k_is)
  (case WN=>k_is)
  (case WM=>k_is)
  (case ZS=>k_is)
  (case ZR=>k_is)
  (case ZQ=>k_is)
#print axioms PySem.Challenge.cw_samewise_k59_sums_known_holds
