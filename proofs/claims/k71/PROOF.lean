import PyProof.Rows.All
import Wide.All
import OpenK.AllK
import Wide.FinOn
import Lean
import PyProof.EqAt
import PyProof.EqKinds
import PyProof.TupleCall
import KE.KTryMore
import KE.KIntText
import KE.RegKTryMore
import PySem.Challenge.RW_samewise_k71_orders_read
set_option Elab.async false
set_option linter.all false
namespace KHd
open PySem PySem.W PySem.Calls PyProof.Rows
theorem left_boot {p q:Program} {loose:List Str} {Xt:Shared→Bool} {α : Type} {Yf:Shared → α} {Ya:World → α} {N:Nat} (e:opening p=plainProg p.main.scope.names) (hN:Nat.ble 600 N=true) (f:∀ s,fenceModules? p s=some s)
    (h:∀ (w:World) (os:OsState),(topFrom treeTable p w N ⟨boot_heap w.params,Array.mk [],boot_drawn,boot_toks,os⟩).map (fun s=>(openSeen q loose (importedModules p.main.body) Xt true s,Yf s))=some (openGood q loose,Ya w)):LeftO p q loose Xt Yf Ya N:=fun w=>by
  obtain ⟨⟨hp,gs,d,k,os⟩,e1,e2⟩:=Option.map_eq_some_iff.mp (boot_open e hN f w)
  have e3:hp=boot_heap w.params∧gs=Array.mk []∧d=boot_drawn∧k=boot_toks:=by simpa only [Prod.mk.injEq] using e2
  obtain ⟨z1,z2,z3,z4⟩:=e3
  subst z1 z2 z3 z4
  unfold openEnds
  rw [e1]
  exact h w os
noncomputable def pickL {α : Type} (l:List α) (is:List Nat):List α := is.filterMap fun i=>l[i]?
noncomputable def prg:Program:=PySem.Challenge.pw_samewise_k71_orders_read
noncomputable def view:Program := { prg with main := { prg.main with body:=pickL prg.main.body [1,2,3,4,6,7,8,9,11,12,13,14,15,16,17,18,19,20,21,22,23,25,26,27,28,29,30,31,32,34,35,36,37,38,39,40,42,43,44,45,46,47,48,49,50,51,52,54,55,56,57,58,59,60,61,62,63,64,65,66,67,68,69,70,71] } }
theorem map_pair {α β γ : Type} {x:Option α} {f : α → β} {g : α → γ} {a : β} {b : γ} (h1:x.map f=some a) (h2:x.map g=some b):x.map (fun s=>(f s,g s))=some (a,b):=by
  cases x with
  | none=>cases h1
  | some s=>cases h1;cases h2;rfl
theorem map_fst {α β γ : Type} {x:Option α} {f : α → β} {g : α → γ} {a : β} {b : γ} (h:x.map (fun s=>(f s,g s))=some (a,b)):x.map f=some a:=by
  cases x with
  | none=>cases h
  | some s=>cases h;rfl
theorem map_snd {α β γ : Type} {x:Option α} {f : α → β} {g : α → γ} {a : β} {b : γ} (h:x.map (fun s=>(f s,g s))=some (a,b)):x.map g=some b:=by
  cases x with
  | none=>cases h
  | some s=>cases h;rfl
theorem map_and {α : Type} {x:Option α} {a b c d e f g : α → Bool} (h1:x.map a=some true) (h2:x.map (fun s=>b s && c s && d s && e s && f s && g s)=some true):x.map (fun s=>a s && b s && c s && d s && e s && f s && g s)=some true:=by
  cases x with
  | none=>cases h1
  | some s =>
    have e1:a s=true:=Option.some.inj h1
    have e2:(b s && c s && d s && e s && f s && g s)=true:=Option.some.inj h2
    simp only [Bool.and_eq_true] at e2
    show some (a s && b s && c s && d s && e s && f s && g s)=some true
    simp only [e1,e2,Bool.and_self]
noncomputable def T0 (P:Params):BT:=(((((((((((BT.nil.ins 0 (boot_o_0 P)).ins 1 (boot_o_1 P)).ins 2 (boot_o_2 P)).ins 3 (boot_o_3 P)).ins 4 (boot_o_4 P)).ins 5 (boot_o_5 P)).ins 6 (boot_o_6 P)).ins 7 (boot_o_7 P)).ins 8 (boot_o_8 P)).ins 9 (boot_o_9 P)).ins 10 (boot_o_10 P))
theorem t0_abs (P:Params):absHeap (T0 P) 11 (boot_heap P).life=boot_heap P:=by kernel_rfl
theorem t0_size (P:Params):((boot_heap P).isNs mainGlobals,(boot_heap P).objs.size,(boot_heap P).nsMap mainGlobals "__annotations__")=(true,11,some (.ref 6)):=by kernel_rfl
noncomputable def runT (tb:String→Option Builtin) (p:Program) (w:World) (n₀ : Nat) (ann:Option Value) (N:Nat):SharedT→Thread→Option SharedT :=
  Nat.rec (motive:=fun _=>SharedT→Thread→Option SharedT) (fun _ _=>none) (fun _ ih s t=>match through t with
    | true=>some s
    | false=>match stepOk n₀ ann t with
      | false=>none
      | true=>match stepT (denote tb) p w s t with
        | some (s',t')=>ih s' t'
        | none=>none) N
theorem runT_succ {tb:String→Option Builtin} {p:Program} {w:World} {n₀ : Nat} {ann:Option Value} {n:Nat} {s:SharedT} {t:Thread}:runT tb p w n₀ ann (n+1) s t=(match through t with
    | true=>some s
    | false=>match stepOk n₀ ann t with
      | false=>none
      | true=>match stepT (denote tb) p w s t with
        | some (s',t')=>runT tb p w n₀ ann n s' t'
        | none=>none):=rfl
theorem runT_of {tb:String→Option Builtin} {p:Program} {w:World} {n₀ : Nat} {ann:Option Value}:∀ {n:Nat} {s s':SharedT} {t:Thread},runT tb p w n₀ ann n s t=some s'→topRun tb p w n₀ ann n s.abs t=some s'.abs
  | 0,_,_,_,h=>by cases h
  | n+1,s,s',t,h=>by
    rw [runT_succ] at h
    unfold topRun
    cases he:through t with
    | true=>rw [he] at h;cases h;rfl
    | false =>
      rw [he] at h
      cases hk:stepOk n₀ ann t with
      | false=>rw [hk] at h;cases h
      | true =>
        rw [hk] at h
        cases hs:stepT (denote tb) p w s t with
        | none=>rw [hs] at h;cases h
        | some r=>obtain ⟨s₂,t₂⟩:=r;rw [hs] at h;rw [stepT_spec hs];exact runT_of h
noncomputable def runW (p:Program) (w:World) (N:Nat) (os:OsState):Option SharedT:=runT treeTable p w 11 (some (.ref 6)) N ⟨T0 w.params,11,(boot_heap w.params).life,Array.mk [],boot_drawn,boot_toks,os⟩ (topStub p)
theorem from_T {p:Program} {w:World} {N:Nat} {os:OsState} {α : Type} {F:Shared → α} {G : α} (hc:(runW p w N os).map (fun s=>staticsOk (importedModules p.main.body) (boot_heap w.params) s.abs.heap && namesBound p s.abs.heap && gensDone s.abs && laidKept (boot_heap w.params) s.abs.heap)=some true) (h:(runW p w N os).map (fun s=>F s.abs)=some G) :
    (topFrom treeTable p w N ⟨boot_heap w.params,Array.mk [],boot_drawn,boot_toks,os⟩).map F=some G:=by
  cases hr:runW p w N os with
  | none=>rw [hr] at h;cases h
  | some s =>
    rw [hr] at h hc
    have e1:F s.abs=G:=Option.some.inj h
    have e2:(staticsOk (importedModules p.main.body) (boot_heap w.params) s.abs.heap && namesBound p s.abs.heap && gensDone s.abs && laidKept (boot_heap w.params) s.abs.heap)=true:=Option.some.inj hc
    have r:=runT_of hr
    have ea:(SharedT.abs ⟨T0 w.params,11,(boot_heap w.params).life,Array.mk [],boot_drawn,boot_toks,os⟩)=⟨boot_heap w.params,Array.mk [],boot_drawn,boot_toks,os⟩:=by
      unfold SharedT.abs
      dsimp only
      rw [t0_abs]
    rw [ea] at r
    obtain ⟨z1,z2,z3⟩:_∧_∧_:=by simpa only [Prod.mk.injEq] using t0_size w.params
    have t:topFrom treeTable p w N ⟨boot_heap w.params,Array.mk [],boot_drawn,boot_toks,os⟩=some s.abs:=by
      unfold topFrom
      dsimp only
      rw [z1,z2,z3,r]
      show (match staticsOk (importedModules p.main.body) (boot_heap w.params) s.abs.heap && namesBound p s.abs.heap && gensDone s.abs && laidKept (boot_heap w.params) s.abs.heap with | true=>_ | false=>_)=_
      rw [e2]
    rw [t]
    exact congrArg some e1
set_option maxRecDepth 100000 in
set_option maxHeartbeats 0 in
theorem chk (w:World) (os:OsState):(runW PySem.Challenge.rw_samewise_k71_orders_read.prog w 6214 os).map (fun s=>staticsOk (importedModules PySem.Challenge.rw_samewise_k71_orders_read.prog.main.body) (boot_heap w.params) s.abs.heap && namesBound PySem.Challenge.rw_samewise_k71_orders_read.prog s.abs.heap && gensDone s.abs && laidKept (boot_heap w.params) s.abs.heap)=some true:=by kernel_rfl
set_option maxRecDepth 100000 in
set_option maxHeartbeats 0 in
theorem q0T (w:World) (os:OsState):(runW PySem.Challenge.rw_samewise_k71_orders_read.prog w 6214 os).map (fun s=>seen ((recsOf view).map (·.name)) (ownsOf view) [] { s.abs with gens := #[] })=some (expectedOf view):=by kernel_rfl
set_option maxRecDepth 100000 in
set_option maxHeartbeats 0 in
theorem qaT (w:World) (os:OsState):(runW PySem.Challenge.rw_samewise_k71_orders_read.prog w 6214 os).map (fun s=>(s.abs.heap.bltView,s.abs.heap.accountedOkI (importedModules PySem.Challenge.rw_samewise_k71_orders_read.prog.main.body) && s.abs.heap.isNs mainGlobals && s.abs.heap.isNs builtinsNs && tablesOk view s.abs.heap && (xlAt view [] s.abs && recOk (RowW.records PySem.Challenge.rw_samewise_k71_orders_read.row.toRowW) s.abs) && (if true then s.abs.gens.size == 0 else !leftWithCleanup s.abs.gens),pinSeenD view (drecsOf view) s.abs,plainSeenD view [] s.abs,clsSeenW view [] s.abs))=some ((bltViewBooted,true,pinGoodD (drecsOf view),plainGoodD view [],clsGoodW view [])):=by kernel_rfl
set_option maxRecDepth 100000 in
set_option maxHeartbeats 0 in
theorem q2T (w:World) (os:OsState):(runW PySem.Challenge.rw_samewise_k71_orders_read.prog w 6214 os).map (fun s=>s.abs.heap.keysOk (looseW view []) ((recsOf view).map (·.name)) ((litsOf view).map (·.1)) ((clssOf view (looseW view [])).map (·.name)))=some (true):=by kernel_rfl
set_option maxRecDepth 100000 in
set_option maxHeartbeats 0 in
theorem q3T (w:World) (os:OsState):(runW PySem.Challenge.rw_samewise_k71_orders_read.prog w 6214 os).map (fun s=>tabsOk view s.abs)=some (true):=by kernel_rfl
set_option maxRecDepth 100000 in
set_option maxHeartbeats 0 in
theorem q5T (w:World) (os:OsState):(runW PySem.Challenge.rw_samewise_k71_orders_read.prog w 6214 os).map (fun s=>plainSeenE view (looseW view []) s.abs)=some (plainGoodE view (looseW view [])):=by kernel_rfl
set_option maxRecDepth 100000 in
set_option maxHeartbeats 0 in
theorem q7T (w:World) (os:OsState):(runW PySem.Challenge.rw_samewise_k71_orders_read.prog w 6214 os).map (fun s=>wideSeen view s.abs)=some (wideGood view):=by kernel_rfl
theorem q0 (w:World) (os:OsState):(topFrom treeTable PySem.Challenge.rw_samewise_k71_orders_read.prog w 6214 ⟨boot_heap w.params,Array.mk [],boot_drawn,boot_toks,os⟩).map (fun s=>seen ((recsOf view).map (·.name)) (ownsOf view) [] { s with gens := #[] })=some (expectedOf view):=from_T (chk w os) (q0T w os)
theorem qa (w:World) (os:OsState):(topFrom treeTable PySem.Challenge.rw_samewise_k71_orders_read.prog w 6214 ⟨boot_heap w.params,Array.mk [],boot_drawn,boot_toks,os⟩).map (fun s=>(s.heap.bltView,s.heap.accountedOkI (importedModules PySem.Challenge.rw_samewise_k71_orders_read.prog.main.body) && s.heap.isNs mainGlobals && s.heap.isNs builtinsNs && tablesOk view s.heap && (xlAt view [] s && recOk (RowW.records PySem.Challenge.rw_samewise_k71_orders_read.row.toRowW) s) && (if true then s.gens.size == 0 else !leftWithCleanup s.gens),pinSeenD view (drecsOf view) s,plainSeenD view [] s,clsSeenW view [] s))=some ((bltViewBooted,true,pinGoodD (drecsOf view),plainGoodD view [],clsGoodW view [])):=from_T (chk w os) (qaT w os)
theorem q2 (w:World) (os:OsState):(topFrom treeTable PySem.Challenge.rw_samewise_k71_orders_read.prog w 6214 ⟨boot_heap w.params,Array.mk [],boot_drawn,boot_toks,os⟩).map (fun s=>s.heap.keysOk (looseW view []) ((recsOf view).map (·.name)) ((litsOf view).map (·.1)) ((clssOf view (looseW view [])).map (·.name)))=some (true):=from_T (chk w os) (q2T w os)
theorem q3 (w:World) (os:OsState):(topFrom treeTable PySem.Challenge.rw_samewise_k71_orders_read.prog w 6214 ⟨boot_heap w.params,Array.mk [],boot_drawn,boot_toks,os⟩).map (fun s=>tabsOk view s)=some (true):=from_T (chk w os) (q3T w os)
theorem q5 (w:World) (os:OsState):(topFrom treeTable PySem.Challenge.rw_samewise_k71_orders_read.prog w 6214 ⟨boot_heap w.params,Array.mk [],boot_drawn,boot_toks,os⟩).map (fun s=>plainSeenE view (looseW view []) s)=some (plainGoodE view (looseW view [])):=from_T (chk w os) (q5T w os)
theorem q7 (w:World) (os:OsState):(topFrom treeTable PySem.Challenge.rw_samewise_k71_orders_read.prog w 6214 ⟨boot_heap w.params,Array.mk [],boot_drawn,boot_toks,os⟩).map (fun s=>wideSeen view s)=some (wideGood view):=from_T (chk w os) (q7T w os)
theorem seenOk (w:World) (os:OsState):(topFrom treeTable PySem.Challenge.rw_samewise_k71_orders_read.prog w 6214 ⟨boot_heap w.params,Array.mk [],boot_drawn,boot_toks,os⟩).map (fun s=>openSeen view [] (importedModules PySem.Challenge.rw_samewise_k71_orders_read.prog.main.body) (fun s=>xlAt view [] s && recOk (RowW.records PySem.Challenge.rw_samewise_k71_orders_read.row.toRowW) s) true s)=some (openGood view []) :=
  map_pair (q0 w os) (map_pair (map_fst (qa w os)) (map_pair (map_and (q2 w os) (map_fst (map_snd (qa w os)))) (map_pair (q3 w os) (map_pair (map_fst (map_snd (map_snd (qa w os)))) (map_pair (q5 w os) (map_pair (map_fst (map_snd (map_snd (map_snd (qa w os))))) (map_pair (q7 w os) (map_snd (map_snd (map_snd (map_snd (qa w os))))))))))))
local macro_rules | `(tactic| o_head $H) => `(tactic| (refine holds_open (q:=view) (loose := []) (Xt:=fun s=>xlAt view [] s && recOk (RowW.records PySem.Challenge.rw_samewise_k71_orders_read.row.toRowW) s) (XP:=XL view []) (Yf:=Hook.obs $H) (Ya:=Hook.val $H) (YP:=Hook.says $H) (N:=6214) ?hl (Hook.of $H) (Hook.keeps $H) (fun s e=>xl_of s (Bool.and_eq_true_iff.mp e).1) XL.keeps (by rfl) (by rfl) (by rfl) (fun s e=>recFacts_of (Bool.and_eq_true_iff.mp e).2) (by rfl) (by first | assumption | decide +kernel) (by decide +kernel) ⟨rfl,rfl,rfl,rfl,rfl,by decide +kernel⟩ ?hw ?hc;case hl=>(refine left_boot (by rfl) (by decide) (fun s=>by rfl) ?_;intro w os;refine map_pair (seenOk w os) (from_T (chk w os) ?_);kernel_rfl)))
set_option maxRecDepth 100000 in
set_option maxHeartbeats 0 in
open_top top for PySem.Challenge.rw_samewise_k71_orders_read
end KHd
set_option Elab.async false
set_option linter.all false
set_option maxRecDepth 100000
set_option maxHeartbeats 4000000
namespace L2
open PySem PySem.Spec PyProof.Rows

noncomputable abbrev Key:=Sum Int Str
noncomputable def keyIs:Key→Value→Bool
  | .inl k,v=>Value.isInt k v
  | .inr x,v=>Value.isStrOf x v
noncomputable def keyH (w:World):Key→Int
  | .inl k=>hashInt k
  | .inr x=>hashStr w x
theorem keyIs_shape:∀ {k:Key} {v:Value},keyIs k v=true→(∃ i t,k=Sum.inl i∧v=Value.int i t)∨(∃ x t,k=Sum.inr x∧v=Value.str x t)
  | .inl i,v,h=>by
    obtain ⟨t,e⟩:=Value.isInt_shape (k:=i) (v:=v) h
    exact .inl ⟨i,t,rfl,e⟩
  | .inr x,v,h=>by
    obtain ⟨t,e⟩:=Value.isStrOf_shape (x:=x) (v:=v) h
    exact .inr ⟨x,t,rfl,e⟩
theorem keyIs_int (i:Int) (t:Tok):keyIs (.inl i) (.int i t)=true:=by simp [keyIs,Value.isInt]
theorem keyIs_str (x:Str) (t:Tok):keyIs (.inr x) (.str x t)=true:=by simp [keyIs,Value.isStrOf]
theorem key_ll (a b:Int):decide ((Sum.inl a:Key)=Sum.inl b)=(a == b):=by
  by_cases e:a=b
  · subst e;simp
  · have h:¬ (Sum.inl a:Key)=Sum.inl b:=fun q=>e (Sum.inl.inj q)
    rw [decide_eq_false h]
    exact (beq_eq_false_iff_ne.mpr e).symm
theorem key_rr (a b:Str):decide ((Sum.inr a:Key)=Sum.inr b)=decide (a=b):=by
  by_cases e:a=b
  · subst e;simp
  · have h:¬ (Sum.inr a:Key)=Sum.inr b:=fun q=>e (Sum.inr.inj q)
    rw [decide_eq_false h,decide_eq_false e]
theorem key_lr (a:Int) (b:Str):decide ((Sum.inl a:Key)=Sum.inr b)=false:=decide_eq_false (fun q=>nomatch q)
theorem key_rl (a:Str) (b:Int):decide ((Sum.inr a:Key)=Sum.inl b)=false:=decide_eq_false (fun q=>nomatch q)

noncomputable def mixKind (prog:Program) (w:World):PySem.KeyKind prog w Key where
  is:=keyIs
  hash:=keyH w
  inj:=fun v a b ha hb=>by
    rcases keyIs_shape ha with ⟨i,t,rfl,rfl⟩ | ⟨x,t,rfl,rfl⟩
    · rcases keyIs_shape hb with ⟨j,u,rfl,e⟩ | ⟨y,u,rfl,e⟩
      · injection e with e1 _;rw [e1]
      · exact nomatch e
    · rcases keyIs_shape hb with ⟨j,u,rfl,e⟩ | ⟨y,u,rfl,e⟩
      · exact nomatch e
      · injection e with e1 _;rw [e1]
  byValue:=fun k v h=>by
    rcases keyIs_shape h with ⟨i,t,rfl,rfl⟩ | ⟨x,t,rfl,rfl⟩ <;> rfl
  pyHash:=fun hv h=>by
    rcases keyIs_shape hv with ⟨i,t,rfl,rfl⟩ | ⟨x,t,rfl,rfl⟩
    · exact wpAny_pyHash_int h
    · exact wpAny_pyHash_str h
  eqBool:=fun hu hv h=>by
    rcases keyIs_shape hu with ⟨i,t,rfl,rfl⟩ | ⟨x,t,rfl,rfl⟩
    · rcases keyIs_shape hv with ⟨j,u,rfl,rfl⟩ | ⟨y,u,rfl,rfl⟩
      · rw [key_ll] at h;exact wpAny_eqBool_int h
      · rw [key_lr] at h;exact SeqAt.EqAt.int_str i t y u _ _ _ _ h
    · rcases keyIs_shape hv with ⟨j,u,rfl,rfl⟩ | ⟨y,u,rfl,rfl⟩
      · rw [key_rl] at h;exact SeqAt.EqAt.str_int x t j u _ _ _ _ h
      · rw [key_rr] at h;exact wpAny_eqBool_str h
  «strs» := fun k x t v h=>by
    rcases keyIs_shape h with ⟨i,u,rfl,e⟩ | ⟨y,u,rfl,e⟩
    · exact nomatch e
    · injection e with e1 _
      subst e1
      cases v <;> rfl

theorem mixKind_int (prog:Program) (w:World) (i:Int) (t:Tok):(mixKind prog w).is (.inl i) (.int i t)=true:=keyIs_int i t
theorem mixKind_str (prog:Program) (w:World) (x:Str) (t:Tok):(mixKind prog w).is (.inr x) (.str x t)=true:=keyIs_str x t
end L2

namespace L2
open PySem PySem.Spec PyProof.Rows

inductive V where
  | non | bl (b:Bool) | int (i:Int) | str (x:Str) | byt (b:Array UInt8) | flt (b:UInt64) | ref (a:Addr) | ty (n:String)
  deriving DecidableEq

noncomputable def RelV:V→Value→Prop
  | .non,u=>u=Value.none
  | .bl b,u=>u=Value.bool b
  | .int i,u=>∃ t,u=Value.int i t
  | .str x,u=>∃ t,u=Value.str x t
  | .byt b,u=>∃ t,u=Value.bytes b t
  | .flt b,u=>∃ t,u=Value.float b t
  | .ref a,u=>u=Value.ref a
  | .ty n,u=>u=Value.type n

noncomputable abbrev Vals:List V→List Value→Prop:=Paired RelV
theorem Vals.length {xs:List V} {us:List Value} (r:Vals xs us):xs.length=us.length:=Paired.length r
theorem Vals.get:∀ {xs:List V} {us:List Value} {i:Nat} {x:V},Vals xs us→xs[i]? = some x→∃ u,us[i]? = some u∧RelV x u
  | _,_,_,_,.nil,e=>by simp at e
  | _,_,0,_,.cons r _,e=>by simp at e;subst e;exact ⟨_,rfl,r⟩
  | _,_,i+1,x,.cons _ t,e=>by
    obtain ⟨u,h1,h2⟩:=Vals.get (i:=i) (x:=x) t (by simpa using e)
    exact ⟨u,by simpa using h1,h2⟩
theorem Vals.append:∀ {xs ys:List V} {us ws:List Value},Vals xs us→Vals ys ws→Vals (xs ++ ys) (us ++ ws)
  | _,_,_,_,.nil,s=>s
  | _,_,_,_,.cons r t,s => .cons r (Vals.append t s)
theorem Vals.take:∀ {xs:List V} {us:List Value} (n:Nat),Vals xs us→Vals (xs.take n) (us.take n)
  | _,_,0,_ => .nil
  | _,_,_+1,.nil => .nil
  | _,_,n+1,.cons r t => .cons r (Vals.take n t)
theorem Vals.drop:∀ {xs:List V} {us:List Value} (n:Nat),Vals xs us→Vals (xs.drop n) (us.drop n)
  | _,_,0,r=>r
  | _,_,_+1,.nil => .nil
  | _,_,n+1,.cons _ t=>Vals.drop n t

noncomputable def RelO:Option V→Option Value→Prop
  | some v,some u=>RelV v u
  | none,none=>True
  | _,_=>False
noncomputable def KV {κ : Type}:List (κ × V)→List (κ × Value)→Prop:=Paired fun (p : κ × V) (q : κ × Value)=>p.1=q.1∧RelV p.2 q.2

noncomputable def kV:Key→V
  | .inl i => .int i
  | .inr x => .str x

inductive HO where
    | lst (xs:List V)
    | tup (xs:List V)
    | dK (kvs:List (Key × V)) | dT (kvs:List (List Key × V))
    | set (S:Int→Bool) (n:Nat)
    | ins (C dx:Addr) (fs:List (Str × V))
    | own (x:Addr)
    | xd (fs:List (Str × V))
    | met (f x:Addr)
    | rng (lo hi:Int)
    | frz (o:Obj) (u:HO)
    | tbl (ps:Array Value)
    | ext (φ : Heap→Prop)

noncomputable abbrev Hp:=Addr→Option HO
noncomputable def upd (H:Hp) (a:Addr) (o:HO):Hp:=fun b=>if b=a then some o else H b
theorem upd_same {H:Hp} {a:Addr} {o:HO}:upd H a o a=some o:=by unfold upd;rw [if_pos rfl]
theorem upd_ne {H:Hp} {a b:Addr} {o:HO} (h:b≠a):upd H a o b=H b:=by unfold upd;rw [if_neg h]
theorem upd_upd {H:Hp} {a:Addr} {o u:HO}:upd (upd H a o) a u=upd H a u:=by
  funext b;unfold upd;split <;> rfl
theorem ne_of {H:Hp} {a b:Addr} {o u:HO} (h:H a=some o) (h':H b=some u) (d:o≠u):a≠b:=by
  intro e;subst e;rw [h] at h';exact d (Option.some.inj h')
theorem ne_of_none {H:Hp} {a b:Addr} {o:HO} (h:H a=some o) (h':H b=none):a≠b:=by
  intro e;subst e;rw [h] at h';cases h'

noncomputable def IsTupN (h:Heap) (a:Addr) (items:Array Value):Prop := ∃ o,h.get? a=some o∧o.cls = .type "tuple" ∧ ∃ n,o.data = .seq items n∧o.dict=none
theorem IsTupN.tup {h:Heap} {a:Addr} {items:Array Value} (x:IsTupN h a items):IsTup h a items:=let ⟨o,e,c,n,d,_⟩:=x; ⟨o,e,c,n,d⟩
theorem IsTupN.new (h:Heap) (items:Array Value):IsTupN (h.push { cls := .type "tuple",data := .seq items }) h.objs.size items:=⟨_,Heap.get?_push_size _ rfl,rfl,_,rfl,rfl⟩
section
variable (P:Program) (w:World)
noncomputable def ObjOk (H:Hp) (h:Heap) (a:Addr):HO→Prop
  | .lst xs=>xs.length≤sizeLine∧∃ (its:List Value) (n:Nat),Vals xs its∧h.get? a=some { cls := .type "list",data := .seq its.toArray n }
  | .tup xs=>xs.length≤sizeLine∧∃ its:List Value,Vals xs its∧IsTupN h a its.toArray
  | .dK kvs=>kvs.length≤sizeLine∧(a == sysModules)=false∧∃ vs,KV kvs vs∧h.DictOf (mixKind P w) a vs
  | .dT kvs=>kvs.length≤sizeLine∧(a == sysModules)=false∧∃ xs:List (List Key × Addr × Value),
      Paired (fun (p:List Key × V) (q:List Key × Addr × Value)=>p.1=q.1∧H q.2.1=some (.tup (p.1.map kV))∧RelV p.2 q.2.2) kvs xs ∧
      ∃ o es ep,h.get? a=some o∧o.ExactDict∧o.data = .dict es ep∧es.toList=xs.map (entryOfKey (tupleKind (mixKind P w)))∧(xs.map (·.1)).Nodup
  | .set S n=>h.SetOf (intKind P w) a S n
  | .ins C dx fs=>H dx=some (.own a)∧fs.length≤1000∧dx≠a∧h.get? a=some (PySem.W.instObj C dx) ∧
      ∃ mA,h.Ns1 dx mA∧(∀ f,RelO (fs.lookup f) (mA f))∧PySem.Within mA (fs.map (·.1))
  | .own _=>∃ o,h.get? a=some o
  | .xd fs=>∃ mA,h.Ns1 a mA∧∀ f,RelO (fs.lookup f) (mA f)
  | .rng lo hi=>∃ t u v,h.get? a=some { cls := .type "range",data := .fields #[.int lo t,.int hi u,.int 1 v] }
  | .frz o u=>h.get? a=some o∧ObjOk H h a u
  | .tbl ps=>h.get? a=some { cls := .none,data := .fields ps }
  | .met f x=>h.get? a=some (PySem.W.methodObj (.ref f) (.ref x))
  | .ext φ => φ h∧(∃ o,h.get? a=some o)∧∀ h1 h2:Heap, φ h1→(∀ o,h1.get? a=some o→h2.get? a=some o) → φ h2
noncomputable def HOk (H:Hp) (h:Heap):Prop := ∀ a o,H a=some o→ObjOk P w H h a o
end

section
variable {P:Program} {w:World} {H H':Hp} {h h':Heap} {a:Addr} {o:HO}
theorem ObjOk.lt (x:ObjOk P w H h a o):a < h.objs.size:=by
  cases o with
  | lst xs=>obtain ⟨_,_,_,_,e⟩:=x;exact Heap.lt_size e
  | tup xs=>obtain ⟨_,_,_,p⟩:=x;exact p.tup.lt
  | dK kvs=>obtain ⟨_,_,_,_,o,_,_,e,_⟩:=x;exact Heap.lt_size e
  | dT kvs=>obtain ⟨_,_,_,_,o,_,_,e,_⟩:=x;exact Heap.lt_size e
  | set S n=>obtain ⟨o,_,_,_,e,_⟩:=x;exact Heap.lt_size e
  | ins C dx fs=>obtain ⟨_,_,_,e,_⟩:=x;exact Heap.lt_size e
  | own y=>obtain ⟨_,e⟩:=x;exact Heap.lt_size e
  | xd fs=>obtain ⟨_,⟨_,_,_,e,_⟩,_⟩:=x;exact Heap.lt_size e
  | rng lo hi=>obtain ⟨_,_,_,e⟩:=x;exact Heap.lt_size e
  | frz ob u=>obtain ⟨e,_⟩:=x;exact Heap.lt_size e
  | tbl ps=>exact Heap.lt_size (show h.get? a=some _ from x)
  | met f y=>exact Heap.lt_size (show h.get? a=some _ from x)
  | ext φ => obtain ⟨_,⟨_,e⟩,_⟩:=x;exact Heap.lt_size e
theorem Paired.mapP {α β : Type} {F G : α → β → Prop}:∀ {l₁ : List α} {l₂ : List β},Paired F l₁ l₂ → (∀ a b,F a b→G a b)→Paired G l₁ l₂
  | _,_,.nil,_ => .nil
  | _,_,.cons r t,f => .cons (f _ _ r) (Paired.mapP t f)
theorem ObjOk.stay (x:ObjOk P w H h a o) (k:∀ b u,(b=a∨H b=some (.own a))→h.get? b=some u→h'.get? b=some u)
    (ho:∀ b,H b=some (.own a)→H' b=some (.own a)) (ht:∀ b xs,H b=some (.tup xs)→H' b=some (.tup xs)):ObjOk P w H' h' a o:=by
  induction o with
  | lst xs=>obtain ⟨z,its,n,r,e⟩:=x;exact ⟨z,its,n,r,k _ _ (.inl rfl) e⟩
  | tup xs=>obtain ⟨z,its,r,ob,e,c⟩:=x;exact ⟨z,its,r,ob,k _ _ (.inl rfl) e,c⟩
  | dK kvs=>obtain ⟨z,y,vs,r,ob,es,ep,e,c⟩:=x;exact ⟨z,y,vs,r,ob,es,ep,k _ _ (.inl rfl) e,c⟩
  | dT kvs =>
    obtain ⟨z,y,xs,r,ob,es,ep,e,c⟩:=x
    exact ⟨z,y,xs,Paired.mapP r fun p q z=>⟨z.1,ht _ _ z.2.1,z.2.2⟩,ob,es,ep,k _ _ (.inl rfl) e,c⟩
  | set S n=>obtain ⟨ob,es,ep,t,e,c⟩:=x;exact ⟨ob,es,ep,t,k _ _ (.inl rfl) e,c⟩
  | ins C dx fs =>
    obtain ⟨d,z,ne,e,mA,⟨od,es,ep,e2,c⟩,r⟩:=x
    exact ⟨ho _ d,z,ne,k _ _ (.inl rfl) e,mA,⟨od,es,ep,k _ _ (.inr d) e2,c⟩,r⟩
  | own y=>obtain ⟨ob,e⟩:=x;exact ⟨ob,k _ _ (.inl rfl) e⟩
  | xd fs=>obtain ⟨mA,⟨od,es,ep,e,c⟩,r⟩:=x;exact ⟨mA,⟨od,es,ep,k _ _ (.inl rfl) e,c⟩,r⟩
  | rng lo hi=>obtain ⟨t,u,v,e⟩:=x;exact ⟨t,u,v,k _ _ (.inl rfl) e⟩
  | frz ob u ih=>obtain ⟨e,q⟩:=x;exact ⟨k _ _ (.inl rfl) e,ih q⟩
  | tbl ps =>
    have e:h.get? a=some { cls := .none,data := .fields ps }:=x
    show h'.get? a=some { cls := .none,data := .fields ps }
    exact k a _ (.inl rfl) e
  | met f y =>
    have e:h.get? a=some (PySem.W.methodObj (.ref f) (.ref y)):=x
    show h'.get? a=some (PySem.W.methodObj (.ref f) (.ref y))
    exact k a _ (.inl rfl) e
  | ext φ => obtain ⟨p,⟨o,e⟩,st⟩:=x;exact ⟨st _ _ p fun o q=>k _ _ (.inl rfl) q,⟨o,k _ _ (.inl rfl) e⟩,st⟩
theorem HOk.lt (x:HOk P w H h) (e:H a=some o):a < h.objs.size:=(x a o e).lt
theorem HOk.fresh (x:HOk P w H h) (e:h.objs.size≤a):H a=none:=by
  cases q:H a with
  | none=>rfl
  | some u=>exact absurd (Nat.lt_of_lt_of_le (x.lt q) e) (Nat.lt_irrefl _)
theorem HOk.kept (x:HOk P w H h) (k:∀ b u,h.get? b=some u→h'.get? b=some u):HOk P w H h':=fun a o e =>
  (x a o e).stay (fun b u _ q=>k b u q) (fun _ q=>q) fun _ _ q=>q
theorem HOk.laid (x:HOk P w H h) (k:∀ b u,h.get? b=some u→h'.get? b=some u) (hp:h.objs.size≤a) (new:ObjOk P w (upd H a o) h' a o):HOk P w (upd H a o) h':=fun b u e=>by
  have hn:=x.fresh hp
  by_cases hb:b=a
  · subst hb;rw [upd_same] at e;cases e;exact new
  · rw [upd_ne hb] at e
    exact (x b u e).stay (fun c v _ q=>k c v q) (fun c q=>by rw [upd_ne (ne_of_none q hn)];exact q) fun c xs q=>by rw [upd_ne (ne_of_none q hn)];exact q
end

noncomputable def Rd (H:Hp) (a:Addr) (u:HO):Prop:=H a=some u∨∃ o,H a=some (.frz o u)
theorem Rd.ok {P:Program} {w:World} {H:Hp} {h:Heap} {a:Addr} {u:HO} (r:Rd H a u) (x:HOk P w H h):ObjOk P w H h a u:=by
  rcases r with r | ⟨o,r⟩
  · exact x a u r
  · obtain ⟨_,q⟩:=x a _ r
    exact q
noncomputable def Mut:Option HO→Prop
  | some (.lst _)=>True
  | some (.dK _)=>True
  | some (.dT _)=>True
  | some (.set _ _)=>True
  | some (.ins _ _ _)=>True
  | some (.ext _)=>True
  | _=>False
section
variable {P:Program} {w:World} {H:Hp} {h h':Heap} {x e:Addr} {o':HO}
theorem HOk.write (ok:HOk P w H h) (mu:Mut (H x)) (he:e=x∨H e=some (.own x)) (k:∀ b u,b≠e→h.get? b=some u→h'.get? b=some u) (heo:∃ u,h'.get? e=some u)
    (new:ObjOk P w (upd H x o') h' x o'):HOk P w (upd H x o') h':=fun b u q=>by
  have nown:∀ c y,H c=some (.own y)→c≠x:=fun c y r z=>by subst z;rw [r] at mu;exact mu
  have ntup:∀ c xs,H c=some (.tup xs)→c≠x:=fun c xs r z=>by subst z;rw [r] at mu;exact mu
  by_cases hb:b=x
  · subst hb;rw [upd_same] at q;cases q;exact new
  · rw [upd_ne hb] at q
    by_cases hbe:b=e
    · have q':H b=some (.own x):=by
        rcases he with z | z
        · exact absurd (hbe.trans z) hb
        · rw [hbe];exact z
      rw [q] at q';cases q'
      obtain ⟨v,hv⟩:=heo
      exact ⟨v,by rw [hbe];exact hv⟩
    · refine (ok b u q).stay (fun c v hc r=>k c v ?_ r) (fun c r=>by rw [upd_ne (nown c b r)];exact r) fun c xs r=>by rw [upd_ne (ntup c xs r)];exact r
      rcases hc with rfl | hc
      · exact hbe
      · rintro rfl
        rcases he with z | z
        · exact nown c b hc z
        · rw [hc] at z;cases z;exact hb rfl
end

structure Un (fs ex:List Addr) (H H':Hp) (h h':Heap):Prop where
  keep:∀ b o,h.get? b=some o→H b=none→b ∉ fs→b ∉ ex→h'.get? b=some o
  slot:∀ b o,h.get? b=some o→H b=none→b∈fs→b ∉ ex→∃ sl,h'.get? b=some { o with slots:=sl }
  free:∀ b o,h.get? b=some o→H b=none→b ∉ ex→H' b=none
  there:∀ b o,h.get? b=some o→b ∉ ex→∃ o',h'.get? b=some o'
  tups:∀ b xs,H b=some (.tup xs)→H' b=some (.tup xs)
  frzs:∀ b o u,H b=some (.frz o u)→H' b=some (.frz o u)
  tbls:∀ b ps,H b=some (.tbl ps)→∃ more,H' b=some (.tbl (ps ++ more))
section
variable {fs fs' ex ex':List Addr} {H H1 H2:Hp} {h h1 h2 h':Heap} {a x e:Addr} {o:HO}
theorem Un.any (u:Un fs ex H H1 h h1) {b:Addr} {ob:Obj} (q:h.get? b=some ob) (n:H b=none) (hx:b ∉ ex):∃ sl,h1.get? b=some { ob with slots:=sl }:=by
  by_cases hb:b∈fs
  · exact u.slot b ob q n hb hx
  · exact ⟨ob.slots,u.keep b ob q n hb hx⟩
theorem Un.kept (k:∀ b u,h.get? b=some u→h'.get? b=some u):Un fs ex H H h h' :=
  ⟨fun b ob q _ _ _=>k b ob q,fun b ob q _ _ _=>⟨ob.slots,k b ob q⟩,fun _ _ _ n _=>n,fun b ob q _=>⟨ob,k b ob q⟩,fun _ _ q=>q,fun _ _ _ q=>q,fun _ ps q=>⟨#[],by rw [q];simp⟩⟩
theorem Un.refl:Un fs ex H H h h:=Un.kept fun _ _ q=>q
theorem Un.laid (k:∀ b u,h.get? b=some u→h'.get? b=some u) (hp:h.objs.size≤a) (hn:H a=none):Un fs ex H (upd H a o) h h' where
  keep:=fun b u q _ _ _=>k b u q
  slot:=fun b u q _ _ _=>⟨u.slots,k b u q⟩
  free:=fun b u q n _=>by rw [upd_ne (Nat.ne_of_lt (Nat.lt_of_lt_of_le (Heap.lt_size q) hp))];exact n
  there:=fun b u q _=>⟨u,k b u q⟩
  tups:=fun b xs q=>by rw [upd_ne (ne_of_none q hn)];exact q
  frzs:=fun b u xs q=>by rw [upd_ne (ne_of_none q hn)];exact q
  tbls:=fun b ps q=>⟨#[],by rw [upd_ne (ne_of_none q hn),q];simp⟩
theorem Un.write (mu:Mut (H x)) (he:e=x∨H e=some (.own x)) (k:∀ b u,b≠e→h.get? b=some u→h'.get? b=some u) (heo:∃ u,h'.get? e=some u):Un fs ex H (upd H x o) h h':=by
  have hx:∀ b,H b=none→b≠x:=fun b n z=>by subst z;rw [n] at mu;exact mu
  have hb:∀ b,H b=none→b≠e:=fun b n z=>by
    subst z
    rcases he with r | r
    · exact hx b n r
    · rw [n] at r;cases r
  have hm:∀ b u,H b=some u→¬ Mut (some u)→b≠x:=fun b u q nm z=>by subst z;rw [q] at mu;exact nm mu
  refine ⟨fun b u q n _ _=>k b u (hb b n) q,fun b u q n _ _=>⟨u.slots,k b u (hb b n) q⟩,fun b u q n _=>by rw [upd_ne (hx b n)];exact n,fun b u q _ => ?_,
    fun b xs q=>by rw [upd_ne (hm b _ q fun z=>z)];exact q,fun b u xs q=>by rw [upd_ne (hm b _ q fun z=>z)];exact q,fun b ps q=>⟨#[],by rw [upd_ne (hm b _ q fun z=>z),q];simp⟩⟩
  by_cases hbe:b=e
  · subst hbe;exact heo
  · exact ⟨u,k b u hbe q⟩
end

noncomputable def trk (h:Heap) (H:Hp):List Addr:=(List.range h.objs.size).filter fun a=>(H a).isSome
noncomputable def hidT (h:Heap) (H:Hp):Heap:=PySem.W.hideAll h (trk h H)
theorem hidT_size (h:Heap) (H:Hp):(hidT h H).objs.size=h.objs.size:=PySem.W.hideAll_size _ _
theorem hidT_get {h:Heap} {H:Hp} {b:Addr} {o:Obj} (e:h.get? b=some o) (n:H b=none):(hidT h H).get? b=some o :=
  PySem.W.hideAll_get _ e fun hm=>by
    have q:(H b).isSome=true:=(List.mem_filter.mp hm).2
    rw [n] at q;simp at q
theorem of_hidT {h:Heap} {H:Hp} {b:Addr} {o:Obj} (e:(hidT h H).get? b=some o):h.get? b=some o∧H b=none:=by
  have e':h.get? b=some o:=PySem.W.of_hideAll (trk h H) e
  refine ⟨e',?_⟩
  cases q:H b with
  | none=>rfl
  | some x =>
    have hm:b∈trk h H:=List.mem_filter.mpr ⟨List.mem_range.mpr (Heap.lt_size e'),by simp [q]⟩
    have z:(hidT h H).get? b=none:=PySem.W.hideAll_none (trk h H) hm
    rw [z] at e;cases e

end L2

namespace L2
open PySem PySem.Spec PyProof.Rows

structure Mod (K:PySem.W.Frag) (mg:Str→Option Value) (base:Heap):Prop where
  kin:K.In base
  glob:base.Ns mainGlobals mg
  blt:∃ mb,base.Ns builtinsNs mb∧∀ x:Str,x ≠ "__name__" → mb x=bootBuiltins x
  nolimit:base.NoLimit

structure Cx where
  prog:Program
  w:World
  K:PySem.W.Frag
  mg:Str→Option Value
  base:Heap
  A:Around
  N:List Str
  s₀ : Shared
  H₀ : Hp
  env:Env
  outer:List Env
  stack:List Env
  ex:List Addr
  fn:Str→Bool
  calm:Bool
  pn:List (Addr × Obj)
  xe:Value→Shared→Prop
noncomputable def frs (l:List Env):List Addr:=l.filterMap (·.frame)
noncomputable abbrev Cx.fs (X:Cx):List Addr:=frs X.outer

noncomputable def Vis (sc:Scope) (x:Str):Prop:=sc.names.lookup x=some .local∨sc.names.lookup x=some .cell∨sc.names.lookup x=some .free
noncomputable def Loc (sc:Scope) (x:Str):Prop:=sc.names.lookup x=some .local∨sc.names.lookup x=some .cell
noncomputable def Look (env:Env) (h:Heap) (m:Str→Option Value) (x:Str) (u:Value):Prop :=
  (env.kindOf x=some .local∧m x=some u)∨((env.kindOf x=some .cell∨env.kindOf x=some .free)∧∃ c,env.cells.lookup x=some c∧h.IsCell c (some u))

structure Cx.Ok (X:Cx):Prop where
  mod:Mod X.K X.mg X.base
  kind:X.env.scope.kind = .function
  glob:X.env.globals=mainGlobals
  blt:X.env.builtins=builtinsNs
  above:X.s₀.heap.objs.size≤X.env.locals
  inj:∀ x y c,X.env.cells.lookup x=some c→X.env.cells.lookup y=some c→x=y
  has:∀ x,(X.env.kindOf x=some .cell∨X.env.kindOf x=some .free)→∃ c,X.env.cells.lookup x=some c
  cab:∀ x c,X.fn x=true→X.env.cells.lookup x=some c→X.s₀.heap.objs.size≤c
  hd:X.calm=true→X.A.handled=none
  frames:X.A.frames=some X.stack
  stk:X.stack=X.outer∨(X.stack=X.env :: X.outer∧X.env.frame=some X.env.locals)
  exf:∀ b∈X.ex,b≠X.env.locals∧∀ x c,X.env.cells.lookup x=some c→c≠b
  bs:∀ b o,X.base.get? b=some o→X.s₀.heap.get? b=some o∧X.H₀ b=none
  bsz:X.base.objs.size≤X.s₀.heap.objs.size
  noex:∀ b o,X.base.get? b=some o→b ∉ X.ex
  exfs:∀ b∈X.ex,b ∉ X.fs
  funs:X.s₀.heap.FunFrames X.base X.outer
  frf:∀ b∈X.fs,X.H₀ b=none

structure Inv (X:Cx) (pins:List (Addr × Obj)) (σ : List (Option V)) (H:Hp) (s:Shared):Prop where
  ok:X.Ok
  os:s.os=X.s₀.os
  bare:AllBare s.gens
  base:Un X.fs X.ex X.H₀ H X.s₀.heap s.heap
  loc:∃ m,s.heap.Ns X.env.locals m∧∀ (i:Nat) (x:Str) (v:V),X.N[i]? = some x → σ[i]? = some (some v)→Vis X.env.scope x→∃ u,RelV v u∧Look X.env s.heap m x u
  cell:∀ x c,X.env.cells.lookup x=some c→∃ v,s.heap.IsCell c v
  free:H X.env.locals=none
  freeC:∀ x c,X.env.cells.lookup x=some c→H c=none
  pin:∀ p∈X.pn ++ pins,s.heap.get? p.1=some p.2∧H p.1=none∧p.1≠X.env.locals∧p.1 ∉ X.fs∧∀ v,p.2.data ≠ .cell v
  hok:HOk X.prog X.w H s.heap
  len : σ.length=X.N.length

section
variable {X:Cx} {pins:List (Addr × Obj)} {σ : List (Option V)} {H H':Hp} {s:Shared} {h':Heap}

theorem Cx.Ok.nofr (ok:X.Ok) {b:Addr} {o:Obj} (e:X.base.get? b=some o):b ∉ X.fs:=fun hb=>by
  have:=(ok.funs.mem hb).1
  rw [e] at this;cases this
theorem Inv.bs (I:Inv X pins σ H s):∀ b o,X.base.get? b=some o→s.heap.get? b=some o∧H b=none:=fun b o e =>
  ⟨I.base.keep b o (I.ok.bs b o e).1 (I.ok.bs b o e).2 (I.ok.nofr e) (I.ok.noex b o e),I.base.free b o (I.ok.bs b o e).1 (I.ok.bs b o e).2 (I.ok.noex b o e)⟩
theorem Inv.bk (I:Inv X pins σ H s):∀ b o,X.base.get? b=some o→s.heap.get? b=some o:=fun b o e=>(I.bs b o e).1
theorem Inv.mod (I:Inv X pins σ H s):Mod X.K X.mg X.base:=I.ok.mod
theorem Inv.kIn (I:Inv X pins σ H s):X.K.In s.heap:=I.ok.mod.kin.keeps I.bk
theorem Inv.lt (I:Inv X pins σ H s):X.env.locals < s.heap.objs.size:=let ⟨_,hn,_⟩:=I.loc;hn.lt
theorem Inv.sz (I:Inv X pins σ H s):X.s₀.heap.objs.size≤s.heap.objs.size:=Nat.le_trans I.ok.above (Nat.le_of_lt I.lt)
theorem Inv.nofs (I:Inv X pins σ H s) {a:Addr} (h:s.heap.objs.size≤a):a ∉ X.fs:=fun hb=>by
  obtain ⟨_,o,ho,_⟩:=I.ok.funs.mem hb
  exact absurd (Nat.lt_of_lt_of_le (Heap.lt_size ho) (Nat.le_trans I.sz h)) (Nat.lt_irrefl _)
theorem Inv.cne (I:Inv X pins σ H s):∀ x c,X.env.cells.lookup x=some c→c≠X.env.locals:=fun x c e z=>by
  obtain ⟨v,o,ho,hd⟩:=I.cell x c e
  obtain ⟨m,⟨o',es,ep,ho',hd',_⟩,_⟩:=I.loc
  rw [z,ho'] at ho;cases ho;rw [hd'] at hd;cases hd
theorem Inv.funs (I:Inv X pins σ H s):s.heap.FunFrames X.base X.outer:=by
  have all:∀ (l:List Env),(∀ b∈frs l,b∈X.fs)→X.s₀.heap.FunFrames X.base l→s.heap.FunFrames X.base l:=by
    intro l
    induction l with
    | nil=>intro _ _;trivial
    | cons env r ih =>
      intro hs hl
      obtain ⟨hk,⟨L,o,hf,hn,ho,hd⟩,hr⟩:=hl
      have hL:L∈X.fs:=hs L (by unfold frs;rw [List.filterMap_cons,hf];exact List.mem_cons_self)
      obtain ⟨sl,e⟩:=I.base.slot L o ho (I.ok.frf L hL) hL fun z=>I.ok.exfs L z hL
      exact ⟨hk,⟨L,_,hf,hn,e,hd⟩,ih (fun b hb=>hs b (by unfold frs;rw [List.filterMap_cons,hf];exact List.mem_cons_of_mem _ hb)) hr⟩
  exact all X.outer (fun _ hb=>hb) I.ok.funs

theorem Inv.stack (I:Inv X pins σ H s):s.heap.FunFrames X.base X.stack:=by
  rcases I.ok.stk with e | ⟨e,hf⟩
  · rw [e];exact I.funs
  · rw [e]
    obtain ⟨m,hn,_⟩:=I.loc
    refine .cons (by rw [I.ok.kind];decide) hf hn ?_ I.funs
    exact Heap.get?_none_of_le (Nat.le_trans I.ok.bsz I.ok.above)
theorem Inv.stkSub (I:Inv X pins σ H s):∀ b∈frs X.stack,b∈X.env.locals :: X.fs:=fun b hb=>by
  rcases I.ok.stk with e | ⟨e,hf⟩
  · rw [e] at hb;exact List.mem_cons_of_mem _ hb
  · rw [e] at hb
    unfold frs at hb
    rw [List.filterMap_cons,hf] at hb
    exact hb
theorem Inv.stkFree (I:Inv X pins σ H s):∀ b∈frs X.stack,H b=none:=fun b hb=>by
  rcases List.mem_cons.mp (I.stkSub b hb) with e | hb
  · rw [e];exact I.free
  · obtain ⟨_,o,ho,_⟩:=I.ok.funs.mem hb
    exact I.base.free b o ho (I.ok.frf b hb) fun z=>I.ok.exfs b z hb

theorem Inv.step {g':Array GenState} {t':Nat} {d':Drawn} {ch:List Addr} (I:Inv X pins σ H s)
    (hch:∀ b∈ch,(b∈X.ex∨X.s₀.heap.objs.size≤b)∧b≠X.env.locals∧(∀ x c,X.env.cells.lookup x=some c→c≠b)∧∀ p∈X.pn ++ pins,p.1≠b)
    (keep:∀ b o,b≠X.env.locals→b ∉ X.fs→b ∉ ch→s.heap.get? b=some o→H b=none→h'.get? b=some o)
    (slot:∀ b o,b≠X.env.locals→b∈X.fs→b ∉ ch→s.heap.get? b=some o→H b=none→∃ sl,h'.get? b=some { o with slots:=sl }) (free:∀ b o,b ∉ ch→s.heap.get? b=some o→H b=none→H' b=none)
    (there:∀ b o,b ∉ ch→s.heap.get? b=some o→∃ o',h'.get? b=some o')
    (tups:∀ b xs,H b=some (.tup xs)→H' b=some (.tup xs)) (frzs:∀ b o u,H b=some (.frz o u)→H' b=some (.frz o u)) (tbls:∀ b ps,H b=some (.tbl ps)→∃ more,H' b=some (.tbl (ps ++ more)))
    (ns:∀ m,s.heap.Ns X.env.locals m→h'.Ns X.env.locals m) (hok:HOk X.prog X.w H' h') (hg:AllBare g') :
    Inv X pins σ H' { s with heap:=h',gens:=g',drawn:=d',toks:=t' }:=by
  have neL:∀ b o,X.s₀.heap.get? b=some o→b≠X.env.locals:=fun b o e=>Nat.ne_of_lt (Nat.lt_of_lt_of_le (Heap.lt_size e) I.ok.above)
  have neC:∀ b o,X.s₀.heap.get? b=some o→b ∉ X.ex→b ∉ ch:=fun b o e hx hb=>by
    rcases (hch b hb).1 with z | z
    · exact hx z
    · exact absurd (Nat.lt_of_lt_of_le (Heap.lt_size e) z) (Nat.lt_irrefl _)
  have cellK:∀ x c,X.env.cells.lookup x=some c→∀ v,s.heap.IsCell c v→h'.IsCell c v:=fun x c e v ⟨o,ho,hd⟩=>by
    have nch:c ∉ ch:=fun z=>(hch c z).2.2.1 x c e rfl
    by_cases hc:c∈X.fs
    · obtain ⟨sl,q⟩:=slot c o (I.cne x c e) hc nch ho (I.freeC x c e)
      exact ⟨_,q,hd⟩
    · exact ⟨o,keep c o (I.cne x c e) hc nch ho (I.freeC x c e),hd⟩
  refine ⟨I.ok,I.os,hg,⟨fun b o e n hb hx => ?_,fun b o e n hb hx => ?_,fun b o e n hx => ?_,fun b o e hx => ?_,fun b xs e=>tups b xs (I.base.tups b xs e),fun b o xs e=>frzs b o xs (I.base.frzs b o xs e),fun b ps e => ?_⟩,?_,fun x c e => ?_,?_,fun x c e => ?_,fun p hp => ?_,hok,I.len⟩
  · exact keep b o (neL b o e) hb (neC b o e hx) (I.base.keep b o e n hb hx) (I.base.free b o e n hx)
  · obtain ⟨sl,e1⟩:=I.base.slot b o e n hb hx
    obtain ⟨sl',e2⟩:=slot b _ (neL b o e) hb (neC b o e hx) e1 (I.base.free b o e n hx)
    exact ⟨sl',e2⟩
  · obtain ⟨o',e1⟩:=I.base.there b o e hx
    exact free b o' (neC b o e hx) e1 (I.base.free b o e n hx)
  · obtain ⟨o',e1⟩:=I.base.there b o e hx
    exact there b o' (neC b o e hx) e1
  · obtain ⟨m1,e1⟩:=I.base.tbls b ps e
    obtain ⟨m2,e2⟩:=tbls b _ e1
    exact ⟨m1 ++ m2,by rw [e2,Array.append_assoc]⟩
  · obtain ⟨m,hn,hl⟩:=I.loc
    refine ⟨m,ns m hn,fun i x v e1 e2 e3 => ?_⟩
    obtain ⟨u,r,l⟩:=hl i x v e1 e2 e3
    refine ⟨u,r,?_⟩
    rcases l with l | ⟨k,c,e,z⟩
    · exact .inl l
    · exact .inr ⟨k,c,e,cellK x c e _ z⟩
  · obtain ⟨v,z⟩:=I.cell x c e
    exact ⟨v,cellK x c e v z⟩
  · obtain ⟨m,⟨o,_,_,ho,_⟩,_⟩:=I.loc
    exact free _ o (fun z=>(hch _ z).2.1 rfl) ho I.free
  · obtain ⟨v,o,ho,hd⟩:=I.cell x c e
    exact free c o (fun z=>(hch c z).2.2.1 x c e rfl) ho (I.freeC x c e)
  · obtain ⟨e,n,ne,nf,d⟩:=I.pin p hp
    have nch:p.1 ∉ ch:=fun z=>(hch p.1 z).2.2.2 p hp rfl
    exact ⟨keep p.1 p.2 ne nf nch e n,free p.1 p.2 nch e n,ne,nf,d⟩
theorem Inv.un {t':Nat} (I:Inv X pins σ H s) (u:Un X.fs [] H H' s.heap h') (hok:HOk X.prog X.w H' h'):Inv X pins σ H' { s with heap:=h',toks:=t' }:=by
  obtain ⟨m,⟨o,es,ep,ho,r⟩,_⟩:=id I.loc
  obtain ⟨sl,hL⟩:=u.any ho I.free (by simp)
  exact I.step (g':=s.gens) (d':=s.drawn) (ch := []) (fun _ z=>nomatch z) (fun b o _ hb _ e n=>u.keep b o e n hb (by simp)) (fun b o _ hb _ e n=>u.slot b o e n hb (by simp)) (fun b o _ e n=>u.free b o e n (by simp)) (fun b o _ e=>u.there b o e (by simp)) u.tups u.frzs u.tbls (fun m' hm=>by
    obtain ⟨o',es',ep',ho',r'⟩:=hm
    rw [ho] at ho';cases ho'
    exact ⟨_,es',ep',hL,r'⟩) hok I.bare
theorem Inv.call {g':Array GenState} {t':Nat} {d':Drawn} {ch:List Addr} (I:Inv X pins σ H s) (u:Un (frs X.stack) ch H H' s.heap h') (hok:HOk X.prog X.w H' h') (hg:AllBare g')
    (hch:∀ b∈ch,(b∈X.ex∨X.s₀.heap.objs.size≤b)∧b≠X.env.locals∧(∀ x c,X.env.cells.lookup x=some c→c≠b)∧∀ p∈X.pn ++ pins,p.1≠b) :
    Inv X pins σ H' { s with heap:=h',gens:=g',drawn:=d',toks:=t' }:=by
  obtain ⟨m,⟨o,es,ep,ho,r⟩,_⟩:=id I.loc
  obtain ⟨sl,hL⟩:=u.any ho I.free fun z=>(hch _ z).2.1 rfl
  exact I.step (ch:=ch) hch (fun b o hL hb hc e n=>u.keep b o e n (fun z=>(List.mem_cons.mp (I.stkSub b z)).elim hL hb) hc) (fun b o _ _ hc e n=>u.any e n hc) (fun b o hc e n=>u.free b o e n hc) (fun b o hc e=>u.there b o e hc) u.tups u.frzs u.tbls (fun m' hm=>by
    obtain ⟨o',es',ep',ho',r'⟩:=hm
    rw [ho] at ho';cases ho'
    exact ⟨_,es',ep',hL,r'⟩) hok hg
theorem Inv.turned {t':Nat} {it:Addr} (I:Inv X pins σ H s) (k:∀ b o,b≠it→s.heap.get? b=some o→h'.get? b=some o) (hn:H it=none) (hL:it≠X.env.locals)
    (h1:it∈X.ex∨X.s₀.heap.objs.size≤it) (h2:∀ x c,X.env.cells.lookup x=some c→c≠it) (h3:∀ p∈X.pn ++ pins,p.1≠it):Inv X pins σ H { s with heap:=h',toks:=t' }:=by
  have nit:∀ b u,H b=some u→b≠it:=fun b u e z=>by rw [z,hn] at e;cases e
  refine I.step (g':=s.gens) (d':=s.drawn) (ch := [it]) (fun b hb => ?_) (fun b o _ _ hc e _=>k b o (fun z=>hc (by simp [z])) e) (fun b o _ _ hc e _=>⟨o.slots,k b o (fun z=>hc (by simp [z])) e⟩) (fun _ _ _ _ n=>n)
    (fun b o hc e=>⟨o,k b o (fun z=>hc (by simp [z])) e⟩) (fun _ _ e=>e) (fun _ _ _ e=>e) (fun b ps e=>⟨#[],by rw [e];simp⟩) (fun m hm => ?_) (fun b u e => ?_) I.bare
  · have e:b=it:=by simpa using hb
    subst e
    exact ⟨h1,hL,h2,h3⟩
  · obtain ⟨o,es,ep,ho,r⟩:=hm
    exact ⟨o,es,ep,k _ o (Ne.symm hL) ho,r⟩
  · refine (I.hok b u e).stay (fun c v hc q=>k c v ?_ q) (fun _ q=>q) fun _ _ q=>q
    rcases hc with z | z
    · rw [z];exact nit b u e
    · exact nit c _ z
theorem Inv.tok (I:Inv X pins σ H s) (t:Nat):Inv X pins σ H { s with toks:=t }:=I.un (h':=s.heap) (t':=t) Un.refl I.hok
theorem Inv.kept {t':Nat} (I:Inv X pins σ H s) (k:∀ b u,s.heap.get? b=some u→h'.get? b=some u):Inv X pins σ H { s with heap:=h',toks:=t' }:=I.un (Un.kept k) (I.hok.kept k)
theorem Inv.laid {a:Addr} {o:HO} {t':Nat} (I:Inv X pins σ H s) (k:∀ b u,s.heap.get? b=some u→h'.get? b=some u) (hp:s.heap.objs.size≤a) (new:ObjOk X.prog X.w (upd H a o) h' a o) :
    Inv X pins σ (upd H a o) { s with heap:=h',toks:=t' }:=I.un (Un.laid k hp (I.hok.fresh hp)) (I.hok.laid k hp new)
theorem Inv.write {x e:Addr} {o:HO} {t':Nat} (I:Inv X pins σ H s) (mu:Mut (H x)) (he:e=x∨H e=some (.own x)) (k:∀ b u,b≠e→s.heap.get? b=some u→h'.get? b=some u) (heo:∃ u,h'.get? e=some u)
    (new:ObjOk X.prog X.w (upd H x o) h' x o):Inv X pins σ (upd H x o) { s with heap:=h',toks:=t' }:=I.un (Un.write mu he k heo) (I.hok.write mu he k heo new)
theorem Inv.pins_of {pins':List (Addr × Obj)} (I:Inv X pins σ H s) (h:∀ p∈pins',s.heap.get? p.1=some p.2∧H p.1=none∧p.1≠X.env.locals∧p.1 ∉ X.fs∧∀ v,p.2.data ≠ .cell v):Inv X pins' σ H s :=
  ⟨I.ok,I.os,I.bare,I.base,I.loc,I.cell,I.free,I.freeC,fun p hp=>(List.mem_append.mp hp).elim (fun z=>I.pin p (List.mem_append_left _ z)) (h p),I.hok,I.len⟩

theorem nodup_ix {N:List Str} (hN:N.Nodup) {i j:Nat} {x:Str} (a:N[i]? = some x) (b:N[j]? = some x):i=j:=by
  obtain ⟨h1,e1⟩:=List.getElem?_eq_some_iff.mp a
  obtain ⟨h2,e2⟩:=List.getElem?_eq_some_iff.mp b
  exact (List.getElem_inj hN).mp (e1.trans e2.symm)

theorem store_ok2 {M:Model} {A:Around} {E:Value→Shared→Prop} {i:Nat} {x:Str} {v:V} {u:Value} {Q:Unit→Shared→Prop} (I:Inv X pins σ H s) (hN:X.N.Nodup) (hi:X.N[i]? = some x) (hx:Loc X.env.scope x) (r:RelV v u)
    (h:∀ s',Inv X pins (σ.set i (some v)) H s'→(∃ a,Heap.SameBut a s.heap s'.heap∧(a=X.env.locals∨X.env.cells.lookup x=some a))→Q () s') (hf:X.fn x=true∨X.env.scope.names.lookup x=some .local:=by first | exact .inl rfl | exact .inr rfl | assumption):wpAny M A (storeName X.env x u) Q E s:=by
  obtain ⟨m,hn,hl⟩:=id I.loc
  have hcls:(X.env.scope.kind == .class || (X.env.scope.kind == .module && X.env.locals != X.env.globals))=false:=by rw [I.ok.kind];rfl
  have hiσ : i < σ.length:=by rw [I.len];exact (List.getElem?_eq_some_iff.mp hi).1
  have cne:=I.cne
  have tracked:∀ {a:Addr} {h':Heap},(∃ o,s.heap.get? a=some o∧H a=none)→Heap.SameBut a s.heap h'→HOk X.prog X.w H h':=fun {a h'} ha hs b ob e=>by
    obtain ⟨_,_,hfree⟩:=ha
    refine (I.hok b ob e).stay (fun c w' hc q=>(hs.2 c ?_).trans q) (fun _ q=>q) fun _ _ q=>q
    rintro rfl
    rcases hc with rfl | hc
    · rw [hfree] at e;cases e
    · rw [hfree] at hc;cases hc
  rcases hx with hk | hk
  · refine wpAny_storeName_local hk hn (fun h' hn' hs => ?_) hcls
    obtain ⟨oL,_,_,hoL,_⟩:=id hn
    refine h _ ⟨I.ok,I.os,I.bare,⟨fun b o e n hb hx => ?_,fun b o e n hb hx => ?_,I.base.free,fun b o e hx => ?_,I.base.tups,I.base.frzs,I.base.tbls⟩,⟨_,hn',fun j y v' e1 e2 e3 => ?_⟩,fun y c e => ?_,I.free,I.freeC,fun p hp => ?_,tracked ⟨oL,hoL,I.free⟩ hs,by simpa using I.len⟩ ⟨_,hs,.inl rfl⟩
    · exact (hs.2 b (Nat.ne_of_lt (Nat.lt_of_lt_of_le (Heap.lt_size e) I.ok.above))).trans (I.base.keep b o e n hb hx)
    · obtain ⟨sl,e1⟩:=I.base.slot b o e n hb hx
      exact ⟨sl,(hs.2 b (Nat.ne_of_lt (Nat.lt_of_lt_of_le (Heap.lt_size e) I.ok.above))).trans e1⟩
    · obtain ⟨o',e1⟩:=I.base.there b o e hx
      exact ⟨o',(hs.2 b (Nat.ne_of_lt (Nat.lt_of_lt_of_le (Heap.lt_size e) I.ok.above))).trans e1⟩
    · by_cases hj:j=i
      · subst hj
        rw [hi] at e1;cases e1
        rw [List.getElem?_set_self hiσ] at e2
        cases e2
        exact ⟨u,r,.inl ⟨hk,by simp⟩⟩
      · rw [List.getElem?_set_ne (Ne.symm hj)] at e2
        obtain ⟨u',r',q⟩:=hl j y v' e1 e2 e3
        refine ⟨u',r',?_⟩
        rcases q with ⟨k,e⟩ | ⟨k,c,e,z⟩
        · refine .inl ⟨k,?_⟩
          have:y≠x:=fun e=>hj (nodup_ix hN e1 (e ▸ hi))
          simp [this,e]
        · exact .inr ⟨k,c,e,z.sameBut hs (cne y c e)⟩
    · obtain ⟨w',z⟩:=I.cell y c e
      exact ⟨w',z.sameBut hs (cne y c e)⟩
    · obtain ⟨e,n,ne,nf,d⟩:=I.pin p hp
      exact ⟨(hs.2 p.1 ne).trans e,n,ne,nf,d⟩
  · have hfn:X.fn x=true:=by
      rcases hf with z | z
      · exact z
      · rw [z] at hk;cases hk
    obtain ⟨c,hc⟩:=I.ok.has x (.inl hk)
    obtain ⟨w',z⟩:=I.cell x c hc
    refine wpAny_storeName_cell I.ok.kind hk hc z (fun h' hc' hs => ?_)
    obtain ⟨oc,hoc,hocd⟩:=id z
    refine h { s with heap:=h' } ⟨I.ok,I.os,I.bare,⟨fun b o e n hb hx => ?_,fun b o e n hb hx => ?_,I.base.free,fun b o e hx => ?_,I.base.tups,I.base.frzs,I.base.tbls⟩,⟨m,hn.sameBut hs (Ne.symm (cne x c hc)),fun j y v' e1 e2 e3 => ?_⟩,fun y c' e => ?_,I.free,I.freeC,fun p hp => ?_,tracked ⟨oc,hoc,I.freeC x c hc⟩ hs,by simpa using I.len⟩ ⟨c,hs,.inr hc⟩
    · exact (hs.2 b (Nat.ne_of_lt (Nat.lt_of_lt_of_le (Heap.lt_size e) (I.ok.cab x c hfn hc)))).trans (I.base.keep b o e n hb hx)
    · obtain ⟨sl,e1⟩:=I.base.slot b o e n hb hx
      exact ⟨sl,(hs.2 b (Nat.ne_of_lt (Nat.lt_of_lt_of_le (Heap.lt_size e) (I.ok.cab x c hfn hc)))).trans e1⟩
    · obtain ⟨o',e1⟩:=I.base.there b o e hx
      exact ⟨o',(hs.2 b (Nat.ne_of_lt (Nat.lt_of_lt_of_le (Heap.lt_size e) (I.ok.cab x c hfn hc)))).trans e1⟩
    · by_cases hj:j=i
      · subst hj
        rw [hi] at e1;cases e1
        rw [List.getElem?_set_self hiσ] at e2
        cases e2
        exact ⟨u,r,.inr ⟨.inl hk,c,hc,hc'⟩⟩
      · rw [List.getElem?_set_ne (Ne.symm hj)] at e2
        obtain ⟨u',r',q⟩:=hl j y v' e1 e2 e3
        refine ⟨u',r',?_⟩
        rcases q with q | ⟨k,c',e,z'⟩
        · exact .inl q
        · refine .inr ⟨k,c',e,z'.sameBut hs ?_⟩
          rintro rfl
          exact hj (nodup_ix hN e1 (I.ok.inj _ _ _ e hc ▸ hi))
    · by_cases hcc:c'=c
      · subst hcc;exact ⟨_,hc'⟩
      · obtain ⟨w2,z2⟩:=I.cell y c' e
        exact ⟨w2,z2.sameBut hs hcc⟩
    · obtain ⟨e,n,ne,nf,d⟩:=I.pin p hp
      refine ⟨(hs.2 p.1 ?_).trans e,n,ne,nf,d⟩
      intro q
      rw [q,hoc] at e
      have q':oc=p.2:=Option.some.inj e
      exact d w' (by rw [← q'];exact hocd)
theorem store_ok {M:Model} {A:Around} {E:Value→Shared→Prop} {i:Nat} {x:Str} {v:V} {u:Value} {Q:Unit→Shared→Prop} (I:Inv X pins σ H s) (hN:X.N.Nodup) (hi:X.N[i]? = some x) (hx:Loc X.env.scope x) (r:RelV v u)
    (h:∀ s',Inv X pins (σ.set i (some v)) H s'→Q () s') (hf:X.fn x=true∨X.env.scope.names.lookup x=some .local:=by first | exact .inl rfl | exact .inr rfl | assumption):wpAny M A (storeName X.env x u) Q E s :=
  store_ok2 I hN hi hx r (fun s' I' _=>h s' I') hf
theorem Inv.call' {s':Shared} {ch:List Addr} (I:Inv X pins σ H s) (ho:s'.os=s.os) (u:Un (frs X.stack) ch H H' s.heap s'.heap) (hok:HOk X.prog X.w H' s'.heap) (hg:AllBare s'.gens)
    (hch:∀ b∈ch,(b∈X.ex∨X.s₀.heap.objs.size≤b)∧b≠X.env.locals∧(∀ x c,X.env.cells.lookup x=some c→c≠b)∧∀ p∈X.pn ++ pins,p.1≠b):Inv X pins σ H' s':=by
  obtain ⟨h',g',d',t',o'⟩:=s'
  have e:o'=s.os:=ho
  subst e
  exact I.call (g':=g') (t':=t') (d':=d') u hok hg hch
end

noncomputable abbrev XK:=Value→Option Addr→Hp→Prop
noncomputable abbrev St:=List (Option V)
noncomputable abbrev VK:=V→Hp→Prop
noncomputable abbrev TE:=St→Hp→VK→Prop
noncomputable abbrev TT:=St→Hp→(Bool→Hp→Prop)→Prop
noncomputable abbrev TA:=St→Hp→(List V→Hp→Prop)→Prop
structure Ends where
  nx:St→Hp→Prop
  rt:VK
  bk:St→Hp→Prop:=fun _ _=>False
  ct:St→Hp→Prop:=fun _ _=>False
noncomputable abbrev TS:=Ends→St→Hp→Prop

noncomputable def EP (X:Cx) (pins:List (Addr × Obj)) (σ : St) (Q:VK) (u:Value) (s':Shared):Prop := ∃ v H',Inv X pins σ H' s'∧RelV v u∧Q v H'
noncomputable def TP (X:Cx) (pins:List (Addr × Obj)) (σ : St) (Q:Bool→Hp→Prop) (b:Bool) (s':Shared):Prop := ∃ H',Inv X pins σ H' s'∧Q b H'
noncomputable def AP (X:Cx) (pins:List (Addr × Obj)) (σ : St) (Q:List V→Hp→Prop) (us:List Value) (s':Shared):Prop := ∃ vs H',Inv X pins σ H' s'∧Vals vs us∧Q vs H'
noncomputable def SP (X:Cx) (pins:List (Addr × Obj)) (D:Ends) (f:Flow) (s':Shared):Prop :=
  match f with
  | .next=>∃ σ' H',Inv X pins σ' H' s'∧D.nx σ' H'
  | .brk=>∃ σ' H',Inv X pins σ' H' s'∧D.bk σ' H'
  | .cont=>∃ σ' H',Inv X pins σ' H' s'∧D.ct σ' H'
  | .ret u=>∃ v σ' H',Inv X pins σ' H' s'∧RelV v u∧D.rt v H'

noncomputable def PE (X:Cx) (e:Expr) (t:TE):Prop :=
  ∀ (pins:List (Addr × Obj)) (s:Shared) (σ : St) (H:Hp) (Q:VK),Inv X pins σ H s→t σ H Q→wpAny (model X.prog X.w) X.A (eval e X.env) (EP X pins σ Q) X.xe s
noncomputable def PT (X:Cx) (e:Expr) (t:TT):Prop :=
  ∀ (pins:List (Addr × Obj)) (s:Shared) (σ : St) (H:Hp) (Q:Bool→Hp→Prop),Inv X pins σ H s→t σ H Q→wpAny (model X.prog X.w) X.A (isTrue e X.env (eval e X.env)) (TP X pins σ Q) X.xe s
noncomputable def PW (X:Cx) (e:Expr) (t:TT):Prop :=
  ∀ (whole:Sem Value) (pins:List (Addr × Obj)) (s:Shared) (σ : St) (H:Hp) (Q:Bool→Hp→Prop),Inv X pins σ H s→t σ H Q→wpAny (model X.prog X.w) X.A (isTrue e X.env whole) (TP X pins σ Q) X.xe s
theorem PW.pt {X:Cx} {e:Expr} {t:TT} (h:PW X e t):PT X e t:=h _
noncomputable def PA (X:Cx) (es:List Expr) (t:TA):Prop :=
  ∀ (pos:Pos) (pins:List (Addr × Obj)) (s:Shared) (σ : St) (H:Hp) (Q:List V→Hp→Prop),Inv X pins σ H s→t σ H Q→wpAny (model X.prog X.w) X.A (spliced (backTo pos (starEach es X.env))) (AP X pins σ Q) X.xe s
noncomputable def PS (X:Cx) (st:Stmt) (t:TS):Prop :=
  ∀ (pins:List (Addr × Obj)) (s:Shared) (σ : St) (H:Hp) (D:Ends),Inv X pins σ H s→t D σ H→wpAny (model X.prog X.w) X.A (exec st X.env) (SP X pins D) X.xe s
noncomputable def PSs (X:Cx) (st:List Stmt) (t:TS):Prop :=
  ∀ (pins:List (Addr × Obj)) (s:Shared) (σ : St) (H:Hp) (D:Ends),Inv X pins σ H s→t D σ H→wpAny (model X.prog X.w) X.A (execs st X.env) (SP X pins D) X.xe s
theorem thn {α : Type} {t:Sem α} {Q Q' : α → Shared→Prop} {M:Model} {A:Around} {E:Value→Shared→Prop} {s:Shared} (h:wpAny M A t Q E s) (hQ:∀ a s,Q a s→Q' a s):wpAny M A t Q' E s:=wpAny_mono h hQ fun _ _ x=>x
end L2

namespace L2
open PySem PySem.Spec PyProof.Rows
section
variable {X:Cx}


inductive TVar (i:Nat) (σ : St) (H:Hp) (Q:VK):Prop
  | mk (v:V) (e : σ[i]? = some (some v)) (q:Q v H):TVar i σ H Q
noncomputable def tVar (i:Nat):TE:=fun σ H Q=>TVar i σ H Q
noncomputable def tC (v:V):TE:=fun _ H Q=>Q v H
theorem pe_var {i:Nat} {x:Str} {pos:Pos} (hN:X.N[i]? = some x) (hv:Vis X.env.scope x) (hd:(x == ("__debug__" : Str))=false:=by decide) (hcd:(x == ("__classdict__" : Str))=false:=by decide):PE X (.Name x pos) (tVar i):=by
  intro pins s σ H Q I h
  obtain ⟨v,e,h⟩:=h
  obtain ⟨m,hn,hl⟩:=I.loc
  obtain ⟨u,r,l⟩:=hl i x v hN e hv
  have fin:EP X pins σ Q u s:=⟨v,H,I,r,h⟩
  rcases l with ⟨hk,hm⟩ | ⟨hk,c,hc,hcell⟩
  · exact wpAny_Name (wpAny_loadName_local I.ok.kind hk hn hm fin) hd
  · rcases hk with hk | hk
    · exact wpAny_Name (wpAny_loadName_cell I.ok.kind hk hc hcell fin) hd
    · exact wpAny_Name (wpAny_loadName_free I.ok.kind hk hc hcell fin hcd) hd
theorem pe_int {i j pos}:PE X (.Constant (.int i) j pos) (tC (.int i)):=fun _ _ _ H _ I h=>wpAny_Constant_int ⟨.int i,H,I.tok _,⟨_,rfl⟩,h⟩
theorem pe_bl {b j pos}:PE X (.Constant (.bool b) j pos) (tC (.bl b)):=fun _ _ _ H _ I h=>Constant_bool ⟨.bl b,H,I,rfl,h⟩
theorem pe_non {j pos}:PE X (.Constant .none j pos) (tC .non):=fun _ _ _ H _ I h=>Constant_none ⟨.non,H,I,rfl,h⟩
theorem pe_str {x j pos}:PE X (.Constant (.str x) j pos) (tC (.str x)):=fun _ _ _ H _ I h=>Calls.Constant_str ⟨.str x,H,I.tok _,⟨_,rfl⟩,h⟩

noncomputable def Gl (X:Cx) (x:Str):Prop:=X.env.kindOf x=some .globalImplicit
theorem ld_glob {E:Value→Shared→Prop} {pins:List (Addr × Obj)} {s:Shared} {σ : St} {H:Hp} {x:Str} {u:Value} {pos:Pos} {Q:Value→Shared→Prop} (I:Inv X pins σ H s) (hg:Gl X x) (hm:X.mg x=some u) (h:Q u s)
    (hd:(x == ("__debug__" : Str))=false:=by decide):wpAny (model X.prog X.w) X.A (eval (.Name x pos) X.env) Q E s :=
  Calls.Name_function_global I.ok.kind hg (Calls.loadGlobal_global (by rw [I.ok.glob];exact I.mod.glob.keeps I.bk) hm h) hd
theorem ld_blt {E:Value→Shared→Prop} {pins:List (Addr × Obj)} {s:Shared} {σ : St} {H:Hp} {x:Str} {u:Value} {pos:Pos} {Q:Value→Shared→Prop} (I:Inv X pins σ H s) (hg:Gl X x) (hm:X.mg x=none) (hv:bootBuiltins x=some u) (h:Q u s)
    (hn:x ≠ "__name__" := by decide) (hd:(x == ("__debug__" : Str))=false:=by decide):wpAny (model X.prog X.w) X.A (eval (.Name x pos) X.env) Q E s:=by
  obtain ⟨mb,h1,h2⟩:=I.mod.blt
  exact Calls.Name_function_global I.ok.kind hg (Calls.loadGlobal_builtin (by rw [I.ok.glob];exact I.mod.glob.keeps I.bk) hm (by rw [I.ok.blt];exact h1.keeps I.bk) ((h2 x hn).trans hv) h) hd
theorem pe_glob {x:Str} {v:V} {u:Value} {pos:Pos} (hg:Gl X x) (hm:X.mg x=some u) (r:RelV v u) (hd:(x == ("__debug__" : Str))=false:=by decide):PE X (.Name x pos) (tC v) :=
  fun _ _ _ H _ I h=>ld_glob I hg hm ⟨v,H,I,r,h⟩ hd
theorem pe_bltn {x:Str} {v:V} {u:Value} {pos:Pos} (hg:Gl X x) (hm:X.mg x=none) (hv:bootBuiltins x=some u) (r:RelV v u) (hn:x ≠ "__name__" := by decide) (hd:(x == ("__debug__" : Str))=false:=by decide):PE X (.Name x pos) (tC v) :=
  fun _ _ _ H _ I h=>ld_blt I hg hm hv ⟨v,H,I,r,h⟩ hn hd

variable {a b:Expr} {ta tb:TE} {pos:Pos}

noncomputable def PC (X:Cx) (op:CmpOp) (a b:Expr) (t:TE):Prop :=
  ∀ (pins:List (Addr × Obj)) (s:Shared) (σ : St) (H:Hp) (Q:VK),Inv X pins σ H s→t σ H Q →
    wpAny (model X.prog X.w) X.A (eval a X.env) (fun v s₁ => wpAny (model X.prog X.w) X.A (eval b X.env) (fun u s₂ => wpAny (model X.prog X.w) X.A (compareOp op v u) (EP X pins σ Q) X.xe s₂) X.xe s₁) X.xe s
inductive J_tB (Q:Bool→Hp→Prop) (x:V) (H1:Hp):Prop
  | mk:∀ c,(x = .bl c)→(Q c H1)→J_tB Q x H1
noncomputable def tB (t:TE):TT:=fun σ H Q=>t σ H fun x H1=>J_tB Q x H1
theorem pt_cmp {op:CmpOp} {t:TE} (h:PC X op a b t) (h1:behindInMarks op b=false:=by first | exact nobehind _ (by decide) (by decide) | rfl):PT X (.Compare a [op] [b] pos) (tB t):=by
  intro pins s σ H Q I hw
  refine wpAny_isTrue_Compare1 (thn (h pins s σ H _ I hw) fun v s1 h1=>thn h1 fun u s2 h2=>thn h2 fun c s3 ⟨x,H1,I1,r1,q1⟩ => ?_) h1
  obtain ⟨d,rfl,q⟩:=q1
  cases r1
  exact wpAny_truthy_bool ⟨H1,I1,q⟩
theorem pt_val {e:Expr} {t:TE} (h:PE X e t) (he:∀ whole,isTrue e X.env whole=(do let v ← whole;standAt e.pos;holding [v] (truthy v)):=by intro _;rfl):PT X e (tB t):=by
  intro pins s σ H Q I hw
  refine isTrue_plain (thn (h pins s σ H _ I hw) fun v s1 ⟨x,H1,I1,r1,q1⟩ => ?_) (he _)
  obtain ⟨d,rfl,q⟩:=q1
  cases r1
  exact wpAny_truthy_bool ⟨H1,I1,q⟩

variable {tA tB':TT} {rest:List Expr}
noncomputable def tAnd (t u:TT):TT:=fun σ H Q=>t σ H fun c H1=>if c=true then u σ H1 Q else Q false H1
noncomputable def tOr (t u:TT):TT:=fun σ H Q=>t σ H fun c H1=>if c=true then Q true H1 else u σ H1 Q
noncomputable def tNot (t:TT):TT:=fun σ H Q=>t σ H fun c H1=>Q (!c) H1
theorem pw_and1 (ha:PT X a tA):PW X (.BoolOp .And [a] pos) tA:=by
  intro wh pins s σ H Q I h
  refine isTrue_and (thn (ha pins s σ H Q I h) fun c s1 e => ?_)
  cases c with
  | true=>exact isTrue_and_nil e
  | false=>exact e
theorem pw_or1 (ha:PT X a tA):PW X (.BoolOp .Or [a] pos) tA:=by
  intro wh pins s σ H Q I h
  refine isTrue_or (thn (ha pins s σ H Q I h) fun c s1 e => ?_)
  cases c with
  | false=>exact isTrue_or_nil e
  | true=>exact e
theorem pw_and (ha:PT X a tA) (hb:PW X (.BoolOp .And (b :: rest) pos) tB'):PW X (.BoolOp .And (a :: b :: rest) pos) (tAnd tA tB'):=by
  intro wh pins s σ H Q I h
  refine isTrue_and (thn (ha pins s σ H _ I h) fun c s1 ⟨H1,I1,q1⟩ => ?_)
  cases c with
  | true=>exact hb wh pins s1 σ H1 Q I1 q1
  | false=>exact ⟨H1,I1,q1⟩
theorem pw_or (ha:PT X a tA) (hb:PW X (.BoolOp .Or (b :: rest) pos) tB'):PW X (.BoolOp .Or (a :: b :: rest) pos) (tOr tA tB'):=by
  intro wh pins s σ H Q I h
  refine isTrue_or (thn (ha pins s σ H _ I h) fun c s1 ⟨H1,I1,q1⟩ => ?_)
  cases c with
  | true=>exact ⟨H1,I1,q1⟩
  | false=>exact hb wh pins s1 σ H1 Q I1 q1
theorem pt_not (ha:PT X a tA):PT X (.UnaryOp .Not a pos) (tNot tA):=by
  intro pins s σ H Q I h
  exact isTrue_not (ha pins s σ H (fun c H1=>Q (!c) H1) I h)
noncomputable def tAndV (ta tb:TE):TE:=fun σ H Q=>ta σ H fun x H1=>∃ c,x = .bl c∧if c=true then tb σ H1 Q else Q (.bl false) H1
theorem pe_one {op} {t:TE} (h:PE X a t):PE X (.BoolOp op [a] pos) t:=fun pins s σ H Q I hw=>BoolOp_one (h pins s σ H Q I hw)
theorem pe_and (ha:PE X a ta) (hb:PE X (.BoolOp .And (b :: rest) pos) tb):PE X (.BoolOp .And (a :: b :: rest) pos) (tAndV ta tb):=by
  intro pins s σ H Q I h
  refine BoolOp_and (thn (ha pins s σ H _ I h) fun v s1 ⟨x,H1,I1,r1,q1⟩ => ?_)
  obtain ⟨c,rfl,q1⟩:=q1
  cases r1
  refine wpAny_truthy_bool ?_
  cases c with
  | true=>exact hb pins s1 σ H1 Q I1 q1
  | false=>exact ⟨.bl false,H1,I1,rfl,q1⟩
end
end L2

namespace L2
open PySem PySem.Spec PyProof.Rows

noncomputable def SqL (K:PySem.W.Frag) (H:Hp) (a:Addr) (xs:List V):Prop :=
  Rd H a (.lst xs) ∨
    ∃ (o:Obj) (its:Array Value) (n:Nat),K.lookup a=some o∧o.cls = .type "list" ∧ o.dict=none∧o.data = .seq its n∧its.size≤sizeLine∧Vals xs its.toList
noncomputable def SqT (K:PySem.W.Frag) (H:Hp) (a:Addr) (xs:List V):Prop :=
  Rd H a (.tup xs) ∨
    ∃ (o:Obj) (its:Array Value) (n:Nat),K.lookup a=some o∧o.cls = .type "tuple" ∧ o.data = .seq its n∧its.size≤sizeLine∧Vals xs its.toList
noncomputable def absV:Value→Option V
  | .none=>some .non
  | .bool b=>some (.bl b)
  | .int i _=>some (.int i)
  | .str x _=>some (.str x)
  | .bytes b _=>some (.byt b)
  | .float b _=>some (.flt b)
  | .ref a=>some (.ref a)
  | .type n=>some (.ty n)
  | _=>none
theorem RelV.abs {x:V} {u:Value} (r:RelV x u):absV u=some x:=by
  cases x with
  | non=>cases r;rfl
  | bl _=>cases r;rfl
  | int _=>obtain ⟨t,rfl⟩:=r;rfl
  | str _=>obtain ⟨t,rfl⟩:=r;rfl
  | byt _=>obtain ⟨t,rfl⟩:=r;rfl
  | flt _=>obtain ⟨t,rfl⟩:=r;rfl
  | ref _=>cases r;rfl
  | ty _=>cases r;rfl
theorem RelV.inj {x y:V} {u:Value} (r:RelV x u) (q:RelV y u):x=y:=Option.some.inj (r.abs.symm.trans q.abs)
theorem Vals.inj:∀ {xs ys:List V} {us:List Value},Vals xs us→Vals ys us→xs=ys
  | _,_,_,.nil,.nil=>rfl
  | _,_,_,.cons r t,.cons r' t'=>by rw [r.inj r',Vals.inj t t']
section
variable {X:Cx} {pins:List (Addr × Obj)} {σ : St} {H:Hp} {s:Shared} {a:Addr} {xs ys:List V}
theorem SqL.of {K:PySem.W.Frag} (h:H a=some (.lst xs)):SqL K H a xs := .inl (.inl h)
theorem SqT.of {K:PySem.W.Frag} (h:H a=some (.tup xs)):SqT K H a xs := .inl (.inl h)
theorem Inv.list (I:Inv X pins σ H s) (h:SqL X.K H a xs):∃ its:List Value,Vals xs its∧PlainL s.heap a its.toArray∧xs.length≤sizeLine:=by
  rcases h with h | ⟨o,its,n,hk,hc,hd,hs,hz,r⟩
  · obtain ⟨z,its,n,r,e⟩:=h.ok I.hok
    exact ⟨its,r,⟨_,n,e,rfl,rfl,rfl⟩,z⟩
  · refine ⟨its.toList,r,⟨o,n,I.kIn a o hk,hc,hd,by simpa using hs⟩,?_⟩
    have e:=r.length
    simp only [Array.length_toList] at e
    omega
theorem Inv.tuple (I:Inv X pins σ H s) (h:SqT X.K H a xs):∃ its:List Value,Vals xs its∧IsTup s.heap a its.toArray∧xs.length≤sizeLine:=by
  rcases h with h | ⟨o,its,n,hk,hc,hs,hz,r⟩
  · obtain ⟨z,its,r,p⟩:=h.ok I.hok
    exact ⟨its,r,p.tup,z⟩
  · refine ⟨its.toList,r,⟨o,I.kIn a o hk,hc,n,by simpa using hs⟩,?_⟩
    have e:=r.length
    simp only [Array.length_toList] at e
    omega
theorem Inv.list_inj (I:Inv X pins σ H s) (h:SqL X.K H a xs) (h':SqL X.K H a ys):xs=ys:=by
  obtain ⟨its,r,⟨o,n,e,_,_,d⟩,_⟩:=I.list h
  obtain ⟨its',r',⟨o',n',e',_,_,d'⟩,_⟩:=I.list h'
  rw [e] at e';cases e'
  rw [d] at d'
  injection d' with d1 _
  have:its=its':=by simpa using congrArg Array.toList d1
  subst this
  exact r.inj r'
theorem Inv.tuple_inj (I:Inv X pins σ H s) (h:SqT X.K H a xs) (h':SqT X.K H a ys):xs=ys:=by
  obtain ⟨its,r,⟨o,e,_,n,d⟩,_⟩:=I.tuple h
  obtain ⟨its',r',⟨o',e',_,n',d'⟩,_⟩:=I.tuple h'
  rw [e] at e';cases e'
  rw [d] at d'
  injection d' with d1 _
  have:its=its':=by simpa using congrArg Array.toList d1
  subst this
  exact r.inj r'
end

noncomputable abbrev Cx.wish (X:Cx) (E:Value→Shared→Prop):Cx := { X with xe:=E }
noncomputable abbrev Cx.nox (X:Cx):Cx:=X.wish fun _ _=>False
theorem Cx.Ok.wish {X:Cx} (ok:X.Ok) (E:Value→Shared→Prop):(X.wish E).Ok :=
  ⟨ok.mod,ok.kind,ok.glob,ok.blt,ok.above,ok.inj,ok.has,ok.cab,ok.hd,ok.frames,ok.stk,ok.exf,ok.bs,ok.bsz,ok.noex,ok.exfs,ok.funs,ok.frf⟩
theorem Cx.Ok.unwish {X:Cx} {E:Value→Shared→Prop} (ok:(X.wish E).Ok):X.Ok :=
  ⟨ok.mod,ok.kind,ok.glob,ok.blt,ok.above,ok.inj,ok.has,ok.cab,ok.hd,ok.frames,ok.stk,ok.exf,ok.bs,ok.bsz,ok.noex,ok.exfs,ok.funs,ok.frf⟩
section
variable {X:Cx} {pins:List (Addr × Obj)} {σ : St} {H:Hp} {s:Shared} {E:Value→Shared→Prop}
theorem Inv.wish (I:Inv X pins σ H s) (E:Value→Shared→Prop):Inv (X.wish E) pins σ H s:=⟨I.ok.wish E,I.os,I.bare,I.base,I.loc,I.cell,I.free,I.freeC,I.pin,I.hok,I.len⟩
theorem Inv.unwish (I:Inv (X.wish E) pins σ H s):Inv X pins σ H s:=⟨I.ok.unwish,I.os,I.bare,I.base,I.loc,I.cell,I.free,I.freeC,I.pin,I.hok,I.len⟩
theorem SP.unwish {D:Ends} {f:Flow} {s':Shared} (h:SP (X.wish E) pins D f s'):SP X pins D f s':=by
  cases f with
  | next=>obtain ⟨σ',H',I,q⟩:=h;exact ⟨σ',H',I.unwish,q⟩
  | brk=>obtain ⟨σ',H',I,q⟩:=h;exact ⟨σ',H',I.unwish,q⟩
  | cont=>obtain ⟨σ',H',I,q⟩:=h;exact ⟨σ',H',I.unwish,q⟩
  | ret u=>obtain ⟨v, σ',H',I,r,q⟩:=h;exact ⟨v, σ',H',I.unwish,r,q⟩
theorem PSs.nox {st:List Stmt} {t:TS} (h:PSs X.nox st t):PSs X st t:=fun pins s σ H D I hw =>
  wpAny_mono (h pins s σ H D (I.wish _) hw) (fun _ _ q=>q.unwish) fun _ _ z=>False.elim z
end

section
variable {X:Cx} {st:Stmt} {rest:List Stmt} {t u:TS} {e:Expr} {te:TE} {pos:Pos}
noncomputable def tNext:TS:=fun D σ H=>D.nx σ H
noncomputable def tSeq (t u:TS):TS:=fun D σ H=>t { D with nx:=u D } σ H
theorem pss_nil:PSs X [] tNext:=fun _ _ σ H _ I h=>wpAny_execs_nil ⟨σ,H,I,h⟩
theorem pss_cons (h1:PS X st t) (h2:PSs X rest u):PSs X (st :: rest) (tSeq t u):=by
  intro pins s σ H D I h
  refine wpAny_execs_cons (thn (h1 pins s σ H { D with nx:=u D } I h) fun f s1 q => ?_)
  cases f with
  | next =>
    obtain ⟨σ',H',I',q⟩:=q
    exact h2 pins s1 σ' H' D I' q
  | ret v=>exact q
  | brk=>exact q
  | cont=>exact q
theorem pss_one (h1:PS X st t):PSs X [st] t:=by
  intro pins s σ H D I h
  refine wpAny_execs_cons (thn (h1 pins s σ H D I h) fun f s1 q => ?_)
  cases f with
  | next=>exact wpAny_execs_nil q
  | ret v=>exact q
  | brk=>exact q
  | cont=>exact q
theorem Inv.quiet {pins:List (Addr × Obj)} {σ : St} {H:Hp} {s:Shared} (I:Inv X pins σ H s):interactive X.env=false:=by simp [interactive,I.ok.kind]
noncomputable def tDrop (te:TE):TS:=fun D σ H=>te σ H fun _ H1=>D.nx σ H1
theorem ps_expr (he:PE X e te) (hs:swapsWith e none pos.line X.env=pure false:=by rfl):PS X (.Expr e pos) (tDrop te):=by
  intro pins s σ H D I h
  exact wpAny_Expr_any (thn (he pins s σ H _ I h) fun v s1 ⟨x,H1,I1,r1,q1⟩=>⟨σ,H1,I1,q1⟩) I.quiet hs
noncomputable def tRet (te:TE):TS:=fun D σ H=>te σ H D.rt
theorem ps_ret (he:PE X e te):PS X (.Return (some e) pos) (tRet te):=by
  intro pins s σ H D I h
  exact wpAny_Return_some (thn (he pins s σ H _ I h) fun v s1 ⟨x,H1,I1,r1,q1⟩=>⟨x, σ,H1,I1,r1,q1⟩)
noncomputable def tIfS (c:TT) (t u:TS):TS:=fun D σ H=>c σ H fun b H1=>if b=true then t D σ H1 else u D σ H1
theorem ps_if {c:Expr} {a b:List Stmt} {tc:TT} (hc:PT X c tc) (ha:PSs X a t) (hb:PSs X b u):PS X (.If c a b pos) (tIfS tc t u):=by
  intro pins s σ H D I h
  refine wpAny_If (thn (hc pins s σ H _ I h) fun d s1 ⟨H1,I1,q1⟩ => ?_)
  cases d with
  | true=>exact ha pins s1 σ H1 D I1 q1
  | false=>exact hb pins s1 σ H1 D I1 q1
noncomputable def tNever:TS:=fun _ _ _=>False
theorem ps_never:PS X st tNever:=fun _ _ _ _ _ _ h=>h.elim
end

noncomputable abbrev TG:=V→St→Hp→(St→Hp→Prop)→Prop
noncomputable abbrev TGs:=List V→St→Hp→(St→Hp→Prop)→Prop
noncomputable def PG (X:Cx) (target:Expr) (t:TG):Prop :=
  ∀ (pins:List (Addr × Obj)) (s:Shared) (σ : St) (H:Hp) (v:V) (u:Value) (Q:St→Hp→Prop),Inv X pins σ H s→RelV v u→t v σ H Q →
    wpAny (model X.prog X.w) X.A (assign target X.env u) (fun _ s'=>∃ σ' H',Inv X pins σ' H' s'∧Q σ' H') X.xe s
noncomputable def PGs (X:Cx) (ts:List Expr) (t:TGs):Prop :=
  ∀ (pins:List (Addr × Obj)) (s:Shared) (σ : St) (H:Hp) (vs:List V) (us:List Value) (Q:St→Hp→Prop),Inv X pins σ H s→Vals vs us→t vs σ H Q →
    wpAny (model X.prog X.w) X.A (assignInOrder ((assignEach ts X.env).map (·.2)) us) (fun _ s'=>∃ σ' H',Inv X pins σ' H' s'∧Q σ' H') X.xe s
noncomputable abbrev TIp:=V→V→Hp→VK→Prop
noncomputable def PIp (X:Cx) (op:Operator) (t:TIp):Prop :=
  ∀ (pins:List (Addr × Obj)) (s:Shared) (σ : St) (H:Hp) (x y:V) (v u:Value) (Q:VK),Inv X pins σ H s→RelV x v→RelV y u→t x y H Q →
    wpAny (model X.prog X.w) X.A (inplaceOp op v u) (EP X pins σ Q) X.xe s
section
variable {X:Cx} {pos:Pos}
noncomputable def gName (i:Nat):TG:=fun v σ H Q=>Q (σ.set i (some v)) H
theorem pg_name {i:Nat} {x:Str} (hN:X.N.Nodup) (hi:X.N[i]? = some x) (hx:Loc X.env.scope x) (hf:X.fn x=true∨X.env.scope.names.lookup x=some .local:=by first | exact .inl rfl | exact .inr rfl | assumption):PG X (.Name x pos) (gName i):=by
  intro pins s σ H v u Q I r h
  exact wpAny_assign_Name (store_ok I hN hi hx r (fun s' I'=>⟨_,H,I',h⟩) hf)
noncomputable def gNil:TGs:=fun vs σ H Q=>vs = []∧Q σ H
inductive J_gCons (t:TG) (u:TGs) (vs:List V) (σ : St) (H:Hp) (Q:St→Hp→Prop):Prop
  | mk:∀ v r,(vs=v :: r)→(t v σ H fun σ' H'=>u r σ' H' Q)→J_gCons t u vs σ H Q
noncomputable def gCons (t:TG) (u:TGs):TGs:=fun vs σ H Q=>J_gCons t u vs σ H Q
theorem pgs_nil:PGs X [] gNil:=by
  intro pins s σ H vs us Q I r h
  obtain ⟨e,h⟩:=h
  subst e
  cases r
  exact assignInOrder_nil ⟨σ,H,I,h⟩
theorem pgs_cons {e:Expr} {es:List Expr} {t:TG} {u:TGs} (h1:PG X e t) (h2:PGs X es u)
    (hs:(assignEach (e :: es) X.env).map (·.2)=assign e X.env :: (assignEach es X.env).map (·.2):=by rfl):PGs X (e :: es) (gCons t u):=by
  intro pins s σ H vs us Q I r h
  obtain ⟨v,vr,e1,h⟩:=h
  subst e1
  cases r with
  | cons r rr =>
    rw [hs]
    refine assignInOrder_cons (thn (h1 pins s σ H _ _ _ I r h) fun _ s1 ⟨σ1,H1,I1,q1⟩ => ?_)
    exact h2 pins s1 σ1 H1 _ _ Q I1 rr q1
inductive J_gTup (K:PySem.W.Frag) (n:Nat) (t:TGs) (v:V) (σ : St) (H:Hp) (Q:St→Hp→Prop):Prop
  | mk:∀ a xs,(v = .ref a)→(SqT K H a xs)→(xs.length=n)→(t xs σ H Q)→J_gTup K n t v σ H Q
noncomputable def gTup (K:PySem.W.Frag) (n:Nat) (t:TGs):TG:=fun v σ H Q=>J_gTup K n t v σ H Q
theorem pg_tup {es:List Expr} {k:Nat} {t:TGs} {n:Nat} (hc:X.calm=true) (h:PGs X es t)
    (hn:(assignEach es X.env).length=n:=by rfl) (hst:(assignEach es X.env).findIdx? (·.1)=none:=by rfl):PG X (.Tuple es k pos) (gTup X.K n t):=by
  intro pins s σ H v u Q I r hw
  obtain ⟨a,xs,e1,hq,hl,hw⟩:=hw
  subst e1
  cases r
  obtain ⟨its,rv,ht,hz⟩:=I.tuple hq
  refine assign_Tuple_tuple (I.ok.hd hc) ht (by simp [hn, ← hl,rv.length]) hst fun h' hx => ?_
  have I1:Inv X pins σ H { s with heap:=h' }:=I.kept (t':=s.toks) fun b o e=>hx b o (Nat.ne_of_lt (Heap.lt_size e)) e
  exact h pins _ σ H xs _ Q I1 (by simpa using rv) hw
noncomputable def tAsg (te:TE) (g:TG):TS:=fun D σ H=>te σ H fun x H1=>g x σ H1 D.nx
theorem ps_set {i:Nat} {x:Str} {e:Expr} {te:TE} {pos':Pos} (hN:X.N.Nodup) (hi:X.N[i]? = some x) (hx:Loc X.env.scope x) (he:PE X e te) (hs:swapsWith e (some (.Name x pos')) pos.line X.env=pure false:=by rfl) (hf:X.fn x=true∨X.env.scope.names.lookup x=some .local:=by first | exact .inl rfl | exact .inr rfl | assumption) :
    PS X (.Assign [.Name x pos'] e pos) (tAsg te (gName i)):=by
  intro pins s σ H D I h
  refine wpAny_Assign_Name (thn (he pins s σ H _ I h) fun v s1 ⟨y,H1,I1,r1,q1⟩ => ?_) hs
  exact store_ok I1 hN hi hx r1 (fun s2 I2=>⟨_,H1,I2,q1⟩) hf
inductive J_tAug (i:Nat) (te:TE) (ti:TIp) (D:Ends) (σ : St) (H:Hp):Prop
  | mk:∀ x,(σ[i]? = some (some x))→(te σ H fun y H1=>ti x y H1 fun z H2=>D.nx (σ.set i (some z)) H2)→J_tAug i te ti D σ H
noncomputable def tAug (i:Nat) (te:TE) (ti:TIp):TS:=fun D σ H=>J_tAug i te ti D σ H
theorem ps_aug {i:Nat} {x:Str} {e:Expr} {te:TE} {op:Operator} {ti:TIp} {pos':Pos} (hN:X.N.Nodup) (hi:X.N[i]? = some x) (hx:Loc X.env.scope x) (he:PE X e te) (ho:PIp X op ti) (hf:X.fn x=true∨X.env.scope.names.lookup x=some .local:=by first | exact .inl rfl | exact .inr rfl | assumption) :
    PS X (.AugAssign (.Name x pos') op e pos) (tAug i te ti):=by
  intro pins s σ H D I h
  obtain ⟨v,e1,h⟩:=h
  obtain ⟨m,hn,hl⟩:=I.loc
  have vis:Vis X.env.scope x:=by rcases hx with k | k;exact .inl k;exact .inr (.inl k)
  obtain ⟨u,r,l⟩:=hl i x v hi e1 vis
  refine wpAny_AugAssign_Name ?_
  have go:wpAny (model X.prog X.w) X.A (eval e X.env) (fun w s₂ => wpAny (model X.prog X.w) X.A (inplaceOp op u w) (fun r s₃ => wpAny (model X.prog X.w) X.A (storeName X.env x r) (fun _=>SP X pins D .next) X.xe s₃) X.xe s₂) X.xe s:=by
    refine thn (he pins s σ H _ I h) fun w s1 ⟨y,H1,I1,r1,q1⟩ => ?_
    refine thn (ho pins s1 σ H1 v y u w _ I1 r r1 q1) fun z s2 ⟨zv,H2,I2,r2,q2⟩ => ?_
    exact store_ok I2 hN hi hx r2 (fun s3 I3=>⟨_,H2,I3,q2⟩) hf
  rcases l with ⟨hk,hm⟩ | ⟨hk,c,hc,hcell⟩
  · exact wpAny_loadName_local I.ok.kind hk hn hm go
  · rcases hk with hk | hk
    · exact wpAny_loadName_cell I.ok.kind hk hc hcell go
    · rcases hx with k | k
      · have:X.env.scope.names.lookup x=some .free:=hk
        rw [k] at this;cases this
      · have:X.env.scope.names.lookup x=some .free:=hk
        rw [k] at this;cases this
noncomputable def ipI (f:Int→Int→Int):TIp:=fun x y H Q=>∃ i j,x = .int i∧y = .int j∧Q (.int (f i j)) H
theorem ip_add:PIp X .Add (ipI fun i j=>i+j):=by
  intro pins s σ H x y v u Q I r1 r2 h
  obtain ⟨i,j,e1,e2,q⟩:=h
  subst e1;subst e2
  obtain ⟨t,rfl⟩:=r1
  obtain ⟨t',rfl⟩:=r2
  exact iadd_int ⟨.int _,H,I.tok _,⟨_,rfl⟩,q⟩
end

section
variable {X:Cx} {pos:Pos}
noncomputable def tWhile (c:TT) (tb:TS):TS:=fun D σ H=>∃ W:Nat→St→Hp→Prop,(∃ m,W m σ H)∧∀ m σ H,W m σ H →
  c σ H fun b H1=>if b=true then ∃ N:St→Hp→Prop,(∀ σ' H',N σ' H'→∃ m',m' < m∧W m' σ' H')∧tb { D with nx:=N,ct:=N,bk:=D.nx } σ H1 else D.nx σ H1
theorem ps_while {c:Expr} {body:List Stmt} {tc:TT} {tb:TS} (hp:PassesOwn (model X.prog X.w) X.A X.env X.xe) (hc:PT X c tc) (hb:PSs X body tb):PS X (.While c body [] pos) (tWhile tc tb):=by
  intro pins s σ H D I h
  obtain ⟨W,⟨m0,w0⟩,turn⟩:=h
  refine wpAny_While (codeAny_whileLoop (fun n s'=>∃ σ' H',Inv X pins σ' H' s'∧W n σ' H') ?_ m0 ⟨σ,H,I,w0⟩)
  rintro n s1 ⟨σ1,H1,I1,w1⟩
  refine wpAny_passesOwn hp (thn (hc pins s1 σ1 H1 _ I1 (turn n σ1 H1 w1)) fun b s2 ⟨H2,I2,q2⟩ => ?_)
  cases b with
  | true =>
    obtain ⟨N,hN,q2⟩:=q2
    rw [if_pos rfl]
    refine wpAny_passesOwn hp (thn (hb pins s2 σ1 H2 _ I2 q2) fun f s3 q3 => ?_)
    cases f with
    | next =>
      obtain ⟨σ3,H3,I3,n3⟩:=q3
      obtain ⟨m',hm,w3⟩:=hN σ3 H3 n3
      exact ⟨m',hm, σ3,H3,I3,w3⟩
    | cont =>
      obtain ⟨σ3,H3,I3,n3⟩:=q3
      obtain ⟨m',hm,w3⟩:=hN σ3 H3 n3
      exact ⟨m',hm, σ3,H3,I3,w3⟩
    | brk=>exact q3
    | ret v=>exact q3
  | false =>
    rw [if_neg Bool.false_ne_true]
    exact wpAny_execs_nil ⟨σ1,H2,I2,q2⟩
end

structure It where
  go:Nat→Hp→Prop
  yld:Nat→Hp→V→Hp→Prop
  stop:Nat→Hp→Prop
noncomputable def FpOk (X:Cx) (pins:List (Addr × Obj)) (H:Hp) (b:Addr):Prop :=
  H b=none∧b≠X.env.locals∧b ∉ X.fs∧(b∈X.ex∨X.s₀.heap.objs.size≤b)∧(∀ x c,X.env.cells.lookup x=some c→c≠b)∧∀ p∈X.pn ++ pins,p.1≠b
theorem Inv.fpOk {X:Cx} {pins:List (Addr × Obj)} {σ : St} {H H':Hp} {s:Shared} {b:Addr} (I:Inv X pins σ H s) (hb:s.heap.objs.size≤b) (hn:H' b=none):FpOk X pins H' b:=by
  refine ⟨hn,Nat.ne_of_gt (Nat.lt_of_lt_of_le I.lt hb),I.nofs hb,.inr (Nat.le_trans I.sz hb),fun x c e z => ?_,fun p hp z => ?_⟩
  · obtain ⟨v,q⟩:=I.cell x c e
    exact absurd (Nat.lt_of_lt_of_le q.lt (by rw [z];exact hb)) (Nat.lt_irrefl _)
  · exact absurd (Nat.lt_of_lt_of_le (Heap.lt_size (I.pin p hp).1) (by rw [z];exact hb)) (Nat.lt_irrefl _)
structure Turn (P:Program) (w:World) (K:PySem.W.Frag) (tg:Expr) (J:It) (fp:List Addr) (it:Addr) (tn:Nat→Heap→Prop):Prop where
  mem:it∈fp
  obj:∀ i h,tn i h→∀ b∈fp,∃ o,h.get? b=some o∧∀ v,o.data ≠ .cell v
  keep:∀ i h h',tn i h→(∀ b∈fp,∀ o,h.get? b=some o→h'.get? b=some o)→tn i h'
  item:∀ (X:Cx),X.prog=P→X.w=w→X.K=K→X.calm=true→∀ (i:Nat) (pins:List (Addr × Obj)) (s:Shared) (σ : St) (H:Hp) (E:Value→Shared→Prop),Inv X pins σ H s→(∀ b∈fp,FpOk X pins H b)→tn i s.heap→J.go i H →
    wpAny (model P w) X.A (pyNext (.ref it)) (fun r s1=>∃ u,r=some u ∧
      wpAny (model P w) X.A (letOwnedTupleGo tg (.ref it) u) (fun _ s2=>∃ x H',Inv X pins σ H' s2∧RelV x u∧J.yld i H x H'∧tn (i+1) s2.heap∧∀ b∈fp,H' b=none) E s1) E s
  done:∀ (X:Cx),X.prog=P→X.w=w→X.K=K→X.calm=true→∀ (i:Nat) (pins:List (Addr × Obj)) (s:Shared) (σ : St) (H:Hp) (E:Value→Shared→Prop),Inv X pins σ H s→(∀ b∈fp,FpOk X pins H b)→tn i s.heap→J.stop i H →
    wpAny (model P w) X.A (pyNext (.ref it)) (fun r s1=>r=none∧Inv X pins σ H s1) E s
  self:∀ (A:Around) (i:Nat) (s:Shared) (Q:Value→Shared→Prop) (E:Value→Shared→Prop),tn i s.heap→Q (.ref it) s→wpAny (model P w) A (pyIter (.ref it)) Q E s
noncomputable abbrev TI:=St→Hp→(It→Hp→Prop)→Prop
noncomputable def PIE (X:Cx) (pins:List (Addr × Obj)) (σ : St) (tg:Expr) (R:It→Hp→Prop) (itv:Value) (s2:Shared):Prop :=
  ∃ (it:Addr) (fp:List Addr) (tn:Nat→Heap→Prop) (J:It) (H':Hp),itv = .ref it∧Inv X pins σ H' s2∧Turn X.prog X.w X.K tg J fp it tn∧tn 0 s2.heap∧(∀ b∈fp,FpOk X pins H' b)∧R J H'
noncomputable def PI (X:Cx) (tg iter:Expr) (wi:TI):Prop :=
  ∀ (pins:List (Addr × Obj)) (s:Shared) (σ : St) (H:Hp) (R:It→Hp→Prop),Inv X pins σ H s→wi σ H R →
    wpAny (model X.prog X.w) X.A (eval iter X.env) (fun v s1=>wpAny (model X.prog X.w) X.A (pyIter v) (PIE X pins σ tg R) X.xe s1) X.xe s

theorem go_of {M:Model} {A:Around} {E:Value→Shared→Prop} {s:Shared} {tg:Expr} {it:Addr} {u:Value} {o:Obj} {n:String} {vs:Array Value} {Q:Unit→Shared→Prop} (ho:s.heap.get? it=some o) (hc:o.cls = .type n) (hd:o.data = .fields vs)
    (hn : ["enumerate", "zip", "dict_itemiterator", "dict_reverseitemiterator", "odict_iterator", "itertools.zip_longest", "itertools.pairwise"].contains n=false) (hQ:Q () s):wpAny M A (letOwnedTupleGo tg (.ref it) u) Q E s:=by
  unfold letOwnedTupleGo
  cases tg <;> first
    | exact wpAny_pure hQ
    | (cases u <;> first
        | exact wpAny_pure hQ
        | (refine wpAny_bind (wpAny_load ho ?_)
           rw [hc,hd]
           show wpAny M A (if (["enumerate", "zip", "dict_itemiterator", "dict_reverseitemiterator", "odict_iterator", "itertools.zip_longest", "itertools.pairwise"].contains n && vs[0]? == some (rawInt _))=true then _ else _) Q E s
           rw [if_neg (by intro h;rw [hn,Bool.false_and] at h;cases h)]
           exact wpAny_pure hQ))

noncomputable def Itl (K:PySem.W.Frag) (a:Addr):It :=
  ⟨fun i H=>∃ xs x,SqL K H a xs∧xs[i]? = some x,fun i H x H'=>H'=H∧∀ xs,SqL K H a xs→xs[i]? = some x,fun i H=>∃ xs,SqL K H a xs∧xs.length≤i⟩
noncomputable def Itt (K:PySem.W.Frag) (a:Addr):It :=
  ⟨fun i H=>∃ xs x,SqT K H a xs∧xs[i]? = some x,fun i H x H'=>H'=H∧∀ xs,SqT K H a xs→xs[i]? = some x,fun i H=>∃ xs,SqT K H a xs∧xs.length≤i⟩
noncomputable def Itr (lo:Int) (n:Nat):It:=⟨fun i _=>i < n,fun i H x H'=>H'=H∧x = .int (lo+i),fun i _=>n≤i⟩
theorem turn_list {P:Program} {w:World} {K:PySem.W.Frag} {tg:Expr} (a it:Addr):Turn P w K tg (Itl K a) [it] it (fun i h=>h.IsListIter it a i) where
  mem:=by simp
  obj:=fun i h st b hb=>by
    have e:b=it:=by simpa using hb
    subst e
    obtain ⟨o,e,c,d⟩:=st
    exact ⟨o,e,fun v z=>by rw [d] at z;cases z⟩
  keep:=fun i h h' st k=>st.at fun o e=>k it (by simp) o e
  item:=by
    intro X hP hw hK hc i pins s σ H E I hf st hg
    subst hP hw hK
    obtain ⟨xs,x,hq,hx⟩:=hg
    obtain ⟨its,rv,p,hz⟩:=I.list hq
    obtain ⟨u,hu,ru⟩:=rv.get hx
    obtain ⟨f0,f1,f2,f3,f4,f5⟩:=hf it (by simp)
    refine wpAny_pyNext_list_item st p.isList (x:=u) (by simpa using hu) fun h' st' sb => ?_
    have I1:Inv X pins σ H { s with heap:=h' }:=I.turned (t':=s.toks) (fun b o hb e=>(sb.2 b hb).trans e) f0 f1 f3 f4 f5
    obtain ⟨o,e,c,d⟩:=id st'
    exact ⟨u,rfl,go_of (s := { s with heap:=h' }) e c d (by decide) ⟨x,H,I1,ru,⟨rfl,fun ys hy=>by rw [I.list_inj hy hq];exact hx⟩,st',fun b hb=>(hf b hb).1⟩⟩
  done:=by
    intro X hP hw hK hc i pins s σ H E I hf st hg
    subst hP hw hK
    obtain ⟨xs,hq,hx⟩:=hg
    obtain ⟨its,rv,p,hz⟩:=I.list hq
    obtain ⟨f0,f1,f2,f3,f4,f5⟩:=hf it (by simp)
    have hl:=rv.length
    exact wpAny_pyNext_list_end (I.ok.hd hc) st p.isList (by simp;omega) fun h' eb=>⟨rfl,I.turned (t':=s.toks) (fun b o hb e=>eb b o hb e) f0 f1 f3 f4 f5⟩
  self:=fun _ _ _ _ _ st h=>wpAny_pyIter_listiter st h
theorem turn_tuple {P:Program} {w:World} {K:PySem.W.Frag} {tg:Expr} (a it:Addr):Turn P w K tg (Itt K a) [it] it (fun i h=>h.IsTupleIter it a i) where
  mem:=by simp
  obj:=fun i h st b hb=>by
    have e:b=it:=by simpa using hb
    subst e
    obtain ⟨o,e,c,d⟩:=st
    exact ⟨o,e,fun v z=>by rw [d] at z;cases z⟩
  keep:=fun i h h' st k=>st.at fun o e=>k it (by simp) o e
  item:=by
    intro X hP hw hK hc i pins s σ H E I hf st hg
    subst hP hw hK
    obtain ⟨xs,x,hq,hx⟩:=hg
    obtain ⟨its,rv,p,hz⟩:=I.tuple hq
    obtain ⟨u,hu,ru⟩:=rv.get hx
    obtain ⟨f0,f1,f2,f3,f4,f5⟩:=hf it (by simp)
    refine wpAny_pyNext_tuple_item st (show s.heap.IsTuple a its.toArray from p) (x:=u) (by simpa using hu) fun h' st' sb => ?_
    have I1:Inv X pins σ H { s with heap:=h' }:=I.turned (t':=s.toks) (fun b o hb e=>(sb.2 b hb).trans e) f0 f1 f3 f4 f5
    obtain ⟨o,e,c,d⟩:=id st'
    exact ⟨u,rfl,go_of (s := { s with heap:=h' }) e c d (by decide) ⟨x,H,I1,ru,⟨rfl,fun ys hy=>by rw [I.tuple_inj hy hq];exact hx⟩,st',fun b hb=>(hf b hb).1⟩⟩
  done:=by
    intro X hP hw hK hc i pins s σ H E I hf st hg
    subst hP hw hK
    obtain ⟨xs,hq,hx⟩:=hg
    obtain ⟨its,rv,p,hz⟩:=I.tuple hq
    obtain ⟨f0,f1,f2,f3,f4,f5⟩:=hf it (by simp)
    have hl:=rv.length
    exact wpAny_pyNext_tuple_end (I.ok.hd hc) st (show s.heap.IsTuple a its.toArray from p) (by simp;omega) fun h' eb=>⟨rfl,I.turned (t':=s.toks) (fun b o hb e=>eb b o hb e) f0 f1 f3 f4 f5⟩
  self:=fun _ _ _ _ _ st h=>wpAny_pyIter_tupleiter st h
theorem turn_range {P:Program} {w:World} {K:PySem.W.Frag} {tg:Expr} (it:Addr) (lo:Int) (n:Nat):Turn P w K tg (Itr lo n) [it] it (fun i h=>IsRangeIter h it (lo+(i:Nat) * 1) ((n:Int) - (i:Nat)) 1) where
  mem:=by simp
  obj:=fun i h st b hb=>by
    have e:b=it:=by simpa using hb
    subst e
    exact ⟨_,st,fun v z=>by
      have z':Data.fields _=Data.cell v:=z
      cases z'⟩
  keep:=fun i h h' st k=>k it (by simp) _ st
  item:=by
    intro X hP hw hK hc i pins s σ H E I hf st hg
    subst hP hw hK
    obtain ⟨f0,f1,f2,f3,f4,f5⟩:=hf it (by simp)
    have W:=Walks.range (prog:=X.prog) (w:=X.w) (I.ok.hd hc) it lo 1 n
    refine W.item i s _ _ hg st fun v h' tk hv st' kk => ?_
    obtain ⟨t,rfl⟩:=hv
    have I1:Inv X pins σ H { s with heap:=h',toks:=tk }:=I.turned (fun b o hb e=>kk b o (by simpa using hb) e) f0 f1 f3 f4 f5
    refine ⟨_,rfl,go_of (s := { s with heap:=h',toks:=tk }) (n := "range_iterator") st' rfl rfl (by decide) ⟨.int (lo+i),H,I1,⟨t,?_⟩,⟨rfl,rfl⟩,st',fun b hb=>(hf b hb).1⟩⟩
    rw [Int.mul_one]
  done:=by
    intro X hP hw hK hc i pins s σ H E I hf st hg
    subst hP hw hK
    obtain ⟨f0,f1,f2,f3,f4,f5⟩:=hf it (by simp)
    exact wpAny_pyNext_range_end (I.ok.hd hc) st (by have:n≤i:=hg;omega) fun h' eb=>⟨rfl,I.turned (t':=s.toks) (fun b o hb e=>eb b o hb e) f0 f1 f3 f4 f5⟩
  self:=fun _ _ _ _ _ st h=>wpAny_pyIter_rangeiter st h
end L2

namespace L2
open PySem PySem.Spec PyProof.Rows
section
variable {X:Cx} {tg:Expr}
inductive J_iList (K:PySem.W.Frag) (R:It→Hp→Prop) (x:V) (H1:Hp):Prop
  | mk:∀ a,(x = .ref a)→((∃ xs,SqL K H1 a xs))→(R (Itl K a) H1)→J_iList K R x H1
noncomputable def iList (K:PySem.W.Frag) (tl:TE):TI:=fun σ H R=>tl σ H fun x H1=>J_iList K R x H1
inductive J_iTup (K:PySem.W.Frag) (R:It→Hp→Prop) (x:V) (H1:Hp):Prop
  | mk:∀ a,(x = .ref a)→((∃ xs,SqT K H1 a xs))→(R (Itt K a) H1)→J_iTup K R x H1
noncomputable def iTup (K:PySem.W.Frag) (tl:TE):TI:=fun σ H R=>tl σ H fun x H1=>J_iTup K R x H1
theorem pi_list {l:Expr} {tl:TE} (hl:PE X l tl):PI X tg l (iList X.K tl):=by
  intro pins s σ H R I h
  refine thn (hl pins s σ H _ I h) fun v s1 ⟨x,H1,I1,r1,q1⟩ => ?_
  obtain ⟨a,e,⟨xs,hq⟩,q⟩:=q1
  subst e
  cases r1
  obtain ⟨its,rv,p,hz⟩:=I1.list hq
  refine wpAny_pyIter_list p.isList ?_
  refine ⟨s1.heap.objs.size, [s1.heap.objs.size],_,_,H1,rfl,I1.kept (t':=s1.toks) fun b o e=>Heap.get?_push_of_some _ e,turn_list a _,⟨_,Heap.get?_push_size _ rfl,rfl,rfl⟩,fun b hb => ?_,q⟩
  have e:b=s1.heap.objs.size:=by simpa using hb
  subst e
  exact I1.fpOk (Nat.le_refl _) (I1.hok.fresh (Nat.le_refl _))
theorem pi_tup {l:Expr} {tl:TE} (hl:PE X l tl):PI X tg l (iTup X.K tl):=by
  intro pins s σ H R I h
  refine thn (hl pins s σ H _ I h) fun v s1 ⟨x,H1,I1,r1,q1⟩ => ?_
  obtain ⟨a,e,⟨xs,hq⟩,q⟩:=q1
  subst e
  cases r1
  obtain ⟨its,rv,p,hz⟩:=I1.tuple hq
  refine wpAny_pyIter_tuple (show s1.heap.IsTuple a its.toArray from p) ?_
  refine ⟨s1.heap.objs.size, [s1.heap.objs.size],_,_,H1,rfl,I1.kept (t':=s1.toks) fun b o e=>Heap.get?_push_of_some _ e,turn_tuple a _,⟨_,Heap.get?_push_size _ rfl,rfl,rfl⟩,fun b hb => ?_,q⟩
  have e:b=s1.heap.objs.size:=by simpa using hb
  subst e
  exact I1.fpOk (Nat.le_refl _) (I1.hok.fresh (Nat.le_refl _))
theorem range_it {pins:List (Addr × Obj)} {σ : St} {H:Hp} {s:Shared} {R:It→Hp→Prop} {E:Value→Shared→Prop} {lo hi:Int} {t u v:Tok} {tk:Nat} (I:Inv X pins σ H s) (h1 : -(2 ^ 62)≤lo) (h2:lo < 2 ^ 62) (h3 : -(2 ^ 62)≤hi) (h4:hi < 2 ^ 62)
    (q:R (Itr lo (hi - lo).toNat) H):wpAny (model X.prog X.w) X.A (pyIter (.ref s.heap.objs.size)) (PIE X pins σ tg R) E { s with heap:=s.heap.push { cls := .type "range",data := .fields #[.int lo t,.int hi u,.int 1 v] },toks:=tk }:=by
  refine wpAny_pyIter_range (IsRange.new ..) (small_one h1 h2 h3 h4) ?_
  have I1:Inv X pins σ H { s with heap:=s.heap.push { cls := .type "range",data := .fields #[.int lo t,.int hi u,.int 1 v] },toks:=tk }:=I.kept fun b o e=>Heap.get?_push_of_some _ e
  refine ⟨(s.heap.push { cls := .type "range",data := .fields #[.int lo t,.int hi u,.int 1 v] }).objs.size, [(s.heap.push { cls := .type "range",data := .fields #[.int lo t,.int hi u,.int 1 v] }).objs.size],_,_,H,rfl,
    I1.kept (t':=tk) fun b o e=>Heap.get?_push_of_some _ e,turn_range _ lo (hi - lo).toNat,?_,fun b hb => ?_,q⟩
  · have e1:lo+((0:Nat):Int) * 1=lo:=by simp
    have e2:(((hi - lo).toNat:Nat):Int) - ((0:Nat):Int)=Builtin.Range.rangeSize lo hi 1:=by rw [rangeSize_one];split <;> omega
    show IsRangeIter _ _ (lo+((0:Nat):Int) * 1) ((((hi - lo).toNat:Nat):Int) - ((0:Nat):Int)) 1
    rw [e1,e2]
    exact Heap.get?_push_size _ rfl
  · have e:b=(s.heap.push { cls := .type "range",data := .fields #[.int lo t,.int hi u,.int 1 v] }).objs.size:=by simpa using hb
    subst e
    exact I1.fpOk (Nat.le_refl _) (I1.hok.fresh (Nat.le_refl _))
inductive J_iRng1 (R:It→Hp→Prop) (vs:List V) (H1:Hp):Prop
  | mk:∀ (j:Int),(vs = [.int j])→(-(2 ^ 62)≤j)→(j < 2 ^ 62)→(R (Itr 0 j.toNat) H1)→J_iRng1 R vs H1
noncomputable def iRng1 (ta:TA):TI:=fun σ H R=>ta σ H fun vs H1=>J_iRng1 R vs H1
inductive J_iRng2 (R:It→Hp→Prop) (vs:List V) (H1:Hp):Prop
  | mk:∀ (i j:Int),(vs = [.int i,.int j])→((-(2 ^ 62)≤i∧i < 2 ^ 62 ∧ -(2 ^ 62)≤j∧j < 2 ^ 62))→(R (Itr i (j - i).toNat) H1)→J_iRng2 R vs H1
noncomputable def iRng2 (ta:TA):TI:=fun σ H R=>ta σ H fun vs H1=>J_iRng2 R vs H1
theorem pi_range1 {a:Expr} {ta:TA} {p pos:Pos} (hg:Gl X "range") (hm:X.mg "range" = none) (ha:PA X [a] ta) (hs:starEach [a] X.env = [(false,eval a X.env)]:=by rfl):PI X tg (.Call (.Name "range" p) [a] [] pos) (iRng1 ta):=by
  intro pins s σ H R I h
  refine Call_ (ld_blt I hg hm boot_range (PyProof.Rows.callWith_type1 (thn (ha pos pins s σ H _ I h) fun us s1 ⟨vs,H1,I1,r1,q1⟩ => ?_) hs rfl))
  obtain ⟨j,e,q1,q2,q⟩:=q1
  subst e
  cases r1 with
  | cons r rr =>
    cases rr
    obtain ⟨t,rfl⟩:=r
    exact call_range_1 (range_it I1 (by omega) (by omega) q1 q2 (by simpa using q))
theorem pi_range2 {a b:Expr} {ta:TA} {p pos:Pos} (hg:Gl X "range") (hm:X.mg "range" = none) (ha:PA X [a,b] ta) (hs:starEach [a,b] X.env = [(false,eval a X.env),(false,eval b X.env)]:=by rfl) (hs2:starEach [b] X.env = [(false,eval b X.env)]:=by rfl) :
    PI X tg (.Call (.Name "range" p) [a,b] [] pos) (iRng2 ta):=by
  intro pins s σ H R I h
  refine Call_ (ld_blt I hg hm boot_range (PyProof.Rows.callWith_type1 (thn (ha pos pins s σ H _ I h) fun us s1 ⟨vs,H1,I1,r1,q1⟩ => ?_) (by rw [hs,hs2]) (by rw [hs2];rfl)))
  obtain ⟨i,j,e,⟨q1,q2,q3,q4⟩,q⟩:=q1
  subst e
  cases r1 with
  | cons r rr =>
    cases rr with
    | cons r' rr =>
      cases rr
      obtain ⟨t,rfl⟩:=r
      obtain ⟨t',rfl⟩:=r'
      exact call_range_2 (range_it I1 q1 q2 q3 q4 q)

noncomputable def tFor (wi:TI) (g:TG) (tb:TS):TS:=fun D σ H=>wi σ H fun J H1=>∃ W:Nat→Nat→St→Hp→Prop,(∃ m,W 0 m σ H1)∧∀ i m σ H,W i m σ H →
  (J.stop i H∧D.nx σ H)∨(J.go i H∧∃ N:St→Hp→Prop,(∀ σ' H',N σ' H'→∃ m',m' < m∧W (i+1) m' σ' H')∧∀ x H',J.yld i H x H'→g x σ H' fun σ2 H2=>tb { D with nx:=N,ct:=N,bk:=D.nx } σ2 H2)
noncomputable def pinsAt (fp:List Addr) (h:Heap):List (Addr × Obj):=fp.filterMap fun b=>(h.get? b).map fun o=>(b,o)
theorem mem_pinsAt {fp:List Addr} {h:Heap} {b:Addr} {o:Obj} (hb:b∈fp) (e:h.get? b=some o):(b,o)∈pinsAt fp h:=List.mem_filterMap.mpr ⟨b,hb,by rw [e];rfl⟩
theorem of_pinsAt {fp:List Addr} {h:Heap} {p:Addr × Obj} (hp:p∈pinsAt fp h):p.1∈fp∧h.get? p.1=some p.2:=by
  obtain ⟨b,hb,e⟩:=List.mem_filterMap.mp hp
  cases q:h.get? b with
  | none=>rw [q] at e;cases e
  | some o =>
    rw [q] at e
    have e':(b,o)=p:=Option.some.inj e
    subst e'
    exact ⟨hb,q⟩
theorem Inv.pinned {pins:List (Addr × Obj)} {σ : St} {H:Hp} {s:Shared} {fp:List Addr} (I:Inv X pins σ H s) (hf:∀ b∈fp,FpOk X pins H b) (ho:∀ b∈fp,∃ o,s.heap.get? b=some o∧∀ v,o.data ≠ .cell v):Inv X (pins ++ pinsAt fp s.heap) σ H s :=
  I.pins_of fun p hp=>(List.mem_append.mp hp).elim (fun z=>I.pin p (List.mem_append_right _ z)) fun z=>by
    obtain ⟨hb,e⟩:=of_pinsAt z
    obtain ⟨f0,f1,f2,_⟩:=hf p.1 hb
    obtain ⟨o,e',d⟩:=ho p.1 hb
    rw [e] at e';cases e'
    exact ⟨e,f0,f1,f2,d⟩
theorem Inv.unpinned {pins pl:List (Addr × Obj)} {σ : St} {H:Hp} {s:Shared} (I:Inv X (pins ++ pl) σ H s):Inv X pins σ H s:=I.pins_of fun p hp=>I.pin p (List.mem_append_right _ (List.mem_append_left _ hp))
theorem ps_for {iter:Expr} {body:List Stmt} {wi:TI} {g:TG} {tb:TS} {pos:Pos} (hp:PassesOwn (model X.prog X.w) X.A X.env X.xe) (hc:X.calm=true) (hi:PI X tg iter wi) (hg:PG X tg g) (hb:PSs X body tb)
    (hs:∀ x,foldedSetIterable iter X.env x=pure x:=by intro _;rfl):PS X (.For tg iter body [] pos) (tFor wi g tb):=by
  intro pins s σ H D I h
  refine wpAny_For (thn (hi pins s σ H _ I h) fun v s1 h1=>thn h1 fun itv s2 h2 => ?_) hs
  obtain ⟨it,fp,tn,J,H2,e,I2,T,st2,f2,W,⟨m0,w0⟩,turn⟩:=h2
  subst e
  -- what stays true of the iterator's objects through the loop
  have stat:∀ {H':Hp},(∀ b∈fp,H' b=none)→∀ b∈fp,FpOk X pins H' b:=fun hn b hb=>⟨hn b hb,(f2 b hb).2⟩
  refine codeAny_forLoop_any (fun n s'=>∃ i σ' H',Inv X pins σ' H' s'∧tn i s'.heap∧(∀ b∈fp,H' b=none)∧W i n σ' H') ?_ m0 ⟨0, σ,H2,I2,st2,fun b hb=>(f2 b hb).1,w0⟩
  rintro n s3 ⟨i, σ3,H3,I3,st3,fr3,w3⟩
  rcases turn i n σ3 H3 w3 with ⟨stop,qn⟩ | ⟨go,N,hN,step⟩
  · refine wpAny_passesOwn hp (thn (T.done X rfl rfl rfl hc i pins s3 σ3 H3 X.xe I3 (stat fr3) st3 stop) fun r s4 ⟨hr,I4⟩ => ?_)
    subst hr
    exact wpAny_execs_nil ⟨σ3,H3,I4,qn⟩
  · refine wpAny_passesOwn hp (thn (T.item X rfl rfl rfl hc i pins s3 σ3 H3 X.xe I3 (stat fr3) st3 go) fun r s4 ⟨u,hr,h4⟩ => ?_)
    subst hr
    refine wpAny_passesOwn hp (thn h4 fun _ s5 ⟨x,H5,I5,r5,y5,st5,fr5⟩ => ?_)
    have I5':=I5.pinned (stat fr5) (T.obj _ _ st5)
    refine wpAny_passesOwn hp (thn (hg _ s5 σ3 H5 x u _ I5' r5 (step x H5 y5)) fun _ s6 ⟨σ6,H6,I6,q6⟩ => ?_)
    refine wpAny_passesOwn hp (thn (hb _ s6 σ6 H6 _ I6 q6) fun f s7 q7 => ?_)
    have again:∀ {σ7:St} {H7:Hp},Inv X (pins ++ pinsAt fp s5.heap) σ7 H7 s7→N σ7 H7→∃ m,m < n∧∃ i σ' H',Inv X pins σ' H' s7∧tn i s7.heap∧(∀ b∈fp,H' b=none)∧W i m σ' H':=fun {σ7 H7} I7 n7=>by
      obtain ⟨m',hm,w7⟩:=hN σ7 H7 n7
      refine ⟨m',hm,i+1, σ7,H7,I7.unpinned,T.keep _ _ _ st5 fun b hb o e=>(I7.pin (b,o) (List.mem_append_right _ (List.mem_append_right _ (mem_pinsAt hb e)))).1,fun b hb => ?_,w7⟩
      obtain ⟨o,e,d⟩:=T.obj _ _ st5 b hb
      exact (I7.pin (b,o) (List.mem_append_right _ (List.mem_append_right _ (mem_pinsAt hb e)))).2.1
    cases f with
    | next=>obtain ⟨σ7,H7,I7,n7⟩:=q7;exact again I7 n7
    | cont=>obtain ⟨σ7,H7,I7,n7⟩:=q7;exact again I7 n7
    | brk=>obtain ⟨σ7,H7,I7,q7⟩:=q7;exact ⟨σ7,H7,I7.unpinned,q7⟩
    | ret v=>obtain ⟨x7, σ7,H7,I7,r7,q7⟩:=q7;exact ⟨x7, σ7,H7,I7.unpinned,r7,q7⟩
end

theorem for_list {K:PySem.W.Frag} {a:Addr} {xs:List V} {g:TG} {tb:TS} {D:Ends} {σ : St} {H:Hp} (Pv:Nat→St→Hp→Prop) (h0:Pv 0 σ H) (hl:∀ i σ H,i≤xs.length→Pv i σ H→SqL K H a xs)
    (hs:∀ i x σ H,xs[i]? = some x→Pv i σ H→g x σ H fun σ2 H2=>tb { D with nx:=Pv (i+1),ct:=Pv (i+1),bk:=D.nx } σ2 H2) (hd:∀ σ H,Pv xs.length σ H→D.nx σ H) :
    ∃ W:Nat→Nat→St→Hp→Prop,(∃ m,W 0 m σ H)∧∀ i m σ H,W i m σ H →
      ((Itl K a).stop i H∧D.nx σ H)∨((Itl K a).go i H∧∃ N:St→Hp→Prop,(∀ σ' H',N σ' H'→∃ m',m' < m∧W (i+1) m' σ' H')∧∀ x H',(Itl K a).yld i H x H'→g x σ H' fun σ2 H2=>tb { D with nx:=N,ct:=N,bk:=D.nx } σ2 H2):=by
  refine ⟨fun i m σ H=>m=xs.length - i∧i≤xs.length∧Pv i σ H,⟨xs.length,by simp,Nat.zero_le _,h0⟩,?_⟩
  rintro i m σ H ⟨rfl,hi,p⟩
  have q:=hl i σ H hi p
  by_cases hlt:i < xs.length
  · refine .inr ⟨⟨xs,xs[i],q,by simp [hlt]⟩,Pv (i+1),fun σ' H' p'=>⟨xs.length - (i+1),by omega,rfl,hlt,p'⟩,fun x H' y => ?_⟩
    obtain ⟨e,y⟩:=y
    subst e
    exact hs i x σ _ (y xs q) p
  · have e:i=xs.length:=by omega
    subst e
    exact .inl ⟨⟨xs,q,Nat.le_refl _⟩,hd σ H p⟩
theorem for_tup {K:PySem.W.Frag} {a:Addr} {xs:List V} {g:TG} {tb:TS} {D:Ends} {σ : St} {H:Hp} (Pv:Nat→St→Hp→Prop) (h0:Pv 0 σ H) (hl:∀ i σ H,i≤xs.length→Pv i σ H→SqT K H a xs)
    (hs:∀ i x σ H,xs[i]? = some x→Pv i σ H→g x σ H fun σ2 H2=>tb { D with nx:=Pv (i+1),ct:=Pv (i+1),bk:=D.nx } σ2 H2) (hd:∀ σ H,Pv xs.length σ H→D.nx σ H) :
    ∃ W:Nat→Nat→St→Hp→Prop,(∃ m,W 0 m σ H)∧∀ i m σ H,W i m σ H →
      ((Itt K a).stop i H∧D.nx σ H)∨((Itt K a).go i H∧∃ N:St→Hp→Prop,(∀ σ' H',N σ' H'→∃ m',m' < m∧W (i+1) m' σ' H')∧∀ x H',(Itt K a).yld i H x H'→g x σ H' fun σ2 H2=>tb { D with nx:=N,ct:=N,bk:=D.nx } σ2 H2):=by
  refine ⟨fun i m σ H=>m=xs.length - i∧i≤xs.length∧Pv i σ H,⟨xs.length,by simp,Nat.zero_le _,h0⟩,?_⟩
  rintro i m σ H ⟨rfl,hi,p⟩
  have q:=hl i σ H hi p
  by_cases hlt:i < xs.length
  · refine .inr ⟨⟨xs,xs[i],q,by simp [hlt]⟩,Pv (i+1),fun σ' H' p'=>⟨xs.length - (i+1),by omega,rfl,hlt,p'⟩,fun x H' y => ?_⟩
    obtain ⟨e,y⟩:=y
    subst e
    exact hs i x σ _ (y xs q) p
  · have e:i=xs.length:=by omega
    subst e
    exact .inl ⟨⟨xs,q,Nat.le_refl _⟩,hd σ H p⟩
theorem for_range {lo:Int} {n:Nat} {g:TG} {tb:TS} {D:Ends} {σ : St} {H:Hp} (Pv:Nat→St→Hp→Prop) (h0:Pv 0 σ H)
    (hs:∀ i σ H,i < n→Pv i σ H→g (.int (lo+i)) σ H fun σ2 H2=>tb { D with nx:=Pv (i+1),ct:=Pv (i+1),bk:=D.nx } σ2 H2) (hd:∀ σ H,Pv n σ H→D.nx σ H) :
    ∃ W:Nat→Nat→St→Hp→Prop,(∃ m,W 0 m σ H)∧∀ i m σ H,W i m σ H →
      ((Itr lo n).stop i H∧D.nx σ H)∨((Itr lo n).go i H∧∃ N:St→Hp→Prop,(∀ σ' H',N σ' H'→∃ m',m' < m∧W (i+1) m' σ' H')∧∀ x H',(Itr lo n).yld i H x H'→g x σ H' fun σ2 H2=>tb { D with nx:=N,ct:=N,bk:=D.nx } σ2 H2):=by
  refine ⟨fun i m σ H=>m=n - i∧i≤n∧Pv i σ H,⟨n,by simp,Nat.zero_le _,h0⟩,?_⟩
  rintro i m σ H ⟨rfl,hi,p⟩
  by_cases hlt:i < n
  · refine .inr ⟨hlt,Pv (i+1),fun σ' H' p'=>⟨n - (i+1),by omega,rfl,hlt,p'⟩,fun x H' y => ?_⟩
    obtain ⟨e,y⟩:=y
    subst e y
    exact hs i σ _ hlt p
  · have e:i=n:=by omega
    subst e
    exact .inl ⟨Nat.le_refl _,hd σ H p⟩
end L2

namespace L2
open PySem PySem.Spec PyProof.Rows

noncomputable abbrev R2:=V→V→Hp→VK→Prop
noncomputable def OpR (X:Cx) (f:Value→Value→Sem Value) (r:R2):Prop :=
  ∀ (pins:List (Addr × Obj)) (s:Shared) (σ : St) (H:Hp) (x y:V) (v u:Value) (Q:VK),Inv X pins σ H s→RelV x v→RelV y u→r x y H Q →
    wpAny (model X.prog X.w) X.A (f v u) (EP X pins σ Q) X.xe s
noncomputable def UnR (X:Cx) (f:Value→Sem Value) (r:V→Hp→VK→Prop):Prop :=
  ∀ (pins:List (Addr × Obj)) (s:Shared) (σ : St) (H:Hp) (x:V) (v:Value) (Q:VK),Inv X pins σ H s→RelV x v→r x H Q →
    wpAny (model X.prog X.w) X.A (f v) (EP X pins σ Q) X.xe s
noncomputable def CallR (X:Cx) (f:Value) (r:List V→Hp→VK→Prop):Prop :=
  ∀ (pins:List (Addr × Obj)) (s:Shared) (σ : St) (H:Hp) (xs:List V) (us:List Value) (Q:VK),Inv X pins σ H s→Vals xs us→r xs H Q →
    wpAny (model X.prog X.w) X.A (call f us) (EP X pins σ Q) X.xe s
noncomputable def TruR (X:Cx) (r:V→Hp→(Bool→Hp→Prop)→Prop):Prop :=
  ∀ (pins:List (Addr × Obj)) (s:Shared) (σ : St) (H:Hp) (x:V) (v:Value) (Q:Bool→Hp→Prop),Inv X pins σ H s→RelV x v→r x H Q →
    wpAny (model X.prog X.w) X.A (truthy v) (TP X pins σ Q) X.xe s

noncomputable def tOp (r:R2) (ta tb:TE):TE:=fun σ H Q=>ta σ H fun x H1=>tb σ H1 fun y H2=>r x y H2 Q
noncomputable def tUn (r:V→Hp→VK→Prop) (ta:TE):TE:=fun σ H Q=>ta σ H fun x H1=>r x H1 Q
inductive RI (C:Int→Int→Prop) (g:Int→Int→V) (x y:V) (H:Hp) (Q:VK):Prop
  | mk (i j:Int) (hx:x = .int i) (hy:y = .int j) (hc:C i j) (q:Q (g i j) H):RI C g x y H Q
noncomputable def rI (C:Int→Int→Prop) (g:Int→Int→V):R2:=fun x y H Q=>RI C g x y H Q
inductive RI0 (g:Int→Int→V) (x y:V) (H:Hp) (Q:VK):Prop
  | mk (i j:Int) (hx:x = .int i) (hy:y = .int j) (q:Q (g i j) H):RI0 g x y H Q
noncomputable def rI0 (g:Int→Int→V):R2:=fun x y H Q=>RI0 g x y H Q
inductive RU (g:Int→V) (x:V) (H:Hp) (Q:VK):Prop
  | mk (i:Int) (hx:x = .int i) (q:Q (g i) H):RU g x H Q
noncomputable def rU (g:Int→V):V→Hp→VK→Prop:=fun x H Q=>RU g x H Q

section
variable {X:Cx} {a b c:Expr} {ta tb tc:TE} {pos:Pos}

theorem binT (ha:PE X a ta) (hb:PE X b tb) {pins:List (Addr × Obj)} {s:Shared} {σ : St} {H:Hp} {R:V→V→Hp→Prop} (I:Inv X pins σ H s)
    (h:ta σ H fun x H1=>tb σ H1 fun y H2=>R x y H2) {Q:Value→Shared→Prop} {f:Value→Value→Sem Value}
    (hf:∀ v u s2 x y H2,Inv X pins σ H2 s2→RelV x v→RelV y u→R x y H2→wpAny (model X.prog X.w) X.A (f v u) Q X.xe s2) :
    wpAny (model X.prog X.w) X.A (eval a X.env) (fun v s₁ => wpAny (model X.prog X.w) X.A (eval b X.env) (fun u s₂ => wpAny (model X.prog X.w) X.A (f v u) Q X.xe s₂) X.xe s₁) X.xe s:=by
  refine thn (ha pins s σ H _ I h) fun v s1 ⟨x,H1,I1,r1,q1⟩ => ?_
  refine thn (hb pins s1 σ H1 _ I1 q1) fun u s2 ⟨y,H2,I2,r2,q2⟩ => ?_
  exact hf v u s2 x y H2 I2 r1 r2 q2

theorem pe_op {op:Operator} {r:R2} (ho:OpR X (binaryOp op) r) (ha:PE X a ta) (hb:PE X b tb):PE X (.BinOp a op b pos) (tOp r ta tb):=by
  intro pins s σ H Q I h
  exact wpAny_BinOp (binT ha hb I h fun v u s2 x y H2 I2 rx ry q=>ho pins s2 σ H2 x y v u Q I2 rx ry q)
theorem pe_un {op:UnaryOp} {r:V→Hp→VK→Prop} (ho:UnR X (unaryOp op) r) (ha:PE X a ta):PE X (.UnaryOp op a pos) (tUn r ta):=by
  intro pins s σ H Q I h
  exact UnaryOp_ (thn (ha pins s σ H _ I h) fun v s1 ⟨x,H1,I1,r1,q1⟩=>ho pins s1 σ H1 x v Q I1 r1 q1)

theorem opI {f:Value→Value→Sem Value} {C:Int→Int→Prop} {g:Int→Int→Int}
    (rule:∀ (i j:Int) (t u:Tok) (s:Shared) (Q:Value→Shared→Prop) (E:Value→Shared→Prop),C i j→Q (.int (g i j) s.toks) { s with toks:=s.toks+1 }→wpAny (model X.prog X.w) X.A (f (.int i t) (.int j u)) Q E s) :
    OpR X f (rI C fun i j => .int (g i j)):=by
  intro pins s σ H x y v u Q I rx ry h
  obtain ⟨i,j,rfl,rfl,hc,q⟩:=h
  obtain ⟨t,rfl⟩:=rx
  obtain ⟨t',rfl⟩:=ry
  exact rule i j t t' s _ _ hc ⟨.int (g i j),H,I.tok _,⟨_,rfl⟩,q⟩
theorem opI0 {f:Value→Value→Sem Value} {g:Int→Int→Int}
    (rule:∀ (i j:Int) (t u:Tok) (s:Shared) (Q:Value→Shared→Prop) (E:Value→Shared→Prop),Q (.int (g i j) s.toks) { s with toks:=s.toks+1 }→wpAny (model X.prog X.w) X.A (f (.int i t) (.int j u)) Q E s) :
    OpR X f (rI0 fun i j => .int (g i j)):=by
  intro pins s σ H x y v u Q I rx ry h
  obtain ⟨i,j,rfl,rfl,q⟩:=h
  obtain ⟨t,rfl⟩:=rx
  obtain ⟨t',rfl⟩:=ry
  exact rule i j t t' s _ _ ⟨.int (g i j),H,I.tok _,⟨_,rfl⟩,q⟩
theorem opB0 {f:Value→Value→Sem Value} {g:Int→Int→Bool}
    (rule:∀ (i j:Int) (t u:Tok) (s:Shared) (Q:Value→Shared→Prop) (E:Value→Shared→Prop),Q (.bool (g i j)) s→wpAny (model X.prog X.w) X.A (f (.int i t) (.int j u)) Q E s) :
    OpR X f (rI0 fun i j => .bl (g i j)):=by
  intro pins s σ H x y v u Q I rx ry h
  obtain ⟨i,j,rfl,rfl,q⟩:=h
  obtain ⟨t,rfl⟩:=rx
  obtain ⟨t',rfl⟩:=ry
  exact rule i j t t' s _ _ ⟨.bl (g i j),H,I,rfl,q⟩

noncomputable def CDiv (i j:Int):Prop:=0 < j∧j < 1073741824
noncomputable def CPow (i j:Int):Prop:=0≤j∧j≤1000000∧i.natAbs < 2 ^ 64
noncomputable def CMul (i j:Int):Prop:=(-(2 ^ 64) < i∧i < 2 ^ 64)∨(-(2 ^ 64) < j∧j < 2 ^ 64)
theorem CMul.ok {i j:Int} (h:CMul i j):IntMulOk i j:=by
  rcases h with ⟨h1,h2⟩ | ⟨h1,h2⟩
  · exact .of_left (intBits_le_64 h1 h2)
  · exact .of_right (intBits_le_64 h1 h2)

theorem op_add:OpR X (binaryOp .Add) (rI0 fun i j => .int (i+j)):=opI0 fun _ _ _ _ _ _ _ q=>add_int q
theorem op_sub:OpR X (binaryOp .Sub) (rI0 fun i j => .int (i - j)):=opI0 fun _ _ _ _ _ _ _ q=>sub_int q
theorem op_mul:OpR X (binaryOp .Mult) (rI CMul fun i j => .int (i * j)):=opI fun _ _ _ _ _ _ _ hc q=>mul_int q hc.ok
theorem op_fdiv:OpR X (binaryOp .FloorDiv) (rI CDiv fun i j => .int (i / j)):=opI fun i j _ _ _ _ _ hc q=>by
  have h1:(0:Int) < j:=hc.1
  have h2:j < 1073741824:=hc.2
  exact floordiv_int (by omega) (by rw [Int.fdiv_eq_ediv_of_nonneg i (by omega)];exact q) (.inl (PyProof.noPylong_small (by omega)))
theorem op_mod:OpR X (binaryOp .Mod) (rI (fun _ j=>0 < j) fun i j => .int (i % j)):=opI fun i j _ _ _ _ _ hc q=>by
  have h1:(0:Int) < j:=hc
  exact mod_int' (by omega) (by rw [Int.fmod_eq_emod_of_nonneg i (by omega)];exact q)
theorem op_pow:OpR X (binaryOp .Pow) (rI CPow fun i j => .int (i ^ j.toNat)):=opI fun _ _ _ _ _ _ _ hc q=>pow_int_small hc.1 hc.2.1 hc.2.2 q
theorem op_shl:OpR X (binaryOp .LShift) (rI CPow fun i j => .int (i * 2 ^ j.toNat)):=opI fun _ _ _ _ _ _ _ hc q=>lshift_int_small hc.1 hc.2.1 hc.2.2 q
theorem op_and:OpR X (binaryOp .BitAnd) (rI0 fun i j => .int (Builtin.bitAnd i j)):=opI0 fun _ _ _ _ _ _ _ q=>and_int q
theorem op_or:OpR X (binaryOp .BitOr) (rI0 fun i j => .int (Builtin.bitOr i j)):=opI0 fun _ _ _ _ _ _ _ q=>or_int q


theorem unI {f:Value→Sem Value} {g:Int→Int}
    (rule:∀ (i:Int) (t:Tok) (s:Shared) (Q:Value→Shared→Prop) (E:Value→Shared→Prop),Q (.int (g i) s.toks) { s with toks:=s.toks+1 }→wpAny (model X.prog X.w) X.A (f (.int i t)) Q E s) :
    UnR X f (rU fun i => .int (g i)):=by
  intro pins s σ H x v Q I rx h
  obtain ⟨i,rfl,q⟩:=h
  obtain ⟨t,rfl⟩:=rx
  exact rule i t s _ _ ⟨.int (g i),H,I.tok _,⟨_,rfl⟩,q⟩
theorem un_neg:UnR X (unaryOp .USub) (rU fun i => .int (-i)):=unI fun _ _ _ _ _ q=>neg_int q

end

noncomputable def scal:V→V→Bool
  | .non,.non=>true | .non,.int _=>true | .int _,.non=>true | .non,.bl _=>true | .bl _,.non=>true | .non,.str _=>true | .str _,.non=>true
  | .int _,.int _=>true | .bl _,.bl _=>true | .str _,.str _=>true | .byt _,.byt _=>true
  | .int _,.str _=>true | .str _,.int _=>true | .bl _,.str _=>true | .str _,.bl _=>true
  | _,_=>false
noncomputable def rEq:R2:=fun x y H Q=>scal x y=true∧Q (.bl (decide (x=y))) H
noncomputable def rNe:R2:=fun x y H Q=>scal x y=true∧Q (.bl (!decide (x=y))) H

theorem dec_int {i j:Int}:decide (V.int i=V.int j)=(i == j):=by
  rw [Bool.eq_iff_iff]
  simp
theorem dec_bl {i j:Bool}:decide (V.bl i=V.bl j)=(i == j):=by
  rw [Bool.eq_iff_iff]
  simp
theorem dec_str {i j:Str}:decide (V.str i=V.str j)=(i == j):=by
  rw [Bool.eq_iff_iff]
  simp
theorem dec_byt {i j:Array UInt8}:decide (V.byt i=V.byt j)=(i.toList == j.toList):=by
  rw [Bool.eq_iff_iff]
  cases i
  cases j
  simp

section
variable {X:Cx} {a b c:Expr} {ta tb tc:TE} {pos:Pos}
theorem fin_bl {pins:List (Addr × Obj)} {σ : St} {H:Hp} {s:Shared} {Q:VK} {k k':Bool} (I:Inv X pins σ H s) (q:Q (.bl k) H) (e:k=k'):EP X pins σ Q (.bool k') s:=by
  subst e
  exact ⟨.bl k,H,I,rfl,q⟩
theorem op_eq:OpR X (compareOp .Eq) rEq:=by
  intro pins s σ H x y v u Q I rx ry h
  obtain ⟨hs,q⟩:=h
  cases x with
  | non =>
    cases rx
    cases y with
    | non=>cases ry;exact PySem.EqNone.eq_none_none (fin_bl I q (by simp))
    | bl j=>cases ry;exact PySem.EqNone.eq_none_bool (fin_bl I q (by simp))
    | int j=>obtain ⟨t',rfl⟩:=ry;exact PySem.EqNone.eq_none_int (fin_bl I q (by simp))
    | str j=>obtain ⟨t',rfl⟩:=ry;exact PySem.EqNone.eq_none_str (fin_bl I q (by simp))
    | _=>exact absurd (show false=true from hs) Bool.false_ne_true
  | bl i =>
    cases rx
    cases y with
    | non=>cases ry;exact PySem.EqNone.eq_bool_none (fin_bl I q (by simp))
    | bl j=>cases ry;exact eq_bool (fin_bl I q dec_bl)
    | str j=>obtain ⟨t',rfl⟩:=ry;exact PySem.EqMixed.eq_bool_str (fin_bl I q (by simp))
    | _=>exact absurd (show false=true from hs) Bool.false_ne_true
  | int i =>
    obtain ⟨t,rfl⟩:=rx
    cases y with
    | non=>cases ry;exact PySem.EqNone.eq_int_none (fin_bl I q (by simp))
    | int j=>obtain ⟨t',rfl⟩:=ry;exact eq_int (fin_bl I q dec_int)
    | str j=>obtain ⟨t',rfl⟩:=ry;exact PySem.EqMixed.eq_int_str (fin_bl I q (by simp))
    | _=>exact absurd (show false=true from hs) Bool.false_ne_true
  | str i =>
    obtain ⟨t,rfl⟩:=rx
    cases y with
    | non=>cases ry;exact PySem.EqNone.eq_str_none (fin_bl I q (by simp))
    | bl j=>cases ry;exact PySem.EqMixed.eq_str_bool (fin_bl I q (by simp))
    | int j=>obtain ⟨t',rfl⟩:=ry;exact PySem.EqMixed.eq_str_int (fin_bl I q (by simp))
    | str j=>obtain ⟨t',rfl⟩:=ry;exact eq_str (fin_bl I q dec_str)
    | _=>exact absurd (show false=true from hs) Bool.false_ne_true
  | byt i =>
    obtain ⟨t,rfl⟩:=rx
    cases y with
    | byt j=>obtain ⟨t',rfl⟩:=ry;exact PySem.W.eq_bytes (fin_bl I q dec_byt)
    | _=>exact absurd (show false=true from hs) Bool.false_ne_true
  | _=>cases y <;> exact absurd (show false=true from hs) Bool.false_ne_true
theorem op_ne:OpR X (compareOp .NotEq) rNe:=by
  intro pins s σ H x y v u Q I rx ry h
  obtain ⟨hs,q⟩:=h
  cases x with
  | non =>
    cases rx
    cases y with
    | non=>cases ry;exact PySem.EqNone.ne_none_none (fin_bl I q (by simp))
    | bl j=>cases ry;exact PySem.EqNone.ne_none_bool (fin_bl I q (by simp))
    | int j=>obtain ⟨t',rfl⟩:=ry;exact PySem.EqNone.ne_none_int (fin_bl I q (by simp))
    | str j=>obtain ⟨t',rfl⟩:=ry;exact PySem.EqNone.ne_none_str (fin_bl I q (by simp))
    | _=>exact absurd (show false=true from hs) Bool.false_ne_true
  | bl i =>
    cases rx
    cases y with
    | non=>cases ry;exact PySem.EqNone.ne_bool_none (fin_bl I q (by simp))
    | bl j=>cases ry;exact ne_bool (fin_bl I q (congrArg not dec_bl))
    | str j=>obtain ⟨t',rfl⟩:=ry;exact PySem.EqMixed.ne_bool_str (fin_bl I q (by simp))
    | _=>exact absurd (show false=true from hs) Bool.false_ne_true
  | int i =>
    obtain ⟨t,rfl⟩:=rx
    cases y with
    | non=>cases ry;exact PySem.EqNone.ne_int_none (fin_bl I q (by simp))
    | int j=>obtain ⟨t',rfl⟩:=ry;exact ne_int (fin_bl I q (congrArg not dec_int))
    | str j=>obtain ⟨t',rfl⟩:=ry;exact PySem.EqMixed.ne_int_str (fin_bl I q (by simp))
    | _=>exact absurd (show false=true from hs) Bool.false_ne_true
  | str i =>
    obtain ⟨t,rfl⟩:=rx
    cases y with
    | non=>cases ry;exact PySem.EqNone.ne_str_none (fin_bl I q (by simp))
    | bl j=>cases ry;exact PySem.EqMixed.ne_str_bool (fin_bl I q (by simp))
    | int j=>obtain ⟨t',rfl⟩:=ry;exact PySem.EqMixed.ne_str_int (fin_bl I q (by simp))
    | str j=>obtain ⟨t',rfl⟩:=ry;exact ne_str (fin_bl I q (congrArg not dec_str))
    | _=>exact absurd (show false=true from hs) Bool.false_ne_true
  | byt i =>
    obtain ⟨t,rfl⟩:=rx
    cases y with
    | byt j=>obtain ⟨t',rfl⟩:=ry;exact PySem.W.ne_bytes (fin_bl I q (congrArg not dec_byt))
    | _=>exact absurd (show false=true from hs) Bool.false_ne_true
  | _=>cases y <;> exact absurd (show false=true from hs) Bool.false_ne_true

theorem op_lt:OpR X (compareOp .Lt) (rI0 fun i j => .bl (decide (i < j))):=opB0 fun _ _ _ _ _ _ _ q=>lt_int q
theorem op_le:OpR X (compareOp .LtE) (rI0 fun i j => .bl (decide (i≤j))):=opB0 fun _ _ _ _ _ _ _ q=>le_int q
theorem op_gt:OpR X (compareOp .Gt) (rI0 fun i j => .bl (decide (j < i))):=opB0 fun _ _ _ _ _ _ _ q=>gt_int q
inductive J_op_in_str (x:V) (y:V) (H:Hp) (Q:VK):Prop
  | mk:∀ i j,(x = .str i)→(y = .str j)→(Q (.bl (!(Builtin.Str.occurrences j i 0 j.length 1).isEmpty)) H)→J_op_in_str x y H Q
theorem op_in_str:OpR X (compareOp .In) (fun x y H Q=>J_op_in_str x y H Q):=by
  intro pins s σ H x y v u Q I rx ry h
  obtain ⟨i,j,rfl,rfl,q⟩:=h
  obtain ⟨t,rfl⟩:=rx
  obtain ⟨t',rfl⟩:=ry
  exact in_str (fin_bl I q rfl)

theorem op_isN:OpR X (compareOp .Is) (fun x y H Q=>y = .non∧Q (.bl (decide (x = .non))) H):=by
  intro pins s σ H x y v u Q I rx ry h
  obtain ⟨rfl,q⟩:=h
  cases ry
  refine is_none_gen (fin_bl I q ?_)
  cases x <;> first
    | (cases rx;rfl)
    | (obtain ⟨t,rfl⟩:=rx;rfl)



theorem nomark (b:Expr) {op:CmpOp} (h:op ≠ .In:=by decide) (h2:op ≠ .NotIn:=by decide):behindInMarks op b=false:=by
  have e1:(op == CmpOp.In)=false:=by cases op <;> first | rfl | exact absurd rfl h
  have e2:(op == CmpOp.NotIn)=false:=by cases op <;> first | rfl | exact absurd rfl h2
  cases b <;> simp [behindInMarks,e1,e2]
theorem pe_cmpR {op:CmpOp} {r:R2} (ho:OpR X (compareOp op) r) (ha:PE X a ta) (hb:PE X b tb) (hm:behindInMarks op b=false):PE X (.Compare a [op] [b] pos) (tOp r ta tb):=by
  intro pins s σ H Q I h
  exact wpAny_Compare1 (binT ha hb I h fun v u s2 x y H2 I2 rx ry q=>ho pins s2 σ H2 x y v u Q I2 rx ry q) hm
inductive RTest (x:V) (H:Hp) (Q:Bool→Hp→Prop):Prop
  | mk (k:Bool) (hx:x = .bl k) (q:Q k H):RTest x H Q
noncomputable def tTest (t:TE):TT:=fun σ H Q=>t σ H fun x H'=>RTest x H' Q
theorem pt_cmpR {op:CmpOp} {r:R2} (ho:OpR X (compareOp op) r) (ha:PE X a ta) (hb:PE X b tb) (hm:behindInMarks op b=false):PT X (.Compare a [op] [b] pos) (tTest (tOp r ta tb)):=by
  intro pins s σ H Q I h
  refine wpAny_isTrue_Compare1 (thn (ha pins s σ H _ I h) fun v s1 ⟨x,H1,I1,r1,q1⟩=>thn (hb pins s1 σ H1 _ I1 q1) fun u s2 ⟨y,H2,I2,r2,q2⟩ =>
    thn (ho pins s2 σ H2 x y v u _ I2 r1 r2 q2) fun c s3 ⟨z,H3,I3,r3,k,e,q3⟩ => ?_) hm
  subst e
  cases r3
  exact wpAny_truthy_bool ⟨H3,I3,q3⟩

noncomputable def TruV (K:PySem.W.Frag) (x:V) (H:Hp) (k:Bool):Prop :=
  match x with
  | .non=>k=false
  | .bl b=>k=b
  | .int i=>k=(i != 0)
  | .str y=>y.length≤sizeLine∧k=((y.length:Int) != 0)
  | .byt y=>y.size≤sizeLine∧k=((y.size:Int) != 0)
  | .ref p=>(∃ xs,SqL K H p xs∧k = !xs.isEmpty)∨(∃ xs,SqT K H p xs∧k = !xs.isEmpty)∨∃ kvs,H p=some (.dK kvs)∧k = !kvs.isEmpty
  | _=>False
theorem isEmpty_kv {κ : Type} {kvs:List (κ × V)} {vs:List (κ × Value)} (r:KV kvs vs):(!vs.isEmpty) = !kvs.isEmpty:=by
  cases r <;> rfl
theorem isEmpty_of {xs:List V} {its:List Value} (r:Vals xs its):(!its.toArray.isEmpty) = !xs.isEmpty:=by
  cases r <;> simp
theorem line63:(sizeLine:Nat) < 2 ^ 63:=by rw [sizeLine_eq];decide
theorem tru_ok:TruR X (fun x H Q=>∃ k,TruV X.K x H k∧Q k H):=by
  intro pins s σ H x v Q I rx h
  obtain ⟨k,e,q⟩:=h
  have hl:=line63
  have hs:sizeLine=16777216:=sizeLine_eq
  cases x with
  | non =>
    cases rx
    have e':k=false:=e
    subst e'
    exact truthy_none ⟨H,I,q⟩
  | bl b =>
    cases rx
    have e':k=b:=e
    subst e'
    exact wpAny_truthy_bool ⟨H,I,q⟩
  | int i =>
    obtain ⟨t,rfl⟩:=rx
    have e':k=(i != 0):=e
    subst e'
    exact PySem.P.truthy_int ⟨H,I,q⟩
  | str y =>
    obtain ⟨t,rfl⟩:=rx
    obtain ⟨hy,e'⟩:y.length≤sizeLine∧k=((y.length:Int) != 0):=e
    subst e'
    exact PySem.P.truthy_str (by omega) ⟨H,I.tok _,q⟩
  | byt y =>
    obtain ⟨t,rfl⟩:=rx
    obtain ⟨hy,e'⟩:y.size≤sizeLine∧k=((y.size:Int) != 0):=e
    subst e'
    exact PySem.W.truthy_bytes (by omega) ⟨H,I.tok _,q⟩
  | ref p =>
    cases rx
    have e':(∃ xs,SqL X.K H p xs∧k = !xs.isEmpty)∨(∃ xs,SqT X.K H p xs∧k = !xs.isEmpty)∨∃ kvs,H p=some (.dK kvs)∧k = !kvs.isEmpty:=e
    rcases e' with ⟨xs,hx,e'⟩ | ⟨xs,hx,e'⟩ | ⟨kvs,hx,e'⟩
    · subst e'
      obtain ⟨its,r,pl,hz⟩:=I.list hx
      have hlen:=r.length
      exact wpAny_truthy_list pl.isList (by simp only [List.size_toArray];omega) ⟨H,I.tok _,by rw [isEmpty_of r];exact q⟩
    · subst e'
      obtain ⟨its,r,pl,hz⟩:=I.tuple hx
      have hlen:=r.length
      exact truthy_tuple pl (by simp only [List.size_toArray];omega) ⟨H,I.tok _,by rw [isEmpty_of r];exact q⟩
    · subst e'
      obtain ⟨hz,hS,vs,r,m⟩:kvs.length≤sizeLine∧(p == sysModules)=false∧∃ vs,KV kvs vs∧s.heap.DictOf (mixKind X.prog X.w) p vs:=I.hok p _ hx
      have hlen:kvs.length=vs.length:=Paired.length r
      exact wpAny_truthy_dict hS m (by omega) ⟨H,I.tok _,by rw [isEmpty_kv r];exact q⟩
  | _=>exact (show False from e).elim
theorem pt_truth (ha:PE X a ta) (he:∀ whole,isTrue a X.env whole=(do let v ← whole;standAt a.pos;holding [v] (truthy v))) :
    PT X a (fun σ H Q=>ta σ H fun x H'=>∃ k,TruV X.K x H' k∧Q k H'):=by
  intro pins s σ H Q I h
  exact isTrue_plain (thn (ha pins s σ H _ I h) fun v s1 ⟨x,H1,I1,r1,q1⟩=>tru_ok pins s1 σ H1 x v Q I1 r1 q1) (he _)

inductive J_op_add_str (x:V) (y:V) (H:Hp) (Q:VK):Prop
  | mk:∀ i j,(x = .str i)→(y = .str j)→(i.length+j.length≤sizeLine)→(Q (.str (i ++ j)) H)→J_op_add_str x y H Q
theorem op_add_str:OpR X (binaryOp .Add) (fun x y H Q=>J_op_add_str x y H Q):=by
  intro pins s σ H x y v u Q I rx ry h
  obtain ⟨i,j,rfl,rfl,hz,q⟩:=h
  obtain ⟨t,rfl⟩:=rx
  obtain ⟨t',rfl⟩:=ry
  exact add_str (fun t' tk=>⟨.str (i ++ j),H,I.tok _,⟨_,rfl⟩,q⟩) hz
inductive J_iop_add_str (x:V) (y:V) (H:Hp) (Q:VK):Prop
  | mk:∀ i j,(x = .str i)→(y = .str j)→(i.length+j.length≤sizeLine)→(Q (.str (i ++ j)) H)→J_iop_add_str x y H Q
theorem iop_add_str:OpR X (inplaceOp .Add) (fun x y H Q=>J_iop_add_str x y H Q):=by
  intro pins s σ H x y v u Q I rx ry h
  obtain ⟨i,j,rfl,rfl,hz,q⟩:=h
  obtain ⟨t,rfl⟩:=rx
  obtain ⟨t',rfl⟩:=ry
  exact iadd_str (fun t' tk=>⟨.str (i ++ j),H,I.tok _,⟨_,rfl⟩,q⟩) hz


theorem vals1 {x:V} {us:List Value} (r:Vals [x] us):∃ u,us = [u]∧RelV x u:=by
  cases r with
  | cons r1 r2=>cases r2;exact ⟨_,rfl,r1⟩
theorem vals2 {x y:V} {us:List Value} (r:Vals [x,y] us):∃ u w',us = [u,w']∧RelV x u∧RelV y w':=by
  cases r with
  | cons r1 r2 =>
    cases r2 with
    | cons r3 r4=>cases r4;exact ⟨_,_,rfl,r1,r3⟩
theorem call_str_int:CallR X (.type "str") (fun xs H Q=>∃ i,xs = [.int i]∧i.natAbs.log2 < 1920∧Q (.str (toString i)) H):=by
  intro pins s σ H xs us Q I r h
  obtain ⟨i,rfl,hz,q⟩:=h
  obtain ⟨u,rfl,t,rfl⟩:=vals1 r
  exact PySem.P.str_of_int hz ⟨.str _,H,I.tok _,⟨_,rfl⟩,q⟩
end
end L2

namespace L2
open PySem PySem.Spec PyProof.Rows

structure ObjM (h:Heap) (x dx C:Addr) (mA:Str→Option Value):Prop where
  obj:h.get? x=some (PySem.W.instObj C dx)
  ns:h.Ns1 dx mA
  ne:dx≠x

theorem lookIn_ns {h:Heap} {dx:Addr} {mA:Str→Option Value} (n:h.Ns1 dx mA):∃ od,h.get? dx=some od∧∀ name,PySem.W.lookIn name od=some (mA name):=by
  obtain ⟨o,es,ep,ho,hd,hk,_,hm⟩:=n
  refine ⟨o,ho,fun name => ?_⟩
  have e:=hm name
  unfold nsFind findBy at e
  rw [← Array.find?_toList] at e
  unfold PySem.W.lookIn
  rw [hd]
  dsimp only
  split
  · rename_i y q
    rw [q] at e
    exact congrArg some e
  · rename_i q
    rw [q] at e
    have a:es.toList.any (·.refKey)=false:=by
      rw [List.any_eq_false]
      intro y hy
      obtain ⟨z,t,hkey⟩:=hk y (Array.mem_toList_iff.mp hy)
      simp [DictEntry.refKey,hkey]
    have a':¬ es.toList.any (·.refKey)=true:=by rw [a];exact Bool.false_ne_true
    rw [if_neg a']
    exact congrArg some e

theorem ObjM.look {h:Heap} {x dx C:Addr} {mA:Str→Option Value} (I:ObjM h x dx C mA):∃ od,PySem.W.InstAt h x (PySem.W.instObj C dx) C (some od)∧∀ name,PySem.W.lookIn name od=some (mA name) :=
  let ⟨od,ho,hl⟩:=lookIn_ns I.ns
  ⟨od,⟨I.obj,rfl,rfl,ho⟩,hl⟩

section
variable {prog:Program} {w:World} {A:Around} {E:Value→Shared→Prop} {s:Shared} {K:PySem.W.Frag} {x dx C f:Addr} {mA:Str→Option Value} {name:Str} {v:Value}

theorem get_map {expr:Bool} {Q:Value→Shared→Prop} (X:K.In s.heap) (I:ObjM s.heap x dx C mA) (hg:PySem.W.plainGet K C name=true) (hh:PySem.W.hasDictIn K C=true)
    (ha:PySem.W.findIn K (.ref C) name=some none) (hv:mA name=some v) (hv':PySem.W.handedIn v=true) (h:Q v { s with toks:=s.toks+1 }) :
    wpAny (model prog w) A (getAttr (.ref x) name expr) Q E s:=by
  obtain ⟨od,J,hl⟩:=I.look
  exact PySem.W.get_value X J (PySem.W.plainGet_of hg).1 (PySem.W.findObj_own hh ha rfl (by rw [hl,hv])) hv' h


theorem get_meth {pl:Sem Bool} {Q:Value × List Value→Shared→Prop} (X:K.In s.heap) (I:ObjM s.heap x dx C mA) (hg:PySem.W.plainGet K C name=true)
    (hf:PySem.W.findIn K (.ref C) name=some (some (.ref f))) (ht:PySem.W.isFn K (.ref f)=true) (hv:mA name=none) (h:Q (.ref f, [.ref x]) s) :
    wpAny (model prog w) A (getMethod (.ref x) name pl) Q E s:=by
  obtain ⟨od,J,hl⟩:=I.look
  exact PySem.W.method_fn X J (PySem.W.plainGet_of hg).1 (PySem.W.plainGet_of hg).2 hf (beq_iff_eq.mp ht) (by show (PySem.W.lookIn name od).map (·.isSome)=some false;rw [hl,hv];rfl) h

theorem set_map {ns:List Str} {Q:Unit→Shared→Prop} (X:K.In s.heap) (I:ObjM s.heap x dx C mA)
    (hs:PySem.W.findIn K (.ref C) "__setattr__" = some (some (.builtin "object.__setattr__"))) (hp:PySem.W.plainOver K C=true) (ht:PySem.W.takerIn K C name=some none) (hh:PySem.W.hasDictIn K C=true)
    (hw:PySem.Within mA ns) (hsz:ns.length≤sizeLine)
    (h:∀ h',ObjM h' x dx C (fun y=>if y=name then some v else mA y)→Heap.SameBut dx s.heap h'→Q () { s with heap:=h',toks:=s.toks+2 }) :
    wpAny (model prog w) A (setAttr (.ref x) name v) Q E s:=by
  obtain ⟨od,J,hl⟩:=I.look
  refine PySem.W.set_plain X J hs (PySem.W.osa_open (s := { s with toks:=s.toks+1 }) (r:=none) X J hp ht fun b => ?_)
  obtain ⟨cd,hc,hd'⟩:=PySem.W.any_some hh
  have hx:s.heap.get? x=some ⟨.ref C,some dx,.plain, #[]⟩:=I.obj
  refine wpAny_bind (wpAny_pure (wpAny_bind (wpAny_bind (wpAny_loadPart hx (wpAny_bind (PySem.W.Looks.here (s := { s with toks:=s.toks+1 }) (PySem.W.looks_clsIn X hc) ?_))))))
  rw [hd']
  refine wpAny_pure (a:=some dx) (wpAny_bind (wpAny_pure (wpAny_bind ?_)))
  refine wpAny_nsSet1 (s := { s with toks:=s.toks+1 }) I.ns fun h' hn2 hs2 => ?_
  obtain ⟨oD,esD,epD,hoD,hdD,hcD⟩:=hn2.count (PySem.Within.cons name v hw)
  refine wpAny_bind (wpAny_lookBehind hoD (by rw [hdD];exact pastItsLine_dict (Nat.le_trans hcD (by rw [List.length_cons];omega))) ?_)
  exact wpAny_pure (h _ ⟨(hs2.2 _ (Ne.symm I.ne)).trans I.obj,hn2,I.ne⟩ hs2)

theorem make_map {R:Result→Shared→Prop} {vs:List Value} {kw:List (Str × Value)} (X:K.In s.heap) (hm:PySem.W.makesIn K C=true)
    (hi:PySem.W.findIn K (.ref C) "__init__" = some (some (.ref f))) (hf:PySem.W.typeIn K (.ref f)=some (.type "function"))
    (h:codeAny (model prog w) (A.under (.builtin "type.__call__" ⟨.ref C :: vs,kw⟩)) (.call (.ref f) ⟨.ref (s.heap.objs.size+1) :: vs,kw⟩) (PySem.W.InitBack (s.heap.objs.size+1) R)
      { s with heap:=(s.heap.push PySem.W.emptyDict).push (PySem.W.instObj C s.heap.objs.size) }) :
    codeAny (model prog w) A (.call (.ref C) ⟨vs,kw⟩) R s:=by
  obtain ⟨hh,g,d,t,os⟩:=s
  exact PySem.W.make_core (PySem.W.makes_of X hm) (PySem.W.looks_findIn X hi) (fun self=>PySem.W.bind_fn X self hf) (.inl rfl) h
end

noncomputable def putF (f:Str) (v:V):List (Str × V)→List (Str × V)
  | [] => [(f,v)]
  | (g,x) :: r=>if g=f then (g,v) :: r else (g,x) :: putF f v r
theorem lookup_putF (f g:Str) (v:V):∀ fs:List (Str × V),(putF f v fs).lookup g=if g=f then some v else fs.lookup g
  | []=>by
    show List.lookup g [(f,v)]=_
    by_cases h:g=f
    · have hb:(g == f)=true:=beq_iff_eq.mpr h
      simp only [List.lookup,hb,if_pos h]
    · have hb:(g == f)=false:=beq_eq_false_iff_ne.mpr h
      simp only [List.lookup,hb,if_neg h]
  | (k,x) :: r=>by
    have ih:=lookup_putF f g v r
    rw [show putF f v ((k,x) :: r)=(if k=f then (k,v) :: r else (k,x) :: putF f v r) from rfl]
    by_cases hk:k=f
    · rw [if_pos hk]
      by_cases h:g=k
      · have hb:(g == k)=true:=beq_iff_eq.mpr h
        simp only [List.lookup,hb,if_pos (h.trans hk)]
      · have hb:(g == k)=false:=beq_eq_false_iff_ne.mpr h
        simp only [List.lookup,hb,if_neg (fun e:g=f=>h (e.trans hk.symm))]
    · rw [if_neg hk]
      by_cases h:g=k
      · have hb:(g == k)=true:=beq_iff_eq.mpr h
        simp only [List.lookup,hb,if_neg (fun e:g=f=>hk (h.symm.trans e))]
      · have hb:(g == k)=false:=beq_eq_false_iff_ne.mpr h
        simp only [List.lookup,hb]
        exact ih
theorem keys_putF (f:Str) (v:V):∀ fs:List (Str × V),f∈(putF f v fs).map (·.1)∧∀ g,g∈fs.map (·.1)→g∈(putF f v fs).map (·.1)
  | []=>⟨by simp [putF],fun g h=>by simp at h⟩
  | (k,x) :: r=>by
    obtain ⟨i1,i2⟩:=keys_putF f v r
    rw [show putF f v ((k,x) :: r)=(if k=f then (k,v) :: r else (k,x) :: putF f v r) from rfl]
    by_cases hk:k=f
    · rw [if_pos hk]
      subst hk
      exact ⟨by simp,fun g h=>by simpa using h⟩
    · rw [if_neg hk]
      refine ⟨?_,fun g h => ?_⟩
      · rw [List.map_cons]
        exact List.mem_cons_of_mem _ i1
      · rw [List.map_cons] at h ⊢
        rcases List.mem_cons.mp h with e | e
        · exact List.mem_cons.mpr (.inl e)
        · exact List.mem_cons_of_mem _ (i2 g e)
theorem length_putF (f:Str) (v:V):∀ fs:List (Str × V),(putF f v fs).length≤fs.length+1
  | []=>by simp [putF]
  | (k,x) :: r=>by
    have ih:=length_putF f v r
    rw [show putF f v ((k,x) :: r)=(if k=f then (k,v) :: r else (k,x) :: putF f v r) from rfl]
    by_cases hk:k=f
    · rw [if_pos hk,List.length_cons,List.length_cons];omega
    · rw [if_neg hk,List.length_cons,List.length_cons];omega

theorem RelO.some_of {v:V} {o:Option Value} (r:RelO (some v) o):∃ u,o=some u∧RelV v u:=by
  cases o with
  | none=>exact (show False from r).elim
  | some u=>exact ⟨u,rfl,r⟩
theorem RelO.none_of {o:Option Value} (r:RelO none o):o=none:=by
  cases o with
  | none=>rfl
  | some u=>exact (show False from r).elim
theorem handed_of {v:V} {u:Value} (r:RelV v u):PySem.W.handedIn u=true:=by
  cases v with
  | non=>cases (show u=Value.none from r);rfl
  | bl b=>cases (show u=Value.bool b from r);rfl
  | int i=>obtain ⟨t,e⟩:=(show ∃ t,u=Value.int i t from r);cases e;rfl
  | str x=>obtain ⟨t,e⟩:=(show ∃ t,u=Value.str x t from r);cases e;rfl
  | byt b=>obtain ⟨t,e⟩:=(show ∃ t,u=Value.bytes b t from r);cases e;rfl
  | flt b=>obtain ⟨t,e⟩:=(show ∃ t,u=Value.float b t from r);cases e;rfl
  | ref a=>cases (show u=Value.ref a from r);rfl
  | ty n=>cases (show u=Value.type n from r);rfl

section
variable {P:Program} {w:World} {H H':Hp} {h h':Heap} {a C dx:Addr} {fs fs':List (Str × V)}
theorem ins_get (hok:HOk P w H h) (e:H a=some (.ins C dx fs)):∃ mA,ObjM h a dx C mA∧(∀ f,RelO (fs.lookup f) (mA f))∧PySem.Within mA (fs.map (·.1))∧fs.length≤1000∧H dx=some (.own a):=by
  obtain ⟨d,z,ne,ob,mA,n,r,q⟩:=(show ObjOk P w H h a (.ins C dx fs) from hok a _ e)
  exact ⟨mA,⟨ob,n,ne⟩,r,q,z,d⟩
end

structure Cls (K:PySem.W.Frag) (C:Addr):Prop where
  pg:PySem.W.plainGet K C Str.empty=true
  hd:PySem.W.hasDictIn K C=true
  po:PySem.W.plainOver K C=true
  sa:PySem.W.findIn K (.ref C) "__setattr__" = some (some (.builtin "object.__setattr__"))
theorem Cls.get {K:PySem.W.Frag} {C:Addr} (c:Cls K C) (f:Str):PySem.W.plainGet K C f=true:=c.pg
noncomputable def NoAttr (K:PySem.W.Frag) (C:Addr) (f:Str):Prop:=PySem.W.findIn K (.ref C) f=some none
theorem NoAttr.taker {K:PySem.W.Frag} {C:Addr} {f:Str} (n:NoAttr K C f):PySem.W.takerIn K C f=some none:=by
  unfold PySem.W.takerIn
  rw [show PySem.W.findIn K (.ref C) f=some none from n]
  rfl
structure Meth (K:PySem.W.Frag) (C:Addr) (m:Str) (f:Addr):Prop where
  at_:PySem.W.findIn K (.ref C) m=some (some (.ref f))
  fn:PySem.W.isFn K (.ref f)=true
  kp:PySem.W.keepIn K (.ref f)=true

section
variable {X:Cx} {pins:List (Addr × Obj)} {σ : St} {H:Hp} {s:Shared} {a C dx:Addr} {fs:List (Str × V)} {f:Str} {v:V} {A:Around} {E:Value→Shared→Prop}

theorem getattr_ok {b:Bool} {Q:Value→Shared→Prop} (I:Inv X pins σ H s) (e:H a=some (.ins C dx fs)) (c:Cls X.K C) (n:NoAttr X.K C f) (l:fs.lookup f=some v)
    (h:∀ u s',Inv X pins σ H s'→RelV v u→Q u s'):wpAny (model X.prog X.w) A (getAttr (.ref a) f b) Q E s:=by
  obtain ⟨mA,O,r,_,_,_⟩:=ins_get I.hok e
  obtain ⟨u,hu,ru⟩:=RelO.some_of (v:=v) (o:=mA f) (by rw [← l];exact r f)
  exact get_map I.kIn O (c.get f) c.hd n hu (handed_of ru) (h u _ (I.tok _) ru)


theorem getmeth_ok {m:Str} {g:Addr} {pl:Sem Bool} {Q:Value × List Value→Shared→Prop} (I:Inv X pins σ H s) (e:H a=some (.ins C dx fs)) (c:Cls X.K C) (k:Meth X.K C m g) (l:fs.lookup m=none)
    (h:Q (.ref g, [.ref a]) s):wpAny (model X.prog X.w) A (getMethod (.ref a) m pl) Q E s:=by
  obtain ⟨mA,O,r,_,_,_⟩:=ins_get I.hok e
  have hn:mA m=none:=RelO.none_of (by rw [← l];exact r m)
  exact get_meth I.kIn O (c.get m) k.at_ k.fn hn h

theorem setattr_ok {y:V} {u:Value} {Q:Unit→Shared→Prop} (I:Inv X pins σ H s) (e:H a=some (.ins C dx fs)) (c:Cls X.K C) (n:NoAttr X.K C f) (hl:fs.length < 1000) (ry:RelV y u)
    (h:∀ s',Inv X pins σ (upd H a (.ins C dx (putF f y fs))) s'→Q () s'):wpAny (model X.prog X.w) A (setAttr (.ref a) f u) Q E s:=by
  obtain ⟨mA,O,r,wi,_,ho⟩:=ins_get I.hok e
  have hz:(fs.map (·.1)).length≤sizeLine:=by rw [List.length_map,sizeLine_eq];omega
  refine set_map I.kIn O c.sa c.po n.taker c.hd wi hz fun h' O' sb=>h _ ?_
  have hd:∃ o,h'.get? dx=some o:=let ⟨o,_,_,e',_⟩:=O'.ns; ⟨o,e'⟩
  refine I.write (x:=a) (e:=dx) (by rw [e];exact True.intro) (.inr ho) (fun b q hb z=>(sb.2 b hb).trans z) hd ?_
  refine ⟨by rw [upd_ne O.ne];exact ho,?_,O.ne,O'.obj,_,O'.ns,fun g => ?_,fun g hg => ?_⟩
  · have:=length_putF f y fs;omega
  · show RelO ((putF f y fs).lookup g) (if g=f then some u else mA g)
    rw [lookup_putF]
    by_cases q:g=f
    · rw [if_pos q,if_pos q];exact ry
    · rw [if_neg q,if_neg q];exact r g
  · by_cases q:g=f
    · rw [q];exact (keys_putF f y fs).1
    · refine (keys_putF f y fs).2 g (wi g fun z=>hg ?_)
      show (if g=f then some u else mA g)=none
      rw [if_neg q];exact z

theorem Inv.made (I:Inv X pins σ H s):Inv X pins σ (upd (upd H s.heap.objs.size (.own (s.heap.objs.size+1))) (s.heap.objs.size+1) (.ins C s.heap.objs.size []))
    { s with heap:=(s.heap.push PySem.W.emptyDict).push (PySem.W.instObj C s.heap.objs.size) }:=by
  have e1:(s.heap.push PySem.W.emptyDict).get? s.heap.objs.size=some PySem.W.emptyDict:=Heap.get?_push_size s.heap rfl
  have e2:((s.heap.push PySem.W.emptyDict).push (PySem.W.instObj C s.heap.objs.size)).get? (s.heap.objs.size+1)=some (PySem.W.instObj C s.heap.objs.size):=by
    have:=Heap.get?_push_size (s.heap.push PySem.W.emptyDict) (o:=PySem.W.instObj C s.heap.objs.size) rfl
    rwa [Heap.size_push] at this
  have e3:(s.heap.push PySem.W.emptyDict).Ns s.heap.objs.size (fun _=>none):=⟨PySem.W.emptyDict, #[],_,e1,rfl,(fun e he=>absurd he (by simp)),fun _=>rfl⟩
  have I1:=I.laid (a:=s.heap.objs.size) (o := .own (s.heap.objs.size+1)) (h':=s.heap.push PySem.W.emptyDict) (t':=s.toks) (fun b u q=>Heap.get?_push_of_some _ q) (Nat.le_refl _) ⟨_,e1⟩
  refine I1.laid (a:=s.heap.objs.size+1) (o := .ins C s.heap.objs.size []) (t':=s.toks) (fun b u q=>Heap.get?_push_of_some _ q) (Nat.le_of_eq (Heap.size_push _ _)) ?_
  have ne:s.heap.objs.size≠s.heap.objs.size+1:=Nat.ne_of_lt (Nat.lt_succ_self _)
  refine ⟨by rw [upd_ne ne,upd_same],Nat.zero_le _,ne,e2,fun _=>none,(Heap.Ns1.of_empty e3).at fun o q=>Heap.get?_push_of_some _ q,fun _=>True.intro,fun y hy=>absurd rfl hy⟩

theorem attr_of {prog:Program} {w:World} {env:Env} {e:Expr} {f:Str} {pos:Pos} {s:Shared} {Q:Value→Shared→Prop} (hb:attributeBase e f env (eval e env)=eval e env)
    (h:wpAny (model prog w) A (eval e env) (fun o s₁ => wpAny (model prog w) A (getAttr o f true) Q E s₁) E s):wpAny (model prog w) A (eval (.Attribute e f pos) env) Q E s :=
  Attribute_any_ h (by rw [arm_eval_Attribute,hb])
end

inductive RFld (K:PySem.W.Frag) (f:Str) (x:V) (H:Hp) (Q:VK):Prop
  | mk (a C dx:Addr) (fs:List (Str × V)) (v:V) (hx:x = .ref a) (h:H a=some (.ins C dx fs)) (c:Cls K C) (n:NoAttr K C f) (l:fs.lookup f=some v) (q:Q v H):RFld K f x H Q
noncomputable def tFld (K:PySem.W.Frag) (ta:TE) (f:Str):TE:=fun σ H Q=>ta σ H fun x H1=>RFld K f x H1 Q
inductive J_sFld (K:PySem.W.Frag) (f:Str) (D:Ends) (σ : St) (y:V) (x:V) (H2:Hp):Prop
  | mk:∀ a C dx fs,(x = .ref a)→(H2 a=some (.ins C dx fs))→(Cls K C)→(NoAttr K C f)→(fs.length < 1000)→(D.nx σ (upd H2 a (.ins C dx (putF f y fs))))→J_sFld K f D σ y x H2
noncomputable def sFld (K:PySem.W.Frag) (ta tv:TE) (f:Str):TS:=fun D σ H=>tv σ H fun y H1=>ta σ H1 fun x H2=>J_sFld K f D σ y x H2
noncomputable def InOp (X:Cx) (op:Operator) (rd:V→V→Hp→VK→Prop):Prop :=
  ∀ (pins:List (Addr × Obj)) (s:Shared) (σ : St) (H:Hp) (x y:V) (u v:Value) (Q:VK),Inv X pins σ H s→RelV x u→RelV y v→rd x y H Q→wpAny (model X.prog X.w) X.A (inplaceOp op u v) (EP X pins σ Q) X.xe s
noncomputable def sFldAug (K:PySem.W.Frag) (ta tv:TE) (rd:V→V→Hp→VK→Prop) (f:Str):TS:=fun D σ H=>ta σ H fun x H1=>∃ a C dx fs v,x = .ref a∧H1 a=some (.ins C dx fs)∧Cls K C∧NoAttr K C f∧fs.lookup f=some v ∧
  tv σ H1 fun y H2=>rd v y H2 fun z H3=>∃ dx' fs',H3 a=some (.ins C dx' fs')∧fs'.length < 1000∧D.nx σ (upd H3 a (.ins C dx' (putF f z fs')))

section
variable {X:Cx} {o e value:Expr} {f:Str} {pos pos' tpos:Pos} {ta tv:TE}
theorem pe_fld (he:PE X e ta) (hb:attributeBase e f X.env (eval e X.env)=eval e X.env):PE X (.Attribute e f pos) (tFld X.K ta f):=by
  intro pins s σ H Q I h
  refine attr_of hb (thn (he pins s σ H _ I h) fun u s1 ⟨x,H1,I1,rx,a,C,dx,fs,v,ex,ea,c,n,l,q⟩ => ?_)
  subst ex
  obtain rfl:u=Value.ref a:=rx
  exact getattr_ok I1 ea c n l fun u' s2 I2 ru=>⟨v,H1,I2,ru,q⟩
theorem ps_fld (ha:PE X o ta) (hv:PE X value tv) (hs:swapsWith value (some (.Attribute o f pos')) pos.line X.env=pure false):PS X (.Assign [.Attribute o f pos'] value pos) (sFld X.K ta tv f):=by
  intro pins s σ H D I h
  refine plainObj_wpAny_Assign_Attribute (thn (hv pins s σ H _ I h) fun u s1 ⟨y,H1,I1,ry,q⟩=>thn (ha pins s1 σ H1 _ I1 q) fun ov s2 ⟨x,H2,I2,rx,a,C,dx,fs,ex,ea,c,n,l,q2⟩ => ?_) hs
  subst ex
  obtain rfl:ov=Value.ref a:=rx
  exact setattr_ok I2 ea c n l ry fun s3 I3=>⟨σ,_,I3,q2⟩
theorem ps_fldaug {op:Operator} {rd:V→V→Hp→VK→Prop} (ha:PE X o ta) (hv:PE X value tv) (hop:InOp X op rd):PS X (.AugAssign (.Attribute o f tpos) op value pos) (sFldAug X.K ta tv rd f):=by
  intro pins s σ H D I h
  refine wpAny_AugAssign_AttributeAny (thn (ha pins s σ H _ I h) fun ov s1 hh => ?_)
  obtain ⟨x,H1,I1,rx,a,C,dx,fs,v,ex,ea,c,n,l,q⟩:=hh
  subst ex
  obtain rfl:ov=Value.ref a:=rx
  refine getattr_ok I1 ea c n l fun u s2 I2 ru=>thn (hv pins s2 σ H1 _ I2 q) fun w3 s3 ⟨y,H2,I3,ry,q3⟩=>thn (hop pins s3 σ H2 v y u w3 _ I3 ru ry q3) fun w4 s4 hh => ?_
  obtain ⟨z,H3,I4,rz,dx',fs',ea',l',q4⟩:=hh
  exact setattr_ok I4 ea' c n l' rz fun s5 I5=>⟨σ,_,I5,q4⟩
inductive J_rAdd (x:V) (y:V) (H:Hp) (Q:VK):Prop
  | mk:∀ i j,(x = .int i)→(y = .int j)→(Q (.int (i+j)) H)→J_rAdd x y H Q
noncomputable def rAdd:V→V→Hp→VK→Prop:=fun x y H Q=>J_rAdd x y H Q
theorem in_add:InOp X .Add rAdd:=by
  rintro pins s σ H x y u v Q I rx ry ⟨i,j,rfl,rfl,q⟩
  obtain ⟨t,rfl⟩:=(show ∃ t,u=Value.int i t from rx)
  obtain ⟨t',rfl⟩:=(show ∃ t',v=Value.int j t' from ry)
  exact PyProof.Rows.iadd_int ⟨.int (i+j),H,I.tok _,⟨_,rfl⟩,q⟩

end

section
variable {X:Cx} {pins:List (Addr × Obj)} {σ : St} {H:Hp} {s:Shared} {A:Around} {E:Value→Shared→Prop} {Q:Value→Shared→Prop} {c:Value} {b:Bool}
inductive TyOf (K:PySem.W.Frag) (H:Hp):V→Value→Prop where
  | non:TyOf K H .non (.type "NoneType")
  | bl (x:Bool):TyOf K H (.bl x) (.type "bool")
  | int (i:Int):TyOf K H (.int i) (.type "int")
  | str (x:Str):TyOf K H (.str x) (.type "str")
  | flt (x:UInt64):TyOf K H (.flt x) (.type "float")
  | lst {a:Addr} {xs:List V} (e:H a=some (.lst xs)):TyOf K H (.ref a) (.type "list")
  | frz {a:Addr} {o:Obj} {xs:List V} (e:H a=some (.frz o (.lst xs))):TyOf K H (.ref a) (.type "list")
  | tup {a:Addr} {xs:List V} (e:H a=some (.tup xs)):TyOf K H (.ref a) (.type "tuple")
  | dK {a:Addr} {kvs:List (Key × V)} (e:H a=some (.dK kvs)):TyOf K H (.ref a) (.type "dict")
  | dT {a:Addr} {kvs:List (List Key × V)} (e:H a=some (.dT kvs)):TyOf K H (.ref a) (.type "dict")
  | ins {a C dx:Addr} {fs:List (Str × V)} (e:H a=some (.ins C dx fs)) (cl:Cls K C) (ha:PySem.W.findIn K (.ref C) "__class__" = some (some (.builtin "object.__class__")))
      (hn:PySem.W.specialIn K (.builtin "object.__class__") "__get__" = some (some (.builtin "getset_descriptor.__get__"))) (htk:PySem.W.takesIn K (.builtin "object.__class__")=some true)
      (hm:PySem.W.mroIn K C (.type "object")=some true):TyOf K H (.ref a) (.ref C)
theorem isinst_ok {x:V} {u t:Value} (I:Inv X pins σ H s) (rx:RelV x u) (ty:TyOf X.K H x t) (e:PySem.W.kitOne X.K t c=some b) (h:∀ tk,Q (.bool b) { s with toks:=tk }) :
    wpAny (model X.prog X.w) A (call (.builtin "isinstance") [u,c]) Q E s:=by
  cases ty with
  | non=>cases (show u=Value.none from rx);exact PySem.W.kia_one PySem.W.kitx_none I.kIn True.intro e (fun z=>nomatch z) h
  | bl y=>cases (show u=Value.bool y from rx);exact PySem.W.kia_one PySem.W.kitx_bool I.kIn True.intro e (fun z=>nomatch z) h
  | int i=>obtain ⟨t,q⟩:=(show ∃ t,u=Value.int i t from rx);cases q;exact PySem.W.kia_one PySem.W.kitx_int I.kIn True.intro e (fun z=>nomatch z) h
  | str y=>obtain ⟨t,q⟩:=(show ∃ t,u=Value.str y t from rx);cases q;exact PySem.W.kia_one PySem.W.kitx_str I.kIn True.intro e (fun z=>nomatch z) h
  | flt y=>obtain ⟨t,q⟩:=(show ∃ t,u=Value.float y t from rx);cases q;exact PySem.W.kia_one PySem.W.kitx_float I.kIn True.intro e (fun z=>nomatch z) h
  | @lst a xs ea =>
    cases (show u=Value.ref a from rx)
    obtain ⟨_,_,n,_,h1⟩:=(show ObjOk X.prog X.w H s.heap a (.lst xs) from I.hok a _ ea)
    exact PySem.W.kia_one PySem.W.kitx_list I.kIn ⟨_,h1,rfl⟩ e (fun z=>nomatch z) h
  | @frz a ob xs ea =>
    cases (show u=Value.ref a from rx)
    obtain ⟨_,_,_,n,_,h1⟩:=(show ObjOk X.prog X.w H s.heap a (.frz ob (.lst xs)) from I.hok a _ ea)
    exact PySem.W.kia_one PySem.W.kitx_list I.kIn ⟨_,h1,rfl⟩ e (fun z=>nomatch z) h
  | @tup a xs ea =>
    cases (show u=Value.ref a from rx)
    obtain ⟨_,_,_,p⟩:=(show ObjOk X.prog X.w H s.heap a (.tup xs) from I.hok a _ ea)
    obtain ⟨o,h1,h2,_⟩:=p
    exact PySem.W.kia_one PySem.W.kitx_tuple I.kIn ⟨o,h1,h2⟩ e (fun z=>nomatch z) h
  | @dK a kvs ea =>
    cases (show u=Value.ref a from rx)
    obtain ⟨_,_,vs,_,p⟩:=(show ObjOk X.prog X.w H s.heap a (.dK kvs) from I.hok a _ ea)
    obtain ⟨o,es,ep,h1,h2,_⟩:=p
    exact PySem.W.kia_one PySem.W.kitx_dict I.kIn ⟨o,h1,h2.1⟩ e (fun z=>nomatch z) h
  | @dT a kvs ea =>
    cases (show u=Value.ref a from rx)
    obtain ⟨_,_,xs,_,o,es,ep,h1,h2,_⟩:=(show ObjOk X.prog X.w H s.heap a (.dT kvs) from I.hok a _ ea)
    exact PySem.W.kia_one PySem.W.kitx_dict I.kIn ⟨o,h1,h2.1⟩ e (fun z=>nomatch z) h
  | @ins a C dx fs ea cl ha hn htk hm =>
    cases (show u=Value.ref a from rx)
    obtain ⟨mA,O,_⟩:=ins_get I.hok ea
    obtain ⟨od,J,_⟩:=O.look
    exact PySem.W.kia_one (PySem.W.kitx_own (cl.get _) cl.hd ha hn htk hm) I.kIn J e (fun z=>nomatch z) h
end
end L2

namespace L2
open PySem PySem.Spec PyProof.Rows

structure Room (k:Nat) (A:Around):Prop where
  hd:A.handled=none
  dp:A.depth+3 * k+5 < recursionLimit
  un:A.units+16 * k+200 < cLine
theorem Room.mono {j k:Nat} {A:Around} (r:Room k A) (h:j≤k):Room j A:=⟨r.hd,by have:=r.dp;omega,by have:=r.un;omega⟩
theorem Room.deeper {k:Nat} {A:Around} (r:Room (k+1) A) (env:Env):Room k (A.deeper env) :=
  ⟨r.hd,by have:=r.dp;show A.depth+1+3 * k+5 < _;omega,by have:=r.un;show A.units+3+16 * k+200 < _;omega⟩
theorem make_depth {A:Around} {C:Addr} {us:List Value} {kw:List (Str × Value)}:(A.under (.builtin "type.__call__" ⟨.ref C :: us,kw⟩)).depth=A.depth+1:=by
  first | rfl | simp [Around.under,Code.weight,Code.isCreation,Code.isGuard,Code.isCaller,Code.frames,Code.isFrame,guardIds]
theorem make_units {A:Around} {C:Addr} {us:List Value} {kw:List (Str × Value)}:(A.under (.builtin "type.__call__" ⟨.ref C :: us,kw⟩)).units=A.units+1:=by
  first | rfl | simp [Around.under,Code.cUnits,Code.frames,Code.isFrame]
theorem Room.make {k:Nat} {A:Around} (r:Room (k+1) A) (C:Addr) (us:List Value) (kw:List (Str × Value)):Room k (A.under (.builtin "type.__call__" ⟨.ref C :: us,kw⟩)) :=
  ⟨r.hd,by have:=r.dp;rw [make_depth];omega,by have:=r.un;rw [make_units];omega⟩
theorem Room.depth {k:Nat} {A:Around} (r:Room k A):A.depth < recursionLimit:=by have:=r.dp;omega
theorem Room.units {k:Nat} {A:Around} (r:Room k A):A.units+64 < cLine:=by have:=r.un;omega
theorem Room.units0 {k:Nat} {A:Around} (r:Room k A):A.units < cLine:=by have:=r.un;omega

noncomputable def tNil:TA:=fun _ H Q=>Q [] H
noncomputable def tCons (ta:TE) (tr:TA):TA:=fun σ H Q=>ta σ H fun x H1=>tr σ H1 fun xs H2=>Q (x :: xs) H2
section
variable {X:Cx} {e:Expr} {es:List Expr} {te:TE} {t:TA} {pos:Pos}
theorem pa_nil:PA X [] tNil:=fun _ _ _ _ H Q I h=>Calls.spliced_nil ⟨[],H,I,.nil,h⟩
theorem pa_cons (ha:PE X e te) (hr:PA X es t) (hs:starEach (e :: es) X.env=(false,eval e X.env) :: starEach es X.env:=by rfl):PA X (e :: es) (tCons te t):=by
  intro pos pins s σ H Q I h
  rw [hs]
  show wpAny _ _ (spliced ((false,eval e X.env) :: backTo pos (starEach es X.env))) _ _ s
  refine Calls.spliced_cons (thn (ha pins s σ H _ I h) fun u s1 ⟨x,H1,I1,r1,q1⟩ => ?_)
  exact thn (hr pos pins s1 σ H1 _ I1 q1) fun us s2 ⟨xs,H2,I2,r2,q2⟩=>⟨x :: xs,H2,I2,.cons r1 r2,q2⟩

noncomputable def tTup (t:TA):TE:=fun σ H Q=>t σ H fun xs H1=>xs.length≤sizeLine∧∀ p,H1 p=none→Q (.ref p) (upd H1 p (.tup xs))
noncomputable def tLst (t:TA):TE:=fun σ H Q=>t σ H fun xs H1=>xs.length≤sizeLine∧∀ p,H1 p=none→Q (.ref p) (upd H1 p (.lst xs))
theorem pe_tup {x1} (h:PA X es t):PE X (.Tuple es x1 pos) (tTup t):=by
  intro pins s σ H Q I hq
  refine wpAny_Tuple_spliced (thn (h pos pins s σ H _ I hq) fun us s1 ⟨xs,H1,I1,r,z,q⟩=>⟨by rw [← r.length];exact z,?_⟩)
  have hf:H1 s1.heap.objs.size=none:=I1.hok.fresh (Nat.le_refl _)
  refine ⟨.ref s1.heap.objs.size,upd H1 s1.heap.objs.size (.tup xs),I1.laid (t':=s1.toks) (fun b u e=>Heap.get?_push_of_some _ e) (Nat.le_refl _) ?_,rfl,q _ hf⟩
  exact ⟨z,us,r,⟨_,Heap.get?_push_size _ rfl,rfl,_,rfl,rfl⟩⟩
theorem pe_lst (h:PA X es t):PE X (.List es pos) (tLst t):=by
  intro pins s σ H Q I hq
  refine wpAny_List_spliced (thn (h pos pins s σ H _ I hq) fun us s1 ⟨xs,H1,I1,r,z,q⟩=>⟨by rw [← r.length];exact z,?_⟩)
  have hf:H1 s1.heap.objs.size=none:=I1.hok.fresh (Nat.le_refl _)
  refine ⟨.ref s1.heap.objs.size,upd H1 s1.heap.objs.size (.lst xs),I1.laid (t':=s1.toks) (fun b u e=>Heap.get?_push_of_some _ e) (Nat.le_refl _) ?_,rfl,q _ hf⟩
  exact ⟨z,us,0,r,Heap.get?_push_size _ rfl⟩
end

noncomputable abbrev Sp:=List V→Hp→VK→XK→Prop
noncomputable abbrev CXT:=List Env→Hp→Shared→XK→Value→Shared→Prop

structure Env0 (P:Program) (w:World) (K:PySem.W.Frag) (mg:Str→Option Value) (base:Heap) (A:Around) (outer:List Env) (s:Shared) (H:Hp):Prop where
  frames:A.frames=some outer
  mod:Mod K mg base
  bs:∀ b o,base.get? b=some o→s.heap.get? b=some o∧H b=none
  bsz:base.objs.size≤s.heap.objs.size
  funs:s.heap.FunFrames base outer
  frf:∀ b∈frs outer,H b=none
  hok:HOk P w H s.heap
  bare:AllBare s.gens
noncomputable def CE (outer:List Env) (P:Program) (w:World) (H:Hp) (s:Shared) (Q:VK) (u:Value) (s':Shared):Prop :=
  ∃ v H',s'.os=s.os∧AllBare s'.gens∧Un (frs outer) [] H H' s.heap s'.heap∧HOk P w H' s'.heap∧RelV v u∧Q v H'
noncomputable def CR (CX:CXT) (outer:List Env) (P:Program) (w:World) (H:Hp) (s:Shared) (Q:VK) (E:XK) (r:Result) (s':Shared):Prop :=
  match r with
  | .ok (.ret u)=>CE outer P w H s Q u s'
  | .ok _=>False
  | .error e=>CX outer H s E e s'
structure FnOk (P:Program) (w:World) (K:PySem.W.Frag) (mg:Str→Option Value) (base:Heap) (CX:CXT) (k:Nat) (f:Addr) (fd:FuncData) (ps:List Str) (sp:Sp):Prop where
  len:∀ vs H Q E,sp vs H Q E→vs.length=ps.length
  run:∀ (A:Around) (outer:List Env) (s:Shared) (H:Hp) (args:Args) (us:List Value) (vs:List V) (Q:VK) (E:XK),Room k A→Env0 P w K mg base A outer s H→BindsTo s fd args (ps.zip us)→Vals vs us→sp vs H Q E →
    codeAny (model P w) A (.call (.ref f) args) (CR CX outer P w H s Q E) s

theorem Env0.make {P:Program} {w:World} {K:PySem.W.Frag} {mg:Str→Option Value} {base:Heap} {A:Around} {outer:List Env} {s:Shared} {H:Hp} (e:Env0 P w K mg base A outer s H) (C:Addr) (us:List Value) (kw:List (Str × Value)) :
    Env0 P w K mg base (A.under (.builtin "type.__call__" ⟨.ref C :: us,kw⟩)) outer s H:=⟨by first | exact e.frames | (simpa [Around.under,Code.envs,Code.isFrame,pushEnvs] using e.frames),e.mod,e.bs,e.bsz,e.funs,e.frf,e.hok,e.bare⟩

section
variable {X:Cx} {pins:List (Addr × Obj)} {σ : St} {H:Hp} {s s':Shared}
theorem Inv.env0 (I:Inv X pins σ H s):Env0 X.prog X.w X.K X.mg X.base X.A X.stack s H :=
  ⟨I.ok.frames,I.ok.mod,I.bs,Nat.le_trans I.ok.bsz I.sz,I.stack,I.stkFree,I.hok,I.bare⟩
theorem Inv.after {Q:VK} {u:Value} (I:Inv X pins σ H s) (h:CE X.stack X.prog X.w H s Q u s'):EP X pins σ Q u s':=by
  obtain ⟨v,H',os,bare,un,hok,r,q⟩:=h
  obtain ⟨hh,g,d,t,os'⟩:=s'
  obtain rfl:os'=s.os:=os
  exact ⟨v,H',I.call (h':=hh) (g':=g) (d':=d) (t':=t) (ch := []) un hok bare (fun b z=>absurd z (by simp)),r,q⟩
end

noncomputable def tCall (sp:Sp) (dvs:List V) (E:XK) (t:TA):TE:=fun σ H Q=>t σ H fun vs H1=>sp (vs ++ dvs) H1 Q E
inductive J_tMeth (C:Addr) (m:Str) (sp:Sp) (dvs:List V) (E:XK) (t:TA) (σ : St) (Q:VK) (x:V) (H1:Hp):Prop
  | mk:∀ a dx fs,(x = .ref a)→(H1 a=some (.ins C dx fs))→(fs.lookup m=none)→(t σ H1 fun vs H2=>sp (x :: (vs ++ dvs)) H2 Q E)→J_tMeth C m sp dvs E t σ Q x H1
noncomputable def tMeth (C:Addr) (m:Str) (sp:Sp) (dvs:List V) (E:XK) (ta:TE) (t:TA):TE:=fun σ H Q=>ta σ H fun x H1=>J_tMeth C m sp dvs E t σ Q x H1
noncomputable def tMake (C:Addr) (sp:Sp) (dvs:List V) (E:XK) (t:TA):TE:=fun σ H Q=>t σ H fun vs H1=>∀ x dx,H1 x=none→H1 dx=none→dx≠x →
  sp (.ref x :: (vs ++ dvs)) (upd (upd H1 dx (.own x)) x (.ins C dx [])) (fun v H2=>v = .non∧Q (.ref x) H2) E

noncomputable def Binds (K:PySem.W.Frag) (fd:FuncData) (ps:List Str) (ds:List Value):Prop :=
  ∀ (s:Shared) (us:List Value),K.In s.heap→(us ++ ds).length=ps.length→BindsTo s fd ⟨us, []⟩ (ps.zip (us ++ ds))
theorem Binds.all {K:PySem.W.Frag} {fd:FuncData} {ps:List Str} (h:∀ us:List Value,us.length=ps.length→bindArgs fd ⟨us, []⟩=pure (ps.zip us)):Binds K fd ps []:=fun s us _ hl=>by
  rw [List.append_nil] at hl ⊢
  exact .of_eq (h us hl)

noncomputable def Passes (CX:CXT) (X:Cx) (E:XK):Prop := ∀ (pins:List (Addr × Obj)) (σ : St) (H:Hp) (s:Shared) (e:Value) (s':Shared),Inv X pins σ H s→CX X.stack H s E e s'→X.xe e s'

section
variable {X:Cx} {CX:CXT} {k:Nat} {f C:Addr} {fd:FuncData} {ps:List Str} {sp:Sp} {dvs:List V} {ds:List Value} {E:XK} {x m:Str} {p pos apos:Pos} {e o:Expr} {es:List Expr} {ta:TE} {t:TA}

theorem run_fn {pins:List (Addr × Obj)} {σ : St} {H:Hp} {s:Shared} {Q:VK} {us:List Value} {vs:List V} (F:FnOk X.prog X.w X.K X.mg X.base CX k f fd ps sp) (hr:Room k X.A) (hb:Binds X.K fd ps ds) (hd:Vals dvs ds) (hx:Passes CX X E)
    (I:Inv X pins σ H s) (r:Vals vs us) (h:sp (vs ++ dvs) H Q E):wpAny (model X.prog X.w) X.A (call (.ref f) us) (EP X pins σ Q) X.xe s:=by
  have r2:Vals (vs ++ dvs) (us ++ ds):=r.append hd
  have hl:(us ++ ds).length=ps.length:=by rw [← r2.length];exact F.len _ _ _ _ h
  refine wpAny_call (codeAny_mono (F.run X.A X.stack s H ⟨us, []⟩ (us ++ ds) (vs ++ dvs) Q E hr I.env0 (hb s us I.kIn hl) r2 h) fun r s' hq => ?_)
  cases r with
  | error e=>exact hx pins σ H s e s' I hq
  | ok fl =>
    cases fl with
    | ret u=>exact I.after hq
    | next=>exact False.elim hq
    | brk=>exact False.elim hq
    | cont=>exact False.elim hq

theorem pe_call (F:FnOk X.prog X.w X.K X.mg X.base CX k f fd ps sp) (hr:Room k X.A) (hg:Gl X x) (hm:X.mg x=some (.ref f)) (hk:PySem.W.keepIn X.K (.ref f)=true) (hb:Binds X.K fd ps ds) (hd:Vals dvs ds) (hx:Passes CX X E)
    (ha:PA X (e :: es) t) (hdb:(x == ("__debug__" : Str))=false:=by decide) (he:starEach (e :: es) X.env=(false,eval e X.env) :: starEach es X.env:=by rfl) (hpl:(backTo pos (starEach es X.env)).any (·.1)=false:=by rfl) :
    PE X (.Call (.Name x p) (e :: es) [] pos) (tCall sp dvs E t):=by
  intro pins s σ H Q I h
  refine wpAny_Call_Name_kw (ld_glob I hg hm ?_ hdb)
  refine PySem.W.callWith_K (h₀ := X.base) I.ok.mod.kin hk (thn (ha pos pins s σ H _ I h) fun us s1 ⟨vs,H1,I1,r,q⟩=>⟨I1.kIn,?_⟩) he hpl
  exact run_fn F hr hb hd hx I1 r q

theorem pe_meth {pl:Sem Bool} (he:PE X o ta) (c:Cls X.K C) (hm:Meth X.K C m f) (F:FnOk X.prog X.w X.K X.mg X.base CX k f fd ps sp) (hr:Room k X.A) (hb:Binds X.K fd ps ds) (hd:Vals dvs ds) (hx:Passes CX X E) (ha:PA X (e :: es) t)
    (hst:starEach (e :: es) X.env=(false,eval e X.env) :: starEach es X.env:=by rfl) (hpl:(backTo pos (starEach es X.env)).any (·.1)=false:=by rfl)
    (ht:eval (.Call (.Attribute o m apos) (e :: es) [] pos) X.env=(do
      let ov ← eval o X.env
      standAt apos.atName
      let (f,first) ← holding [ov] (getMethod ov m pl)
      callWith pos f first (backTo pos (starEach (e :: es) X.env)) (backToKw pos (keywordEach [] X.env))):=by rfl) :
    PE X (.Call (.Attribute o m apos) (e :: es) [] pos) (tMeth C m sp dvs E ta t):=by
  intro pins s σ H Q I h
  refine PySem.W.methodCall_KW (pl:=pl) (thn (he pins s σ H _ I h) fun u s1 ⟨x,H1,I1,rx,a,dx,fs,ex,ea,l,q⟩ => ?_) ht
  subst ex
  obtain rfl:u=Value.ref a:=rx
  refine getmeth_ok I1 ea c hm l ?_
  refine PySem.W.callWith_K (first := [.ref a]) (h₀ := X.base) I.ok.mod.kin hm.kp (thn (ha pos pins s1 σ H1 _ I1 q) fun us s2 ⟨vs,H2,I2,r,q2⟩=>⟨I2.kIn,?_⟩) hst hpl
  exact run_fn (us := .ref a :: us) (vs := .ref a :: vs) F hr hb hd hx I2 (.cons rfl r) q2
theorem pe_meth0 {pl:Sem Bool} (he:PE X o ta) (c:Cls X.K C) (hm:Meth X.K C m f) (F:FnOk X.prog X.w X.K X.mg X.base CX k f fd ps sp) (hr:Room k X.A) (hb:Binds X.K fd ps ds) (hd:Vals dvs ds) (hx:Passes CX X E)
    (ht:eval (.Call (.Attribute o m apos) [] [] pos) X.env=(do
      let ov ← eval o X.env
      standAt apos.atName
      let (f,first) ← holding [ov] (getMethod ov m pl)
      callWith pos f first (backTo pos (starEach [] X.env)) (backToKw pos (keywordEach [] X.env))):=by rfl) :
    PE X (.Call (.Attribute o m apos) [] [] pos) (tMeth C m sp dvs E ta tNil):=by
  intro pins s σ H Q I h
  refine PySem.W.methodCall_KW (pl:=pl) (thn (he pins s σ H _ I h) fun u s1 ⟨x,H1,I1,rx,a,dx,fs,ex,ea,l,q⟩ => ?_) ht
  subst ex
  obtain rfl:u=Value.ref a:=rx
  refine getmeth_ok I1 ea c hm l ?_
  exact PySem.W.callWith_K0 (first := [.ref a]) I1.kIn hm.kp (run_fn (us := [.ref a]) (vs := [.ref a]) F hr hb hd hx I1 (.cons rfl .nil) q)

structure Mk (K:PySem.W.Frag) (C f:Addr):Prop where
  makes:PySem.W.makesIn K C=true
  init:PySem.W.findIn K (.ref C) "__init__" = some (some (.ref f))
  fn:PySem.W.isFn K (.ref f)=true
  kp:PySem.W.keepIn K (.ref C)=true

theorem run_make {pins:List (Addr × Obj)} {σ : St} {H:Hp} {s:Shared} {Q:VK} {us:List Value} {vs:List V} (M:Mk X.K C f) (F:FnOk X.prog X.w X.K X.mg X.base CX k f fd ps sp) (hr:Room (k+1) X.A) (hb:Binds X.K fd ps ds) (hd:Vals dvs ds)
    (hx:Passes CX X E) (I:Inv X pins σ H s) (r:Vals vs us)
    (h:∀ x dx,H x=none→H dx=none→dx≠x→sp (.ref x :: (vs ++ dvs)) (upd (upd H dx (.own x)) x (.ins C dx [])) (fun v H2=>v = .non∧Q (.ref x) H2) E) :
    wpAny (model X.prog X.w) X.A (call (.ref C) us) (EP X pins σ Q) X.xe s:=by
  have hq:=h (s.heap.objs.size+1) s.heap.objs.size (I.hok.fresh (Nat.le_succ _)) (I.hok.fresh (Nat.le_refl _)) (Nat.ne_of_lt (Nat.lt_succ_self _))
  have I2:=Inv.made (C:=C) I
  have r2:Vals (V.ref (s.heap.objs.size+1) :: (vs ++ dvs)) (Value.ref (s.heap.objs.size+1) :: (us ++ ds)) := .cons rfl (r.append hd)
  have hl:(Value.ref (s.heap.objs.size+1) :: us ++ ds).length=ps.length:=by
    have e:=r2.length
    rw [F.len _ _ _ _ hq] at e
    exact e.symm
  refine wpAny_call (make_map (f:=f) I.kIn M.makes M.init (beq_iff_eq.mp M.fn) (codeAny_mono (F.run _ X.stack _ _ ⟨Value.ref (s.heap.objs.size+1) :: us, []⟩ (Value.ref (s.heap.objs.size+1) :: (us ++ ds)) _ _ E (hr.make C us [])
    (I2.env0.make C us []) (hb _ (Value.ref (s.heap.objs.size+1) :: us) I2.kIn hl) r2 hq) fun r s' hq' => ?_))
  cases r with
  | error e=>exact hx pins σ _ _ e s' I2 hq'
  | ok fl =>
    cases fl with
    | ret u =>
      obtain ⟨v,H',I3,rv,ev,q3⟩:=I2.after hq'
      subst ev
      exact ⟨rv,⟨V.ref (s.heap.objs.size+1),H',I3,rfl,q3⟩⟩
    | next=>exact False.elim hq'
    | brk=>exact False.elim hq'
    | cont=>exact False.elim hq'
theorem pe_make (M:Mk X.K C f) (F:FnOk X.prog X.w X.K X.mg X.base CX k f fd ps sp) (hr:Room (k+1) X.A) (hg:Gl X x) (hm:X.mg x=some (.ref C)) (hb:Binds X.K fd ps ds) (hd:Vals dvs ds) (hx:Passes CX X E)
    (ha:PA X (e :: es) t) (hdb:(x == ("__debug__" : Str))=false:=by decide) (he:starEach (e :: es) X.env=(false,eval e X.env) :: starEach es X.env:=by rfl) (hpl:(backTo pos (starEach es X.env)).any (·.1)=false:=by rfl) :
    PE X (.Call (.Name x p) (e :: es) [] pos) (tMake C sp dvs E t):=by
  intro pins s σ H Q I h
  refine wpAny_Call_Name_kw (ld_glob I hg hm ?_ hdb)
  refine PySem.W.callWith_K (h₀ := X.base) I.ok.mod.kin M.kp (thn (ha pos pins s σ H _ I h) fun us s1 ⟨vs,H1,I1,r,q⟩=>⟨I1.kIn,?_⟩) he hpl
  exact run_make M F hr hb hd hx I1 r q
end

section
variable {X:Cx} {CX:CXT} {k:Nat} {f C:Addr} {fd:FuncData} {ps ks:List Str} {sp:Sp} {E:XK} {x m:Str} {p pos apos kpos:Pos} {e o:Expr} {es:List Expr} {kws:List Keyword} {te ta:TE} {t tk:TA} {nm:Option Str}

variable {g:List Value→List Value→List Value} {gV:List V→List V→List V}
end

structure FnScope (N P:List Str) (sc:Scope):Prop where
  kind:sc.kind = .function
  co:sc.isCoroutine=false
  gen:sc.isGenerator=false
  nd:N.Nodup
  pre:N.take P.length=P
  par:∀ x∈P,sc.names.lookup x=some .local∨sc.names.lookup x=some .cell
  nofree:∀ y∈sc.names,y.2 ≠ .free

theorem bindL_out {kindOf:Str→Option NameKind} {x:Str}:∀ {binds:List (Str × Value)} {m:Str→Option Value},(∀ v,(x,v) ∉ binds)→bindL kindOf binds m x=m x
  | [],_,_=>rfl
  | (n,v) :: r,m,h=>by
    unfold bindL
    rw [bindL_out fun w hw=>h w (List.mem_cons_of_mem _ hw)]
    split
    · have:x≠n:=by rintro rfl;exact h v List.mem_cons_self
      simp [this]
    · rfl
theorem bindC_out {kindOf:Str→Option NameKind} {x:Str}:∀ {binds:List (Str × Value)} {m:Str→Option Value},(∀ v,(x,v) ∉ binds)→bindC kindOf binds m x=m x
  | [],_,_=>rfl
  | (n,v) :: r,m,h=>by
    unfold bindC
    rw [bindC_out fun w hw=>h w (List.mem_cons_of_mem _ hw)]
    split
    · rfl
    · have:x≠n:=by rintro rfl;exact h v List.mem_cons_self
      simp [this]
theorem bindL_get {kindOf:Str→Option NameKind} {x:Str} {v:Value}:∀ {P:List Str} {vs:List Value} {i:Nat} {m:Str→Option Value},P.Nodup→P[i]? = some x→vs[i]? = some v→kindOf x=some .local →
    bindL kindOf (P.zip vs) m x=some v
  | [],_,_,_,_,h,_,_=>by simp at h
  | _ :: _, [],_,_,_,_,h,_=>by simp at h
  | p :: P,w :: vs,0,m,nd,h1,h2,hk=>by
    simp at h1 h2;subst h1;subst h2
    show bindL kindOf ((p,w) :: P.zip vs) m p=_
    unfold bindL
    rw [bindL_out fun v hv=>(List.nodup_cons.mp nd).1 (List.of_mem_zip hv).1,if_pos hk]
    simp
  | p :: P,w :: vs,i+1,m,nd,h1,h2,hk=>by
    show bindL kindOf ((p,w) :: P.zip vs) m x=_
    unfold bindL
    exact bindL_get (i:=i) (List.nodup_cons.mp nd).2 (by simpa using h1) (by simpa using h2) hk
theorem bindC_get {kindOf:Str→Option NameKind} {x:Str} {v:Value}:∀ {P:List Str} {vs:List Value} {i:Nat} {m:Str→Option Value},P.Nodup→P[i]? = some x→vs[i]? = some v→kindOf x≠some .local →
    bindC kindOf (P.zip vs) m x=some v
  | [],_,_,_,_,h,_,_=>by simp at h
  | _ :: _, [],_,_,_,_,h,_=>by simp at h
  | p :: P,w :: vs,0,m,nd,h1,h2,hk=>by
    simp at h1 h2;subst h1;subst h2
    show bindC kindOf ((p,w) :: P.zip vs) m p=_
    unfold bindC
    rw [bindC_out fun v hv=>(List.nodup_cons.mp nd).1 (List.of_mem_zip hv).1,if_neg hk]
    simp
  | p :: P,w :: vs,i+1,m,nd,h1,h2,hk=>by
    show bindC kindOf ((p,w) :: P.zip vs) m x=_
    unfold bindC
    exact bindC_get (i:=i) (List.nodup_cons.mp nd).2 (by simpa using h1) (by simpa using h2) hk

noncomputable def start (N:List Str) (vs:List V):St:=vs.map some ++ List.replicate (N.length - vs.length) none

noncomputable def cxOf (CX:CXT) (P:Program) (w:World) (K:PySem.W.Frag) (mg:Str→Option Value) (base:Heap) (N:List Str) (qual:Str) (scope:Scope) (f:Addr) (cd:Value) (A:Around) (outer:List Env) (s:Shared) (H:Hp) (E:XK):Cx where
  prog:=P
  w:=w
  K:=K
  mg:=mg
  base:=base
  A:=A.deeper (envOfC qual scope s.heap.objs.size f cd)
  N:=N
  s₀ := s
  H₀ := H
  env:=envOfC qual scope s.heap.objs.size f cd
  outer:=outer
  stack:=envOfC qual scope s.heap.objs.size f cd :: outer
  ex := []
  calm:=true
  fn:=fun _=>true
  pn := []
  xe:=fun e s'=>wpAny (model P w) (A.deeper (envOfC qual scope s.heap.objs.size f cd)) (leaving (envOfC qual scope s.heap.objs.size f cd) e) (fun _ s''=>CX outer H s E e s'') (fun e' s''=>CX outer H s E e' s'') s'

theorem cell_has {sc:Scope} {n:Nat} {x:Str} (h:sc.names.lookup x=some .cell):∃ c,(cellsFrom n sc.names []).lookup x=some c:=by
  have q:=PySem.W.cellsFrom_some sc.names n [] (.inl h)
  exact Option.isSome_iff_exists.mp q

theorem inv_start {CX:CXT} {P:Program} {w:World} {K:PySem.W.Frag} {mg:Str→Option Value} {base:Heap} {N ps:List Str} {qual:Str} {scope:Scope} {f:Addr} {cd:Value} {A:Around} {outer:List Env} {s s1:Shared} {H:Hp} {E:XK} {us:List Value} {vs:List V}
    (S:FnScope N ps scope) (hd:A.handled=none) (e0:Env0 P w K mg base A outer s H) (hl:vs.length=ps.length) (r:Vals vs us)
    (x:InCallC s s.heap.objs.size (bindL (envOfC qual scope s.heap.objs.size f cd).kindOf (ps.zip us) fun _=>none) (cellsFrom (s.heap.objs.size+1) scope.names []) (bindC (envOfC qual scope s.heap.objs.size f cd).kindOf (ps.zip us) fun _=>none) s1) :
    Inv (cxOf CX P w K mg base N qual scope f cd A outer s H E) [] (start N vs) H s1:=by
  have hpl:ps.length≤N.length:=by have:=congrArg List.length S.pre;rw [List.length_take] at this;omega
  obtain ⟨h1,tk,rfl,hk⟩:=x.done
  have noA:∀ b:Addr,b ∉ (cxOf CX P w K mg base N qual scope f cd A outer s H E).ex:=fun b z=>absurd (show b∈([]:List Addr) from z) (by simp)
  refine ⟨⟨e0.mod,S.kind,rfl,rfl,Nat.le_refl _,fun y z c h1 h2 => ?_,fun y hy => ?_,fun y c _ h => ?_,fun _=>hd,Around.frames_deeper e0.frames,.inr ⟨rfl,rfl⟩,fun b z=>absurd z (noA b),e0.bs,e0.bsz,fun b _ _=>noA b,fun b z=>absurd z (noA b),e0.funs,e0.frf⟩,
    rfl,e0.bare,Un.kept hk,⟨_,x.toInCall.ns,fun i y v h1 h2 h3 => ?_⟩,fun y c h=>⟨_,x.cell y c h⟩,e0.hok.fresh (Nat.le_refl _),fun y c h => ?_,fun p hp=>absurd (show p∈([]:List (Addr × Obj)) from hp) (by simp),e0.hok.kept hk,?_⟩
  · exact name_of_addr x.apart (PySem.mem_of_lookup h1) (PySem.mem_of_lookup h2)
  · have hy:scope.names.lookup y=some .cell∨scope.names.lookup y=some .free:=hy
    rcases hy with hy | hy
    · exact cell_has hy
    · exact absurd rfl (S.nofree _ (PySem.mem_of_lookup hy))
  · exact Nat.le_of_lt (x.above y c (PySem.mem_of_lookup h))
  · have hi:i < vs.length:=by
      unfold start at h2
      by_cases hi:i < vs.length
      · exact hi
      · rw [List.getElem?_append_right (by simpa using hi)] at h2
        rw [List.getElem?_replicate] at h2
        split at h2 <;> cases h2
    have ha:vs[i]? = some v:=by
      unfold start at h2
      rw [List.getElem?_append_left (by simpa using hi),List.getElem?_map] at h2
      cases e:vs[i]? with
      | none=>rw [e] at h2;cases h2
      | some a=>rw [e] at h2;cases h2;rfl
    obtain ⟨u,hu,rv⟩:=r.get ha
    have hp:ps[i]? = some y:=by
      rw [← S.pre,List.getElem?_take_of_lt (by omega)];exact h1
    have ndP:ps.Nodup:=by rw [← S.pre];exact S.nd.sublist (List.take_sublist _ _)
    refine ⟨u,rv,?_⟩
    rcases S.par y (List.mem_of_getElem? hp) with k | k
    · exact .inl ⟨k,bindL_get ndP hp hu k⟩
    · obtain ⟨c,e⟩:=cell_has (n:=s.heap.objs.size+1) k
      refine .inr ⟨.inl k,c,e,?_⟩
      have q:=x.cell y c e
      rw [bindC_get ndP hp hu (by show scope.names.lookup y≠_;rw [k];decide)] at q
      exact q
  · exact e0.hok.fresh (Nat.le_of_lt (x.above y c (PySem.mem_of_lookup h)))
  · unfold start
    show _=N.length
    rw [List.length_append,List.length_map,List.length_replicate]
    omega

theorem fn_of {CX:CXT} {P:Program} {w:World} {K:PySem.W.Frag} {mg:Str→Option Value} {base:Heap} {k:Nat} {f:Addr} {name qual:Str} {params:Arguments} {body:List Stmt} {scope:Scope} {dV kV doc pm cdv ct oc:Value} {an od:Option Addr}
    {osl:Array (Option Value)} {N ps:List Str} {sp:Sp} (lk:K.lookup f=some ⟨oc,od,.func (PySem.W.fnOf name qual params body scope dV kV doc pm an cdv ct),osl⟩) (hcd:PySem.W.codeIn K cdv qual=true) (S:FnScope N ps scope)
    (len:∀ vs H Q E,sp vs H Q E→vs.length=ps.length)
    (hbody:∀ (A:Around) (outer:List Env) (s:Shared) (H:Hp) (vs:List V) (Q:VK) (E:XK),Room k (A.deeper (envOfC qual scope s.heap.objs.size f cdv))→sp vs H Q E →
      ∃ t,PSs (cxOf CX P w K mg base N qual scope f cdv A outer s H E) body t∧t { nx:=fun _ H'=>Q .non H',rt:=Q } (start N vs) H) :
    FnOk P w K mg base CX (k+1) f (PySem.W.fnOf name qual params body scope dV kV doc pm an cdv ct) ps sp:=by
  refine ⟨len,fun A outer s H args us vs Q E hr e0 hb r hsp => ?_⟩
  have hl:=len _ _ _ _ hsp
  have KX:K.In s.heap:=e0.mod.kin.keeps fun b o e=>(e0.bs b o e).1
  have lim:s.heap.NoLimit:=e0.mod.nolimit.keeps fun b o e=>(e0.bs b o e).1
  have hkind:∀ y∈ps.zip us,scope.names.lookup y.1=some .local∨(scope.names.lookup y.1=some .cell∧((cellsFrom (s.heap.objs.size+1) scope.names []).lookup y.1).isSome=true):=fun ⟨n,v⟩ hy=>by
    rcases S.par n (List.of_mem_zip hy).1 with q | q
    · exact .inl q
    · exact .inr ⟨q,PySem.W.cellsFrom_some _ _ _ (.inl q)⟩
  refine codeAny_call_function hr.depth (KX _ _ lk) rfl S.co S.gen rfl (PySem.W.codeRec_of KX hcd) (hb _ _ _ _ ?_)
  refine wpAny_newFunctionEnv_cells S.kind hkind fun env he s1 x => ?_
  subst he
  refine ⟨lim.keeps x.toInCall.keep,codeAny_func ?_⟩
  obtain ⟨t,ht,hq⟩:=hbody A outer s H vs Q E (hr.deeper _) hsp
  have I:Inv (cxOf CX P w K mg base N qual scope f cdv A outer s H E) [] (start N vs) H s1:=inv_start S hr.hd e0 hl r x
  refine wpAny_mono (ht [] s1 (start N vs) H _ I hq) (fun fl s' hs => ?_) fun e s' hs=>hs
  have fin:∀ {σ':St} {H':Hp} {v:V} {u:Value},Inv (cxOf CX P w K mg base N qual scope f cdv A outer s H E) [] σ' H' s'→RelV v u→Q v H'→CE outer P w H s Q u s' :=
    fun {σ' H' v u} J rv q=>⟨v,H',J.os,J.bare,J.base,J.hok,rv,q⟩
  cases fl with
  | ret u =>
    obtain ⟨v, σ',H',J,rv,q⟩:=hs
    exact fin J rv q
  | next =>
    obtain ⟨σ',H',J,q⟩:=hs
    exact fin (v:=V.non) (u:=Value.none) J rfl q
  | brk =>
    obtain ⟨_,_,_,q⟩:=hs
    exact False.elim q
  | cont =>
    obtain ⟨_,_,_,q⟩:=hs
    exact False.elim q
end L2

namespace L2
open PySem PySem.Spec PyProof.Rows
section
variable {X:Cx} {x:Str} {p pos:Pos} {e:Expr} {es:List Expr} {t:TA} {id T:String} {r:List V→Hp→VK→Prop}

noncomputable def tCB (r:List V→Hp→VK→Prop) (t:TA):TE:=fun σ H Q=>t σ H fun vs H1=>r vs H1 Q
theorem pe_callB (hc:CallR X (.builtin id) r) (hg:Gl X x) (hm:X.mg x=none) (hv:bootBuiltins x=some (.builtin id)) (ha:PA X (e :: es) t) (hn:x ≠ "__name__" := by decide) (hdb:(x == ("__debug__" : Str))=false:=by decide)
    (he:starEach (e :: es) X.env=(false,eval e X.env) :: starEach es X.env:=by rfl) (hpl:(backTo pos (starEach es X.env)).any (·.1)=false:=by rfl):PE X (.Call (.Name x p) (e :: es) [] pos) (tCB r t):=by
  intro pins s σ H Q I h
  refine wpAny_Call_Name_kw (ld_blt I hg hm hv ?_ hn hdb)
  exact PyProof.Rows.callWith_builtin1 (thn (ha pos pins s σ H _ I h) fun us s1 ⟨vs,H1,I1,r1,q1⟩=>hc pins s1 σ H1 vs us Q I1 r1 q1) he hpl
theorem pe_callTy (hc:CallR X (.type T) r) (hg:Gl X x) (hm:X.mg x=none) (hv:bootBuiltins x=some (.type T)) (ha:PA X (e :: es) t) (hn:x ≠ "__name__" := by decide) (hdb:(x == ("__debug__" : Str))=false:=by decide)
    (he:starEach (e :: es) X.env=(false,eval e X.env) :: starEach es X.env:=by rfl) (hpl:(backTo pos (starEach es X.env)).any (·.1)=false:=by rfl):PE X (.Call (.Name x p) (e :: es) [] pos) (tCB r t):=by
  intro pins s σ H Q I h
  refine wpAny_Call_Name_kw (ld_blt I hg hm hv ?_ hn hdb)
  exact PyProof.Rows.callWith_type1 (thn (ha pos pins s σ H _ I h) fun us s1 ⟨vs,H1,I1,r1,q1⟩=>hc pins s1 σ H1 vs us Q I1 r1 q1) he hpl
end
end L2

namespace HT
open PySem PyProof.Rows



section
open PySem.SeqAt
open PySem.AutoSeq1 (wpAny_loadPart')
open PySem.MeetsSeq PySem.MeetsSeq2 PySem.MeetsSeq3

end

section
variable {prog:Program} {w:World} {A:Around} {E:Value→Shared→Prop} {s:Shared}



noncomputable def sIx (n d:Nat):Option Int→Nat
  | none=>d
  | some v=>if v < 0 then (v+(n:Int)).toNat else min v.toNat n
theorem sIx_none (n d:Nat):sIx n d none=d:=rfl
theorem sIx_nat (n d k:Nat):sIx n d (some (k:Int))=min k n:=by
  show (if (k:Int) < 0 then ((k:Int)+(n:Int)).toNat else min (k:Int).toNat n)=min k n
  rw [if_neg (by omega),Int.toNat_natCast]
theorem sIx_le (n d:Nat) (hd:d≤n) (o:Option Int):sIx n d o≤n:=by
  cases o with
  | none=>exact hd
  | some v =>
    show (if v < 0 then (v+(n:Int)).toNat else min v.toNat n)≤n
    by_cases hv:v < 0
    · rw [if_pos hv];omega
    · rw [if_neg hv];exact Nat.min_le_right _ _

end
end HT

namespace L2
open PySem PySem.Spec PyProof.Rows

noncomputable abbrev TO:=St→Hp→(Option Int→Hp→Prop)→Prop
noncomputable def PO (X:Cx) (e:Option Expr) (t:TO):Prop :=
  ∀ (pins:List (Addr × Obj)) (s:Shared) (σ : St) (H:Hp) (Q:Option Int→Hp→Prop),Inv X pins σ H s→t σ H Q →
    wpAny (model X.prog X.w) X.A (evalPart e X.env) (fun u s'=>∃ o H',Inv X pins σ H' s'∧IsPart u o∧Q o H') X.xe s
noncomputable def tNoPart:TO:=fun _ H Q=>Q none H
inductive J_tPart (Q:Option Int→Hp→Prop) (x:V) (H1:Hp):Prop
  | mk:∀ i,(x = .int i)→(Q (some i) H1)→J_tPart Q x H1
noncomputable def tPart (t:TE):TO:=fun σ H Q=>t σ H fun x H1=>J_tPart Q x H1

theorem intsAre_of {ns:List Int}:∀ {us:List Value},Vals (ns.map V.int) us→IntsAre us ns:=by
  induction ns with
  | nil=>intro us r;rw [List.map_nil] at r;cases r;exact .nil
  | cons n ns ih =>
    intro us r
    rw [List.map_cons] at r
    cases r with
    | cons r1 r2 =>
      obtain ⟨t,e⟩:=r1
      subst e
      exact .cons n t (ih r2)

section
variable {X:Cx} {e:Expr} {te:TE} {lo hi:Option Expr} {tl th:TO} {pos p2:Pos}

theorem po_none:PO X none tNoPart:=by
  intro pins s σ H Q I h
  rw [evalPart_none]
  exact wpAny_pure ⟨none,H,I,.none,h⟩
theorem po_some (h:PE X e te):PO X (some e) (tPart te):=by
  intro pins s σ H Q I hw
  rw [evalPart_some]
  refine thn (h pins s σ H _ I hw) fun u s1 ⟨x,H1,I1,r1,q1⟩ => ?_
  obtain ⟨i,rfl,q⟩:=q1
  obtain ⟨t,rfl⟩:=r1
  exact ⟨some i,H1,I1,.int i t,q⟩

noncomputable def SlR (X:Cx) (r:V→Option Int→Option Int→Hp→VK→Prop):Prop :=
  ∀ (pins:List (Addr × Obj)) (s:Shared) (σ : St) (H:Hp) (x:V) (v vl vu:Value) (lo hi:Option Int) (sl:Addr) (Q:VK),Inv X pins σ H s→RelV x v→s.heap.IsSliceOf sl vl vu .none→IsPart vl lo→IsPart vu hi→r x lo hi H Q →
    ∃ T id,typeLookup (.type T) "__getitem__" = pure (some (.builtin id))∧s.TypeIs v T∧wpAny (model X.prog X.w) X.A (getItem v (.ref sl)) (EP X pins σ Q) X.xe s
noncomputable def tSl (r:V→Option Int→Option Int→Hp→VK→Prop) (te:TE) (tl th:TO):TE:=fun σ H Q=>te σ H fun x H1=>tl σ H1 fun l H2=>th σ H2 fun u H3=>r x l u H3 Q
theorem pe_slice {r:V→Option Int→Option Int→Hp→VK→Prop} (hr:SlR X r) (he:PE X e te) (hl:PO X lo tl) (hu:PO X hi th):PE X (.Subscript e (.Slice lo hi none p2) pos) (tSl r te tl th):=by
  intro pins s σ H Q I h
  refine Subscript_ (thn (he pins s σ H _ I h) fun v s1 ⟨x,H1,I1,r1,q1⟩ => ?_)
  refine wpAny_Slice (thn (hl pins s1 σ H1 _ I1 q1) fun vl s2 ⟨l,H2,I2,pl,q2⟩=>thn (hu pins s2 σ H2 _ I2 q2) fun vu s3 ⟨u,H3,I3,pu,q3⟩ => ?_)
  rw [evalPart_none]
  refine wpAny_pure ?_
  have I4:Inv X pins σ H3 { s3 with heap:=s3.heap.push { cls := .type "slice",data := .fields #[vl,vu,.none] } }:=I3.kept (t':=s3.toks) fun b ob q=>Heap.get?_push_of_some _ q
  obtain ⟨T,id,hT,ht,hg⟩:=hr pins { s3 with heap:=s3.heap.push { cls := .type "slice",data := .fields #[vl,vu,.none] } } σ H3 x v vl vu l u s3.heap.objs.size Q I4 r1 (Heap.IsSliceOf.new ..) pl pu q3
  show wpAny (model X.prog X.w) X.A (subscriptTail e (.Slice lo hi none p2) v (.ref s3.heap.objs.size)) (EP X pins σ Q) X.xe { s3 with heap:=s3.heap.push { cls := .type "slice",data := .fields #[vl,vu,.none] } }
  exact tail_any (ops := [.ref s3.heap.objs.size,v]) ht hT hg (by with_unfolding_all rfl)

noncomputable def cutV (xs:List V) (lo hi:Option Int):List V:=(xs.drop (HT.sIx xs.length 0 lo)).take (HT.sIx xs.length xs.length hi - HT.sIx xs.length 0 lo)
theorem cutV_length (xs:List V) (lo hi:Option Int):(cutV xs lo hi).length≤xs.length:=by
  unfold cutV
  rw [List.length_take,List.length_drop]
  omega

end
end L2

namespace L2
open PySem PySem.Spec PyProof.Rows

noncomputable def ixN (n:Nat) (i:Int):Option Nat:=if 0≤i then (if i < n then some i.toNat else none) else if -(n:Int)≤i then some (i+n).toNat else none
noncomputable def atI {α : Type} (xs:List α) (i:Int):Option α := (ixN xs.length i).bind fun j=>xs[j]?
theorem ixN_seq {n:Nat} {i:Int} {j:Nat} (h:ixN n i=some j):seqIndex? i n=some j∧j < n ∧ -(n:Int)≤i∧i < n:=by
  unfold ixN at h
  by_cases h0:0≤i
  · rw [if_pos h0] at h
    by_cases h1:i < n
    · rw [if_pos h1] at h
      have e:i.toNat=j:=Option.some.inj h
      exact ⟨by rw [seqIndex_of h0 h1,e],by omega,by omega,h1⟩
    · rw [if_neg h1] at h;cases h
  · rw [if_neg h0] at h
    by_cases h1 : -(n:Int)≤i
    · rw [if_pos h1] at h
      have e:(i+n).toNat=j:=Option.some.inj h
      exact ⟨by rw [seqIndex_neg (by omega) h1,e],by omega,h1,by omega⟩
    · rw [if_neg h1] at h;cases h
theorem atI_get {α : Type} {xs:List α} {i:Int} {v : α} (h:atI xs i=some v):∃ j,seqIndex? i xs.length=some j∧xs[j]? = some v∧j < xs.length ∧ -(xs.length:Int)≤i∧i < xs.length:=by
  unfold atI at h
  cases e:ixN xs.length i with
  | none=>rw [e] at h;cases h
  | some j =>
    rw [e] at h
    obtain ⟨h1,h2,h3,h4⟩:=ixN_seq e
    exact ⟨j,h1,h,h2,h3,h4⟩
theorem atI_nat {α : Type} {xs:List α} {j:Nat} {v : α} (h:xs[j]? = some v):atI xs (j:Int)=some v:=by
  have hj:j < xs.length:=(List.getElem?_eq_some_iff.mp h).1
  have e:ixN xs.length (j:Int)=some j:=by
    unfold ixN
    rw [if_pos (by omega),if_pos (by omega)];simp
  unfold atI;rw [e];exact h
theorem atI_last {α : Type} (xs:List α) (v : α):atI (xs ++ [v]) (-1)=some v:=by
  have hl:(xs ++ [v]).length=xs.length+1:=by simp
  have e:ixN (xs ++ [v]).length (-1)=some xs.length:=by
    unfold ixN
    rw [hl,if_neg (by decide),if_pos (by omega)]
    congr 1
    omega
  unfold atI
  rw [e]
  show (xs ++ [v])[xs.length]? = some v
  simp

noncomputable def PlainIx (b:Expr):Prop := ∀ o i,subscripted b false o i=operate [o,i] (getItem o i)
noncomputable def IxR (X:Cx) (r:R2):Prop :=
  ∀ (value slice:Expr) (pins:List (Addr × Obj)) (s:Shared) (σ : St) (H:Hp) (x y:V) (v u:Value) (Q:VK),Inv X pins σ H s→RelV x v→RelV y u→r x y H Q →
    subscripted slice false v u=operate [v,u] (getItem v u)→wpAny (model X.prog X.w) X.A (subscriptTail value slice v u) (EP X pins σ Q) X.xe s
noncomputable def MtR (X:Cx) (id:String) (r:V→List V→Hp→VK→Prop):Prop :=
  ∀ (pins:List (Addr × Obj)) (s:Shared) (σ : St) (H:Hp) (x:V) (xs:List V) (v:Value) (us:List Value) (Q:VK),Inv X pins σ H s→RelV x v→Vals xs us→r x xs H Q →
    wpAny (model X.prog X.w) X.A (call (.builtin id) (v :: us)) (EP X pins σ Q) X.xe s
section
variable {X:Cx} {a b:Expr} {ta tb:TE} {pos:Pos}
theorem pe_ix {r:R2} (hr:IxR X r) (ha:PE X a ta) (hb:PE X b tb) (hs:PlainIx b):PE X (.Subscript a b pos) (tOp r ta tb):=by
  intro pins s σ H Q I h
  exact Subscript_ (binT ha hb I h fun v u s2 x y H2 I2 rx ry q=>hr a b pins s2 σ H2 x y v u Q I2 rx ry q (hs _ _))

inductive RIxL (K:PySem.W.Frag) (x y:V) (H:Hp) (Q:VK):Prop
  | mk (p:Addr) (xs:List V) (i:Int) (v:V) (hx:x = .ref p) (hy:y = .int i) (hS:SqL K H p xs) (he:atI xs i=some v) (q:Q v H):RIxL K x y H Q
noncomputable def rIxL (K:PySem.W.Frag):R2:=fun x y H Q=>RIxL K x y H Q
inductive RIxT (K:PySem.W.Frag) (x y:V) (H:Hp) (Q:VK):Prop
  | mk (p:Addr) (xs:List V) (i:Int) (v:V) (hx:x = .ref p) (hy:y = .int i) (hS:SqT K H p xs) (he:atI xs i=some v) (q:Q v H):RIxT K x y H Q
noncomputable def rIxT (K:PySem.W.Frag):R2:=fun x y H Q=>RIxT K x y H Q
inductive J_rIxS (x:V) (y:V) (H:Hp) (Q:VK):Prop
  | mk:∀ z i c,(x = .str z)→(y = .int i)→(z.length≤sizeLine)→(atI z.cps.toList i=some c)→(Q (.str ⟨#[c]⟩) H)→J_rIxS x y H Q
noncomputable def rIxS:R2:=fun x y H Q=>J_rIxS x y H Q
theorem ix_list:IxR X (rIxL X.K):=by
  intro value slice pins s σ H x y v u Q I rx ry h hs
  obtain ⟨p,xs,i,z,rfl,rfl,hq,he,q⟩:=h
  cases rx
  obtain ⟨t,rfl⟩:=ry
  obtain ⟨its,r,pl,hz⟩:=I.list hq
  obtain ⟨j,h1,h2,h3,h4,h5⟩:=atI_get he
  obtain ⟨w,ew,rw'⟩:=r.get h2
  have hl:=r.length
  have hn:=line63
  have fin:EP X pins σ Q w s:=⟨z,H,I,rw',q⟩
  by_cases h0:0≤i
  · have hj:i.toNat=j:=by
      rw [seqIndex_of h0 h5] at h1
      exact Option.some.inj h1
    exact item_listR pl.isList h0 (by omega) (by rw [hj];simpa using ew) fin hs
  · have hj:(i+(its.toArray.size:Int)).toNat=j:=by
      rw [seqIndex_neg (by omega) h4] at h1
      rw [List.size_toArray, ← hl]
      exact Option.some.inj h1
    exact subscriptTail_builtinR (x:=w) pl.isList.typeIs slot_list_getitem.lookup
      (wpAny_getItem_list_neg (Q:=fun r s'=>r=w∧EP X pins σ Q r s') pl.isList (by omega) (by rw [List.size_toArray] <;> omega) (by omega) (by rw [hj];simpa using ew) ⟨rfl,fin⟩) hs
theorem ix_tup:IxR X (rIxT X.K):=by
  intro value slice pins s σ H x y v u Q I rx ry h hs
  obtain ⟨p,xs,i,z,rfl,rfl,hq,he,q⟩:=h
  cases rx
  obtain ⟨t,rfl⟩:=ry
  obtain ⟨its,r,pl,hz⟩:=I.tuple hq
  obtain ⟨j,h1,h2,h3,h4,h5⟩:=atI_get he
  obtain ⟨w,ew,rw'⟩:=r.get h2
  have hl:=r.length
  have hn:=line63
  have fin:EP X pins σ Q w s:=⟨z,H,I,rw',q⟩
  exact subscriptTail_builtinR (x:=w) pl.typeIs slot_tuple_getitem.lookup
    (getItem_tuple (j:=j) (Q:=fun r s'=>r=w∧EP X pins σ Q r s') pl (by omega) (by omega) (by rw [List.size_toArray, ← hl];exact h1) (by simpa using ew) ⟨rfl,fin⟩) hs
theorem ix_str:IxR X rIxS:=by
  intro value slice pins s σ H x y v u Q I rx ry h hs
  obtain ⟨z,i,c,rfl,rfl,hz,he,q⟩:=h
  obtain ⟨t,rfl⟩:=rx
  obtain ⟨t',rfl⟩:=ry
  obtain ⟨j,h1,h2,h3,h4,h5⟩:=atI_get he
  have hl:z.cps.toList.length=z.length:=by simp [Str.length]
  rw [hl] at h1 h4 h5
  have hn:=line63
  exact tail_any (typeIs_str s z t) slot_str_getitem.lookup (getItem_str (c:=c) (by
    have e1:decide (i < -(2 ^ 63:Int))=false:=decide_eq_false (by omega)
    have e2:decide (i ≥ 2 ^ 63)=false:=decide_eq_false (by omega)
    rw [e1,e2,Bool.or_false]) (by rw [h1];simpa using h2) ⟨.str ⟨#[c]⟩,H,I.tok _,⟨_,rfl⟩,q⟩) hs


theorem slice_bounds (lo hi:Option Int) (n:Nat):(sliceBounds lo hi none n).1=((HT.sIx n 0 lo:Nat):Int)∧(sliceBounds lo hi none n).2.1=((HT.sIx n n hi:Nat):Int)∧(sliceBounds lo hi none n).2.2=1:=by
  refine ⟨?_,?_,rfl⟩
  · cases lo with
    | none=>simp [sliceBounds,HT.sIx]
    | some i =>
      simp only [sliceBounds,HT.sIx,Option.getD_none,show (1:Int) > 0 by decide,if_true]
      by_cases h:i < 0
      · simp only [h,if_true] <;> omega
      · simp only [h,if_false] <;> omega
  · cases hi with
    | none=>simp [sliceBounds,HT.sIx]
    | some i =>
      simp only [sliceBounds,HT.sIx,Option.getD_none,show (1:Int) > 0 by decide,if_true]
      by_cases h:i < 0
      · simp only [h,if_true] <;> omega
      · simp only [h,if_false] <;> omega
theorem slicePick_cut (its:List Value) (lo hi:Option Int):slicePick its.toArray lo hi none=((its.drop (HT.sIx its.length 0 lo)).take (HT.sIx its.length its.length hi - HT.sIx its.length 0 lo)).toArray:=by
  obtain ⟨h1,h2,h3⟩:=slice_bounds lo hi its.toArray.size
  unfold slicePick
  rw [h1,h2,h3]
  simp only [sliceRange_one,pick_run,List.size_toArray] <;> rfl
inductive J_rSlL (K:PySem.W.Frag) (x:V) (lo:Option Int) (hi:Option Int) (H:Hp) (Q:VK):Prop
  | mk:∀ a xs,(x = .ref a)→(SqL K H a xs)→(∀ p,H p=none→Q (.ref p) (upd H p (.lst (cutV xs lo hi))))→J_rSlL K x lo hi H Q
noncomputable def rSlL (K:PySem.W.Frag):V→Option Int→Option Int→Hp→VK→Prop:=fun x lo hi H Q=>J_rSlL K x lo hi H Q
theorem sl_list:SlR X (rSlL X.K):=by
  intro pins s σ H x v vl vu lo hi sl Q I rx hs pl pu h
  obtain ⟨a,xs,rfl,hx,q⟩:=h
  cases rx
  obtain ⟨its,r,ht,hz⟩:=I.list hx
  have hlen:=r.length
  refine ⟨"list",_,slot_list_getitem.lookup,ht.isList.typeIs,?_⟩
  refine wpAny_getItem_list_slice ht.isList hs pl pu .none (by simp) ?_ (by rw [List.size_toArray] <;> omega)
  rw [slicePick_cut, ← hlen]
  refine ⟨.ref s.heap.objs.size,_,I.laid (t':=s.toks) (o := .lst (cutV xs lo hi)) (fun b ob q=>Heap.get?_push_of_some _ q) (Nat.le_refl _) ?_,rfl,q _ (I.hok.fresh (Nat.le_refl _))⟩
  exact ⟨Nat.le_trans (cutV_length xs lo hi) hz,_,0,(r.drop (HT.sIx xs.length 0 lo)).take (HT.sIx xs.length xs.length hi - HT.sIx xs.length 0 lo),Heap.get?_push_size _ rfl⟩

noncomputable def flatV:V→Bool
  | .non=>true
  | .bl _=>true
  | .int _=>true
  | .str _=>true
  | _=>false
noncomputable def eqV:V→V→Bool
  | .non,.non=>true
  | .bl a,.bl b=>a == b
  | .bl a,.int b=>(if a then 1 else 0) == b
  | .int a,.bl b=>a == (if b then 1 else 0)
  | .int a,.int b=>a == b
  | .str a,.str b=>a == b
  | _,_=>false
theorem eqAt_V {A:Around} {s:Shared} {y x:V} {u v:Value} (ry:RelV y u) (rx:RelV x v) (fy:flatV y=true) (fx:flatV x=true):SeqAt.EqAt A s u v (eqV y x):=by
  cases y with
  | non =>
    cases ry
    cases x with
    | non=>cases rx;exact SeqAt.EqAt.same _
    | bl b=>cases rx;exact SeqAt.EqAt.none_bool b
    | int b=>obtain ⟨t,rfl⟩:=rx;exact SeqAt.EqAt.none_int b t
    | str b=>obtain ⟨t,rfl⟩:=rx;exact SeqAt.EqAt.none_str b t
    | _=>exact absurd (show false=true from fx) Bool.false_ne_true
  | bl a =>
    cases ry
    cases x with
    | non=>cases rx;exact SeqAt.EqAt.bool_none a
    | bl b=>cases rx;exact SeqAt.EqAt.bool_bool a b
    | int b=>obtain ⟨t,rfl⟩:=rx;exact SeqAt.EqAt.bool_int a b t
    | str b=>obtain ⟨t,rfl⟩:=rx;exact SeqAt.EqAt.bool_str a b t
    | _=>exact absurd (show false=true from fx) Bool.false_ne_true
  | int a =>
    obtain ⟨t',rfl⟩:=ry
    cases x with
    | non=>cases rx;exact SeqAt.EqAt.int_none a t'
    | bl b=>cases rx;exact SeqAt.EqAt.int_bool a t' b
    | int b=>obtain ⟨t,rfl⟩:=rx;exact SeqAt.EqAt.int_int a t' b t
    | str b=>obtain ⟨t,rfl⟩:=rx;exact SeqAt.EqAt.int_str a t' b t
    | _=>exact absurd (show false=true from fx) Bool.false_ne_true
  | str a =>
    obtain ⟨t',rfl⟩:=ry
    cases x with
    | non=>cases rx;exact SeqAt.EqAt.str_none a t'
    | bl b=>cases rx;exact SeqAt.EqAt.str_bool a t' b
    | int b=>obtain ⟨t,rfl⟩:=rx;exact SeqAt.EqAt.str_int a t' b t
    | str b=>obtain ⟨t,rfl⟩:=rx;exact SeqAt.EqAt.str_str a t' b t
    | _=>exact absurd (show false=true from fx) Bool.false_ne_true
  | _=>exact absurd (show false=true from fy) Bool.false_ne_true
noncomputable def eqU (x:V) (u:Value):Bool:=match u with
  | .none=>eqV .non x
  | .bool b=>eqV (.bl b) x
  | .int i _=>eqV (.int i) x
  | .str z _=>eqV (.str z) x
  | _=>false
theorem eqU_of {x y:V} {u:Value} (r:RelV y u) (f:flatV y=true):eqU x u=eqV y x:=by
  cases y with
  | non=>cases r;rfl
  | bl b=>cases r;rfl
  | int i=>obtain ⟨t,rfl⟩:=r;rfl
  | str z=>obtain ⟨t,rfl⟩:=r;rfl
  | _=>exact absurd (show false=true from f) Bool.false_ne_true
theorem any_eqU {x:V}:∀ {xs:List V} {us:List Value},Vals xs us→xs.all flatV=true→us.any (eqU x)=xs.any fun y=>eqV y x
  | _,_,.nil,_=>rfl
  | y :: xs,u :: us,.cons r t,f=>by
    rw [List.all_cons,Bool.and_eq_true] at f
    rw [List.any_cons,List.any_cons,eqU_of r f.1,any_eqU t f.2]
theorem mem_eqAt {A:Around} {s:Shared} {x:V} {v:Value} (rx:RelV x v) (fx:flatV x=true):∀ {xs:List V} {us:List Value},Vals xs us→xs.all flatV=true→∀ u∈us,SeqAt.EqAt A s u v (eqU x u)
  | _,_,.nil,_=>fun u hu=>by cases hu
  | y :: xs,u :: us,.cons r t,f=>fun u' hu=>by
    rw [List.all_cons,Bool.and_eq_true] at f
    rcases List.mem_cons.mp hu with rfl | hu
    · rw [eqU_of r f.1];exact eqAt_V r rx f.1 fx
    · exact mem_eqAt rx fx t f.2 u' hu
noncomputable def inV (x:V) (xs:List V):Bool:=xs.any fun y=>eqV y x
inductive J_rIn (K:PySem.W.Frag) (neg:Bool) (x:V) (y:V) (H:Hp) (Q:VK):Prop
  | mk:∀ p xs,(y = .ref p)→((SqL K H p xs∨SqT K H p xs))→(flatV x=true)→(xs.all flatV=true)→(Q (.bl (if neg then !inV x xs else inV x xs)) H)→J_rIn K neg x y H Q
noncomputable def rIn (K:PySem.W.Frag) (neg:Bool):R2:=fun x y H Q=>J_rIn K neg x y H Q
theorem op_in_seq:OpR X (compareOp .In) (rIn X.K false):=by
  intro pins s σ H x y v u Q I rx ry h
  obtain ⟨p,xs,rfl,hq,fx,fs,q⟩:=h
  cases ry
  rcases hq with hq | hq
  · obtain ⟨its,r,pl,hz⟩:=I.list hq
    refine SeqAt.in_listAt (eqU x) pl.isList (fun w hw=>mem_eqAt rx fx r fs w (by simpa using hw)) ⟨.bl _,H,I,rfl,?_⟩
    rw [show its.toArray.any (eqU x)=its.any (eqU x) by simp,any_eqU r fs]
    exact q
  · obtain ⟨its,r,pl,hz⟩:=I.tuple hq
    refine SeqAt.in_tupleAt (eqU x) pl (fun w hw=>mem_eqAt rx fx r fs w (by simpa using hw)) ⟨.bl _,H,I,rfl,?_⟩
    rw [show its.toArray.any (eqU x)=its.any (eqU x) by simp,any_eqU r fs]
    exact q
theorem op_notIn_seq:OpR X (compareOp .NotIn) (rIn X.K true):=by
  intro pins s σ H x y v u Q I rx ry h
  obtain ⟨p,xs,rfl,hq,fx,fs,q⟩:=h
  cases ry
  rcases hq with hq | hq
  · obtain ⟨its,r,pl,hz⟩:=I.list hq
    refine SeqAt.notIn_listAt (eqU x) pl.isList (fun w hw=>mem_eqAt rx fx r fs w (by simpa using hw)) ⟨.bl _,H,I,rfl,?_⟩
    rw [show its.toArray.any (eqU x)=its.any (eqU x) by simp,any_eqU r fs]
    exact q
  · obtain ⟨its,r,pl,hz⟩:=I.tuple hq
    refine SeqAt.notIn_tupleAt (eqU x) pl (fun w hw=>mem_eqAt rx fx r fs w (by simpa using hw)) ⟨.bl _,H,I,rfl,?_⟩
    rw [show its.toArray.any (eqU x)=its.any (eqU x) by simp,any_eqU r fs]
    exact q
inductive J_op_notIn_str (x:V) (y:V) (H:Hp) (Q:VK):Prop
  | mk:∀ i j,(x = .str i)→(y = .str j)→(Q (.bl (!(!(Builtin.Str.occurrences j i 0 j.length 1).isEmpty))) H)→J_op_notIn_str x y H Q
theorem op_notIn_str:OpR X (compareOp .NotIn) (fun x y H Q=>J_op_notIn_str x y H Q):=by
  intro pins s σ H x y v u Q I rx ry h
  obtain ⟨i,j,rfl,rfl,q⟩:=h
  obtain ⟨t,rfl⟩:=rx
  obtain ⟨t',rfl⟩:=ry
  exact notIn_str ⟨.bl _,H,I,rfl,q⟩

inductive J_len (K:PySem.W.Frag) (xs:List V) (H:Hp) (Q:VK):Prop
  | mk:∀ p ys,(xs = [.ref p])→(SqL K H p ys∨SqT K H p ys)→(Q (.int ys.length) H)→J_len K xs H Q
theorem call_len_seq:CallR X (.builtin "len") (fun xs H Q=>J_len X.K xs H Q):=by
  intro pins s σ H xs us Q I r h
  obtain ⟨p,ys,rfl,hq,q⟩:=h
  obtain ⟨u,rfl,rx⟩:=vals1 r
  cases rx
  have hn:=line63
  rcases hq with hq | hq
  · obtain ⟨its,r',pl,hz⟩:=I.list hq
    have hlen:=r'.length
    exact Calls.call_len_list pl.isList (by simp only [List.size_toArray] <;> omega) ⟨.int ys.length,H,I.tok _,⟨s.toks+1,by rw [List.size_toArray,hlen]⟩,q⟩
  · obtain ⟨its,r',pl,hz⟩:=I.tuple hq
    have hlen:=r'.length
    exact len_tuple pl (by simp only [List.size_toArray] <;> omega) ⟨.int ys.length,H,I.tok _,⟨s.toks+1,by rw [List.size_toArray,hlen]⟩,q⟩
inductive J_call_len_str (xs:List V) (H:Hp) (Q:VK):Prop
  | mk:∀ z,(xs = [.str z])→(z.length≤sizeLine)→(Q (.int z.length) H)→J_call_len_str xs H Q
theorem call_len_str:CallR X (.builtin "len") (fun xs H Q=>J_call_len_str xs H Q):=by
  intro pins s σ H xs us Q I r h
  obtain ⟨z,rfl,hz,q⟩:=h
  obtain ⟨u,rfl,t,rfl⟩:=vals1 r
  have hn:=line63
  exact len_str (by omega) ⟨.int z.length,H,I.tok _,⟨_,rfl⟩,q⟩
inductive J_call_list_of (kK:PySem.W.Frag) (xs:List V) (H:Hp) (Q:VK):Prop
  | mk:∀ p ys,(xs = [.ref p])→((SqL kK H p ys∨SqT kK H p ys))→(∀ l,H l=none→Q (.ref l) (upd H l (.lst ys)))→J_call_list_of kK xs H Q
theorem call_list_of:CallR X (.type "list") (fun xs H Q=>J_call_list_of X.K xs H Q):=by
  intro pins s σ H xs us Q I r h
  obtain ⟨p,ys,rfl,hq,q⟩:=h
  obtain ⟨u,rfl,rx⟩:=vals1 r
  cases rx
  have fin:∀ (its:List Value),Vals ys its→ys.length≤sizeLine→∀ (h':Heap) (c':Nat),(∀ b o',s.heap.get? b=some o'→h'.get? b=some o') →
      h'.get? s.heap.objs.size=some { cls := .type "list",dict:=none,data := .seq its.toArray c',slots := #[] }→EP X pins σ Q (.ref s.heap.objs.size) { s with heap:=h' }:=fun its r' hz h' c' kp e =>
    ⟨.ref s.heap.objs.size,_,I.laid (t':=s.toks) kp (Nat.le_refl _) (show ObjOk X.prog X.w _ h' _ (.lst ys) from ⟨hz,its,c',r',e⟩),rfl,q _ (I.hok.fresh (Nat.le_refl _))⟩
  rcases hq with hq | hq
  · obtain ⟨its,r',pl,hz⟩:=I.list hq
    have hlen:=r'.length
    obtain ⟨o,ho,hc,n,hd⟩:=pl.isList
    exact call_list_seq p (.inl rfl) ho hc hd (fun h' c' kp e=>fin its r' hz h' c' kp e) (by simp only [List.size_toArray] <;> omega)
  · obtain ⟨its,r',pl,hz⟩:=I.tuple hq
    have hlen:=r'.length
    obtain ⟨o,ho,hc,n,hd⟩:=pl
    exact call_list_seq p (.inr rfl) ho hc hd (fun h' c' kp e=>fin its r' hz h' c' kp e) (by simp only [List.size_toArray] <;> omega)
inductive J_call_tuple_of (kK:PySem.W.Frag) (xs:List V) (H:Hp) (Q:VK):Prop
  | mk:∀ p ys,(xs = [.ref p])→(((SqL kK H p ys∧∀ l,H l=none→Q (.ref l) (upd H l (.tup ys)))∨(SqT kK H p ys∧Q (.ref p) H)))→J_call_tuple_of kK xs H Q
theorem call_tuple_of:CallR X (.type "tuple") (fun xs H Q=>J_call_tuple_of X.K xs H Q):=by
  intro pins s σ H xs us Q I r h
  obtain ⟨p,ys,rfl,h⟩:=h
  obtain ⟨u,rfl,rx⟩:=vals1 r
  cases rx
  rcases h with ⟨hq,q⟩ | ⟨hq,q⟩
  · obtain ⟨its,r',pl,hz⟩:=I.list hq
    have hlen:=r'.length
    refine call_tuple_list pl.isList (fun h' kp => ?_) (by simp only [List.size_toArray] <;> omega)
    have I1:Inv X pins σ H { s with heap:=h' }:=I.kept (t':=s.toks) kp
    have I2:Inv X pins σ (upd H h'.objs.size (.tup ys)) { s with heap:=h'.push { cls := .type "tuple",data := .seq its.toArray } } :=
      I1.laid (t':=s.toks) (fun b o e=>Heap.get?_push_of_some _ e) (Nat.le_refl _) (show ObjOk X.prog X.w _ _ _ (.tup ys) from ⟨hz,its,r',IsTupN.new _ _⟩)
    exact ⟨.ref h'.objs.size,_,I2,rfl,q _ (I1.hok.fresh (Nat.le_refl _))⟩
  · obtain ⟨its,r',pl,hz⟩:=I.tuple hq
    exact call_tuple_same pl ⟨.ref p,H,I,rfl,q⟩

noncomputable def tyV (K:PySem.W.Frag) (T:String) (x:V) (H:Hp):Prop:=match x with
  | .str _=>T = "str"
  | .int _=>T = "int"
  | .ref p=>(T = "list" ∧ ∃ xs,SqL K H p xs)∨(T = "tuple" ∧ ((∃ o,K.lookup p=some o∧o.cls = .type "tuple" ∧ o.dict=none)∨∃ xs,H p=some (.tup xs))) ∨
      (T = "dict" ∧ ((∃ kvs,H p=some (.dK kvs))∨∃ kvs,H p=some (.dT kvs)))∨(T = "set" ∧ ∃ S n,H p=some (.set S n))
  | _=>False
theorem tyV_is {pins:List (Addr × Obj)} {σ : St} {H:Hp} {s:Shared} {T:String} {x:V} {v:Value} (I:Inv X pins σ H s) (r:RelV x v) (ty:tyV X.K T x H) :
    s.TypeIs v T∧∀ a,v = .ref a→∃ ob,s.heap.get? a=some ob∧ob.dict=none:=by
  cases x with
  | str z =>
    obtain ⟨t,rfl⟩:=r
    cases (show T = "str" from ty)
    exact ⟨typeIs_str s z t,fun _ e=>nomatch e⟩
  | int i =>
    obtain ⟨t,rfl⟩:=r
    cases (show T = "int" from ty)
    exact ⟨typeIs_int s i t,fun _ e=>nomatch e⟩
  | ref p =>
    cases r
    rcases ty with ⟨rfl,xs,hq⟩ | ⟨rfl,⟨o,hk,hc,hd⟩ | ⟨xs,hk⟩⟩ | ⟨rfl,hk⟩ | ⟨rfl,S,n,hk⟩
    · obtain ⟨its,_,pl,_⟩:=I.list hq
      refine ⟨pl.isList.typeIs,fun a e => ?_⟩
      cases e
      obtain ⟨o,n,e,c,hd,_⟩:=pl
      exact ⟨o,e,hd⟩
    · refine ⟨⟨o,I.kIn p o hk,hc⟩,fun a e => ?_⟩
      cases e
      exact ⟨o,I.kIn _ o hk,hd⟩
    · obtain ⟨_,_,_,o,e,c,n,d,hd⟩:=I.hok p _ hk
      refine ⟨⟨o,e,c⟩,fun a e2 => ?_⟩
      cases e2
      exact ⟨o,e,hd⟩
    · have z:∃ o,s.heap.get? p=some o∧o.ExactDict:=by
        rcases hk with ⟨kvs,hk⟩ | ⟨kvs,hk⟩
        · obtain ⟨_,_,_,_,o,_,_,e,ex,_⟩:=I.hok p _ hk
          exact ⟨o,e,ex⟩
        · obtain ⟨_,_,_,_,o,_,_,e,ex,_⟩:=I.hok p _ hk
          exact ⟨o,e,ex⟩
      obtain ⟨o,e,ex⟩:=z
      refine ⟨⟨o,e,ex.1⟩,fun a e2 => ?_⟩
      cases e2
      exact ⟨o,e,ex.2.1⟩
    · obtain ⟨o,_,_,_,e,ex,_⟩:=I.hok p _ hk
      refine ⟨⟨o,e,ex.1⟩,fun a e2 => ?_⟩
      cases e2
      exact ⟨o,e,ex.2.1⟩
  | _=>exact False.elim ty
noncomputable def tBM (K:PySem.W.Frag) (T:String) (r:V→List V→Hp→VK→Prop) (to:TE) (t:TA):TE:=fun σ H Q=>to σ H fun x H1=>tyV K T x H1∧t σ H1 fun xs H2=>r x xs H2 Q
variable {o e:Expr} {es:List Expr} {to:TE} {t:TA} {name:Str} {apos cpos:Pos} {T id:String} {r:V→List V→Hp→VK→Prop}
theorem pe_bm (pa:PlainAttrs T) (slot:Slot T name id) (hty:typeOf (.builtin id)=pure (.type "method_descriptor")) (hm:MtR X id r) (ho:PE X o to) (ha:PA X (e :: es) t)
    (hbase:attributeBase o name X.env (eval o X.env)=eval o X.env:=by rfl)
    (hfew:((backTo cpos (starEach (e :: es) X.env)).all (fun x => !x.1) && (backToKw cpos (keywordEach [] X.env)).all (fun x=>x.1.isSome)
      && decide ((e :: es).length+([]:List Keyword).length+(if ([]:List Keyword).isEmpty then 0 else 1) < 30))=true:=by rfl)
    (hline:(apos.endLine == cpos.line)=true:=by rfl) (hs:starEach (e :: es) X.env=(false,eval e X.env) :: starEach es X.env:=by rfl) (hplain:(backTo cpos (starEach es X.env)).any (·.1)=false:=by rfl) :
    PE X (.Call (.Attribute o name apos) (e :: es) [] cpos) (tBM X.K T r to t):=by
  intro pins s σ H Q I h
  refine wpAny_Call_method_late hbase hfew hline rfl (thn (ho pins s σ H _ I h) fun v s1 ⟨x,H1,I1,r1,ty,q1⟩ => ?_)
  obtain ⟨h1,h2⟩:=tyV_is I1 r1 ty
  refine ⟨T,id,pa,slot,hty,h1,h2,?_⟩
  have hA:=ha cpos pins s1 σ H1 _ I1 q1
  rw [hs] at hA ⊢
  refine Calls.callWith_builtin (by show (false || (backTo cpos (starEach es X.env)).any (·.1))=false;rw [hplain] <;> rfl) (Calls.evalArgs_plain ?_)
  exact thn hA fun us s2 ⟨vs,H2,I2,r2,q2⟩=>hm pins s2 σ H2 x vs v us Q I2 r1 r2 q2
/- xs.append(e),list.index on a module's tuple .. are MtR facts of 06m -/
end
end L2

namespace L2
open PySem PySem.Spec PyProof.Rows

noncomputable def MtM (X:Cx) (id:String) (r:V→List V→Hp→VK→Prop):Prop :=
  ∀ (pins:List (Addr × Obj)) (s:Shared) (σ : St) (H:Hp) (x:V) (xs:List V) (v:Value) (us:List Value) (Q:VK),Inv X pins σ H s→RelV x v→Vals xs us→r x xs H Q →
    wpAny (model X.prog X.w) X.A (call (.builtin id) (v :: us)) (EP X pins σ Q) X.xe s

theorem Vals.one:∀ {x:V} {us:List Value},Vals [x] us→∃ u,us = [u]∧RelV x u
  | _,_,.cons r .nil=>⟨_,rfl,r⟩

section
variable {X:Cx} {pins:List (Addr × Obj)} {σ : St} {H:Hp} {s:Shared} {l b:Addr} {xs ys zs:List V}

theorem Inv.lset {its its':List Value} {n:Nat} {f:Array Value→Array Value} {t':Nat} (I:Inv X pins σ H s) (hH:H l=some (.lst xs))
    (e:s.heap.get? l=some { cls := .type "list",data := .seq its.toArray n }) (hf:f its.toArray=its'.toArray) (hv:Vals ys its') (hz:ys.length≤sizeLine) :
    Inv X pins σ (upd H l (.lst ys)) { s with heap:=s.heap.update l (Obj.mapSeq f),toks:=t' }:=by
  have q:=PySem.IsL.update e f
  rw [hf] at q
  refine I.write (x:=l) (e:=l) (by rw [hH];exact trivial) (.inl rfl) (fun b' u hb hu=>(Heap.get?_update_other s.heap (Obj.mapSeq f) (Ne.symm hb)).trans hu) ⟨_,q⟩ ?_
  exact ⟨hz,its',_,hv,q⟩
theorem Inv.lnew {its:List Value} {t':Nat} (I:Inv X pins σ H s) (hv:Vals ys its) (hz:ys.length≤sizeLine) :
    Inv X pins σ (upd H s.heap.objs.size (.lst ys)) { s with heap:=s.heap.push { cls := .type "list",data := .seq its.toArray },toks:=t' } :=
  I.laid (fun _ _ q=>Heap.get?_push_of_some _ q) (Nat.le_refl _) ⟨hz,its,0,hv,Heap.get?_push_size _ rfl⟩
theorem Inv.lstM (I:Inv X pins σ H s) (hH:H l=some (.lst xs)):xs.length≤sizeLine∧∃ (its:List Value) (n:Nat),Vals xs its∧xs.length=its.length∧s.heap.get? l=some { cls := .type "list",data := .seq its.toArray n }:=by
  obtain ⟨z,its,n,r,e⟩:=I.hok l _ hH
  exact ⟨z,its,n,r,r.length,e⟩

end

section
variable {X:Cx}

inductive J_rAppend (x:V) (vs:List V) (H:Hp) (Q:VK):Prop
  | mk:∀ l xs y,(x = .ref l)→(vs = [y])→(H l=some (.lst xs))→(xs.length < sizeLine)→(Q .non (upd H l (.lst (xs ++ [y]))))→J_rAppend x vs H Q
noncomputable def rAppend:V→List V→Hp→VK→Prop:=fun x vs H Q=>J_rAppend x vs H Q
theorem mt_append:MtM X "list.append" rAppend:=by
  intro pins s σ H x vs v us Q I rx rv h
  obtain ⟨l,xs,y,rfl,rfl,hH,hz,q⟩:=h
  cases rx
  obtain ⟨u,rfl,ru⟩:=rv.one
  obtain ⟨z,its,n,r,hl,e⟩:=I.lstM hH
  refine call_meets F.slot_list_append ⟨_,e,rfl⟩ F.entry_list_append (F.args_list_append_2 _ _) (PySem.list_append l its.toArray n u (by rw [List.size_toArray];omega)) ⟨e,?_⟩
  refine ⟨.non,_,I.lset (its':=its ++ [u]) hH e (by simp) (r.append (.cons ru .nil)) ?_,rfl,q⟩
  rw [List.length_append,List.length_singleton]
  omega







end

section
variable {prog:Program} {w:World} {A:Around} {E:Value→Shared→Prop} {s:Shared}
end

section
variable {X:Cx}
end
end L2

namespace Att
open PySem PySem.W PySem.Calls PyProof.Rows

theorem ints_of_wellAll {P:Params} {h:Heap}:∀ (ns:List Int) (vs:List Value),WellAll P h vs (ns.map WData.int)→IntsAre vs ns:=by
  intro ns
  induction ns with
  | nil =>
    intro vs w
    rw [List.map_nil] at w
    cases w
    exact .nil
  | cons n ns ih =>
    intro vs w
    rw [List.map_cons] at w
    cases w with
    | cons a b =>
      cases a
      exact .cons _ _ (ih _ b)

theorem script_of {l:OpenLaw} {n:Nat} (hn:l.most=some n) {P:Params} {h:Heap} {args:List WData} {vals:List Value}
    (hpre:l.row.toRowW.claim.pre args=true) (hwl:WellAll P h vals args) :
    ∃ a vs ns,vals = [Value.ref a]∧args = [WData.list (ns.map WData.int)]∧h.get? a=some { cls := .type "list",data := .seq vs.toArray }∧IntsAre vs ns∧ns.length≤n:=by
  have hsh:WShape.hasAll [] args [.list .int]=true:=(pre_splitW hpre).1
  have hc:l.pre.holds [] { args:=args }=true:=(pre_splitW hpre).2
  obtain ⟨d,r,rfl,h1,h2⟩:=hasAllW_cons hsh
  obtain rfl:=hasAllW_nil h2
  obtain ⟨xs,rfl,h3⟩:=hasW_list h1
  obtain ⟨ns,rfl⟩:=items_int h3
  have hlen:ns.length≤n:=by
    unfold OpenLaw.pre at hc
    have h4:(WTm.not (.lt (.lit (.int (n:Int))) (.len (.arg 0)))).holds [] { args := [.list (ns.map .int)] }=true:=by
      have h4:=(holds_andW hc).1
      rw [hn] at h4
      exact h4
    have h5:=condW_of h4 (w_not (w_lt w_lit (w_len_list (w_arg rfl))))
    rw [List.length_map] at h5
    refine Nat.le_of_not_lt fun q => ?_
    have q':(n:Int) < ((ns.length:Nat):Int):=by omega
    first
      | (rw [decide_eq_true q'] at h5;exact absurd h5 (by decide))
      | (simp at h5;omega)
  cases hwl with
  | cons w1 w2 =>
    cases w2
    cases w1 with
    | list ho hall=>exact ⟨_,_,ns,rfl,rfl,ho,ints_of_wellAll ns _ hall,hlen⟩

theorem post_true (l:OpenLaw) (args:List WData):l.row.toRowW.claim.post args (.bool true) args=true :=
  postW_of (r:=l.row.toRowW) (X:=(true == true))
    (show WShape.has [] (.bool true) .bool=true by first | rfl | decide | simp [WShape.has,WShape.arms,WShape.armsAll])
    (show (WTm.eq .res (.lit (.bool true))).value [] { args:=args,res:=some (.bool true),after:=args }=some (.bool (true == true)) from w_eq_bool (w_res rfl) w_lit) rfl




section
variable {prog:Program} {w:World} {A:Around} {E:Value→Shared→Prop} {s:Shared} {K:Frag}






end
end Att

namespace L2
open PySem PySem.Spec PyProof.Rows

theorem vals_ints:∀ {vs:List Value} {ns:List Int},IntsAre vs ns→Vals (ns.map V.int) vs
  | _,_,.nil => .nil
  | _,_,.cons n t h => .cons ⟨t,rfl⟩ (vals_ints h)

noncomputable def Only (H:Hp):Prop := ∀ b,H b=none∨∃ o xs,H b=some (.frz o (.lst xs))

theorem law_call {P:Program} {w:World} {K:PySem.W.Frag} {mg mb:Str→Option Value} {CX:CXT} {k:Nat} {fa a:Addr} {fd:FuncData} {x:Str} {sp:Sp} {s₁ : Shared} {vs:List Value} {ns:List Int}
    (KX:K.In s₁.heap) (hns:s₁.heap.Ns mainGlobals mg) (hb:s₁.heap.Ns builtinsNs mb) (hbb:∀ x:Str,x ≠ "__name__" → mb x=bootBuiltins x) (hlim:s₁.heap.NoLimit) (hg:s₁.gens = #[])
    (ha:s₁.heap.get? a=some { cls := .type "list",data := .seq vs.toArray }) (hi:IntsAre vs ns) (hl:ns.length≤sizeLine) (hr:Room k callerA)
    (F:∀ base:Heap,K.In base→base.Ns mainGlobals mg→FnOk P w K mg base CX k fa fd [x] sp) (hbind:∀ (s:Shared) (u:Value),BindsTo s fd ⟨[u], []⟩ [(x,u)])
    (hsp:∀ H:Hp,Only H→SqL K H a (ns.map V.int)→sp [.ref a] H (fun v _=>v = .bl true) fun _ _ _=>False)
    (hCX:∀ H e s',CX [] H s₁ (fun _ _ _=>False) e s'→False) :
    codeAny (model P w) callerA (.call (.ref fa) ⟨[.ref a], []⟩) (fun r s'=>r = .ok (.ret (.bool true))∧OldK s₁.heap s'.heap∧s'.os=s₁.os∧AllBare s'.gens) s₁ := by
  have rv:=vals_ints hi
  have lenV:=hi.length
  -- from an abstract heap in which nothing but the script may be tracked
  have core:∀ H:Hp,Only H→SqL K H a (ns.map V.int)→HOk P w H s₁.heap→(∀ b,H b≠none→b=a)→(H a≠none→K.lookup a=none) →
      codeAny (model P w) callerA (.call (.ref fa) ⟨[.ref a], []⟩) (fun r s'=>r = .ok (.ret (.bool true))∧OldK s₁.heap s'.heap∧s'.os=s₁.os∧AllBare s'.gens) s₁ := by
    intro H hO hS hok hA hK
    have base_of:∀ {b:Addr} {o:Obj},s₁.heap.get? b=some o→H b=none→(hidT s₁.heap H).get? b=some o:=fun e n=>hidT_get e n
    have noA:∀ {b:Addr} {o:Obj} {es:Array DictEntry} {ep:Nat},s₁.heap.get? b=some o→o.data = .dict es ep→H b=none:=fun {b o es ep} e d=>by
      cases q:H b with
      | none=>rfl
      | some u =>
        have e':b=a:=hA b (by rw [q];simp)
        subst e'
        rw [ha] at e;cases e
        have d':Data.seq vs.toArray _=Data.dict es ep:=d
        cases d'
    have nsK:∀ {b:Addr} {m:Str→Option Value},s₁.heap.Ns b m→(hidT s₁.heap H).Ns b m:=fun {b m} ⟨o,es,ep,e,d,r⟩=>⟨o,es,ep,base_of e (noA e d),d,r⟩
    have hKb:K.In (hidT s₁.heap H):=fun b o e=>base_of (KX b o e) (by
      cases q:H b with
      | none=>rfl
      | some u =>
        have e':b=a:=hA b (by rw [q];simp)
        subst e'
        rw [hK (by rw [q];simp)] at e;cases e)
    have hM:Mod K mg (hidT s₁.heap H):=⟨hKb,nsK hns,⟨mb,nsK hb,hbb⟩,let ⟨mc,h1,h2⟩:=hlim; ⟨mc,nsK h1,h2⟩⟩
    have e0:Env0 P w K mg (hidT s₁.heap H) callerA [] s₁ H:=⟨rfl,hM,fun b o e=>of_hidT e,Nat.le_of_eq (hidT_size _ _),trivial,fun b hb=>absurd (show b∈([]:List Addr) from hb) (by simp),hok,.of_eq hg⟩
    refine codeAny_mono ((F _ hKb (nsK hns)).run callerA [] s₁ H ⟨[.ref a], []⟩ [.ref a] [.ref a] _ _ hr e0 (hbind s₁ (.ref a)) (.cons rfl .nil) (hsp H hO hS)) fun r s' h => ?_
    cases r with
    | error e=>exact (hCX H e s' h).elim
    | ok fl =>
      cases fl with
      | next=>exact False.elim h
      | brk=>exact False.elim h
      | cont=>exact False.elim h
      | ret u =>
        obtain ⟨v,H',os,bare,un,hok',r',q⟩:=h
        have q':v = .bl true:=q
        subst q'
        obtain rfl:u=Value.bool true:=r'
        refine ⟨rfl,OldK.of_keep fun b o e => ?_,os,bare⟩
        cases q:H b with
        | none=>exact un.keep b o e q (by intro z;exact absurd (show b∈([]:List Addr) from z) (by simp)) (by simp)
        | some u =>
          rcases hO b with z | ⟨ob,xs,z⟩
          · rw [q] at z;cases z
          · have z2:=un.frzs b ob _ z
            obtain ⟨e1,_⟩:=hok b _ z
            obtain ⟨e2,_⟩:=hok' b _ z2
            rw [e] at e1;cases e1
            exact e2
  cases hk:K.lookup a with
  | some o =>
    -- the script is one of the module's own objects
    have e:=KX a o hk
    rw [ha] at e
    cases e
    refine core (fun _=>none) (fun _ => .inl rfl) (.inr ⟨_,vs.toArray,_,hk,rfl,rfl,rfl,by rw [List.size_toArray,lenV];exact hl,by simpa using rv⟩) (fun b u z=>by have z':(none:Option HO)=some u:=z;cases z') (fun b z=>absurd rfl z) fun z=>absurd rfl z
  | none =>
    refine core (fun b=>if b=a then some (.frz { cls := .type "list",data := .seq vs.toArray } (.lst (ns.map V.int))) else none) (fun b => ?_) (.inl (.inr ⟨{ cls := .type "list",data := .seq vs.toArray },if_pos rfl⟩)) (fun b u z => ?_) (fun b z => ?_) fun _=>hk
    · by_cases hb:b=a
      · exact .inr ⟨_,_,if_pos hb⟩
      · exact .inl (if_neg hb)
    · by_cases hb:b=a
      · have z':=(if_pos hb).symm.trans z
        cases z'
        subst hb
        exact ⟨ha,by rw [List.length_map];exact hl,vs,_,rv,ha⟩
      · have z':=(if_neg hb).symm.trans z
        cases z'
    · by_cases hb:b=a
      · exact hb
      · exact absurd (if_neg hb) z
end L2

namespace L2
open PySem PySem.Spec PyProof.Rows


end L2



namespace L2
open PySem PySem.Spec PyProof.Rows

noncomputable def inClass (s:Stmt) (j:Nat):Stmt:=match s with
  | .ClassDef _ _ _ body _ _ _ _ _ _ _=>body.getD j (.Pass ⟨0,0,0,0⟩)
  | _ => .Pass ⟨0,0,0,0⟩
noncomputable def defArgs (s:Stmt):Arguments:=match s with
  | .FunctionDef _ a _ _ _ _ _ _ _ _=>a
  | _=>{ posonlyargs := [],args := [],vararg:=none,kwonlyargs := [],kw_defaults := [],kwarg:=none,defaults := [] }
noncomputable def defBody (s:Stmt):List Stmt:=match s with
  | .FunctionDef _ _ b _ _ _ _ _ _ _=>b
  | _ => []
noncomputable def defScope (s:Stmt):Scope:=match s with
  | .FunctionDef _ _ _ _ _ _ sc _ _ _=>sc
  | _=>{ kind := .function,names := [],isGenerator:=false,isCoroutine:=false }

noncomputable abbrev CX0:CXT:=fun _ _ _ _ _ _=>False
noncomputable abbrev E0:XK:=fun _ _ _=>False
theorem pass0 {X:Cx}:Passes CX0 X E0:=fun _ _ _ _ _ _ _ h=>h.elim

structure Fun (K:PySem.W.Frag) (x qual:Str) (st:Stmt) (f:Addr) (fd:FuncData):Prop where
  ex:∃ (oc:Value) (od:Option Addr) (kV doc pm:Value) (an:Option Addr) (cdv ct:Value) (osl:Array (Option Value)),
    fd=PySem.W.fnOf x qual (defArgs st) (defBody st) (defScope st) .none kV doc pm an cdv ct∧K.lookup f=some ⟨oc,od,.func fd,osl⟩∧PySem.W.codeIn K cdv qual=true
  kp:PySem.W.keepIn K (.ref f)=true
section
variable {P:Program} {w:World} {K:PySem.W.Frag} {mg:Str→Option Value} {base:Heap}
theorem Fun.ok {x qual:Str} {st:Stmt} {f:Addr} {fd:FuncData} {N ps:List Str} {k:Nat} {sp:Sp} (F:Fun K x qual st f fd) (S:FnScope N ps (defScope st)) (len:∀ vs H Q E,sp vs H Q E→vs.length=ps.length)
    (hbody:∀ (cdv:Value) (A:Around) (outer:List Env) (s:Shared) (H:Hp) (vs:List V) (Q:VK) (E:XK),Room k (A.deeper (envOfC qual (defScope st) s.heap.objs.size f cdv))→sp vs H Q E →
      ∃ t,PSs (cxOf CX0 P w K mg base N qual (defScope st) f cdv A outer s H E).nox (defBody st) t∧t { nx:=fun _ H'=>Q .non H',rt:=Q } (start N vs) H):FnOk P w K mg base CX0 (k+1) f fd ps sp:=by
  obtain ⟨oc,od,kV,doc,pm,an,cdv,ct,osl,rfl,lk,hcd⟩:=F.ex
  refine fn_of lk hcd S len fun A outer s H vs Q E hr hsp => ?_
  obtain ⟨t,h,q⟩:=hbody cdv A outer s H vs Q E hr hsp
  exact ⟨t,h.nox,q⟩
theorem Fun.binds {x qual:Str} {st:Stmt} {f:Addr} {fd:FuncData} {ps:List Str} (F:Fun K x qual st f fd)
    (h:∀ (kV doc pm:Value) (an:Option Addr) (cdv ct:Value) (us:List Value),us.length=ps.length→bindArgs (PySem.W.fnOf x qual (defArgs st) (defBody st) (defScope st) .none kV doc pm an cdv ct) ⟨us, []⟩=pure (ps.zip us)):Binds K fd ps []:=by
  obtain ⟨oc,od,kV,doc,pm,an,cdv,ct,osl,rfl,lk,hcd⟩:=F.ex
  exact .all (h kV doc pm an cdv ct)
theorem fun_mk {x qual:Str} {st:Stmt} {f:Addr} {oc:Value} {od an:Option Addr} {osl:Array (Option Value)} {kV doc pm cdv ct:Value} (l:K.lookup f=some ⟨oc,od,.func (PySem.W.fnOf x qual (defArgs st) (defBody st) (defScope st) .none kV doc pm an cdv ct),osl⟩)
    (c:PySem.W.codeIn K cdv qual=true) (k:PySem.W.keepIn K (.ref f)=true):Fun K x qual st f (PySem.W.fnOf x qual (defArgs st) (defBody st) (defScope st) .none kV doc pm an cdv ct):=⟨⟨oc,od,kV,doc,pm,an,cdv,ct,osl,rfl,l,c⟩,k⟩
end
theorem hu_of {A:Around} {k:Nat} (hr:Room k A):A.units+1 < cLine:=Nat.lt_of_le_of_lt (Nat.add_le_add_left (by decide:1≤64) _) hr.units
theorem small1000 {n:Nat} (h:n≤1000):n < sizeLine:=Nat.lt_of_le_of_lt h (by decide)

section
variable {X:Cx}
theorem pv (i:Nat) {x:Str} {pos:Pos} (hN:X.N[i]? = some x:=by rfl) (hv:Vis X.env.scope x:=by first | exact Or.inl rfl | exact Or.inr (Or.inl rfl) | exact Or.inr (Or.inr rfl)) (hd:(x == ("__debug__" : Str))=false:=by decide)
    (hcd:(x == ("__classdict__" : Str))=false:=by decide):PE X (.Name x pos) (tVar i):=pe_var hN hv hd hcd
end

theorem iteF {A B:Prop} (h:B):if false=true then A else B:=by
  rw [if_neg Bool.false_ne_true]
  exact h
theorem iteT {A B:Prop} (h:A):if true=true then A else B:=by
  rw [if_pos rfl]
  exact h

noncomputable def Same (H H':Hp):Prop := ∀ b o,H b=some o→H' b=some o
theorem Same.refl (H:Hp):Same H H:=fun _ _ h=>h
theorem Same.trans {H H1 H2:Hp} (a:Same H H1) (b:Same H1 H2):Same H H2:=fun c o h=>b c o (a c o h)
theorem Same.free {H H':Hp} (e:Same H H') {l:Addr} (h:H' l=Option.none):H l=Option.none:=by
  cases q:H l with
  | none=>rfl
  | some o =>
    rw [e l o q] at h
    cases h
theorem Same.seq {K:PySem.W.Frag} {H H':Hp} {a:Addr} {xs:List V} (e:Same H H') (h:SqL K H a xs):SqL K H' a xs:=by
  rcases h with (h | ⟨o,h⟩) | h
  · exact .inl (.inl (e _ _ h))
  · exact .inl (.inr ⟨o,e _ _ h⟩)
  · exact .inr h

end L2
namespace L2
open PySem PySem.Spec PyProof.Rows

section
variable {X:Cx} {pins:List (Addr × Obj)} {σ : St} {H:Hp} {s:Shared} {h':Heap}
theorem Inv.turnedLaid {ch:List Addr} {a:Addr} {o:HO} {t':Nat} (I:Inv X pins σ H s) (k:∀ b u,b ∉ ch→s.heap.get? b=some u→h'.get? b=some u)
    (hch:∀ b∈ch,FpOk X pins H b) (hp:s.heap.objs.size≤a) (new:ObjOk X.prog X.w (upd H a o) h' a o):Inv X pins σ (upd H a o) { s with heap:=h',toks:=t' }:=by
  have hfr:H a=none:=I.hok.fresh hp
  have old:∀ b ob,s.heap.get? b=some ob→b≠a:=fun b ob e z=>by subst z;exact absurd (Nat.lt_of_lt_of_le (Heap.lt_size e) hp) (Nat.lt_irrefl _)
  have tr:∀ b u,H b=some u→b≠a:=fun b u e z=>by rw [z,hfr] at e;cases e
  have trc:∀ b u,H b=some u→b ∉ ch:=fun b u e z=>by rw [(hch b z).1] at e;cases e
  refine I.step (g':=s.gens) (d':=s.drawn) (ch:=ch) (fun b hb => ?_) (fun b ob _ _ hc e _=>k b ob hc e) (fun b ob _ _ hc e _=>⟨ob.slots,k b ob hc e⟩) (fun b ob _ e n => ?_)
    (fun b ob hc e=>⟨ob,k b ob hc e⟩) (fun b xs e => ?_) (fun b ob u e => ?_) (fun b ps e=>⟨#[],?_⟩) (fun m hm => ?_) (fun b u e => ?_) I.bare
  · obtain ⟨_,f1,_,f3,f4,f5⟩:=hch b hb
    exact ⟨f3,f1,f4,f5⟩
  · rw [upd_ne (old b ob e)];exact n
  · rw [upd_ne (tr b _ e)];exact e
  · rw [upd_ne (tr b _ e)];exact e
  · rw [upd_ne (tr b _ e),e];simp
  · obtain ⟨ob,es,ep,ho,r⟩:=hm
    exact ⟨ob,es,ep,k _ ob (fun z=>(hch _ z).2.1 rfl) ho,r⟩
  · by_cases hb:b=a
    · subst hb
      rw [upd_same] at e;cases e
      exact new
    · rw [upd_ne hb] at e
      refine (I.hok b u e).stay (fun c v hc q=>k c v ?_ q) (fun c q=>by rw [upd_ne (tr c _ q)];exact q) fun c xs q=>by rw [upd_ne (tr c _ q)];exact q
      rcases hc with z | z
      · rw [z];exact trc b u e
      · exact trc c _ z
end

theorem boot_enum:bootBuiltins "enumerate" = some (.type "enumerate"):=by decide +kernel
section
variable {X:Cx}

end


section
variable {X:Cx}
theorem foldl_cps (a:Array Nat):∀ (k:Nat) (acc:Array Nat),((List.replicate k a).foldl (· ++ ·) acc).toList=acc.toList ++ (List.replicate k a.toList).flatten
  | 0,acc=>by simp
  | k+1,acc=>by
    rw [List.replicate_succ,List.foldl_cons,foldl_cps a k,List.replicate_succ,List.flatten_cons,Array.toList_append,List.append_assoc]
noncomputable def timesS (z:Str) (n:Nat):Str:=⟨(List.replicate n z.cps.toList).flatten.toArray⟩
theorem timesS_len (z:Str) (n:Nat):(timesS z n).length=n * z.length:=by
  unfold timesS Str.length
  simp [List.length_flatten]
inductive J_op_mul_str (x:V) (y:V) (H:Hp) (Q:VK):Prop
  | mk:∀ z n,(x = .str z)→(y = .int n)→(1≤n)→(n≤1000)→(z.length≤1000)→(Q (.str (timesS z n.toNat)) H)→J_op_mul_str x y H Q
theorem op_mul_str:OpR X (binaryOp .Mult) (fun x y H Q=>J_op_mul_str x y H Q):=by
  intro pins s σ H x y v u Q I rx ry h
  obtain ⟨z,n,rfl,rfl,h1,h2,h3,q⟩:=h
  obtain ⟨t,rfl⟩:=rx
  obtain ⟨t',rfl⟩:=ry
  have e0:(⟨(List.replicate n.toNat z.cps).foldl (· ++ ·) #[]⟩:Str)=timesS z n.toNat:=by
    unfold timesS
    congr 1
    apply Array.toList_inj.mp
    rw [foldl_cps]
    simp
  have hlen:(timesS z n.toNat).length≤sizeLine:=by
    rw [timesS_len]
    have:n.toNat≤1000:=by omega
    have:=Nat.mul_le_mul this h3
    exact Nat.le_trans this (by decide)
  have e1:(n == 1 || z.length == 0)=true→timesS z n.toNat=z:=fun hc=>by
    unfold timesS
    rcases Bool.or_eq_true_iff.mp hc with hc | hc
    · have:n=1:=by simpa using hc
      subst this
      simp
    · have hz:z.length=0:=by simpa using hc
      have hz':z.cps = #[]:=Array.eq_empty_of_size_eq_zero hz
      cases z with
      | mk c =>
        simp only at hz'
        subst hz'
        simp
  refine PySem.P.mul_str (by
      have h1':¬ n < -(2 ^ 63:Int):=by omega
      have h2':¬ n ≥ 2 ^ 63:=by omega
      rw [decide_eq_false h1',decide_eq_false h2'];rfl) (fun _ _ => ?_) (fun _ _ => ?_) ?_
  · have e:((2:Int) ^ 63 - 1)=9223372036854775807:=by decide
    rw [e]
    have h4:(1000:Int)≤(9223372036854775807:Int) / n:=by
      refine (Int.le_ediv_iff_mul_le (by omega)).mpr ?_
      omega
    omega
  · unfold Builtin.Str.tooLong
    rw [timesS_len] at hlen
    exact decide_eq_false (by rw [Nat.mul_comm];omega)
  · rw [if_neg (by omega)]
    by_cases hc:(n == 1 || z.length == 0)=true
    · rw [if_pos hc]
      exact ⟨.str z,H,I,⟨_,rfl⟩,by rw [e1 hc] at q;exact q⟩
    · rw [if_neg hc]
      exact ⟨by rw [e0];exact hlen,⟨.str _,H,I.tok _,⟨_,rfl⟩,by rw [e0];exact q⟩⟩
inductive J_rSlS (x:V) (lo:Option Int) (hi:Option Int) (H:Hp) (Q:VK):Prop
  | mk:∀ z,(x = .str z)→(z.length≤sizeLine)→(Q (.str (Txt.slice z lo hi)) H)→J_rSlS x lo hi H Q
noncomputable def rSlS:V→Option Int→Option Int→Hp→VK→Prop:=fun x lo hi H Q=>J_rSlS x lo hi H Q
theorem sl_str:SlR X rSlS:=by
  intro pins s σ H x v vl vu lo hi sl Q I rx hs pl pu h
  obtain ⟨z,rfl,hz,q⟩:=h
  obtain ⟨t,rfl⟩:=rx
  refine ⟨"str",_,F.slot_str_getitem.lookup,typeIs_str _ _ _,?_⟩
  obtain ⟨o,ho,hc,hd⟩:=hs
  have fin:∀ t' k,EP X pins σ Q (.str (Txt.slice z lo hi) t') { s with toks:=k }:=fun t' k=>⟨.str _,H,I.tok _,⟨_,rfl⟩,q⟩
  cases pl with
  | none =>
    cases pu with
    | none=>exact wpAny_getItem_str_slice (l:=none) (u:=none) (st:=none) ⟨o,ho,hc,hd⟩ rfl (post_val_or_str ⟨Nat.le_trans (Txt.slice_le z _ _) hz,fin⟩)
    | int j uj=>exact wpAny_getItem_str_slice (l:=none) (u:=some (j,uj)) (st:=none) ⟨o,ho,hc,hd⟩ rfl (post_val_or_str ⟨Nat.le_trans (Txt.slice_le z _ _) hz,fin⟩)
  | int i ui =>
    cases pu with
    | none=>exact wpAny_getItem_str_slice (l:=some (i,ui)) (u:=none) (st:=none) ⟨o,ho,hc,hd⟩ rfl (post_val_or_str ⟨Nat.le_trans (Txt.slice_le z _ _) hz,fin⟩)
    | int j uj=>exact wpAny_getItem_str_slice (l:=some (i,ui)) (u:=some (j,uj)) (st:=none) ⟨o,ho,hc,hd⟩ rfl (post_val_or_str ⟨Nat.le_trans (Txt.slice_le z _ _) hz,fin⟩)
inductive J_call_sumL (kK:PySem.W.Frag) (xs:List V) (H:Hp) (Q:VK):Prop
  | mk:∀ (p:Addr) (ns:List Int),(xs = [.ref p])→(SqL kK H p (ns.map V.int))→(Q (.int ns.sum) H)→J_call_sumL kK xs H Q
theorem call_sumL (hc:X.calm=true):CallR X (.builtin "sum") (fun xs H Q=>J_call_sumL X.K xs H Q):=by
  intro pins s σ H xs us Q I r h
  obtain ⟨p,ns,rfl,hq,q⟩:=h
  obtain ⟨u,rfl,ru⟩:=vals1 r
  cases ru
  obtain ⟨its,rv,pl,hz⟩:=I.list hq
  have hi:IntsAre its ns:=intsAre_of rv
  obtain ⟨ys,hx⟩:=hi.allInts.items
  have hl':s.heap.IsList p (intItems ys):=hx ▸ pl.isList
  refine sum_intListG (I.ok.hd hc) hl' fun h' tk t' hk => ?_
  have e1:ns=ys.toList.map (·.1):=by
    rw [← nums_intItems, ← hx]
    exact (show numsOf its.toArray.toList=ns from hi.numsOf).symm
  have e2:preSum (numAt ys) ys.size=ns.sum:=by
    rw [preSum_eq,List.take_of_length_le (by simp),e1]
  exact ⟨.int ns.sum,H,I.kept hk,⟨t',by rw [e2]⟩,q⟩
inductive J_call_isT (kK:PySem.W.Frag) (xs:List V) (H:Hp) (Q:VK):Prop
  | mk:∀ x T t b,(xs = [x,.ty T])→(TyOf kK H x t)→(PySem.W.kitOne kK t (.type T)=some b)→(Q (.bl b) H)→J_call_isT kK xs H Q
theorem call_isT:CallR X (.builtin "isinstance") (fun xs H Q=>J_call_isT X.K xs H Q):=by
  intro pins s σ H xs us Q I r h
  obtain ⟨x,T,t,b,rfl,ty,e,q⟩:=h
  obtain ⟨u,w',rfl,rx,ry⟩:=vals2 r
  cases ry
  exact isinst_ok I rx ty e fun tk=>⟨.bl b,H,I.tok _,rfl,q⟩
theorem strsAre_of {ys:List Str}:∀ {us:List Value},Vals (ys.map V.str) us→StrsAre us ys:=by
  induction ys with
  | nil=>intro us r;rw [List.map_nil] at r;cases r;exact .nil
  | cons y ys ih =>
    intro us r
    rw [List.map_cons] at r
    cases r with
    | cons r1 r2 =>
      obtain ⟨t,e⟩:=r1
      subst e
      exact .cons y t (ih r2)
inductive J_rJoin (K:PySem.W.Frag) (x:V) (vs:List V) (H:Hp) (Q:VK):Prop
  | mk:∀ (z:Str) (l:Addr) (ys:List Str),(x = .str z)→(vs = [.ref l])→(SqL K H l (ys.map V.str))→((ys.map (·.length)).sum+ys.length * z.length≤16777216)→(Q (.str (Txt.join z ys)) H)→J_rJoin K x vs H Q
noncomputable def rJoin (K:PySem.W.Frag):V→List V→Hp→VK→Prop:=fun x vs H Q=>J_rJoin K x vs H Q
theorem mt_join:MtR X "str.join" (rJoin X.K):=by
  intro pins s σ H x vs v us Q I rx rv h
  obtain ⟨z,l,ys,rfl,rfl,hq,hb,q⟩:=h
  obtain ⟨t,rfl⟩:=rx
  obtain ⟨u,rfl,ru⟩:=vals1 rv
  cases ru
  obtain ⟨its,rv,pl,hz⟩:=I.list hq
  exact join_list pl.isList (strsAre_of rv) hb fun t' k=>⟨.str _,H,I.tok _,⟨_,rfl⟩,q⟩
end
end L2
namespace L2
open PySem PySem.Spec PyProof.Rows

noncomputable def capsOf (cells:List (Str × Addr)):List (Str × NameKind)→List (Str × Addr)→List (Str × Addr)
  | [],acc=>acc
  | (n,k) :: r,acc=>if k == .free then (match cells.lookup n with | some c=>capsOf cells r ((n,c) :: acc) | none=>capsOf cells r acc) else capsOf cells r acc
theorem capsOf_cells {cells:List (Str × Addr)}:∀ {names:List (Str × NameKind)} {acc:List (Str × Addr)} {x:Str} {c:Addr},(∀ x c,acc.lookup x=some c→cells.lookup x=some c)→(capsOf cells names acc).lookup x=some c→cells.lookup x=some c
  | [],_,x,c,ha,h=>ha x c h
  | (n,k) :: r,acc,x,c,ha,h=>by
    unfold capsOf at h
    by_cases hk:(k == NameKind.free)=true
    · rw [if_pos hk] at h
      cases e:cells.lookup n with
      | none =>
        rw [e] at h
        exact capsOf_cells ha h
      | some d =>
        rw [e] at h
        refine capsOf_cells (fun y z hy => ?_) h
        rw [List.lookup_cons] at hy
        cases q:y == n with
        | true =>
          rw [q] at hy
          have:y=n:=by simpa using q
          rw [this,e];exact hy
        | false =>
          rw [q] at hy
          exact ha y z hy
    · rw [if_neg hk] at h
      exact capsOf_cells ha h
theorem capsOf_acc {cells:List (Str × Addr)}:∀ {names:List (Str × NameKind)} {acc:List (Str × Addr)} {x:Str},(acc.lookup x).isSome=true→((capsOf cells names acc).lookup x).isSome=true
  | [],_,_,h=>h
  | (n,k) :: r,acc,x,h=>by
    unfold capsOf
    by_cases hk:(k == NameKind.free)=true
    · rw [if_pos hk]
      cases e:cells.lookup n with
      | none=>exact capsOf_acc h
      | some d =>
        refine capsOf_acc ?_
        rw [List.lookup_cons]
        cases q:x == n with
        | true=>rfl
        | false=>exact h
    · rw [if_neg hk];exact capsOf_acc h
theorem capsOf_has {cells:List (Str × Addr)}:∀ {names:List (Str × NameKind)} {acc:List (Str × Addr)} {x:Str},(x,NameKind.free)∈names→(cells.lookup x).isSome=true→((capsOf cells names acc).lookup x).isSome=true
  | [],_,_,h,_=>nomatch h
  | (n,k) :: r,acc,x,h,hc=>by
    unfold capsOf
    rcases List.mem_cons.mp h with e | h
    · cases e
      rw [if_pos (show (NameKind.free == NameKind.free)=true from rfl)]
      cases e:cells.lookup n with
      | none=>rw [e] at hc;cases hc
      | some d =>
        refine capsOf_acc ?_
        rw [List.lookup_cons]
        simp
    · by_cases hk:(k == NameKind.free)=true
      · rw [if_pos hk]
        cases e:cells.lookup n with
        | none=>exact capsOf_has h hc
        | some d=>exact capsOf_has h hc
      · rw [if_neg hk];exact capsOf_has h hc
theorem caps_cells {cells:List (Str × Addr)} {names:List (Str × NameKind)} {x:Str} {c:Addr} (h:(capsOf cells names []).lookup x=some c):cells.lookup x=some c :=
  capsOf_cells (fun _ _ z=>by simp at z) h
theorem forIn_caps {env:Env}:∀ (names:List (Str × NameKind)) (acc:List (Str × Addr)),(∀ y∈names,y.2 = .free→∃ c,env.cells.lookup y.1=some c) →
    (forIn names acc fun x r=>match x with
      | (name,kind)=>if (kind == NameKind.free)=true then (do let c ← cellOf env name;pure (ForInStep.yield ((name,c) :: r))) else pure (ForInStep.yield r):Sem (List (Str × Addr)))=pure (capsOf env.cells names acc)
  | [],acc,_=>rfl
  | (n,k) :: r,acc,h=>by
    have hr:∀ y∈r,y.2 = .free→∃ c,env.cells.lookup y.1=some c:=fun y hy=>h y (List.mem_cons_of_mem _ hy)
    rw [List.forIn_cons]
    by_cases hk:(k == NameKind.free)=true
    · have ek:k = .free:=by simpa using hk
      obtain ⟨c,hc⟩:=h (n,k) List.mem_cons_self ek
      have e1:cellOf env n=pure c:=by
        have hc':env.cells.lookup n=some c:=hc
        unfold cellOf
        rw [hc']
      unfold capsOf
      rw [if_pos hk]
      have hc':env.cells.lookup n=some c:=hc
      rw [hc']
      simp only [hk,if_true,e1]
      exact forIn_caps r ((n,c) :: acc) hr
    · unfold capsOf
      rw [if_neg hk]
      simp only [hk]
      exact forIn_caps r acc hr
theorem closure_caps {scope:Scope} {env:Env} (h:∀ y∈scope.names,y.2 = .free→∃ c,env.cells.lookup y.1=some c):closureFor scope env=pure (capsOf env.cells scope.names []):=by
  have e:=forIn_caps scope.names [] h
  unfold closureFor
  show (Bind.bind (forIn scope.names [] fun x r=>match x with
      | (name,kind)=>if (kind == NameKind.free)=true then (do let c ← cellOf env name;pure (ForInStep.yield ((name,c) :: r))) else pure (ForInStep.yield r):Sem (List (Str × Addr))) fun r=>pure r)=_
  rw [e]
  rfl

theorem relabel_free {scope:Scope} {env:Env} {x:Str} (hc:∀ y∈scope.names,y.2 ≠ .cell) (h:(relabel scope env).names.lookup x=some .cell∨(relabel scope env).names.lookup x=some .free):(x,NameKind.free)∈scope.names:=by
  unfold relabel at h
  simp only at h
  generalize scope.names=names at h hc
  induction names with
  | nil=>rcases h with h | h <;> cases h
  | cons y r ih =>
    obtain ⟨n,k⟩:=y
    have hr:∀ y∈r,y.2≠NameKind.cell:=fun y hy=>hc y (List.mem_cons_of_mem _ hy)
    rw [List.map_cons] at h
    by_cases hk:(k == NameKind.free && env.scope.kind == .function && env.kindOf n == some .cell)=true
    · simp only [hk,if_true,List.lookup_cons] at h
      cases q:x == n with
      | true =>
        have e:x=n:=by simpa using q
        have ek:k = .free:=by
          have:=(Bool.and_eq_true_iff.mp (Bool.and_eq_true_iff.mp hk).1).1
          simpa using this
        rw [e,ek];exact List.mem_cons_self
      | false =>
        rw [q] at h
        exact List.mem_cons_of_mem _ (ih h hr)
    · simp only [hk,Bool.false_eq_true,if_false,List.lookup_cons] at h
      cases q:x == n with
      | true =>
        rw [q] at h
        have e:x=n:=by simpa using q
        have hk0:k ≠ .cell:=hc (n,k) List.mem_cons_self
        rcases h with h | h
        · exact absurd (Option.some.inj h) hk0
        · rw [e,Option.some.inj h];exact List.mem_cons_self
      | false =>
        rw [q] at h
        exact List.mem_cons_of_mem _ (ih h hr)

theorem relabel_of_free {scope:Scope} {env:Env} {x:Str} (h:scope.names.lookup x=some .free):(relabel scope env).names.lookup x=some .cell∨(relabel scope env).names.lookup x=some .free:=by
  unfold relabel
  simp only
  generalize scope.names=names at h
  induction names with
  | nil=>cases h
  | cons y r ih =>
    obtain ⟨n,k⟩:=y
    rw [List.map_cons]
    rw [List.lookup_cons] at h
    by_cases hk:(k == NameKind.free && env.scope.kind == .function && env.kindOf n == some .cell)=true
    · simp only [hk,if_true,List.lookup_cons]
      cases q:x == n with
      | true=>exact .inl rfl
      | false=>rw [q] at h;exact ih h
    · simp only [hk,Bool.false_eq_true,if_false,List.lookup_cons]
      cases q:x == n with
      | true=>rw [q] at h;exact .inr h
      | false=>rw [q] at h;exact ih h

noncomputable def cxComp (X:Cx) (scope:Scope) (N:List Str) (fp:List Addr) (s:Shared) (H:Hp):Cx :=
  { X with N:=N,s₀ := s,H₀ := H,env:=compEnvC scope (capsOf X.env.cells scope.names []) s.heap.objs.size X.env,outer:=X.stack,ex:=fp,fn:=fun _=>false,pn := [],xe:=fun _ _=>False }

structure CompScope (X:Cx) (scope:Scope) (own:List Str) (caps:List (Str × Nat)):Prop where
  kind:scope.kind = .function
  nocell:∀ y∈scope.names,y.2 ≠ .cell
  locs:∀ y∈scope.names,y.2 = .local→scope.names.lookup y.1=some .local
  frees:∀ y∈scope.names,y.2 = .free→X.env.kindOf y.1=some .cell
  own:∀ x∈own,scope.names.lookup x=some .local
  caps:∀ p∈caps,X.N[p.2]? = some p.1∧X.env.kindOf p.1=some .cell∧scope.names.lookup p.1=some .free

noncomputable def capt (σ : St) (caps:List (Str × Nat)):St:=caps.map fun p=>(σ[p.2]?).join
section
variable {X:Cx} {scope:Scope} {own:List Str} {caps:List (Str × Nat)} {pins:List (Addr × Obj)} {σ : St} {H:Hp} {s:Shared} {fp:List Addr}
theorem comp_ok (S:CompScope X scope own caps) (I:Inv X pins σ H s) (hf:∀ b∈fp,FpOk X pins H b) (hl:∀ b∈fp,b < s.heap.objs.size):(cxComp X scope (own ++ caps.map (·.1)) fp s H).Ok where
  mod:=I.ok.mod
  kind:=S.kind
  glob:=I.ok.glob
  blt:=I.ok.blt
  above:=Nat.le_refl _
  inj:=fun x y c h1 h2=>I.ok.inj x y c (caps_cells h1) (caps_cells h2)
  has:=fun x h=>by
    have hm:=relabel_free S.nocell h
    obtain ⟨c,hc⟩:=I.ok.has x (.inl (S.frees _ hm rfl))
    exact Option.isSome_iff_exists.mp (capsOf_has hm (by rw [hc];rfl))
  cab:=fun x c h _=>nomatch h
  hd:=I.ok.hd
  frames:=I.ok.frames
  stk := .inl rfl
  exf:=fun b hb=>⟨Nat.ne_of_lt (hl b hb),fun x c h=>(hf b hb).2.2.2.2.1 x c (caps_cells h)⟩
  bs:=I.bs
  bsz:=Nat.le_trans I.ok.bsz I.sz
  noex:=fun b o e hb=>by
    rcases (hf b hb).2.2.2.1 with z | z
    · exact I.ok.noex b o e z
    · exact absurd (Nat.lt_of_lt_of_le (Nat.lt_of_lt_of_le (Heap.lt_size e) I.ok.bsz) z) (Nat.lt_irrefl _)
  exfs:=fun b hb z=>by
    rcases List.mem_cons.mp (I.stkSub b z) with e | e
    · exact (hf b hb).2.1 e
    · exact (hf b hb).2.2.1 e
  funs:=I.stack
  frf:=I.stkFree
theorem comp_start (S:CompScope X scope own caps) (I:Inv X pins σ H s) (hf:∀ b∈fp,FpOk X pins H b) (hl:∀ b∈fp,b < s.heap.objs.size) {h1:Heap} {m:Str→Option Value} {t:Nat} (hn:h1.Ns s.heap.objs.size m)
    (hk:∀ b o,s.heap.get? b=some o→h1.get? b=some o):Inv (cxComp X scope (own ++ caps.map (·.1)) fp s H) [] (List.replicate own.length none ++ capt σ caps) H { s with heap:=h1,toks:=t }:=by
  refine ⟨comp_ok S I hf hl,rfl,I.bare,Un.kept hk,⟨m,hn,fun i y v e1 e2 e3 => ?_⟩,fun x c e => ?_,I.hok.fresh (Nat.le_refl _),fun x c e=>I.freeC x c (caps_cells e),(fun p hp=>by cases hp),I.hok.kept hk,?_⟩
  · have hi:own.length≤i:=by
      by_cases hi:i < own.length
      · rw [List.getElem?_append_left (by simpa using hi),List.getElem?_replicate,if_pos hi] at e2
        cases e2
      · omega
    rw [List.getElem?_append_right (by simpa using hi),List.length_replicate] at e2
    unfold capt at e2
    rw [List.getElem?_map] at e2
    have e1':(own ++ caps.map (·.1))[i]? = some y:=e1
    rw [List.getElem?_append_right hi,List.getElem?_map] at e1'
    cases q:caps[i - own.length]? with
    | none=>rw [q] at e2;cases e2
    | some p =>
      rw [q] at e1' e2
      have ey:p.1=y:=Option.some.inj e1'
      have ev:(σ[p.2]?).join=some v:=Option.some.inj e2
      have eσ : σ[p.2]? = some (some v):=by
        cases z : σ[p.2]? with
        | none=>rw [z] at ev;cases ev
        | some w'=>rw [z] at ev;rw [show w'=some v from ev]
      obtain ⟨hN,hkind,hfree⟩:=S.caps p (List.mem_of_getElem? q)
      rw [ey] at hN hkind hfree
      obtain ⟨mX,hnX,hlX⟩:=I.loc
      obtain ⟨u,ru,lk⟩:=hlX p.2 y v hN eσ (.inr (.inl hkind))
      refine ⟨u,ru,?_⟩
      rcases lk with ⟨k1,_⟩ | ⟨_,c,hc,hcell⟩
      · rw [hkind] at k1;cases k1
      · have hm:=relabel_free S.nocell (relabel_of_free (env:=X.env) hfree)
        obtain ⟨c',hc'⟩:=Option.isSome_iff_exists.mp (capsOf_has (acc := []) hm (by rw [hc];rfl))
        have:=caps_cells hc'
        rw [hc] at this;cases this
        obtain ⟨o,ho,hd⟩:=hcell
        exact .inr ⟨relabel_of_free (env:=X.env) hfree,c,hc',⟨o,hk _ _ ho,hd⟩⟩
  · obtain ⟨v,o,ho,hd⟩:=I.cell x c (caps_cells e)
    exact ⟨v,o,hk _ _ ho,hd⟩
  · show _=(own ++ caps.map (·.1)).length
    simp [capt]
theorem comp_back {N:List Str} {τ : St} {H':Hp} {s':Shared} (I:Inv X pins σ H s) (J:Inv (cxComp X scope N fp s H) [] τ H' s') (hf:∀ b∈fp,FpOk X pins H b):Inv X pins σ H' s' :=
  I.call' (ch:=fp) J.os J.base J.hok J.bare fun b hb=>by
    obtain ⟨_,f1,_,f3,f4,f5⟩:=hf b hb
    exact ⟨f3,f1,f4,f5⟩
theorem comp_go {prog:Program} {w:World} {A:Around} {R:Result→Shared→Prop} {elt target iter:Expr} {pos:Pos} {it acc:Value} {env:Env} (Iv:Nat→Shared→Prop)
    (turn:∀ n s,Iv n s→wpAny (model prog w) A (pyNext it) (fun r s₁ => match r with
      | none=>R (.ok .next) s₁
      | some v=>wpAny (model prog w) A (letOwnedTupleGo target it v) (fun _ s₂ => wpAny (model prog w) A (assign target env v) (fun _ s₃ => wpAny (model prog w) A (eval elt env) (fun x s₄ =>
              wpAny (model prog w) A (call (.builtin "list.append") [acc,x]) (fun _ s₅ => ∃ m,m < n∧Iv m s₅) (fun _ _=>False) s₄) (fun _ _=>False) s₃) (fun _ _=>False) s₂) (fun _ _=>False) s₁) (fun _ _=>False) s)
    (n:Nat) (h:Iv n s):codeAny (model prog w) A (.compLoop (.ListComp elt [⟨target,iter, [],0⟩] scope pos) 0 it acc env) R s:=by
  refine codeAny_loop rfl Iv (fun n s hI => ?_) n h
  show wpAny _ A ((compTurn (.ListComp elt [⟨target,iter, [],0⟩] scope pos) 0 it acc env).onRaise (fun x=>do noteFrame x env;theTreesLotGoes x)) _ _ s
  refine wpAny_noted ?_
  rw [compTurn_list]
  refine wpAny_bind (wpAny_standAt (wpAny_bind (wpAny_mono (turn n s hI) (fun r s₁ h₁ => ?_) fun _ _ z=>z.elim)))
  cases r with
  | none=>exact wpAny_pure h₁
  | some v =>
    refine wpAny_bind (wpAny_mono h₁ (fun _ s₂ h₂ => wpAny_bind (wpAny_mono h₂ (fun _ s₃ h₃ => wpAny_bind (wpAny_tests_nil ?_)) fun _ _ z=>z.elim)) fun _ _ z=>z.elim)
    exact wpAny_bind (wpAny_bind (wpAny_mono h₃ (fun x s₄ h₄ => wpAny_bind (wpAny_mono h₄ (fun _ s₅ h₅ => wpAny_pure (wpAny_pure ⟨rfl,h₅⟩)) fun _ _ z=>z.elim)) fun _ _ z=>z.elim))

noncomputable def CompBody (J:It) (g:TG) (te:TE) (τ0:St) (H1:Hp) (Q:VK):Prop := ∀ D,H1 D=none→∃ W:Nat→Nat→St→List V→Hp→Prop,
  (∃ m,W 0 m τ0 [] (upd H1 D (.lst []))) ∧
  ∀ i m τ ys H,W i m τ ys H→H D=some (.lst ys)∧((J.stop i H∧Q (.ref D) H)∨(J.go i H∧ys.length < sizeLine∧∀ x H',J.yld i H x H'→g x τ H' fun τ2 H2=>te τ2 H2 fun y H3 =>
    H3 D=some (.lst ys)∧∃ m',m' < m∧W (i+1) m' τ2 (ys ++ [y]) (upd H3 D (.lst (ys ++ [y])))))
noncomputable def tComp (wi:TI) (g:TG) (te:TE) (k:Nat) (caps:List (Str × Nat)):TE:=fun σ H Q=>wi σ H fun J H1=>CompBody J g te (List.replicate k none ++ capt σ caps) H1 Q

theorem comp_core {tg elt iter:Expr} {wi:TI} {g:TG} {te:TE} {pos p2:Pos} {use:Option (Value→Sem Unit)} {Q:VK} {Q':Value→Shared→Prop} (S:CompScope X scope own caps) (hi:PI X tg iter wi) (hc:X.calm=true)
    (hg:∀ fp s H,PG (cxComp X scope (own ++ caps.map (·.1)) fp s H) tg g) (he:∀ fp s H,PE (cxComp X scope (own ++ caps.map (·.1)) fp s H) elt te)
    (I:Inv X pins σ H s) (h:tComp wi g te own.length caps σ H Q)
    (fin:∀ D C H5 s5,Inv X pins σ H5 s5→Q (.ref D) H5→(∃ m,s5.heap.Ns C m)→H5 C=none→C≠X.env.locals→X.s₀.heap.objs.size≤C→(∀ x c,X.env.cells.lookup x=some c→c≠C)→(∀ p∈X.pn ++ pins,p.1≠C) →
      compPost (model X.prog X.w) X.A X.xe use Q' (.ref D) C (.ok .next) s5)
    (hs:∀ x,foldedSetIterable iter X.env x=pure x:=by intro _;rfl) :
    wpAny (model X.prog X.w) X.A (comprehension (.ListComp elt [⟨tg,iter, [],0⟩] scope pos) scope X.env p2 (newList []) false (eval iter X.env) use) Q' X.xe s:=by
  have hclos:closureFor scope X.env=pure (capsOf X.env.cells scope.names []):=closure_caps fun y hy hk=>I.ok.has y.1 (.inl (S.frees y hy hk))
  refine wpAny_comprehension_free (g:=⟨tg,iter, [],0⟩) (gs := []) rfl hs hclos S.kind S.locs (thn (hi pins s σ H _ I h) fun v s1 h1=>thn h1 fun itv s2 h2 => ?_)
  obtain ⟨it,fp,tn,J,H2,e,I2,T,st2,f2,R⟩:=h2
  subst e
  refine wpAny_newObj_type (wpAny_newFunctionEnv S.nocell (by intro y hy;simp at hy) (fun h₁ hns₁ hsb₁ => ?_) S.kind)
  have fr2:H2 s2.heap.objs.size=none:=I2.hok.fresh (Nat.le_refl _)
  obtain ⟨W,⟨m0,w0⟩,turn⟩:=R s2.heap.objs.size fr2
  have I3:Inv X pins σ (upd H2 s2.heap.objs.size (.lst [])) { s2 with heap:=s2.heap.push { cls := .type "list",dict:=none,data := .seq ([]:List Value).toArray } }:=I2.lnew (its := []) (t':=s2.toks) .nil (Nat.zero_le _)
  have lt2:∀ b∈fp,b < s2.heap.objs.size:=fun b hb=>by
    obtain ⟨o,ho,_⟩:=T.obj _ _ st2 b hb
    exact Heap.lt_size ho
  have f3:∀ b∈fp,FpOk X pins (upd H2 s2.heap.objs.size (.lst [])) b:=fun b hb=>⟨by rw [upd_ne (Nat.ne_of_lt (lt2 b hb))];exact (f2 b hb).1,(f2 b hb).2⟩
  generalize hs3:({ s2 with heap:=s2.heap.push { cls := .type "list",dict:=none,data := .seq ([]:List Value).toArray } }:Shared)=s3 at I3
  have hz3:s3.heap.objs.size=s2.heap.objs.size+1:=by rw [← hs3];exact Heap.size_push _ _
  have kp23:∀ b o,s2.heap.get? b=some o→s3.heap.get? b=some o:=fun b o e=>by rw [← hs3];exact Heap.get?_push_of_some _ e
  have lt3:∀ b∈fp,b < s3.heap.objs.size:=fun b hb=>by rw [hz3];exact Nat.lt_succ_of_lt (lt2 b hb)
  have hns₁':h₁.Ns s3.heap.objs.size (fun x=>([]:List (Str × Value)).reverse.lookup x):=by rw [← hs3];exact hns₁
  have kp31:∀ b o,s3.heap.get? b=some o→h₁.get? b=some o:=fun b o e=>by
    have hb:b≠s3.heap.objs.size:=Nat.ne_of_lt (Heap.lt_size e)
    rw [← hs3] at e hb
    exact hsb₁.extBut b o hb (Heap.get?_push_of_some _ e)
  have J1:=comp_start S I3 f3 lt3 (t:=s2.toks+([]:List (Str × Value)).length) hns₁' kp31
  have st1:tn 0 h₁ := T.keep _ _ _ st2 fun b hb o e=>kp31 b o (kp23 b o e)
  -- the loop
  have loop:∀ s₃ : Shared,s₃ = { s3 with heap:=h₁,toks:=s2.toks+([]:List (Str × Value)).length } →
      codeAny (model X.prog X.w) X.A (.compLoop (.ListComp elt [⟨tg,iter, [],0⟩] scope pos) 0 (.ref it) (.ref s2.heap.objs.size) (cxComp X scope (own ++ caps.map (·.1)) fp s3 (upd H2 s2.heap.objs.size (.lst []))).env)
        (compPost (model X.prog X.w) X.A X.xe use Q' (.ref s2.heap.objs.size) s3.heap.objs.size) s₃ := by
    rintro s₃ rfl
    refine comp_go (fun n s'=>∃ i τ ys H',Inv (cxComp X scope (own ++ caps.map (·.1)) fp s3 (upd H2 s2.heap.objs.size (.lst []))) [] τ H' s'∧tn i s'.heap∧(∀ b∈fp,H' b=none)∧W i n τ ys H') ?_ m0
      ⟨0,_, [],_,J1,st1,fun b hb=>(f3 b hb).1,w0⟩
    rintro n s' ⟨i, τ,ys,H',J',st',fr',w'⟩
    have fY:∀ {H'':Hp},(∀ b∈fp,H'' b=none)→∀ b∈fp,FpOk (cxComp X scope (own ++ caps.map (·.1)) fp s3 (upd H2 s2.heap.objs.size (.lst []))) [] H'' b:=fun hn b hb =>
      ⟨hn b hb,Nat.ne_of_lt (lt3 b hb),fun z=>by
          rcases List.mem_cons.mp (I3.stkSub b z) with e | e
          · exact (f3 b hb).2.1 e
          · exact (f3 b hb).2.2.1 e,.inl hb,fun x c e=>(f3 b hb).2.2.2.2.1 x c (caps_cells e),(fun p hp=>by cases hp)⟩
    obtain ⟨hD,tt⟩:=turn i n τ ys H' w'
    rcases tt with ⟨stop,qn⟩ | ⟨go,hlen,step⟩
    · refine thn (T.done (cxComp X scope (own ++ caps.map (·.1)) fp s3 (upd H2 s2.heap.objs.size (.lst []))) rfl rfl rfl hc i [] s' τ H' (fun _ _=>False) J' (fY fr') st' stop) fun r s4 ⟨hr,J4⟩ => ?_
      subst hr
      obtain ⟨m4,hn4,_⟩:=J4.loc
      have I5:=comp_back I3 J4 f3
      refine fin _ _ _ s4 I5 qn ⟨m4,hn4⟩ J4.free ?_ ?_ (fun x c e z => ?_) fun p hp z => ?_
      · exact Nat.ne_of_gt I3.lt
      · exact I3.sz
      · obtain ⟨v,q⟩:=I3.cell x c e
        rw [z] at q
        exact absurd q.lt (Nat.lt_irrefl _)
      · have q:=(I3.pin p hp).1
        rw [z] at q
        exact absurd (Heap.lt_size q) (Nat.lt_irrefl _)
    · refine thn (T.item (cxComp X scope (own ++ caps.map (·.1)) fp s3 (upd H2 s2.heap.objs.size (.lst []))) rfl rfl rfl hc i [] s' τ H' (fun _ _=>False) J' (fY fr') st' go) fun r s4 ⟨u,hr,h4⟩ => ?_
      subst hr
      refine thn h4 fun _ s5 ⟨x,H5,J5,r5,y5,st5,fr5⟩ => ?_
      have J5':=J5.pinned (fY fr5) (T.obj _ _ st5)
      refine thn (hg fp s3 _ _ s5 τ H5 x u _ J5' r5 (step x H5 y5)) fun _ s6 ⟨τ6,H6,J6,q6⟩ => ?_
      refine thn (he fp s3 _ _ s6 τ6 H6 _ J6 q6) fun yv s7 ⟨y,H7,J7,r7,hD7,m',hm',w7⟩ => ?_
      refine thn (mt_append (X:=cxComp X scope (own ++ caps.map (·.1)) fp s3 (upd H2 s2.heap.objs.size (.lst []))) _ s7 τ6 H7 (.ref s2.heap.objs.size) [y] _ [yv] (fun _ H8=>H8=upd H7 s2.heap.objs.size (.lst (ys ++ [y]))) J7 rfl (.cons r7 .nil) ⟨_,ys,y,rfl,rfl,hD7,hlen,rfl⟩) fun _ s8 ⟨_,H8,J8,_,e8⟩ => ?_
      subst e8
      refine ⟨m',hm',i+1, τ6,ys ++ [y],_,J8.unpinned,T.keep _ _ _ st5 fun b hb o e=>(J8.pin (b,o) (List.mem_append_right _ (List.mem_append_right _ (mem_pinsAt hb e)))).1,fun b hb => ?_,w7⟩
      obtain ⟨o,e,d⟩:=T.obj _ _ st5 b hb
      exact (J8.pin (b,o) (List.mem_append_right _ (List.mem_append_right _ (mem_pinsAt hb e)))).2.1
  have hloop:=loop _ rfl
  subst hs3
  exact codeAny_compStart_list hloop (T.self _ 0 _ _ _ st1 hloop)
theorem pe_comp {tg elt iter:Expr} {wi:TI} {g:TG} {te:TE} {pos:Pos} (S:CompScope X scope own caps) (hi:PI X tg iter wi) (hc:X.calm=true)
    (hg:∀ fp s H,PG (cxComp X scope (own ++ caps.map (·.1)) fp s H) tg g) (he:∀ fp s H,PE (cxComp X scope (own ++ caps.map (·.1)) fp s H) elt te)
    (hs:∀ x,foldedSetIterable iter X.env x=pure x:=by intro _;rfl):PE X (.ListComp elt [⟨tg,iter, [],0⟩] scope pos) (tComp wi g te own.length caps):=by
  intro pins s σ H Q I h
  rw [eval_ListComp]
  refine comp_core (use:=none) (Q:=Q) S hi hc hg he I h (fun D C H5 s5 I5 q ⟨m,hn⟩ hC hL hz hcell hpin => ?_) hs
  refine ⟨m,hn,fun h' hs' => ?_⟩
  exact ⟨.ref D,H5,I5.turned (t':=s5.toks) (fun b o hb e=>(hs'.2 b hb).trans e) hC hL (.inr hz) hcell hpin,rfl,q⟩
theorem ps_setComp {i:Nat} {y:Str} {tg elt iter:Expr} {wi:TI} {g:TG} {te:TE} {pos spos py:Pos} (hN:X.N.Nodup) (hiN:X.N[i]? = some y) (hy:X.env.scope.names.lookup y=some .local) (S:CompScope X scope own caps) (hi:PI X tg iter wi) (hc:X.calm=true)
    (hg:∀ fp s H,PG (cxComp X scope (own ++ caps.map (·.1)) fp s H) tg g) (he:∀ fp s H,PE (cxComp X scope (own ++ caps.map (·.1)) fp s H) elt te)
    (hsw:swapsWith (.ListComp elt [⟨tg,iter, [],0⟩] scope pos) (some (.Name y py)) spos.line X.env=pure true)
    (hs:∀ x,foldedSetIterable iter X.env x=pure x:=by intro _;rfl):PS X (.Assign [.Name y py] (.ListComp elt [⟨tg,iter, [],0⟩] scope pos) spos) (tAsg (tComp wi g te own.length caps) (gName i)):=by
  intro pins s σ H D I h
  rw [exec_Assign_Name_used _ _ _ _ hsw]
  refine wpAny_bind (wpAny_standAt (wpAny_bind ?_))
  show wpAny _ X.A (do let _ ← comprehension (.ListComp elt [⟨tg,iter, [],0⟩] scope pos) scope X.env _ (newList []) false (eval iter X.env) (some (assign (.Name y py) X.env))) _ _ s
  refine wpAny_bind (wpAny_mono (comp_core (use:=some (assign (.Name y py) X.env)) (Q:=fun x H1=>D.nx (σ.set i (some x)) H1) (Q':=fun _ s'=>SP X pins D .next s') S hi hc hg he I h (fun A C H5 s5 I5 q ⟨m,hn⟩ hC hL hz hcell hpin => ?_) hs)
    (fun _ s' hq=>wpAny_pure (wpAny_pure hq)) fun _ _ e=>e)
  show wpAny _ X.A (assign (.Name y py) X.env (.ref A)) _ _ _
  refine wpAny_assign_Name (store_ok2 I5 hN hiN (.inl hy) (v := .ref A) rfl (fun s6 I6 ⟨a,hsb,ha⟩ => ?_) (.inr hy))
  have haC:C≠a:=by
    rcases ha with ha | ha
    · rw [ha];exact hL
    · exact fun z=>hcell y a ha z.symm
  refine ⟨m,hn.sameBut hsb haC,fun h' hs' => ?_⟩
  exact ⟨_,H5,I6.turned (t':=s6.toks) (fun b o hb e=>(hs'.2 b hb).trans e) hC hL (.inr hz) hcell hpin,q⟩
end
end L2
namespace L2
open PySem PySem.Spec PyProof.Rows

structure Has (P:Program) (w:World) (K:PySem.W.Frag) (mg:Str→Option Value) (base:Heap) (k:Nat) (x:Str) (ps:List Str) (sp:Sp):Prop where
  ex:∃ f fd,FnOk P w K mg base CX0 k f fd ps sp∧mg x=some (.ref f)∧PySem.W.keepIn K (.ref f)=true∧Binds K fd ps []
section
variable {X:Cx} {k k':Nat} {x:Str} {ps:List Str} {sp:Sp} {p pos:Pos} {e:Expr} {es:List Expr} {t:TA}
theorem pe_callH (h:Has X.prog X.w X.K X.mg X.base k x ps sp) (hr:Room k' X.A) (hk:k≤k') (hg:Gl X x) (ha:PA X (e :: es) t) (hdb:(x == ("__debug__" : Str))=false:=by decide)
    (he:starEach (e :: es) X.env=(false,eval e X.env) :: starEach es X.env:=by rfl) (hpl:(backTo pos (starEach es X.env)).any (·.1)=false:=by rfl) :
    PE X (.Call (.Name x p) (e :: es) [] pos) (tCall sp [] E0 t):=by
  obtain ⟨f,fd,F,hm,hkp,hb⟩:=h.ex
  exact pe_call F (hr.mono hk) hg hm hkp hb .nil pass0 ha hdb he hpl
end
structure Def (K:PySem.W.Frag) (mg:Str→Option Value) (x:Str) (st:Stmt) (ps:List Str):Prop where
  ex:∃ f fd,Fun K x x st f fd∧mg x=some (.ref f)∧Binds K fd ps []
theorem Def.has {P:Program} {w:World} {K:PySem.W.Frag} {mg:Str→Option Value} {base:Heap} {x:Str} {st:Stmt} {N ps:List Str} {k:Nat} {sp:Sp} (D:Def K mg x st ps) (S:FnScope N ps (defScope st)) (len:∀ vs H Q E,sp vs H Q E→vs.length=ps.length)
    (hbody:∀ (f:Addr) (cdv:Value) (A:Around) (outer:List Env) (s:Shared) (H:Hp) (vs:List V) (Q:VK) (E:XK),Room k (A.deeper (envOfC x (defScope st) s.heap.objs.size f cdv))→sp vs H Q E →
      ∃ t,PSs (cxOf CX0 P w K mg base N x (defScope st) f cdv A outer s H E).nox (defBody st) t∧t { nx:=fun _ H'=>Q .non H',rt:=Q } (start N vs) H):Has P w K mg base (k+1) x ps sp:=by
  obtain ⟨f,fd,F,hm,hb⟩:=D.ex
  exact ⟨f,fd,F.ok S len (hbody f),hm,F.kp,hb⟩

theorem same_new {H:Hp} {p:Addr} (h:H p=none) (o:HO):Same H (upd H p o):=fun b u q=>by rw [upd_ne (ne_of_none q h)];exact q
theorem Same.tup {K:PySem.W.Frag} {H H':Hp} {a:Addr} {xs:List V} (e:Same H H') (h:SqT K H a xs):SqT K H' a xs:=by
  rcases h with (h | ⟨o,h⟩) | h
  · exact .inl (.inl (e _ _ h))
  · exact .inl (.inr ⟨o,e _ _ h⟩)
  · exact .inr h
theorem Same.put {H0 H:Hp} {p:Addr} {o:HO} (e:Same H0 H) (h:H0 p=none):Same H0 (upd H p o):=fun b u q=>by rw [upd_ne (ne_of_none q h)];exact e b u q

noncomputable def checkComp (xsc:Scope) (xN:List Str) (scope:Scope) (own:List Str) (caps:List (Str × Nat)):Bool :=
  scope.names.all (fun y=>y.2 != .cell) && scope.names.all (fun y=>y.2 != .local || scope.names.lookup y.1 == some .local) && scope.names.all (fun y=>y.2 != .free || xsc.names.lookup y.1 == some .cell)
    && own.all (fun x=>scope.names.lookup x == some .local) && caps.all (fun p=>xN[p.2]? == some p.1 && xsc.names.lookup p.1 == some .cell && scope.names.lookup p.1 == some .free)
theorem comp_scope {X:Cx} {scope:Scope} {own:List Str} {caps:List (Str × Nat)} (xsc:Scope) (xN:List Str) (hx:X.env.scope=xsc) (hN:X.N=xN) (hk:scope.kind = .function) (c:checkComp xsc xN scope own caps=true):CompScope X scope own caps:=by
  unfold checkComp at c
  simp only [Bool.and_eq_true,List.all_eq_true,Bool.or_eq_true,bne_iff_ne,beq_iff_eq,ne_eq] at c
  obtain ⟨⟨⟨⟨c1,c2⟩,c3⟩,c4⟩,c5⟩:=c
  refine ⟨hk,c1,fun y hy e => ?_,fun y hy e => ?_,c4,fun p hp => ?_⟩
  · rcases c2 y hy with z | z
    · exact absurd e z
    · exact z
  · rcases c3 y hy with z | z
    · exact absurd e z
    · show X.env.scope.names.lookup y.1=_
      rw [hx];exact z
  · obtain ⟨⟨z1,z2⟩,z3⟩:=c5 p hp
    refine ⟨by rw [hN];exact z1,?_,z3⟩
    show X.env.scope.names.lookup p.1=_
    rw [hx];exact z2
structure Blt (mg:Str→Option Value):Prop where
  len_:mg "len" = none
  min_:mg "min" = none
  max_:mg "max" = none
  sum_:mg "sum" = none
  range_:mg "range" = none
  enumerate_:mg "enumerate" = none
  isinstance_:mg "isinstance" = none
  tuple_:mg "tuple" = none
  int_:mg "int" = none
  bool_:mg "bool" = none
  str_:mg "str" = none
  list_:mg "list" = none
theorem boot_sum_:bootBuiltins "sum" = some (.builtin "sum"):=by decide +kernel
theorem boot_isinstance_:bootBuiltins "isinstance" = some (.builtin "isinstance"):=by decide +kernel
theorem boot_tuple_:bootBuiltins "tuple" = some (.type "tuple"):=by decide +kernel
theorem boot_int_:bootBuiltins "int" = some (.type "int"):=by decide +kernel
theorem boot_bool_:bootBuiltins "bool" = some (.type "bool"):=by decide +kernel
theorem boot_str_:bootBuiltins "str" = some (.type "str"):=by decide +kernel
theorem boot_list_:bootBuiltins "list" = some (.type "list"):=by decide +kernel
theorem pos' {j:Int} (h:decide (0 < j)=true:=by decide):0 < j:=of_decide_eq_true h
theorem div' {i j:Int} (h:(decide (0 < j) && decide (j < 1073741824))=true:=by decide):CDiv i j :=
  ⟨of_decide_eq_true (Bool.and_eq_true_iff.mp h).1,of_decide_eq_true (Bool.and_eq_true_iff.mp h).2⟩
theorem iteD {c A B:Prop} [Decidable c] (h1:c→A) (h2:¬ c→B):if decide c=true then A else B:=by
  by_cases h:c
  · rw [decide_eq_true h];exact iteT (h1 h)
  · rw [decide_eq_false h];exact iteF (h2 h)
theorem iteDN {c A B:Prop} [Decidable c] (h1:¬ c→A) (h2:c→B):if (!decide c)=true then A else B:=by
  by_cases h:c
  · rw [decide_eq_true h];exact iteF (h2 h)
  · rw [decide_eq_false h];exact iteT (h1 h)
end L2
namespace L2
open PySem PySem.Spec PyProof.Rows

noncomputable def F2 (h:Heap) (e:Addr) (x:Value):Prop := ∃ o vs,h.get? e=some o∧o.data = .fields vs∧vs[2]? = some x
noncomputable def Ctx0 (h:Heap) (e:Addr):Prop:=F2 h e .none
theorem F2.other {h:Heap} {e b:Addr} {x:Value} {f:Obj→Obj} (c:F2 h e x) (n:b≠e):F2 (h.update b f) e x:=by
  obtain ⟨o,vs,a,d,i⟩:=c
  exact ⟨o,vs,(Heap.get?_update_other _ _ n).trans a,d,i⟩
section
variable {M:Model} {A:Around} {E:Value→Shared→Prop} {s:Shared}
inductive Entered (l:List Env) (e:Addr) (oe:Obj) (L:Addr) (h h':Heap):Prop
  | mk (T:Addr) (oT:Obj) (ts:Array Value) (old:∀ b o,b≠e→b ∉ l.filterMap (·.frame)→h.get? b=some o→h'.get? b=some o) (slots:∀ b o,b≠e→h.get? b=some o→∃ sl,h'.get? b=some { o with slots:=sl })
    (own:h'.get? e=some (oe.mapFields (·.setIfInBounds 1 (.ref T)))) (new:h.get? T=none) (ne:T≠e) (size:h.objs.size≤T) (there:h'.get? T=some oT) (data:oT.data = .fields ts) (fl:ts[3]? = some (rawInt L)):Entered l e oe L h h'
theorem entry_on {base:Heap} {env:Env} {outer:List Env} {L e:Addr} {oe:Obj} {vs:Array Value} {hd:Value} {nx:Bool} {Q:Unit→Shared→Prop}
    (af:A.frames=some (env :: outer)) (ff:s.heap.FunFrames base (env :: outer)) (fL:env.frame=some L) (ge:s.heap.get? e=some oe) (gd:oe.data = .fields vs) (gz:1 < vs.size)
    (k:∀ h',Entered (env :: outer) e oe L s.heap h'→Q () { s with heap:=h' }) :
    wpAny M A (do let a ← frameOf env;let pl ← entryPlaceOf L nx;let b ← EntryCells.newEntry hd a .none (rawInt L) .none pl;setField (.ref e) 1 b) Q E s:=by
  have hne:e ∉ (env :: outer).filterMap (·.frame):=fun m=>by
    obtain ⟨_,o,q,nf⟩:=ff.mem m
    rw [ge] at q
    cases q
    exact nf vs gd
  refine wpAny_bind (wpAny_frameOf_fun af ff fL fun h1 sl => ?_)
  refine wpAny_bind (wpAny_entryPlaceOf fun pl hp => ?_)
  unfold EntryCells.newEntry newFields
  refine wpAny_bind (wpAny_newObj_type ?_ (hp.sizeOk5 _ _ _ _ _))
  have g1:h1.get? e=some oe:=(sl.2.1 e hne).trans ge
  generalize hO:({ cls := .type "traceback",dict:=none,data := .fields ([hd,.ref L,.none,rawInt L,.none] ++ (if pl.isEmpty then List.replicate 6 Value.none else pl)).toArray }:Obj)=oT
  have g2:=Heap.get?_push_of_some (h:=h1) oT g1
  refine wpAny_setField g2 gd gz (k _ ?_)
  have nT:h1.objs.size≠e:=Nat.ne_of_gt (Heap.lt_size g1)
  have dd:=Obj.data_mapFields gd (·.setIfInBounds 1 (Value.ref h1.objs.size))
  have up:∀ b o,b≠e→h1.get? b=some o→((h1.push oT).update e (Obj.mapFields (·.setIfInBounds 1 (Value.ref h1.objs.size)))).get? b=some o:=fun b o n q=>by
    rw [Heap.get?_update_other _ _ (Ne.symm n)]
    exact Heap.get?_push_of_some _ q
  refine ⟨h1.objs.size,oT,_,fun b o n m q=>up b o n ((sl.2.1 b m).trans q),fun b o n q => ?_,Heap.get?_update_self _ g2 (Obj.isFreed_of_fields dd),Heap.get?_none_of_le (Nat.le_of_eq sl.1.symm),nT,Nat.le_of_eq sl.1.symm,?_,(by rw [← hO]),?_⟩
  · obtain ⟨x,q'⟩:=sl.2.2 b o q
    exact ⟨x,up b _ n q'⟩
  · rw [Heap.get?_update_other _ _ (Ne.symm nT)]
    exact Heap.get?_push_size h1 (by rw [← hO];rfl)
  · first
      | (simp;done)
      | (rcases hp with rfl | ⟨_,_,_,_,_,_,_,rfl⟩ <;> simp)
theorem Entered.noted {base:Heap} {l:List Env} {e L:Addr} {oe:Obj} {vs:Array Value} {a0:Value} {h h':Heap} (x:Entered l e oe L h h') (kb:base.StaysIn h) (be:base.get? e=none) (ff:h.FunFrames base l) (gd:oe.data = .fields vs) (gz:1 < vs.size) (g0:vs[0]? = some a0) (ge:h.get? e=some oe) :
    Heap.NotedW base l e oe.cls a0 (rawInt L) h h':=by
  obtain ⟨T,oT,ts,old,slots,own,new,ne,size,there,data,fl⟩:=x
  have nr:∀ b o,h.get? b=some o→(∀ ws,o.data ≠ .fields ws)→b≠e:=fun b o q nf z=>by
    rw [z,ge] at q
    cases q
    exact nf vs gd
  refine ⟨fun b o q=>old b o (fun z=>by rw [z,be] at q;cases q) (fun m=>by rw [(ff.mem m).1] at q;cases q) (kb b o q),ff.of_keeps fun b o q nf => ?_,?_,fun b o q nf=>slots b o (nr b o q nf) q⟩
  · obtain ⟨sl,q'⟩:=slots b o (nr b o q nf) q
    exact ⟨_,q',rfl⟩
  · refine ⟨_,_,T,oT,ts,own,⟨Obj.cls_mapFields _ _,?_⟩,Obj.data_mapFields gd _,by simp [gz],?_,ne,there,data,fl⟩
    · rw [Array.getElem?_setIfInBounds_ne (by decide)];exact g0
    · cases q:base.get? T with
      | none=>rfl
      | some o=>have:=kb _ _ q;rw [new] at this;cases this
theorem Entered.ctx {l:List Env} {e L:Addr} {oe:Obj} {vs:Array Value} {h h':Heap} {y:Value} (x:Entered l e oe L h h') (gd:oe.data = .fields vs) (ge:h.get? e=some oe) (c:F2 h e y):F2 h' e y:=by
  obtain ⟨T,oT,ts,old,slots,own,new,ne,size,there,data,fl⟩:=x
  obtain ⟨o,ws,q1,q2,q3⟩:=c
  rw [ge] at q1
  cases q1
  rw [gd] at q2
  cases q2
  exact ⟨_,_,own,Obj.data_mapFields gd _,by rw [Array.getElem?_setIfInBounds_ne (by decide)];exact q3⟩
theorem note_new {base:Heap} {env:Env} {outer:List Env} {L e:Addr} {oe:Obj} {vs:Array Value} {a0:Value} {Q:Unit→Shared→Prop} (af:A.frames=some (env :: outer)) (ff:s.heap.FunFrames base (env :: outer)) (fL:env.frame=some L)
    (ge:s.heap.get? e=some oe) (kb:base.StaysIn s.heap) (be:base.get? e=none) (gd:oe.data = .fields vs) (g1:vs[1]? = some .none) (g0:vs[0]? = some a0)
    (k:∀ h',Heap.HeldW base (env :: outer) e oe.cls a0 L h'→s.heap.UpToSlots h'→(∀ y,F2 s.heap e y→F2 h' e y)→Q () { s with heap:=h' }):wpAny M A (noteFrame (.ref e) env) Q E s:=by
  have gz:=(Array.getElem?_eq_some_iff.mp g1).1
  unfold noteFrame
  simp only [fL]
  refine wpAny_bind (wpAny_field ge gd g1 ?_)
  rw [if_neg (by decide)]
  refine entry_on af ff fL ge gd gz fun h' x => ?_
  obtain ⟨n1,n2,n3,n4⟩:=x.noted kb be ff gd gz g0 ge
  exact k h' ⟨n1,be,n2,n3⟩ n4 fun y c=>x.ctx gd ge c
theorem note_on {base:Heap} {env:Env} {outer:List Env} {L e:Addr} {cls a0:Value} {Q:Unit→Shared→Prop} (af:A.frames=some (env :: outer)) (fL:env.frame=some L) (fl:Heap.FlyingW base (env :: outer) e cls a0 s.heap)
    (k:∀ h',Heap.HeldW base (env :: outer) e cls a0 L h'→s.heap.UpToSlots h'→(∀ y,F2 s.heap e y→F2 h' e y)→Q () { s with heap:=h' }):wpAny M A (noteFrame (.ref e) env) Q E s:=by
  obtain ⟨kb,be,ff,oe,vs,Tr,oT,ts,ge,⟨gc,g0⟩,gd,g1,bT,nTe,gT,dT,g3⟩:=fl
  subst gc
  have gz:=(Array.getElem?_eq_some_iff.mp g1).1
  unfold noteFrame
  simp only [fL]
  refine wpAny_bind (wpAny_field ge gd g1 ?_)
  rw [if_pos (show (Value.ref Tr != Value.none)=true by simp)]
  refine wpAny_bind (wpAny_field gT dT g3 ?_)
  rw [if_neg (show ¬ ((Value.none == rawInt L)=true) by simp [rawInt])]
  refine wpAny_bind (wpAny_setField gT dT (Array.getElem?_eq_some_iff.mp g3).1 ?_)
  have ot:∀ b,b≠Tr→(s.heap.update Tr (Obj.mapFields (·.setIfInBounds 3 Value.none))).get? b=s.heap.get? b:=fun b n=>Heap.get?_update_other _ _ (Ne.symm n)
  have nr:∀ b o,s.heap.get? b=some o→(∀ ws,o.data ≠ .fields ws)→b≠Tr:=fun b o q nf z=>by
    rw [z,gT] at q
    cases q
    exact nf ts dT
  have ff1:=ff.of_keeps (h':=s.heap.update Tr (Obj.mapFields (·.setIfInBounds 3 Value.none))) fun b o q nf=>⟨o,(ot b (nr b o q nf)).trans q,rfl⟩
  have kb1:base.StaysIn (s.heap.update Tr (Obj.mapFields (·.setIfInBounds 3 Value.none))):=fun b o q=>(ot b fun z=>by rw [z,bT] at q;cases q).trans (kb b o q)
  have ge1:=(ot e (Ne.symm nTe)).trans ge
  refine entry_on (s := { s with heap:=_ }) af ff1 fL ge1 gd gz fun h' x => ?_
  obtain ⟨n1,n2,n3,n4⟩:=x.noted kb1 be ff1 gd gz g0 ge1
  exact k h' ⟨n1,be,n2,n3⟩ (fun b o q nf=>n4 b o ((ot b (nr b o q nf)).trans q) nf) fun y c=>x.ctx gd ge1 (c.other nTe)
theorem flight_off {base:Heap} {l:List Env} {e:Addr} {cls a0 m:Value} {Q:Unit→Shared→Prop} (kb:base.StaysIn s.heap) (be:base.get? e=none) (ff:s.heap.FunFrames base l) (tr:s.heap.TracedAtW base e cls a0 m)
    (k:∀ h',Heap.FlyingW base l e cls a0 h'→s.heap.UpToSlots h'→(∀ y,F2 s.heap e y→F2 h' e y)→Q () { s with heap:=h' }):wpAny M A (setFlight (.ref e) none) Q E s:=by
  obtain ⟨oe,vs,Tr,oT,ts,ge,gc,gd,g1,bT,nTe,gT,dT,g3⟩:=tr
  have z3:=(Array.getElem?_eq_some_iff.mp g3).1
  have ot:∀ b,b≠Tr→(s.heap.update Tr (Obj.mapFields (·.setIfInBounds 3 ((none:Option Addr).elim Value.none fun f=>rawInt f)))).get? b=s.heap.get? b:=fun b n=>Heap.get?_update_other _ _ (Ne.symm n)
  have nr:∀ b o,s.heap.get? b=some o→(∀ ws,o.data ≠ .fields ws)→b≠Tr:=fun b o q nf z=>by
    rw [z,gT] at q
    cases q
    exact nf ts dT
  unfold setFlight
  refine wpAny_bind (wpAny_field ge gd g1 ?_)
  rw [if_pos (show (Value.ref Tr != Value.none)=true by simp)]
  refine wpAny_setField gT dT z3 (k _ ⟨fun b o q=>(ot b fun z=>by rw [z,bT] at q;cases q).trans (kb b o q),be,ff.of_keeps fun b o q nf=>⟨o,(ot b (nr b o q nf)).trans q,rfl⟩,?_⟩ (fun b o q nf=>⟨o.slots,(ot b (nr b o q nf)).trans q⟩) fun y c=>c.other nTe)
  exact ⟨oe,vs,Tr,_,_,(ot e (Ne.symm nTe)).trans ge,gc,gd,g1,bT,nTe,Heap.get?_update_self _ gT (Obj.isFreed_of_fields (Obj.data_mapFields dT _)),Obj.data_mapFields dT _,by simp [z3]⟩
theorem leave_on {base:Heap} {env:Env} {outer:List Env} {L e:Addr} {cls a0:Value} {Q:Unit→Shared→Prop} (af:A.frames=some (env :: outer)) (fL:env.frame=some L) (fl:Heap.FlyingW base (env :: outer) e cls a0 s.heap)
    (k:∀ h',Heap.FlyingW base outer e cls a0 h'→s.heap.UpToSlots h'→(∀ y,F2 s.heap e y→F2 h' e y)→Q () { s with heap:=h' }):wpAny M A (leaving env (.ref e)) Q E s:=by
  unfold leaving
  refine wpAny_bind (note_on af fL fl fun h1 hh sl c1 => ?_)
  obtain ⟨n1,n2,n3,n4⟩:=hh
  refine flight_off (s := { s with heap:=h1 }) n1 n2 n3 n4 fun h2 f2 sl2 c2 => ?_
  obtain ⟨m1,m2,⟨_,_,m3⟩,m4⟩:=f2
  exact k h2 ⟨m1,m2,m3,m4⟩ (sl.trans sl2) fun y c=>c2 y (c1 y c)
theorem leave_new {base:Heap} {env:Env} {outer:List Env} {L e:Addr} {oe:Obj} {vs:Array Value} {a0:Value} {Q:Unit→Shared→Prop} (af:A.frames=some (env :: outer)) (ff:s.heap.FunFrames base (env :: outer)) (fL:env.frame=some L)
    (ge:s.heap.get? e=some oe) (kb:base.StaysIn s.heap) (be:base.get? e=none) (gd:oe.data = .fields vs) (g1:vs[1]? = some .none) (g0:vs[0]? = some a0)
    (k:∀ h',Heap.FlyingW base outer e oe.cls a0 h'→s.heap.UpToSlots h'→(∀ y,F2 s.heap e y→F2 h' e y)→Q () { s with heap:=h' }):wpAny M A (leaving env (.ref e)) Q E s:=by
  unfold leaving
  refine wpAny_bind (note_new af ff fL ge kb be gd g1 g0 fun h1 hh sl c1 => ?_)
  obtain ⟨n1,n2,n3,n4⟩:=hh
  refine flight_off (s := { s with heap:=h1 }) n1 n2 n3 n4 fun h2 f2 sl2 c2 => ?_
  obtain ⟨m1,m2,⟨_,_,m3⟩,m4⟩:=f2
  exact k h2 ⟨m1,m2,m3,m4⟩ (sl.trans sl2) fun y c=>c2 y (c1 y c)
end
end L2
namespace L2
open PySem PySem.Spec PyProof.Rows

section
variable {P:Program} {w:World} {H H':Hp} {h h':Heap} {a:Addr} {o:HO}
theorem HOk.part (x:HOk P w H h) (k:∀ b u v,H b=some u→h.get? b=some v→h'.get? b=some v):HOk P w H h':=fun a o e =>
  (x a o e).stay (fun b u hb q=>by
    rcases hb with z | z
    · subst z;exact k _ _ _ e q
    · exact k _ _ _ z q) (fun _ q=>q) fun _ _ q=>q
end
theorem Un.fly {fs:List Addr} {L:Addr} {H₀ H H':Hp} {h0 h h1 h2 B:Heap} (U1:Un fs [] H₀ H h0 h) (U2:Un (L :: fs) [] H H' h h1) (hL:h0.get? L=none)
    (cov:∀ b o,h.get? b=some o→b ∉ L :: fs→∃ o',B.get? b=some o') (k1:∀ b o,B.get? b=some o→h1.get? b=some o) (k2:∀ b o,B.get? b=some o→h2.get? b=some o)
    (sl:h1.UpToSlots h2) (nf:∀ b∈fs,∃ o,h1.get? b=some o∧∀ vs,o.data ≠ .fields vs):Un fs [] H₀ H' h0 h2:=by
  have nL:∀ b o,h0.get? b=some o→b ∉ fs→b ∉ L :: fs:=fun b o q hb z=>by
    rcases List.mem_cons.mp z with z | z
    · rw [z,hL] at q;cases q
    · exact hb z
  refine ⟨fun b o q n hb hx => ?_,fun b o q n hb hx => ?_,fun b o q n hx => ?_,fun b o q hx => ?_,fun b xs q=>U2.tups _ _ (U1.tups _ _ q),fun b o u q=>U2.frzs _ _ _ (U1.frzs _ _ _ q),fun b ps q => ?_⟩
  · have q1:=U1.keep b o q n hb hx
    have q2:=U2.keep b o q1 (U1.free b o q n hx) (nL b o q hb) hx
    obtain ⟨o',e⟩:=cov b o q1 (nL b o q hb)
    have e1:=k1 _ _ e
    rw [q2] at e1
    cases e1
    exact k2 _ _ e
  · obtain ⟨s1,q1⟩:=U1.slot b o q n hb hx
    obtain ⟨s2,q2⟩:=U2.slot b _ q1 (U1.free b o q n hx) (List.mem_cons_of_mem _ hb) hx
    obtain ⟨ob,q3,d⟩:=nf b hb
    rw [q2] at q3
    cases q3
    obtain ⟨s4,q4⟩:=sl b _ q2 d
    exact ⟨s4,q4⟩
  · obtain ⟨o1,q1⟩:=U1.there b o q hx
    exact U2.free b o1 q1 (U1.free b o q n hx) hx
  · by_cases hb:b∈fs
    · obtain ⟨ob,q3,d⟩:=nf b hb
      obtain ⟨s4,q4⟩:=sl b _ q3 d
      exact ⟨_,q4⟩
    · obtain ⟨o1,q1⟩:=U1.there b o q hx
      obtain ⟨o',e⟩:=cov b o1 q1 (nL b o q hb)
      exact ⟨_,k2 _ _ e⟩
  · obtain ⟨m1,e1⟩:=U1.tbls b ps q
    obtain ⟨m2,e2⟩:=U2.tbls b _ e1
    exact ⟨m1 ++ m2,by rw [e2,Array.append_assoc]⟩

noncomputable def CXE (P:Program) (w:World):CXT:=fun outer H s E e s'=>∃ (ea C:Addr) (a0:Value) (B:Heap) (H':Hp),e = .ref ea∧Heap.FlyingW B outer ea (.ref C) a0 s'.heap∧s'.os=s.os∧AllBare s'.gens ∧
  HOk P w H' B∧Un (frs outer) [] H H' s.heap s'.heap∧(∀ b o,s.heap.get? b=some o→b ∉ frs outer→∃ o',B.get? b=some o')∧∃ m:Option Addr,(m=none→Ctx0 s'.heap ea)∧E (.ref C) m H'

section
variable {P:Program} {w:World} {K:PySem.W.Frag} {mg:Str→Option Value} {base:Heap} {N:List Str} {qual:Str} {scope:Scope} {f:Addr} {cdv:Value} {A:Around} {outer:List Env} {s0 s:Shared} {H0 H:Hp} {E E':XK}
  {pins:List (Addr × Obj)} {σ : St} {CX:CXT}
theorem stack_frs {e:Env} {L:Addr} {l:List Env} (h:e.frame=some L):frs (e :: l)=L :: frs l:=by
  unfold frs
  rw [List.filterMap_cons,h]
theorem flies {h':Heap} {e C:Addr} {args:List Value} (I:Inv (cxOf (CXE P w) P w K mg base N qual scope f cdv A outer s0 H0 E) pins σ H s) (hx:Heap.MadeExcOf s.heap h' e (.ref C) args) (q:E (.ref C) none H) :
    (cxOf (CXE P w) P w K mg base N qual scope f cdv A outer s0 H0 E).xe (.ref e) { s with heap:=h' }:=by
  have fr:s.heap.FunFrames base (envOfC qual scope s0.heap.objs.size f cdv :: outer):=I.stack
  have sf:∀ b∈frs (envOfC qual scope s0.heap.objs.size f cdv :: outer),H b=none:=I.stkFree
  have hin:∀ env∈(envOfC qual scope s0.heap.objs.size f cdv :: outer),∀ b,env.frame=some b→b∈frs (envOfC qual scope s0.heap.objs.size f cdv :: outer):=fun env he b hb=>List.mem_filterMap.mpr ⟨env,he,hb⟩
  have es:frs (envOfC qual scope s0.heap.objs.size f cdv :: outer)=s0.heap.objs.size :: frs outer:=stack_frs rfl
  show wpAny _ _ (leaving _ _) _ _ _
  obtain ⟨t,gt,_,_⟩:=hx.there
  have ff:=(PySem.W.funFrames_hide fr hin).of_keeps (h':=h') fun b o z _=>⟨o,hx.keeps b o z,rfl⟩
  have kb:(PySem.W.hideAll s.heap (frs (envOfC qual scope s0.heap.objs.size f cdv :: outer))).StaysIn h':=fun b o z=>hx.keeps b o (PySem.W.of_hideAll _ z)
  have be:(PySem.W.hideAll s.heap (frs (envOfC qual scope s0.heap.objs.size f cdv :: outer))).get? e=none:=by
    cases z:(PySem.W.hideAll s.heap (frs (envOfC qual scope s0.heap.objs.size f cdv :: outer))).get? e with
    | none=>rfl
    | some o=>have:=PySem.W.of_hideAll _ z;rw [hx.new] at this;cases this
  refine leave_new (s := { s with heap:=h' }) (a0 := .ref t) I.ok.frames ff rfl gt kb be rfl rfl rfl ?_
  intro h'' x1 x4 x5
  have cov:∀ b o,s.heap.get? b=some o→b ∉ s0.heap.objs.size :: frs outer→(PySem.W.hideAll s.heap (frs (envOfC qual scope s0.heap.objs.size f cdv :: outer))).get? b=some o:=fun b o z hb=>PySem.W.hideAll_get _ z (by rw [es];exact hb)
  have Ib:Un (frs outer) [] H0 H s0.heap s.heap:=I.base
  refine ⟨e,C,.ref t,_,H,rfl,x1,I.os,I.bare,HOk.part I.hok fun b u v z1 z2=>PySem.W.hideAll_get _ z2 fun hm => ?_,?_,?_,none,fun _=>x5 _ ⟨_,_,gt,rfl,rfl⟩,q⟩
  · rw [sf b hm] at z1;cases z1
  · refine Un.fly (h:=s.heap) (h1:=h') (L:=s0.heap.objs.size) Ib (Un.kept hx.keeps) (Heap.get?_none_of_le (Nat.le_refl _)) (fun b o z hb=>⟨o,cov b o z hb⟩) (fun b o z=>hx.keeps _ _ (PySem.W.of_hideAll _ z)) x1.1 x4 fun b hb => ?_
    obtain ⟨_,o,z,d⟩:=fr.mem (b:=b) (by show b∈frs _;rw [es];exact List.mem_cons_of_mem _ hb)
    exact ⟨o,hx.keeps _ _ z,d⟩
  · intro b o z hb
    obtain ⟨o1,z1⟩:=Ib.there b o z (by simp)
    refine ⟨o1,cov b o1 z1 fun hm => ?_⟩
    rcases List.mem_cons.mp hm with y | y
    · rw [y,Heap.get?_none_of_le (Nat.le_refl _)] at z;cases z
    · exact hb y
theorem passE (hE:∀ c m H',E' c m H'→E c m H'):Passes (CXE P w) (cxOf (CXE P w) P w K mg base N qual scope f cdv A outer s0 H0 E) E':=by
  intro pins σ H s e s' I h
  obtain ⟨ea,C,a0,B,H',rfl,fl,os,bare,hok,un,cov,m,hm,q⟩:=h
  have es:frs (envOfC qual scope s0.heap.objs.size f cdv :: outer)=s0.heap.objs.size :: frs outer:=stack_frs rfl
  have Ib:Un (frs outer) [] H0 H s0.heap s.heap:=I.base
  have un':Un (s0.heap.objs.size :: frs outer) [] H H' s.heap s'.heap:=by rw [← es];exact un
  have cov':∀ b o,s.heap.get? b=some o→b ∉ s0.heap.objs.size :: frs outer→∃ o',B.get? b=some o':=fun b o z hb=>cov b o z (by show b ∉ frs (envOfC qual scope s0.heap.objs.size f cdv :: outer);rw [es];exact hb)
  show wpAny _ _ (leaving _ _) _ _ _
  refine leave_on I.ok.frames rfl fl fun h'' x1 x2 x3 => ?_
  refine ⟨ea,C,a0,B,H',rfl,x1,os.trans I.os,bare,hok,?_,?_,m,fun z=>x3 _ (hm z),hE _ _ _ q⟩
  · refine Un.fly Ib un' (Heap.get?_none_of_le (Nat.le_refl _)) cov' fl.1 x1.1 x2 fun b hb => ?_
    obtain ⟨_,o,z,d⟩:=fl.2.2.1.mem (b:=b) (by show b∈frs (envOfC qual scope s0.heap.objs.size f cdv :: outer);rw [es];exact List.mem_cons_of_mem _ hb)
    exact ⟨o,z,d⟩
  · intro b o z hb
    obtain ⟨o1,z1⟩:=Ib.there b o z (by simp)
    refine cov' b o1 z1 fun hm => ?_
    rcases List.mem_cons.mp hm with y | y
    · rw [y,Heap.get?_none_of_le (Nat.le_refl _)] at z;cases z
    · exact hb y
end

structure Exc (K:PySem.W.Frag) (mg:Str→Option Value) (x:Str) (C:Addr):Prop where
  glob:mg x=some (.ref C)
  here:PySem.W.excIn K C [.type "ValueError",.type "Exception",.type "BaseException",.type "object"] "ValueError.__new__" = true
theorem Exc.own {K:PySem.W.Frag} {mg:Str→Option Value} {x:Str} {C:Addr} {h:Heap} (e:Exc K mg x C) (X:K.In h):OwnCls x C [.type "ValueError",.type "Exception",.type "BaseException",.type "object"] "ValueError.__new__" mg h:=by
  refine ⟨e.glob,?_⟩
  have q:=e.here
  unfold PySem.W.excIn at q
  split at q
  · rename_i dd cd sl ho
    split at q
    · rename_i C' bm k0 k1 k2 k3 n k5 hm hs
      simp only [Bool.and_eq_true,beq_iff_eq,Bool.not_eq_true'] at q
      obtain ⟨⟨⟨⟨⟨rfl,rfl⟩,hdel⟩,ht⟩,hok⟩,hni⟩:=q
      obtain ⟨nm,bs,mro,ns,qn,hd,sn,sub,ab,col,del⟩:=cd
      dsimp only at hm hdel hok hni
      subst hm hdel
      have hsl:sl = #[k0,k1,k2,k3,some (.builtin "ValueError.__new__"),k5]:=by
        obtain ⟨l⟩:=sl
        simp only at hs
        rw [hs]
      subst hsl
      exact ⟨bm,ns,nm,qn,bs,hd,sn,sub,ab,col,dd,k0,k1,k2,k3,k5,_,X _ _ ho,.of_isNs (PySem.W.isNs_of_in X hok),PySem.W.nsMap_none_of_in X hok hni,PySem.W.tail_of_in X ht⟩
    · cases q
  · cases q
noncomputable def Flies (X:Cx) (C:Addr) (E:XK):Prop := ∀ (pins:List (Addr × Obj)) (σ : St) (H:Hp) (s:Shared) (h':Heap) (e:Addr) (args:List Value),Inv X pins σ H s→Heap.MadeExcOf s.heap h' e (.ref C) args→E (.ref C) none H→X.xe (.ref e) { s with heap:=h' }
noncomputable def tRaise (C:Addr) (E:XK) (t:TA):TS:=fun _ σ H=>t σ H fun vs H1=>vs.length≤sizeLine∧E (.ref C) none H1
theorem ps_raise {X:Cx} {x:Str} {C:Addr} {E:XK} {e₀ : Expr} {rest:List Expr} {t:TA} {np cpos pos:Pos} (O:Exc X.K X.mg x C) (hc:X.calm=true) (F:Flies X C E) (ha:PA X (e₀ :: rest) t) (hg:Gl X x)
    (he:starEach (e₀ :: rest) X.env=(false,eval e₀ X.env) :: starEach rest X.env:=by rfl) (hplain:(backTo cpos (starEach rest X.env)).any (·.1)=false:=by rfl) (hd:(x == ("__debug__" : Str))=false:=by decide) :
    PS X (.Raise (some (.Call (.Name x np) (e₀ :: rest) [] cpos)) none pos) (tRaise C E t):=by
  intro pins s σ H D I h
  obtain ⟨tl,N,nm,q,bs,hdct,sn,sub,ab,col,dd,k0,k1,k2,k3,k5,mN,hC,hN,hni,T⟩:=(O.own I.ok.mod.kin).obj
  refine wpAny_Raise_call_subT (C:=C) (nm:=nm) (q:=q) (N:=N) (bs:=bs) (bm:=tl) (hdct:=hdct) (sn:=sn) (sub:=sub) (ab:=ab) (col:=col) (dd:=dd) (k0:=k0) (k1:=k1) (k2:=k2) (k3:=k3) (k5:=k5)
    PySem.F.excBase_ValueError (mN:=mN) (T.hasType PySem.F.excBase_ValueError.hasBase) (I.ok.hd hc) (by rw [he];show (false || (backTo cpos (starEach rest X.env)).any (·.1))=false;rw [hplain];rfl) hni (ld_glob I hg O.glob ⟨rfl,?_⟩ hd)
  have h₂ := ha cpos pins s σ H _ I h
  rw [he] at h₂ ⊢
  exact Calls.evalArgs_plain (wpAny_mono h₂ (fun vs s₂ ⟨xs,H1,I1,r,hl,hq⟩=>⟨rfl,by rw [← r.length];exact hl,I1.bk _ _ hC,hN.keeps I1.bk,T.keeps I1.bk,fun h' e hm=>F pins σ H1 s₂ h' e vs I1 hm hq⟩) fun _ _ y=>y)
end L2
namespace L2
open PySem PySem.Spec PyProof.Rows PySem.W

section
variable {prog:Program} {w:World} {A:Around} {E:Value→Shared→Prop} {h:Heap} {g:Array GenState} {d:Drawn} {t:Nat} {os:OsState} {a:Addr} {o:Obj}
  {nm q:Str} {C N:Addr} {bs bm:List Value} {hdct:Bool} {sn:List Str} {sub:List Value} {ab:Bool} {col:Option Bool} {dd:Option Addr} {k0 k1 k2 k3 k5:Option Value} {newId:String}





end
end L2
namespace L2
open PySem PySem.Spec PyProof.Rows

section
variable {X:Cx} {pins:List (Addr × Obj)} {σ : St} {H:Hp} {s:Shared} {xe:Value→Shared→Prop} {A:Around}
end
section
variable {X:Cx} {pins:List (Addr × Obj)} {σ : St} {H0 H':Hp} {s0 s':Shared} {ea C:Addr} {a0:Value} {B h5:Heap} {env:Env} {outer:List Env}
end

section
variable {X:Cx} {k:Nat} {f:Addr} {fd:FuncData} {ps:List Str} {sp:Sp} {dvs:List V} {ds:List Value} {x:Str} {p pos:Pos} {e:Expr} {es:List Expr} {t:TA}
end


end L2
namespace L2
open PySem PySem.Spec PyProof.Rows

theorem joins_mono {M:Model} {A:Around} {E:Value→Shared→Prop} {R R':Str→Shared→Prop} (h:∀ z s,R z s→R' z s):∀ {l:List (Sem Value)} {acc:Str} {s:Shared},Joins M A E l acc R s→Joins M A E l acc R' s
  | [],acc,s,q=>h _ _ q
  | x :: r,acc,s,q=>wpAny_mono q (fun v s1 ⟨y,t,e,hz,q1⟩=>⟨y,t,e,hz,joins_mono h q1⟩) fun _ _ z=>z
section
variable {X:Cx}
noncomputable abbrev TJ:=St→Hp→(Hp→Prop)→Prop
noncomputable def PJ (X:Cx) (es:List Expr) (t:TJ):Prop := ∀ (pins:List (Addr × Obj)) (s:Shared) (σ : St) (H:Hp) (acc:Str) (Q:Hp→Prop),Inv X pins σ H s→acc.length+1000 * es.length≤100000 →
  t σ H Q→Joins (model X.prog X.w) X.A X.xe (evalEach es X.env) acc (fun out s1=>out.length≤100000∧∃ H1,Inv X pins σ H1 s1∧Q H1) s
noncomputable def jNil:TJ:=fun _ H Q=>Q H
noncomputable def jCons (te:TE) (t:TJ):TJ:=fun σ H Q=>te σ H fun x H1=>∃ z,x = .str z∧z.length≤1000∧t σ H1 Q
theorem pj_nil:PJ X [] jNil:=fun pins s σ H acc R I hl h=>⟨by simpa using hl,H,I,h⟩
theorem pj_cons {e:Expr} {es:List Expr} {te:TE} {t:TJ} (he:PE X e te) (hr:PJ X es t) (hs:evalEach (e :: es) X.env=eval e X.env :: evalEach es X.env:=by rfl):PJ X (e :: es) (jCons te t):=by
  intro pins s σ H acc R I hl h
  rw [hs]
  rw [List.length_cons] at hl
  refine thn (he pins s σ H _ I h) fun v s1 ⟨x,H1,I1,rx,z,ex,hz,q⟩ => ?_
  subst ex
  obtain ⟨tk,rfl⟩:=rx
  have hlen:(acc ++ z).length=acc.length+z.length:=Str.length_append _ _
  refine ⟨z,tk,rfl,by rw [hlen];exact Nat.le_trans (by omega:_≤100000) (by decide),hr pins s1 σ H1 (acc ++ z) R I1 (by rw [hlen];omega) q⟩
noncomputable def tJoined (n:Nat) (t:TJ):TE:=fun σ H Q=>n≤90∧t σ H fun H1=>∀ z:Str,Q (.str z) H1
theorem pe_joined {a b:Expr} {r:List Expr} {t:TJ} {pos:Pos} (h:PJ X (a :: b :: r) t):PE X (.JoinedStr (a :: b :: r) pos) (tJoined (a :: b :: r).length t):=by
  intro pins s σ H Q I hw
  obtain ⟨hn,hq⟩:=hw
  refine wpAny_JoinedStr (joins_mono (fun z s1 ⟨hz,H1,I1,q⟩=>⟨Nat.le_trans hz (by decide),⟨.str z,H1,I1.tok _,⟨_,rfl⟩,q z⟩⟩) (h pins s σ H Str.empty _ I ?_ hq))
  show 0+_≤_
  omega
noncomputable def tFmtI (tv:TE):TE:=fun σ H Q=>tv σ H fun x H1=>∃ i,x = .int i∧i.natAbs.log2 < 1920∧Q (.str (toString i)) H1
theorem pe_fmtI {v:Expr} {tv:TE} {pos:Pos} (h:PE X v tv):PE X (.FormattedValue v (-1) none pos) (tFmtI tv):=by
  intro pins s σ H Q I hw
  refine FormattedValue_plain (thn (h pins s σ H _ I hw) fun u s1 ⟨x,H1,I1,rx,i,ex,hi,q⟩ => ?_)
  subst ex
  obtain ⟨tk,rfl⟩:=rx
  exact formatField_int_small hi ⟨.str _,H1,I1.tok _,⟨_,rfl⟩,q⟩
noncomputable def tFmtR (tv:TE):TE:=fun σ H Q=>tv σ H fun x H1=>∃ z,x = .str z∧(reprText z).length≤1000∧Q (.str (reprText z)) H1
theorem pe_fmtR {v:Expr} {tv:TE} {pos:Pos} (h:PE X v tv):PE X (.FormattedValue v 114 none pos) (tFmtR tv):=by
  intro pins s σ H Q I hw
  refine wpAny_FormattedValue_repr (thn (h pins s σ H _ I hw) fun u s1 ⟨x,H1,I1,rx,z,ex,hz,q⟩ => ?_)
  subst ex
  obtain ⟨tk,rfl⟩:=rx
  have hz':(reprText z).length≤sizeLine:=Nat.le_trans hz (by decide)
  refine wpAny_pyReprObj_str (hsz:=hz') ?_
  exact formatField_str (fun t' tk'=>⟨.str _,H1,I1.tok _,⟨_,rfl⟩,q⟩) hz'
inductive J_call_int_text (xs:List V) (H:Hp) (Q:VK):Prop
  | mk:∀ z n,(xs = [.str z])→(intText? z=some n)→(z.length≤640)→(Q (.int n) H)→J_call_int_text xs H Q
theorem call_int_text:CallR X (.type "int") (fun xs H Q=>J_call_int_text xs H Q):=by
  intro pins s σ H xs us Q I r h
  obtain ⟨z,n,rfl,hn,hl,q⟩:=h
  obtain ⟨u,rfl,rx⟩:=Vals.one r
  obtain ⟨tk,rfl⟩:=rx
  exact PySem.W.KIN.call_text hn hl ⟨.int n,H,I.tok _,⟨_,rfl⟩,q⟩
theorem pe_globS {x z:Str} {pos:Pos} (h:∃ t,X.mg x=some (.str z t)) (hg:Gl X x) (hd:(x == ("__debug__" : Str))=false:=by decide):PE X (.Name x pos) (tC (.str z)) :=
  let ⟨t,e⟩:=h;pe_glob hg e ⟨t,rfl⟩ hd
theorem pe_globI {x:Str} {i:Int} {pos:Pos} (h:∃ t,X.mg x=some (.int i t)) (hg:Gl X x) (hd:(x == ("__debug__" : Str))=false:=by decide):PE X (.Name x pos) (tC (.int i)) :=
  let ⟨t,e⟩:=h;pe_glob hg e ⟨t,rfl⟩ hd
end

theorem Fun.okE {P:Program} {w:World} {K:PySem.W.Frag} {mg:Str→Option Value} {base:Heap} {x qual:Str} {st:Stmt} {f:Addr} {fd:FuncData} {N ps:List Str} {k:Nat} {sp:Sp} (F:Fun K x qual st f fd) (S:FnScope N ps (defScope st)) (len:∀ vs H Q E,sp vs H Q E→vs.length=ps.length)
    (hbody:∀ (cdv:Value) (A:Around) (outer:List Env) (s:Shared) (H:Hp) (vs:List V) (Q:VK) (E:XK),Room k (A.deeper (envOfC qual (defScope st) s.heap.objs.size f cdv))→sp vs H Q E →
      ∃ t,PSs (cxOf (CXE P w) P w K mg base N qual (defScope st) f cdv A outer s H E) (defBody st) t∧t { nx:=fun _ H'=>Q .non H',rt:=Q } (start N vs) H):FnOk P w K mg base (CXE P w) (k+1) f fd ps sp:=by
  obtain ⟨oc,od,kV,doc,pm,an,cdv,ct,osl,rfl,lk,hcd⟩:=F.ex
  exact fn_of lk hcd S len fun A outer s H vs Q E hr hsp=>hbody cdv A outer s H vs Q E hr hsp
structure HasE (P:Program) (w:World) (K:PySem.W.Frag) (mg:Str→Option Value) (base:Heap) (k:Nat) (x:Str) (ps:List Str) (sp:Sp):Prop where
  ex:∃ f fd,FnOk P w K mg base (CXE P w) k f fd ps sp∧mg x=some (.ref f)∧PySem.W.keepIn K (.ref f)=true∧Binds K fd ps []
structure HasM (P:Program) (w:World) (K:PySem.W.Frag) (mg:Str→Option Value) (base:Heap) (k:Nat) (C:Addr) (m:Str) (ps:List Str) (sp:Sp):Prop where
  ex:∃ f fd,FnOk P w K mg base (CXE P w) k f fd ps sp∧Meth K C m f∧Binds K fd ps []
structure HasC (P:Program) (w:World) (K:PySem.W.Frag) (mg:Str→Option Value) (base:Heap) (k:Nat) (x:Str) (C:Addr) (ps:List Str) (sp:Sp):Prop where
  ex:∃ f fd,FnOk P w K mg base (CXE P w) k f fd ps sp∧mg x=some (.ref C)∧Mk K C f∧Binds K fd ps []
structure DefM (K:PySem.W.Frag) (C:Addr) (m qual:Str) (st:Stmt) (ps:List Str):Prop where
  ex:∃ f fd,Fun K m qual st f fd∧Meth K C m f∧Binds K fd ps []
structure DefC (K:PySem.W.Frag) (mg:Str→Option Value) (x:Str) (C:Addr) (qual:Str) (st:Stmt) (ps:List Str):Prop where
  ex:∃ f fd,Fun K "__init__" qual st f fd∧mg x=some (.ref C)∧Mk K C f∧Binds K fd ps []
section
variable {P:Program} {w:World} {K:PySem.W.Frag} {mg:Str→Option Value} {base:Heap} {x m qual:Str} {C:Addr} {st:Stmt} {N ps:List Str} {k:Nat} {sp:Sp}
theorem Def.hasE (D:Def K mg x st ps) (S:FnScope N ps (defScope st)) (len:∀ vs H Q E,sp vs H Q E→vs.length=ps.length)
    (hbody:∀ (f:Addr) (cdv:Value) (A:Around) (outer:List Env) (s:Shared) (H:Hp) (vs:List V) (Q:VK) (E:XK),Room k (A.deeper (envOfC x (defScope st) s.heap.objs.size f cdv))→sp vs H Q E →
      ∃ t,PSs (cxOf (CXE P w) P w K mg base N x (defScope st) f cdv A outer s H E) (defBody st) t∧t { nx:=fun _ H'=>Q .non H',rt:=Q } (start N vs) H):HasE P w K mg base (k+1) x ps sp:=by
  obtain ⟨f,fd,F,hm,hb⟩:=D.ex
  exact ⟨f,fd,F.okE S len (hbody f),hm,F.kp,hb⟩
theorem DefM.has (D:DefM K C m qual st ps) (S:FnScope N ps (defScope st)) (len:∀ vs H Q E,sp vs H Q E→vs.length=ps.length)
    (hbody:∀ (f:Addr) (cdv:Value) (A:Around) (outer:List Env) (s:Shared) (H:Hp) (vs:List V) (Q:VK) (E:XK),Room k (A.deeper (envOfC qual (defScope st) s.heap.objs.size f cdv))→sp vs H Q E →
      ∃ t,PSs (cxOf (CXE P w) P w K mg base N qual (defScope st) f cdv A outer s H E) (defBody st) t∧t { nx:=fun _ H'=>Q .non H',rt:=Q } (start N vs) H):HasM P w K mg base (k+1) C m ps sp:=by
  obtain ⟨f,fd,F,hm,hb⟩:=D.ex
  exact ⟨f,fd,F.okE S len (hbody f),hm,hb⟩
theorem DefC.has (D:DefC K mg x C qual st ps) (S:FnScope N ps (defScope st)) (len:∀ vs H Q E,sp vs H Q E→vs.length=ps.length)
    (hbody:∀ (f:Addr) (cdv:Value) (A:Around) (outer:List Env) (s:Shared) (H:Hp) (vs:List V) (Q:VK) (E:XK),Room k (A.deeper (envOfC qual (defScope st) s.heap.objs.size f cdv))→sp vs H Q E →
      ∃ t,PSs (cxOf (CXE P w) P w K mg base N qual (defScope st) f cdv A outer s H E) (defBody st) t∧t { nx:=fun _ H'=>Q .non H',rt:=Q } (start N vs) H):HasC P w K mg base (k+1) x C ps sp:=by
  obtain ⟨f,fd,F,hm,hb⟩:=D.ex
  exact ⟨f,fd,F.okE S len (hbody f),hm,hb⟩
end
section
variable {X:Cx} {k k':Nat} {x m:Str} {C:Addr} {ps:List Str} {sp:Sp} {p pos apos:Pos} {e o:Expr} {es:List Expr} {ta:TE} {t:TA} {E:XK}
theorem pe_callE (h:HasE X.prog X.w X.K X.mg X.base k x ps sp) (hr:Room k' X.A) (hk:k≤k') (hx:Passes (CXE X.prog X.w) X E) (hg:Gl X x) (ha:PA X (e :: es) t) (hdb:(x == ("__debug__" : Str))=false:=by decide)
    (he:starEach (e :: es) X.env=(false,eval e X.env) :: starEach es X.env:=by rfl) (hpl:(backTo pos (starEach es X.env)).any (·.1)=false:=by rfl) :
    PE X (.Call (.Name x p) (e :: es) [] pos) (tCall sp [] E t):=by
  obtain ⟨f,fd,F,hm,hkp,hb⟩:=h.ex
  exact pe_call F (hr.mono hk) hg hm hkp hb .nil hx ha hdb he hpl
theorem pe_mE {pl:Sem Bool} (h:HasM X.prog X.w X.K X.mg X.base k C m ps sp) (c:Cls X.K C) (hr:Room k' X.A) (hk:k≤k') (hx:Passes (CXE X.prog X.w) X E) (he:PE X o ta) (ha:PA X (e :: es) t)
    (hst:starEach (e :: es) X.env=(false,eval e X.env) :: starEach es X.env:=by rfl) (hpl:(backTo pos (starEach es X.env)).any (·.1)=false:=by rfl)
    (ht:eval (.Call (.Attribute o m apos) (e :: es) [] pos) X.env=(do
      let ov ← eval o X.env
      standAt apos.atName
      let (f,first) ← holding [ov] (getMethod ov m pl)
      callWith pos f first (backTo pos (starEach (e :: es) X.env)) (backToKw pos (keywordEach [] X.env))):=by rfl) :
    PE X (.Call (.Attribute o m apos) (e :: es) [] pos) (tMeth C m sp [] E ta t):=by
  obtain ⟨f,fd,F,hm,hb⟩:=h.ex
  exact pe_meth he c hm F (hr.mono hk) hb .nil hx ha hst hpl ht
theorem pe_mE0 {pl:Sem Bool} (h:HasM X.prog X.w X.K X.mg X.base k C m ps sp) (c:Cls X.K C) (hr:Room k' X.A) (hk:k≤k') (hx:Passes (CXE X.prog X.w) X E) (he:PE X o ta)
    (ht:eval (.Call (.Attribute o m apos) [] [] pos) X.env=(do
      let ov ← eval o X.env
      standAt apos.atName
      let (f,first) ← holding [ov] (getMethod ov m pl)
      callWith pos f first (backTo pos (starEach [] X.env)) (backToKw pos (keywordEach [] X.env))):=by rfl) :
    PE X (.Call (.Attribute o m apos) [] [] pos) (tMeth C m sp [] E ta tNil):=by
  obtain ⟨f,fd,F,hm,hb⟩:=h.ex
  exact pe_meth0 he c hm F (hr.mono hk) hb .nil hx ht
theorem pe_makeE (h:HasC X.prog X.w X.K X.mg X.base k x C ps sp) (hr:Room k' X.A) (hk:k+1≤k') (hx:Passes (CXE X.prog X.w) X E) (hg:Gl X x) (ha:PA X (e :: es) t) (hdb:(x == ("__debug__" : Str))=false:=by decide)
    (he:starEach (e :: es) X.env=(false,eval e X.env) :: starEach es X.env:=by rfl) (hpl:(backTo pos (starEach es X.env)).any (·.1)=false:=by rfl) :
    PE X (.Call (.Name x p) (e :: es) [] pos) (tMake C sp [] E t):=by
  obtain ⟨f,fd,F,hm,M,hb⟩:=h.ex
  exact pe_make M F (hr.mono hk) hg hm hb .nil hx ha hdb he hpl
end
end L2
namespace L2
open PySem PySem.Spec PyProof.Rows
end L2
namespace L2
open PySem PySem.Spec PyProof.Rows
noncomputable def Its (x:Str):It:=⟨fun i _=>i < x.length,fun i H v H'=>H'=H∧∃ c,x.cps.toList[i]? = some c∧v = .str ⟨#[c]⟩,fun i _=>x.length≤i⟩
theorem turn_str {P:Program} {w:World} {K:PySem.W.Frag} {tg:Expr} (x:Str) (t:Tok) (it:Addr):Turn P w K tg (Its x) [it] it (fun i h=>h.IsStrIter it "str_ascii_iterator" x t i) where
  mem:=by simp
  obj:=fun i h st b hb=>by
    have e:b=it:=by simpa using hb
    subst e
    obtain ⟨o,e,c,d⟩:=st
    exact ⟨o,e,fun v z=>by rw [d] at z;cases z⟩
  keep:=fun i h h' st k=>by
    obtain ⟨o,e,c,d⟩:=st
    exact ⟨o,k it (by simp) o e,c,d⟩
  item:=by
    intro X hP hw hK hc i pins s σ H E I hf st hg
    subst hP hw hK
    have hi:i < x.cps.size:=hg
    obtain ⟨f0,f1,f2,f3,f4,f5⟩:=hf it (by simp)
    refine wpAny_pyNext_ascii_item st (c:=x.cps[i]) (by simp [hi]) fun h' st' sb => ?_
    have I1:Inv X pins σ H { s with heap:=h',toks:=s.toks+1 }:=I.turned (t':=s.toks+1) (fun b o hb e=>(sb.2 b hb).trans e) f0 f1 f3 f4 f5
    obtain ⟨o,e,c,d⟩:=id st'
    exact ⟨_,rfl,go_of (s := { s with heap:=h',toks:=s.toks+1 }) e c d (by decide) ⟨.str ⟨#[x.cps[i]]⟩,H,I1,⟨_,rfl⟩,⟨rfl,x.cps[i],by simp [hi],rfl⟩,st',fun b hb=>(hf b hb).1⟩⟩
  done:=by
    intro X hP hw hK hc i pins s σ H E I hf st hg
    subst hP hw hK
    have hi:x.cps.size≤i:=hg
    obtain ⟨f0,f1,f2,f3,f4,f5⟩:=hf it (by simp)
    exact wpAny_pyNext_ascii_end (I.ok.hd hc) st (by simp [hi]) fun h' eb=>⟨rfl,I.turned (t':=s.toks) (fun b o hb e=>eb b o hb e) f0 f1 f3 f4 f5⟩
  self:=fun _ _ _ _ _ st h=>wpAny_pyIter_striter_ascii st h
noncomputable def iStr (tl:TE):TI:=fun σ H R=>tl σ H fun x H1=>∃ z:Str,x = .str z∧z.cps.all (· < 128)=true∧R (Its z) H1
theorem pi_str {X:Cx} {tg l:Expr} {tl:TE} (hl:PE X l tl):PI X tg l (iStr tl):=by
  intro pins s σ H R I h
  refine thn (hl pins s σ H _ I h) fun v s1 ⟨x,H1,I1,r1,q1⟩ => ?_
  obtain ⟨z,e,ha,q⟩:=q1
  subst e
  obtain ⟨tk,rfl⟩:=r1
  refine wpAny_pyIter_ascii ha ?_
  refine ⟨s1.heap.objs.size, [s1.heap.objs.size],_,_,H1,rfl,I1.kept (t':=s1.toks) fun b o e=>Heap.get?_push_of_some _ e,turn_str z tk _,⟨_,Heap.get?_push_size _ rfl,rfl,rfl⟩,fun b hb => ?_,q⟩
  have e:b=s1.heap.objs.size:=by simpa using hb
  subst e
  exact I1.fpOk (Nat.le_refl _) (I1.hok.fresh (Nat.le_refl _))
theorem for_str {z:Str} {g:TG} {tb:TS} {D:Ends} {σ : St} {H:Hp} (Pv:Nat→St→Hp→Prop) (h0:Pv 0 σ H)
    (hs:∀ i c σ H,z.cps.toList[i]? = some c→Pv i σ H→g (.str ⟨#[c]⟩) σ H fun σ2 H2=>tb { D with nx:=Pv (i+1),ct:=Pv (i+1),bk:=D.nx } σ2 H2) (hd:∀ σ H,Pv z.length σ H→D.nx σ H) :
    ∃ W:Nat→Nat→St→Hp→Prop,(∃ m,W 0 m σ H)∧∀ i m σ H,W i m σ H →
      ((Its z).stop i H∧D.nx σ H)∨((Its z).go i H∧∃ N:St→Hp→Prop,(∀ σ' H',N σ' H'→∃ m',m' < m∧W (i+1) m' σ' H')∧∀ x H',(Its z).yld i H x H'→g x σ H' fun σ2 H2=>tb { D with nx:=N,ct:=N,bk:=D.nx } σ2 H2):=by
  refine ⟨fun i m σ H=>m=z.length - i∧i≤z.length∧Pv i σ H,⟨z.length,by simp,Nat.zero_le _,h0⟩,?_⟩
  rintro i m σ H ⟨rfl,hi,p⟩
  by_cases hlt:i < z.length
  · refine .inr ⟨hlt,Pv (i+1),fun σ' H' p'=>⟨z.length - (i+1),by omega,rfl,hlt,p'⟩,fun x H' y => ?_⟩
    obtain ⟨e,c,hc,rfl⟩:=y
    subst e
    exact hs i c σ _ hc p
  · have e:i=z.length:=by omega
    subst e
    exact .inl ⟨Nat.le_refl _,hd σ H p⟩
section
variable {X:Cx}
inductive J_call_intB (xs:List V) (H:Hp) (Q:VK):Prop
  | mk:∀ b,(xs = [.bl b])→(Q (.int (if b then 1 else 0)) H)→J_call_intB xs H Q
theorem call_intB:CallR X (.type "int") (fun xs H Q=>J_call_intB xs H Q):=by
  intro pins s σ H xs us Q I r h
  obtain ⟨b,rfl,q⟩:=h
  obtain ⟨u,rfl,rx⟩:=Vals.one r
  cases (show u=Value.bool b from rx)
  exact call_int_bool ⟨.int _,H,I.tok _,⟨_,rfl⟩,q⟩
end
theorem comp_tupS {K:PySem.W.Frag} {a:Addr} {xs ys:List V} {te:TE} {σ : St} {caps:List (Str × Nat)} {H:Hp} {Q:VK} (hS:SqT K H a xs) (hz:xs.length≤1000) (hy:ys.length=xs.length)
    (hel:∀ (i:Nat) (x y:V),xs[i]? = some x→ys[i]? = some y→∀ H',Same H H'→∀ Q':VK,(∀ H'',Same H' H''→Q' y H'')→te (some x :: capt σ caps) H' Q') (hq:∀ D H',H D=none→Same H H'→H' D=some (.lst ys)→Q (.ref D) H') :
    CompBody (Itt K a) (gName 0) te (List.replicate 1 none ++ capt σ caps) H Q:=by
  intro D hD
  refine ⟨fun i m τ zs H'=>m=xs.length - i∧i≤xs.length∧(∃ o, τ = o :: capt σ caps)∧zs=ys.take i∧Same H H'∧H' D=some (.lst zs),⟨xs.length,by simp,Nat.zero_le _,⟨none,rfl⟩,by simp,same_new hD _,upd_same⟩,?_⟩
  rintro i m τ zs H' ⟨rfl,hi,⟨o,rfl⟩,rfl,sm,hDl⟩
  refine ⟨hDl,?_⟩
  by_cases hlt:i < xs.length
  · refine .inr ⟨⟨xs,xs[i],sm.tup hS,by simp [hlt]⟩,?_,fun x H'' y => ?_⟩
    · rw [List.length_take]
      exact small1000 (by omega)
    obtain ⟨e,y⟩:=y
    subst e
    have hx:=y xs (sm.tup hS)
    have hyi:ys[i]? = some ys[i]:=List.getElem?_eq_getElem (by omega)
    show te (some x :: capt σ caps) _ _
    refine hel i x ys[i] hx hyi _ sm _ (fun H2 s2 => ?_)
    refine ⟨s2 _ _ hDl,xs.length - (i+1),by omega,rfl,hlt,⟨_,rfl⟩,?_,(sm.trans s2).put hD,?_⟩
    · rw [List.take_add_one,hyi];rfl
    · rw [upd_same]
  · have e:i=xs.length:=by omega
    subst e
    refine .inl ⟨⟨xs,sm.tup hS,Nat.le_refl _⟩,?_⟩
    rw [← hy,List.take_length] at hDl
    exact hq D H' hD sm hDl
end L2
namespace L2
open PySem PySem.Spec PyProof.Rows
inductive StrsC:List Expr→List Str→Prop where
  | nil:StrsC [] []
  | cons {x:Str} {j:Nat} {p:Pos} {es:List Expr} {L:List Str} (h:StrsC es L):StrsC (.Constant (.str x) j p :: es) (x :: L)
noncomputable def tStrs (L:List Str):TA:=fun _ H Q=>Q (L.map V.str) H
theorem pa_strs {X:Cx} {es:List Expr} {L:List Str} (h:StrsC es L):PA X es (tStrs L):=by
  induction h with
  | nil=>exact pa_nil
  | cons h ih=>exact pa_cons pe_str ih
end L2
namespace L2
open PySem PySem.Spec PyProof.Rows

inductive D where
  | non | int (i:Int) | str (x:Str) | tup (ds:List D) | lst (ds:List D)
noncomputable instance:DecidableEq D:=fun _ _=>Classical.propDecidable _
mutual
noncomputable def D.deep:D→Nat
  | .tup ds=>D.deeps ds+1
  | .lst ds=>D.deeps ds+1
  | .non=>0
  | .int _=>0
  | .str _=>0
noncomputable def D.deeps:List D→Nat
  | []=>0
  | d :: ds=>max d.deep (D.deeps ds)
end
theorem deeps_le:∀ {ds:List D} {d:D},d∈ds→d.deep≤D.deeps ds
  | e :: ds,d,h=>by
    rw [D.deeps]
    rcases List.mem_cons.mp h with rfl | h
    · omega
    · have:=deeps_le h;omega
mutual
noncomputable def DenR (h:Heap):D→Value→Prop
  | .non,u=>u=Value.none
  | .int i,u=>(∃ t,u=Value.int i t)∨∃ b,u=Value.bool b∧i=(if b then 1 else 0)
  | .str x,u=>∃ t,u=Value.str x t
  | .tup ds,u=>∃ a us,u=Value.ref a∧h.IsTuple a us.toArray∧DenRs h ds us
  | .lst ds,u=>∃ a us,u=Value.ref a∧h.IsList a us.toArray∧DenRs h ds us
noncomputable def DenRs (h:Heap):List D→List Value→Prop
  | [],us=>us = []
  | d :: ds,us=>∃ u us',us=u :: us'∧DenR h d u∧DenRs h ds us'
end
mutual
noncomputable def Den (H:Hp):D→V→Prop
  | .non,v=>v = .non
  | .int i,v=>v = .int i∨∃ b,v = .bl b∧i=(if b then 1 else 0)
  | .str x,v=>v = .str x
  | .tup ds,v=>∃ a vs,v = .ref a∧H a=some (.tup vs)∧Dens H ds vs
  | .lst ds,v=>∃ a vs,v = .ref a∧H a=some (.lst vs)∧Dens H ds vs
noncomputable def Dens (H:Hp):List D→List V→Prop
  | [],vs=>vs = []
  | d :: ds,vs=>∃ v vs',vs=v :: vs'∧Den H d v∧Dens H ds vs'
end
theorem denRs_len {h:Heap}:∀ {ds:List D} {us:List Value},DenRs h ds us→us.length=ds.length
  | [],us,r=>by rw [DenRs] at r;subst r;rfl
  | d :: ds,us,r=>by
    rw [DenRs] at r
    obtain ⟨u,us',rfl,_,r⟩:=r
    rw [List.length_cons,List.length_cons,denRs_len r]
theorem denRs_at {h:Heap}:∀ {ds:List D} {us:List Value} {j:Nat} {d:D},DenRs h ds us→ds[j]? = some d→∃ u,us[j]? = some u∧DenR h d u
  | [],us,j,d,r,e=>by simp at e
  | c :: ds,us,0,d,r,e=>by
    rw [DenRs] at r
    obtain ⟨u,us',rfl,r1,_⟩:=r
    simp at e;subst e
    exact ⟨u,rfl,r1⟩
  | c :: ds,us,j+1,d,r,e=>by
    rw [DenRs] at r
    obtain ⟨u,us',rfl,_,r⟩:=r
    obtain ⟨u',e',r'⟩:=denRs_at (j:=j) (d:=d) r (by simpa using e)
    exact ⟨u',by simpa using e',r'⟩
mutual
theorem den_raw {P:Program} {w:World} {H:Hp} {h:Heap} (ok:HOk P w H h):∀ {d:D} {v:V} {u:Value},Den H d v→RelV v u→DenR h d u
  | .non,v,u,r,q=>by rw [Den] at r;subst r;rw [DenR];exact q
  | .int i,v,u,r,q=>by
    rw [Den] at r
    rw [DenR]
    rcases r with rfl | ⟨b,rfl,e⟩
    · exact .inl q
    · exact .inr ⟨b,q,e⟩
  | .str x,v,u,r,q=>by rw [Den] at r;subst r;rw [DenR];exact q
  | .tup ds,v,u,r,q=>by
    rw [Den] at r
    obtain ⟨a,vs,rfl,e,r⟩:=r
    rw [DenR]
    obtain ⟨_,its,rv,p⟩:=(show ObjOk P w H h a (.tup vs) from ok a _ e)
    exact ⟨a,its,q,p.tup,dens_raw ok r rv⟩
  | .lst ds,v,u,r,q=>by
    rw [Den] at r
    obtain ⟨a,vs,rfl,e,r⟩:=r
    rw [DenR]
    obtain ⟨_,its,n,rv,p⟩:=(show ObjOk P w H h a (.lst vs) from ok a _ e)
    exact ⟨a,its,q,⟨_,p,rfl,n,rfl⟩,dens_raw ok r rv⟩
theorem dens_raw {P:Program} {w:World} {H:Hp} {h:Heap} (ok:HOk P w H h):∀ {ds:List D} {vs:List V} {us:List Value},Dens H ds vs→Vals vs us→DenRs h ds us
  | [],vs,us,r,q=>by rw [Dens] at r;subst r;cases q;rw [DenRs]
  | d :: ds,vs,us,r,q=>by
    rw [Dens] at r
    obtain ⟨v,vs',rfl,r1,r⟩:=r
    cases q with
    | cons q1 q2 =>
      rw [DenRs]
      exact ⟨_,_,rfl,den_raw ok r1 q1,dens_raw ok r q2⟩
end
theorem tup_seq {h:Heap} {a:Addr} {x y:Array Value} (p:h.IsTuple a x) (q:h.IsTuple a y):x=y:=by
  obtain ⟨o,e,_,n,d⟩:=p
  obtain ⟨o',e',_,n',d'⟩:=q
  rw [e] at e';cases e'
  rw [d] at d'
  injection d'
theorem lst_seq {h:Heap} {a:Addr} {x y:Array Value} (p:h.IsList a x) (q:h.IsList a y):x=y:=by
  obtain ⟨o,e,_,n,d⟩:=p
  obtain ⟨o',e',_,n',d'⟩:=q
  rw [e] at e';cases e'
  rw [d] at d'
  injection d'
theorem lst_tup {h:Heap} {a:Addr} {x y:Array Value} (p:h.IsList a x) (q:h.IsTuple a y):False:=by
  obtain ⟨o,e,c,n,d⟩:=p
  obtain ⟨o',e',c',n',d'⟩:=q
  rw [e] at e';cases e'
  rw [c] at c'
  exact absurd (Value.type.inj c') (by decide)
mutual
theorem denR_inj {h:Heap}:∀ {d e:D} {u:Value},DenR h d u→DenR h e u→d=e
  | .non,e,u,r,q=>by
    rw [DenR] at r;subst r
    cases e with
    | non=>rfl
    | int i=>rw [DenR] at q;rcases q with ⟨t,z⟩ | ⟨b,z,_⟩ <;> cases z
    | str x=>rw [DenR] at q;obtain ⟨t,z⟩:=q;cases z
    | tup es=>rw [DenR] at q;obtain ⟨a,us,z,_⟩:=q;cases z
    | lst es=>rw [DenR] at q;obtain ⟨a,us,z,_⟩:=q;cases z
  | .int i,e,u,r,q=>by
    rw [DenR] at r
    cases e with
    | non=>rw [DenR] at q;subst q;rcases r with ⟨t,z⟩ | ⟨b,z,_⟩ <;> cases z
    | int j =>
      rw [DenR] at q
      rcases r with ⟨t,rfl⟩ | ⟨b,rfl,hb⟩ <;> rcases q with ⟨t',z⟩ | ⟨b',z,hb'⟩ <;> cases z
      · rfl
      · rw [hb,hb']
    | str x=>rw [DenR] at q;obtain ⟨t,rfl⟩:=q;rcases r with ⟨t,z⟩ | ⟨b,z,_⟩ <;> cases z
    | tup es=>rw [DenR] at q;obtain ⟨a,us,rfl,_⟩:=q;rcases r with ⟨t,z⟩ | ⟨b,z,_⟩ <;> cases z
    | lst es=>rw [DenR] at q;obtain ⟨a,us,rfl,_⟩:=q;rcases r with ⟨t,z⟩ | ⟨b,z,_⟩ <;> cases z
  | .str x,e,u,r,q=>by
    rw [DenR] at r
    obtain ⟨t,rfl⟩:=r
    cases e with
    | non=>rw [DenR] at q;cases q
    | int i=>rw [DenR] at q;rcases q with ⟨t,z⟩ | ⟨b,z,_⟩ <;> cases z
    | str x=>rw [DenR] at q;obtain ⟨t,z⟩:=q;cases z;rfl
    | tup es=>rw [DenR] at q;obtain ⟨a,us,z,_⟩:=q;cases z
    | lst es=>rw [DenR] at q;obtain ⟨a,us,z,_⟩:=q;cases z
  | .tup ds,e,u,r,q=>by
    rw [DenR] at r
    obtain ⟨a,us,rfl,p,r⟩:=r
    cases e with
    | non=>rw [DenR] at q;cases q
    | int i=>rw [DenR] at q;rcases q with ⟨t,z⟩ | ⟨b,z,_⟩ <;> cases z
    | str x=>rw [DenR] at q;obtain ⟨t,z⟩:=q;cases z
    | tup es =>
      rw [DenR] at q;obtain ⟨a',us',z,p',q⟩:=q;cases z
      have e:us=us':=by have:=tup_seq p p';simpa using this
      subst e
      rw [denRs_inj r q]
    | lst es=>rw [DenR] at q;obtain ⟨a',us',z,p',_⟩:=q;cases z;exact absurd p (fun p=>lst_tup p' p)
  | .lst ds,e,u,r,q=>by
    rw [DenR] at r
    obtain ⟨a,us,rfl,p,r⟩:=r
    cases e with
    | non=>rw [DenR] at q;cases q
    | int i=>rw [DenR] at q;rcases q with ⟨t,z⟩ | ⟨b,z,_⟩ <;> cases z
    | str x=>rw [DenR] at q;obtain ⟨t,z⟩:=q;cases z
    | tup es=>rw [DenR] at q;obtain ⟨a',us',z,p',_⟩:=q;cases z;exact absurd p (fun p=>lst_tup p p')
    | lst es =>
      rw [DenR] at q;obtain ⟨a',us',z,p',q⟩:=q;cases z
      have e:us=us':=by have:=lst_seq p p';simpa using this
      subst e
      rw [denRs_inj r q]
theorem denRs_inj {h:Heap}:∀ {ds es:List D} {us:List Value},DenRs h ds us→DenRs h es us→ds=es
  | [],es,us,r,q=>by
    rw [DenRs] at r;subst r
    cases es with
    | nil=>rfl
    | cons e es=>rw [DenRs] at q;obtain ⟨u,us',z,_⟩:=q;cases z
  | d :: ds,es,us,r,q=>by
    rw [DenRs] at r
    obtain ⟨u,us',rfl,r1,r⟩:=r
    cases es with
    | nil=>rw [DenRs] at q;cases q
    | cons e es =>
      rw [DenRs] at q;obtain ⟨u',us'',z,q1,q⟩:=q
      cases z
      rw [denR_inj r1 q1,denRs_inj r q]
end
theorem dec_true {p:Prop} [Decidable p] {b:Bool} (h:p↔b=true):b=decide p:=by
  cases b with
  | true=>exact (decide_eq_true (h.mpr rfl)).symm
  | false=>exact (decide_eq_false fun z=>Bool.false_ne_true (h.mp z)).symm
theorem all_eq (ds es:List D):((List.range (min ds.length es.length)).all (fun j=>decide (ds[j]? = es[j]?)) && ds.length == es.length)=decide (ds=es):=by
  refine dec_true ⟨fun h=>by subst h;simp,fun h => ?_⟩
  rw [Bool.and_eq_true,List.all_eq_true] at h
  have hl:ds.length=es.length:=eq_of_beq h.2
  refine List.ext_getElem? fun j => ?_
  by_cases hj:j < ds.length
  · exact of_decide_eq_true (h.1 j (List.mem_range.mpr (by omega)))
  · rw [List.getElem?_eq_none (by omega),List.getElem?_eq_none (by omega)]
theorem all_eq' (ds es:List D) (hl:ds.length=es.length):(List.range ds.length).all (fun j=>decide (ds[j]? = es[j]?))=decide (ds=es):=by
  have:=all_eq ds es
  rw [← hl,Nat.min_self] at this
  simpa using this
section
open SeqAt
variable {A:Around} {s:Shared}
theorem eqAt_cast {u v:Value} {b c:Bool} (h:EqAt A s u v b) (e:b=c):EqAt A s u v c:=e ▸ h
theorem eqAt_D:∀ (n:Nat) {d e:D} {A:Around} {u v:Value},d.deep≤n→DenR s.heap d u→DenR s.heap e v→A.units+n < cLine→EqAt A s u v (decide (d=e)):=by
  intro n
  induction n with
  | zero => ?_
  | succ n ih => ?_
  all_goals intro d e A u v hn r q hu
  all_goals have hu0:A.units < cLine:=by omega
  all_goals cases d with
    | non =>
      rw [DenR] at r;subst r
      cases e with
      | non=>rw [DenR] at q;subst q;exact eqAt_cast (EqAt.same _) (decide_eq_true rfl).symm
      | int j =>
        rw [DenR] at q
        rcases q with ⟨t,rfl⟩ | ⟨b,rfl,_⟩
        · exact eqAt_cast (EqAt.none_int j t) (decide_eq_false (fun z=>nomatch z)).symm
        · exact eqAt_cast (EqAt.none_bool b) (decide_eq_false (fun z=>nomatch z)).symm
      | str y=>rw [DenR] at q;obtain ⟨t,rfl⟩:=q;exact eqAt_cast (EqAt.none_str y t) (decide_eq_false (fun z=>nomatch z)).symm
      | tup es=>rw [DenR] at q;obtain ⟨a,us,rfl,p,_⟩:=q;exact eqAt_cast (EqAt.none_tuple p hu0) (decide_eq_false (fun z=>nomatch z)).symm
      | lst es=>rw [DenR] at q;obtain ⟨a,us,rfl,p,_⟩:=q;exact eqAt_cast (EqAt.none_list p hu0) (decide_eq_false (fun z=>nomatch z)).symm
    | int i =>
      rw [DenR] at r
      cases e with
      | non =>
        rw [DenR] at q;subst q
        rcases r with ⟨t,rfl⟩ | ⟨b,rfl,_⟩
        · exact eqAt_cast (EqAt.int_none i t) (decide_eq_false (fun z=>nomatch z)).symm
        · exact eqAt_cast (EqAt.bool_none b) (decide_eq_false (fun z=>nomatch z)).symm
      | int j =>
        rw [DenR] at q
        have key:∀ x y:Int,(x == y)=decide (D.int x=D.int y):=fun x y=>dec_true ⟨fun z=>by cases z;simp,fun z=>by rw [eq_of_beq z]⟩
        rcases r with ⟨t,rfl⟩ | ⟨b,rfl,hb⟩ <;> rcases q with ⟨t',rfl⟩ | ⟨b',rfl,hb'⟩
        · exact eqAt_cast (EqAt.int_int i t j t') (key i j)
        · rw [hb'];exact eqAt_cast (EqAt.int_bool i t b') (key _ _)
        · rw [hb];exact eqAt_cast (EqAt.bool_int b j t') (key _ _)
        · rw [hb,hb'];exact eqAt_cast (EqAt.bool_bool b b') (by rw [← key];cases b <;> cases b' <;> rfl)
      | str y =>
        rw [DenR] at q;obtain ⟨t,rfl⟩:=q
        rcases r with ⟨t',rfl⟩ | ⟨b,rfl,_⟩
        · exact eqAt_cast (EqAt.int_str i t' y t) (decide_eq_false (fun z=>nomatch z)).symm
        · exact eqAt_cast (EqAt.bool_str b y t) (decide_eq_false (fun z=>nomatch z)).symm
      | tup es =>
        rw [DenR] at q;obtain ⟨a,us,rfl,p,_⟩:=q
        rcases r with ⟨t',rfl⟩ | ⟨b,rfl,_⟩
        · exact eqAt_cast (EqAt.int_tuple i t' p hu0) (decide_eq_false (fun z=>nomatch z)).symm
        · exact eqAt_cast (EqAt.bool_tuple b p hu0) (decide_eq_false (fun z=>nomatch z)).symm
      | lst es =>
        rw [DenR] at q;obtain ⟨a,us,rfl,p,_⟩:=q
        rcases r with ⟨t',rfl⟩ | ⟨b,rfl,_⟩
        · exact eqAt_cast (EqAt.int_list i t' p hu0) (decide_eq_false (fun z=>nomatch z)).symm
        · exact eqAt_cast (EqAt.bool_list b p hu0) (decide_eq_false (fun z=>nomatch z)).symm
    | str x =>
      rw [DenR] at r;obtain ⟨t',rfl⟩:=r
      cases e with
      | non=>rw [DenR] at q;subst q;exact eqAt_cast (EqAt.str_none x t') (decide_eq_false (fun z=>nomatch z)).symm
      | int j =>
        rw [DenR] at q
        rcases q with ⟨t,rfl⟩ | ⟨b,rfl,_⟩
        · exact eqAt_cast (EqAt.str_int x t' j t) (decide_eq_false (fun z=>nomatch z)).symm
        · exact eqAt_cast (EqAt.str_bool x t' b) (decide_eq_false (fun z=>nomatch z)).symm
      | str y =>
        rw [DenR] at q;obtain ⟨t,rfl⟩:=q
        exact eqAt_cast (EqAt.str_str x t' y t) (dec_true ⟨fun z=>by cases z;simp,fun z=>by rw [eq_of_beq z]⟩)
      | tup es=>rw [DenR] at q;obtain ⟨a,us,rfl,p,_⟩:=q;exact eqAt_cast (EqAt.str_tuple x t' p hu0) (decide_eq_false (fun z=>nomatch z)).symm
      | lst es=>rw [DenR] at q;obtain ⟨a,us,rfl,p,_⟩:=q;exact eqAt_cast (EqAt.str_list x t' p hu0) (decide_eq_false (fun z=>nomatch z)).symm
    | tup ds => ?_
    | lst ds => ?_
  · rw [D.deep] at hn;omega
  · rw [D.deep] at hn;omega
  · rw [D.deep] at hn
    have r0:=r
    rw [DenR] at r
    obtain ⟨a,us,rfl,p,r⟩:=r
    cases e with
    | non=>rw [DenR] at q;subst q;exact eqAt_cast (EqAt.tuple_none p hu0) (decide_eq_false (fun z=>nomatch z)).symm
    | int j =>
      rw [DenR] at q
      rcases q with ⟨t,rfl⟩ | ⟨b,rfl,_⟩
      · exact eqAt_cast (EqAt.tuple_int j t p hu0) (decide_eq_false (fun z=>nomatch z)).symm
      · exact eqAt_cast (EqAt.tuple_bool b p hu0) (decide_eq_false (fun z=>nomatch z)).symm
    | str y=>rw [DenR] at q;obtain ⟨t,rfl⟩:=q;exact eqAt_cast (EqAt.tuple_str y t p hu0) (decide_eq_false (fun z=>nomatch z)).symm
    | tup es =>
      have q0:=q
      rw [DenR] at q
      obtain ⟨b,us',rfl,p',q⟩:=q
      by_cases hab:a=b
      · subst hab
        rw [denR_inj r0 q0]
        exact eqAt_cast (EqAt.same _) (decide_eq_true rfl).symm
      · refine eqAt_cast (EqAt.of_refs hab (RcAt.tuples (e:=fun j=>decide (ds[j]? = es[j]?)) p p' hu0 fun j h1 h2 => ?_)) ?_
        · have l1:=denRs_len r
          have l2:=denRs_len q
          have h1':j < us.length:=by simpa using h1
          have h2':j < us'.length:=by simpa using h2
          have e1:=List.getElem?_eq_getElem (l:=ds) (i:=j) (by omega)
          have e2:=List.getElem?_eq_getElem (l:=es) (i:=j) (by omega)
          obtain ⟨u,f1,g1⟩:=denRs_at r e1
          obtain ⟨v,f2,g2⟩:=denRs_at q e2
          have z1:us.toArray[j]=u:=by rw [List.getElem?_eq_getElem h1'] at f1;simpa using f1
          have z2:us'.toArray[j]=v:=by rw [List.getElem?_eq_getElem h2'] at f2;simpa using f2
          rw [z1,z2]
          have:=ih (d:=ds[j]) (e:=es[j]) (A:=A.in1) (by have:=deeps_le (List.getElem_mem (l:=ds) (n:=j) (by omega));omega) g1 g2 (by show A.units+1+n < cLine;omega)
          refine eqAt_cast this ?_
          rw [e1,e2]
          exact decide_eq_decide.mpr ⟨fun z=>by rw [z],fun z=>Option.some.inj z⟩
        · have:=all_eq ds es
          simp only [List.size_toArray,denRs_len r,denRs_len q]
          rw [this]
          exact decide_eq_decide.mpr ⟨fun z=>by rw [z],fun z=>by injection z⟩
    | lst es=>rw [DenR] at q;obtain ⟨b,us',rfl,p',_⟩:=q;exact eqAt_cast (EqAt.tuple_list p p' hu0) (decide_eq_false (fun z=>nomatch z)).symm
  · rw [D.deep] at hn
    have r0:=r
    rw [DenR] at r
    obtain ⟨a,us,rfl,p,r⟩:=r
    cases e with
    | non=>rw [DenR] at q;subst q;exact eqAt_cast (EqAt.list_none p hu0) (decide_eq_false (fun z=>nomatch z)).symm
    | int j =>
      rw [DenR] at q
      rcases q with ⟨t,rfl⟩ | ⟨b,rfl,_⟩
      · exact eqAt_cast (EqAt.list_int j t p hu0) (decide_eq_false (fun z=>nomatch z)).symm
      · exact eqAt_cast (EqAt.list_bool b p hu0) (decide_eq_false (fun z=>nomatch z)).symm
    | str y=>rw [DenR] at q;obtain ⟨t,rfl⟩:=q;exact eqAt_cast (EqAt.list_str y t p hu0) (decide_eq_false (fun z=>nomatch z)).symm
    | tup es=>rw [DenR] at q;obtain ⟨b,us',rfl,p',_⟩:=q;exact eqAt_cast (EqAt.list_tuple p p' hu0) (decide_eq_false (fun z=>nomatch z)).symm
    | lst es =>
      have q0:=q
      rw [DenR] at q
      obtain ⟨b,us',rfl,p',q⟩:=q
      have l1:=denRs_len r
      have l2:=denRs_len q
      by_cases hab:a=b
      · subst hab
        rw [denR_inj r0 q0]
        exact eqAt_cast (EqAt.same _) (decide_eq_true rfl).symm
      by_cases hl:ds.length=es.length
      · refine eqAt_cast (EqAt.of_refs hab (RcAt.lists (e:=fun j=>decide (ds[j]? = es[j]?)) p p' (by simp only [List.size_toArray];omega) hu0 fun j h1 h2 => ?_)) ?_
        · have h1':j < us.length:=by simpa using h1
          have h2':j < us'.length:=by simpa using h2
          have e1:=List.getElem?_eq_getElem (l:=ds) (i:=j) (by omega)
          have e2:=List.getElem?_eq_getElem (l:=es) (i:=j) (by omega)
          obtain ⟨u,f1,g1⟩:=denRs_at r e1
          obtain ⟨v,f2,g2⟩:=denRs_at q e2
          have z1:us.toArray[j]=u:=by rw [List.getElem?_eq_getElem h1'] at f1;simpa using f1
          have z2:us'.toArray[j]=v:=by rw [List.getElem?_eq_getElem h2'] at f2;simpa using f2
          rw [z1,z2]
          have:=ih (d:=ds[j]) (e:=es[j]) (A:=A.in1) (by have:=deeps_le (List.getElem_mem (l:=ds) (n:=j) (by omega));omega) g1 g2 (by show A.units+1+n < cLine;omega)
          refine eqAt_cast this ?_
          rw [e1,e2]
          exact decide_eq_decide.mpr ⟨fun z=>by rw [z],fun z=>Option.some.inj z⟩
        · have:=all_eq' ds es hl
          simp only [List.size_toArray,l1]
          rw [this]
          exact decide_eq_decide.mpr ⟨fun z=>by rw [z],fun z=>by injection z⟩
      · refine eqAt_cast (EqAt.of_refs hab (RcAt.lists_lengths p p' (by simp only [List.size_toArray];simp;omega) hu0)) ?_
        exact (decide_eq_false (fun z=>hl (by injection z with z;rw [z]))).symm
end
section
variable {X:Cx}
inductive J_rEqD (x:V) (y:V) (H:Hp) (Q:VK):Prop
  | mk:∀ ds es,(((Den H (.tup ds) x∧Den H (.tup es) y)∨(Den H (.lst ds) x∧Den H (.lst es) y)))→(D.deeps ds≤150)→(Q (.bl (decide (ds=es))) H)→J_rEqD x y H Q
noncomputable def rEqD:R2:=fun x y H Q=>J_rEqD x y H Q
inductive J_rNeD (x:V) (y:V) (H:Hp) (Q:VK):Prop
  | mk:∀ ds es,(((Den H (.tup ds) x∧Den H (.tup es) y)∨(Den H (.lst ds) x∧Den H (.lst es) y)))→(D.deeps ds≤150)→(Q (.bl (!decide (ds=es))) H)→J_rNeD x y H Q
noncomputable def rNeD:R2:=fun x y H Q=>J_rNeD x y H Q
theorem deep_items {A:Around} {s:Shared} {ds es:List D} {us us':List Value} (hu:A.units+151 < cLine) (hd:D.deeps ds≤150) (r:DenRs s.heap ds us) (q:DenRs s.heap es us') (j:Nat) (h1:j < us.toArray.size) (h2:j < us'.toArray.size) :
    SeqAt.EqAt A.in1 s us.toArray[j] us'.toArray[j] (decide (ds[j]? = es[j]?)):=by
  have l1:=denRs_len r
  have l2:=denRs_len q
  have h1':j < us.length:=by simpa using h1
  have h2':j < us'.length:=by simpa using h2
  have e1:=List.getElem?_eq_getElem (l:=ds) (i:=j) (by omega)
  have e2:=List.getElem?_eq_getElem (l:=es) (i:=j) (by omega)
  obtain ⟨u,f1,g1⟩:=denRs_at r e1
  obtain ⟨v,f2,g2⟩:=denRs_at q e2
  have z1:us.toArray[j]=u:=by rw [List.getElem?_eq_getElem h1'] at f1;simpa using f1
  have z2:us'.toArray[j]=v:=by rw [List.getElem?_eq_getElem h2'] at f2;simpa using f2
  rw [z1,z2]
  refine eqAt_cast (eqAt_D 150 (by have:=deeps_le (List.getElem_mem (l:=ds) (n:=j) (by omega));omega) g1 g2 (by show A.units+1+150 < cLine;omega)) ?_
  rw [e1,e2]
  exact decide_eq_decide.mpr ⟨fun z=>by rw [z],fun z=>Option.some.inj z⟩
theorem op_eqD (hu:X.A.units+151 < cLine):OpR X (compareOp .Eq) rEqD:=by
  intro pins s σ H x y v u Q I rx ry h
  obtain ⟨ds,es,hh,hd,q⟩:=h
  have hu0:X.A.units < cLine:=by omega
  rcases hh with ⟨h1,h2⟩ | ⟨h1,h2⟩
  · have g1:=den_raw I.hok h1 rx
    have g2:=den_raw I.hok h2 ry
    rw [DenR] at g1 g2
    obtain ⟨a,us,rfl,p,r⟩:=g1
    obtain ⟨b,us',rfl,p',r'⟩:=g2
    refine SeqAt.eq_tupleAt (e:=fun j=>decide (ds[j]? = es[j]?)) p p' hu0 (deep_items hu hd r r') ?_
    refine ⟨.bl (decide (ds=es)),H,I,?_,q⟩
    have:=all_eq ds es
    simp only [List.size_toArray,denRs_len r,denRs_len r']
    rw [this]
    rfl
  · have g1:=den_raw I.hok h1 rx
    have g2:=den_raw I.hok h2 ry
    rw [DenR] at g1 g2
    obtain ⟨a,us,rfl,p,r⟩:=g1
    obtain ⟨b,us',rfl,p',r'⟩:=g2
    have l1:=denRs_len r
    have l2:=denRs_len r'
    by_cases hl:ds.length=es.length
    · refine SeqAt.eq_listAt (e:=fun j=>decide (ds[j]? = es[j]?)) p p' (by simp only [List.size_toArray];omega) hu0 (deep_items hu hd r r') ?_
      refine ⟨.bl (decide (ds=es)),H,I,?_,q⟩
      have:=all_eq' ds es hl
      simp only [List.size_toArray,l1]
      rw [this]
      rfl
    · refine SeqAt.eq_list_lengthsAt p p' (by simp only [List.size_toArray];simp;omega) hu0 ⟨.bl (decide (ds=es)),H,I,?_,q⟩
      rw [decide_eq_false (fun z=>hl (by rw [z]))]
      rfl
theorem op_neD (hu:X.A.units+151 < cLine):OpR X (compareOp .NotEq) rNeD:=by
  intro pins s σ H x y v u Q I rx ry h
  obtain ⟨ds,es,hh,hd,q⟩:=h
  have hu0:X.A.units < cLine:=by omega
  rcases hh with ⟨h1,h2⟩ | ⟨h1,h2⟩
  · have g1:=den_raw I.hok h1 rx
    have g2:=den_raw I.hok h2 ry
    rw [DenR] at g1 g2
    obtain ⟨a,us,rfl,p,r⟩:=g1
    obtain ⟨b,us',rfl,p',r'⟩:=g2
    refine SeqAt.RcNeAt.tuples (e:=fun j=>decide (ds[j]? = es[j]?)) p p' hu0 (deep_items hu hd r r') _ _ _ _ ?_
    refine ⟨.bl (!decide (ds=es)),H,I,?_,q⟩
    have:=all_eq ds es
    simp only [List.size_toArray,denRs_len r,denRs_len r']
    rw [this]
    rfl
  · have g1:=den_raw I.hok h1 rx
    have g2:=den_raw I.hok h2 ry
    rw [DenR] at g1 g2
    obtain ⟨a,us,rfl,p,r⟩:=g1
    obtain ⟨b,us',rfl,p',r'⟩:=g2
    have l1:=denRs_len r
    have l2:=denRs_len r'
    by_cases hl:ds.length=es.length
    · refine SeqAt.RcNeAt.lists (e:=fun j=>decide (ds[j]? = es[j]?)) p p' (by simp only [List.size_toArray];omega) hu0 (deep_items hu hd r r') _ _ _ _ ?_
      refine ⟨.bl (!decide (ds=es)),H,I,?_,q⟩
      have:=all_eq' ds es hl
      simp only [List.size_toArray,l1]
      rw [this]
      rfl
    · refine SeqAt.RcNeAt.lists_lengths p p' (by simp only [List.size_toArray];simp;omega) hu0 _ _ _ _ ⟨.bl (!decide (ds=es)),H,I,?_,q⟩
      rw [decide_eq_false (fun z=>hl (by rw [z]))]
      rfl
end
end L2
namespace L2
open PySem PySem.Spec PyProof.Rows

section
variable {κ : Type} [DecidableEq κ]
noncomputable def valV (kvs:List (κ × V)) (k : κ):Option V:=(kvs.find? fun kv=>decide (kv.1=k)).map (·.2)
noncomputable def putK (kvs:List (κ × V)) (k : κ) (v:V):List (κ × V) :=
  if (kvs.any fun kv=>decide (kv.1=k))=true then kvs.map (fun kv=>if kv.1=k then (kv.1,v) else kv) else kvs ++ [(k,v)]

theorem valV_pos {p : κ × V} {r:List (κ × V)} {k : κ} (e:p.1=k):valV (p :: r) k=some p.2:=by simp [valV,List.find?_cons,e]
theorem valV_neg {p : κ × V} {r:List (κ × V)} {k : κ} (e:¬ p.1=k):valV (p :: r) k=valV r k:=by simp [valV,List.find?_cons,e]
theorem valV_any (k : κ):∀ kvs:List (κ × V),(kvs.any fun kv=>decide (kv.1=k))=(valV kvs k).isSome
  | []=>rfl
  | p :: r=>by
    rw [List.any_cons]
    by_cases e:p.1=k
    · simp only [valV_pos e,decide_eq_true e,Bool.true_or,Option.isSome_some]
    · rw [valV_neg e,decide_eq_false e,Bool.false_or];exact valV_any k r
theorem length_putK (kvs:List (κ × V)) (k : κ) (v:V):(putK kvs k v).length≤kvs.length+1:=by
  unfold putK
  split
  · rw [List.length_map];omega
  · rw [List.length_append,List.length_cons,List.length_nil];omega

theorem RelO.isSome_eq {o:Option V} {u:Option Value} (r:RelO o u):o.isSome=u.isSome:=by
  cases o with
  | none=>cases u with
    | none=>rfl
    | some _=>exact (show False from r).elim
  | some _=>cases u with
    | none=>exact (show False from r).elim
    | some _=>rfl

theorem KV.val {kvs:List (κ × V)} {vs:List (κ × Value)} (r:KV kvs vs) (k : κ):RelO (valV kvs k) (valueAt vs k):=by
  unfold KV at r
  induction r with
  | nil=>exact True.intro
  | @cons p q ps qs h t ih =>
    obtain ⟨h1,h2⟩:=h
    by_cases e:p.1=k
    · have e':q.1=k:=h1.symm.trans e
      have b:valueAt (q :: qs) k=some q.2:=by simp [valueAt,List.find?_cons,e']
      rw [valV_pos e,b];exact h2
    · have e':¬ q.1=k:=fun z=>e (h1.trans z)
      have b:valueAt (q :: qs) k=valueAt qs k:=by simp [valueAt,List.find?_cons,e']
      rw [valV_neg e,b];exact ih
theorem KV.any {kvs:List (κ × V)} {vs:List (κ × Value)} (r:KV kvs vs) (k : κ):(kvs.any fun kv=>decide (kv.1=k))=vs.any fun kv=>decide (kv.1=k):=by
  unfold KV at r
  induction r with
  | nil=>rfl
  | cons h t ih=>rw [List.any_cons,List.any_cons,ih,h.1]
theorem KV.repl {kvs:List (κ × V)} {vs:List (κ × Value)} (r:KV kvs vs) (k : κ) {y:V} {u:Value} (ry:RelV y u) :
    KV (kvs.map fun kv=>if kv.1=k then (kv.1,y) else kv) (vs.map fun kv=>if kv.1=k then (kv.1,u) else kv):=by
  unfold KV at r ⊢
  induction r with
  | nil=>exact .nil
  | @cons p q ps qs h t ih =>
    rw [List.map_cons,List.map_cons]
    refine .cons ?_ ih
    obtain ⟨h1,h2⟩:=h
    by_cases e:p.1=k
    · rw [if_pos e,if_pos (h1.symm.trans e)];exact ⟨h1,ry⟩
    · rw [if_neg e,if_neg (fun z=>e (h1.trans z))];exact ⟨h1,h2⟩
theorem KV.put {kvs:List (κ × V)} {vs:List (κ × Value)} (r:KV kvs vs) (k : κ) {y:V} {u:Value} (ry:RelV y u):KV (putK kvs k y) (stored vs k u):=by
  unfold putK stored
  rw [r.any k]
  by_cases e:(vs.any fun kv=>decide (kv.1=k))=true
  · rw [if_pos e,if_pos e];exact r.repl k ry
  · rw [if_neg e,if_neg e];exact Paired.snoc r ⟨rfl,ry⟩
theorem KV.keys {kvs:List (κ × V)} {vs:List (κ × Value)} (r:KV kvs vs):kvs.map (·.1)=vs.map (·.1):=by
  unfold KV at r
  induction r with
  | nil=>rfl
  | cons h t ih=>rw [List.map_cons,List.map_cons,ih,h.1]
theorem KV.length {kvs:List (κ × V)} {vs:List (κ × Value)} (r:KV kvs vs):kvs.length=vs.length:=Paired.length r
end


theorem kV_is {P:Program} {w:World} {k:Key} {u:Value} (r:RelV (kV k) u):(mixKind P w).is k u=true:=by
  cases k with
  | inl i=>obtain ⟨t,e⟩:=(show ∃ t,u=Value.int i t from r);subst e;exact mixKind_int P w i t
  | inr x=>obtain ⟨t,e⟩:=(show ∃ t,u=Value.str x t from r);subst e;exact mixKind_str P w x t
theorem items_are {P:Program} {w:World}:∀ {ks:List Key} {us:List Value},Vals (ks.map kV) us→ItemsAre (mixKind P w) ks us
  | [],_,r=>by rw [List.map_nil] at r;cases r;exact .nil
  | k :: ks,_,r=>by
    rw [List.map_cons] at r
    cases r with
    | cons h t=>exact .cons (kV_is h) (items_are t)

noncomputable abbrev KT (H:Hp):List (List Key × V)→List (List Key × Addr × Value)→Prop:=Paired fun p q=>p.1=q.1∧H q.2.1=some (.tup (p.1.map kV))∧RelV p.2 q.2.2
theorem KT.val {H:Hp} {kvs:List (List Key × V)} {xs:List (List Key × Addr × Value)} (r:KT H kvs xs) (k:List Key):RelO (valV kvs k) ((atKey xs k).map (·.2)):=by
  induction r with
  | nil=>exact True.intro
  | @cons p q ps qs h t ih =>
    obtain ⟨h1,_,h2⟩:=h
    by_cases e:p.1=k
    · have e':q.1=k:=h1.symm.trans e
      have b:atKey (q :: qs) k=some q.2:=by simp [atKey,List.find?_cons,e']
      rw [valV_pos e,b];exact h2
    · have e':¬ q.1=k:=fun z=>e (h1.trans z)
      have b:atKey (q :: qs) k=atKey qs k:=by simp [atKey,List.find?_cons,e']
      rw [valV_neg e,b];exact ih
theorem KT.repl {H:Hp} {kvs:List (List Key × V)} {xs:List (List Key × Addr × Value)} (r:KT H kvs xs) (k:List Key) {y:V} {u:Value} (ry:RelV y u) :
    KT H (kvs.map fun kv=>if kv.1=k then (kv.1,y) else kv) (xs.map (putAt k u)):=by
  induction r with
  | nil=>exact .nil
  | @cons p q ps qs h t ih =>
    rw [List.map_cons,List.map_cons]
    refine .cons ?_ ih
    obtain ⟨h1,h2,h3⟩:=h
    unfold putAt
    by_cases e:p.1=k
    · rw [if_pos e,if_pos (h1.symm.trans e)];exact ⟨h1,h2,ry⟩
    · rw [if_neg e,if_neg (fun z=>e (h1.trans z))];exact ⟨h1,h2,h3⟩
theorem KT.put {H:Hp} {kvs:List (List Key × V)} {xs:List (List Key × Addr × Value)} (r:KT H kvs xs) (k:List Key) {b:Addr} {y:V} {u:Value} (hb:H b=some (.tup (k.map kV))) (ry:RelV y u) :
    KT H (putK kvs k y) (storedH xs k b u):=by
  have e:(kvs.any fun kv=>decide (kv.1=k))=(atKey xs k).isSome:=by
    rw [valV_any,(r.val k).isSome_eq,Option.isSome_map]
  unfold putK storedH
  rw [e]
  by_cases q:(atKey xs k).isSome=true
  · rw [if_pos q,if_pos q];exact r.repl k ry
  · rw [if_neg q,if_neg q];exact Paired.snoc r ⟨rfl,hb,ry⟩
theorem KT.keeps {H H':Hp} {kvs:List (List Key × V)} {xs:List (List Key × Addr × Value)} (r:KT H kvs xs) (ht:∀ b ys,H b=some (.tup ys)→H' b=some (.tup ys)):KT H' kvs xs :=
  Paired.mapP r fun _ _ z=>⟨z.1,ht _ _ z.2.1,z.2.2⟩

section
variable {P:Program} {w:World} {H:Hp} {h:Heap} {a:Addr}
theorem rd_of {u:HO} (ok:HOk P w H h) (e:Rd H a u):ObjOk P w H h a u:=e.ok ok
theorem dk_rd {kvs:List (Key × V)} (ok:HOk P w H h) (e:Rd H a (.dK kvs)):kvs.length≤sizeLine∧(a == sysModules)=false∧∃ vs,KV kvs vs∧h.DictOf (mixKind P w) a vs :=
  show ObjOk P w H h a (.dK kvs) from rd_of ok e
theorem dk_of {kvs:List (Key × V)} (ok:HOk P w H h) (e:H a=some (.dK kvs)):kvs.length≤sizeLine∧(a == sysModules)=false∧∃ vs,KV kvs vs∧h.DictOf (mixKind P w) a vs:=dk_rd ok (.inl e)
theorem key_of {ks:List Key} (ok:HOk P w H h) (e:H a=some (.tup (ks.map kV))):(tupleKind (mixKind P w)).is h ks a:=by
  obtain ⟨_,its,r,o,h1,h2,n,h3,_⟩:=(show ObjOk P w H h a (.tup (ks.map kV)) from ok a _ e)
  exact ⟨o,its.toArray,n,h1,h2,h3,by simpa using items_are r⟩
theorem dt_rd {kvs:List (List Key × V)} (ok:HOk P w H h) (e:Rd H a (.dT kvs)):kvs.length≤sizeLine∧(a == sysModules)=false ∧
    ∃ xs,KT H kvs xs∧h.DictOfH (tupleKind (mixKind P w)) a xs:=by
  obtain ⟨z,y,xs,r,o,es,ep,h1,h2,h3,h4,h5⟩:=(show ObjOk P w H h a (.dT kvs) from rd_of ok e)
  refine ⟨z,y,xs,r,o,es,ep,h1,h2,h3,h4,fun x hx => ?_,h5⟩
  have all:∀ {l:List (List Key × V)} {m:List (List Key × Addr × Value)},KT H l m→∀ x∈m,(tupleKind (mixKind P w)).is h x.1 x.2.1:=by
    intro l m q
    induction q with
    | nil=>intro x hx;exact nomatch hx
    | @cons p q ps qs hq t ih =>
      intro x hx
      rcases List.mem_cons.mp hx with e | hx
      · subst e
        exact key_of ok (by rw [← hq.1];exact hq.2.1)
      · exact ih x hx
  exact all r x hx
theorem dt_of {kvs:List (List Key × V)} (ok:HOk P w H h) (e:H a=some (.dT kvs)):kvs.length≤sizeLine∧(a == sysModules)=false ∧
    ∃ xs,KT H kvs xs∧h.DictOfH (tupleKind (mixKind P w)) a xs:=dt_rd ok (.inl e)
end

noncomputable def DGet (H:Hp) (a:Addr) (y:V) (r:Option V):Prop :=
  (∃ kvs k,Rd H a (.dK kvs)∧y=kV k∧r=valV kvs k)∨∃ kvs k b,Rd H a (.dT kvs)∧y = .ref b∧H b=some (.tup (k.map kV))∧r=valV kvs k
noncomputable def DPut (H:Hp) (a:Addr) (y v:V) (H':Hp):Prop :=
  (∃ kvs k,H a=some (.dK kvs)∧y=kV k∧kvs.length < sizeLine∧H'=upd H a (.dK (putK kvs k v))) ∨
  ∃ kvs k b,H a=some (.dT kvs)∧y = .ref b∧H b=some (.tup (k.map kV))∧kvs.length < sizeLine∧H'=upd H a (.dT (putK kvs k v))
theorem DGet.k {H:Hp} {a:Addr} {kvs:List (Key × V)} {k:Key} (e:H a=some (.dK kvs)):DGet H a (kV k) (valV kvs k) := .inl ⟨kvs,k,.inl e,rfl,rfl⟩
theorem DPut.k {H:Hp} {a:Addr} {kvs:List (Key × V)} {k:Key} {v:V} (e:H a=some (.dK kvs)) (hl:kvs.length < sizeLine):DPut H a (kV k) v (upd H a (.dK (putK kvs k v))) := .inl ⟨kvs,k,e,rfl,hl,rfl⟩


section
variable {X:Cx} {pins:List (Addr × Obj)} {σ : St} {H:Hp} {s:Shared} {a:Addr} {y v:V} {u r:Value} {o:Option V} {A:Around} {E:Value→Shared→Prop}

theorem Inv.big (I:Inv X pins σ H s):sysModules < s.heap.objs.size:=by
  have h:mainGlobals < s.heap.objs.size:=(I.mod.glob.keeps I.bk).lt
  exact Nat.lt_trans (by decide) h

theorem d_in {Q:Value→Shared→Prop} (hu:A.units+1 < cLine) (I:Inv X pins σ H s) (g:DGet H a y o) (ry:RelV y u) (h:∀ s',Inv X pins σ H s'→Q (.bool o.isSome) s') :
    wpAny (model X.prog X.w) A (compareOp .In u (.ref a)) Q E s:=by
  rcases g with ⟨kvs,k,e,ey,l⟩ | ⟨kvs,k,b,e,ey,eb,l⟩
  · subst ey
    obtain ⟨z,hd,vs,rel,dd⟩:=dk_rd I.hok e
    refine wpAny_in_of (kV_is ry) hd dd.mapOf ?_
    rw [← (rel.val k).isSome_eq, ← l]
    exact h _ (I.tok _)
  · subst ey
    cases (show u=Value.ref b from ry)
    obtain ⟨z,hd,xs,rel,dd⟩:=dt_rd I.hok e
    refine wpAny_in_heap (tupleKind_room_in1 hu) (key_of I.hok eb) hd dd ?_
    have q:=(rel.val k).isSome_eq
    rw [Option.isSome_map] at q
    rw [← q, ← l]
    exact h _ (I.tok _)
theorem d_write {h':Heap} {t':Nat} {ob:HO} (I:Inv X pins σ H s) (mu:Mut (H a)) (hs:Heap.SameBut a s.heap h') (he:∃ q,h'.get? a=some q) (new:ObjOk X.prog X.w (upd H a ob) h' a ob) :
    Inv X pins σ (upd H a ob) { s with heap:=h',toks:=t' } :=
  I.write (x:=a) (e:=a) mu (.inl rfl) (fun b q hb z=>(hs.2 b hb).trans z) he new
theorem dk_new {P:Program} {w:World} {H':Hp} {h':Heap} {kvs:List (Key × V)} {vs:List (Key × Value)} (z:kvs.length≤sizeLine) (hd:(a == sysModules)=false) (rel:KV kvs vs) (dd:h'.DictOf (mixKind P w) a vs) :
    ObjOk P w H' h' a (.dK kvs):=⟨z,hd,vs,rel,dd⟩
theorem d_setItem {H':Hp} {Q:Unit→Shared→Prop} (hu:A.units+1 < cLine) (I:Inv X pins σ H s) (g:DPut H a y v H') (ry:RelV y u) (rv:RelV v r) (h:∀ s',Inv X pins σ H' s'→Q () s') :
    wpAny (model X.prog X.w) A (setItem (.ref a) u r) Q E s:=by
  rcases g with ⟨kvs,k,e,ey,l,eH⟩ | ⟨kvs,k,b,e,ey,eb,l,eH⟩
  · subst ey eH
    obtain ⟨z,hd,vs,rel,dd⟩:=dk_of I.hok e
    have hz:vs.length≤sizeLine:=by rw [← rel.length];exact z
    have hl:(putK kvs k v).length≤sizeLine:=by have:=length_putK kvs k v;omega
    refine wpAny_setItem_pairs (hsz:=hz) (kV_is ry) dd fun h' dd' hs=>h _ ?_
    have he:∃ q,h'.get? a=some q:=let ⟨q,_,_,hq,_⟩:=dd'; ⟨q,hq⟩
    exact d_write I (by rw [e];exact True.intro) hs he (dk_new hl hd (rel.put k rv) dd')
  · subst ey eH
    cases (show u=Value.ref b from ry)
    obtain ⟨z,hd,xs,rel,dd⟩:=dt_of I.hok e
    have hz:xs.length≤sizeLine:=by rw [← Paired.length rel];exact z
    have hl:(putK kvs k v).length≤sizeLine:=by have:=length_putK kvs k v;omega
    refine wpAny_setItem_heap (hsz:=hz) (tupleKind_room_in1 hu) (key_of I.hok eb) dd fun h' dd' hs=>h _ ?_
    obtain ⟨q,es,ep,hq,h2,h3,h4,_,h5⟩:=dd'
    refine d_write I (by rw [e];exact True.intro) hs ⟨q,hq⟩ ⟨hl,hd,_,(rel.put k eb rv).keeps fun c ys ec => ?_,q,es,ep,hq,h2,h3,h4,h5⟩
    rw [upd_ne (ne_of ec e (fun z=>nomatch z))]
    exact ec
end

section
variable {X:Cx} {pins:List (Addr × Obj)} {σ : St} {H:Hp} {s:Shared} {a:Addr} {kvs:List (Key × V)} {k:Key} {u:Value} {A:Around} {E:Value→Shared→Prop}
end




inductive J_tDIn (Q:VK) (y:V) (x:V) (H2:Hp):Prop
  | mk:∀ a o,(x = .ref a)→(DGet H2 a y o)→(Q (.bl o.isSome) H2)→J_tDIn Q y x H2
noncomputable def tDIn (ty td:TE):TE:=fun σ H Q=>ty σ H fun y H1=>td σ H1 fun x H2=>J_tDIn Q y x H2
inductive J_sDPut (D:Ends) (σ : St) (v:V) (x:V) (y:V) (H3:Hp):Prop
  | mk:∀ a H4,(x = .ref a)→(DPut H3 a y v H4)→(D.nx σ H4)→J_sDPut D σ v x y H3
noncomputable def sDPut (td ty tv:TE):TS:=fun D σ H=>tv σ H fun v H1=>td σ H1 fun x H2=>ty σ H2 fun y H3=>J_sDPut D σ v x y H3

section
variable {X:Cx} {o i e value:Expr} {pos pos' tpos:Pos} {td ty tv:TE}
theorem pc_din (hu:X.A.units+1 < cLine) (hi:PE X i ty) (ho:PE X o td):PC X .In i o (tDIn ty td):=by
  intro pins s σ H Q I h
  refine thn (hi pins s σ H _ I h) fun iv s1 ⟨y,H1,I1,ry,q1⟩=>thn (ho pins s1 σ H1 _ I1 q1) fun u s2 ⟨x,H2,I2,rx,a,ov,ex,g,q2⟩ => ?_
  subst ex
  obtain rfl:u=Value.ref a:=rx
  exact d_in hu I2 g ry fun s3 I3=>⟨.bl ov.isSome,H2,I3,rfl,q2⟩
theorem ps_dput (hu:X.A.units+1 < cLine) (ho:PE X o td) (hi:PE X i ty) (hv:PE X value tv) (hs:swapsWith value (some (.Subscript o i pos')) pos.line X.env=pure false) :
    PS X (.Assign [.Subscript o i pos'] value pos) (sDPut td ty tv):=by
  intro pins s σ H D I h
  refine wpAny_Assign_Subscript (thn (hv pins s σ H _ I h) fun r s1 ⟨v,H1,I1,rv,q1⟩=>thn (ho pins s1 σ H1 _ I1 q1) fun u s2 ⟨x,H2,I2,rx,q2⟩=>thn (hi pins s2 σ H2 _ I2 q2) fun iv s3 ⟨y,H3,I3,ry,a,H4,ex,g,q3⟩ => ?_) hs
  subst ex
  obtain rfl:u=Value.ref a:=rx
  exact d_setItem hu I3 g ry rv fun s4 I4=>⟨σ,H4,I4,q3⟩
end


theorem dk_empty {P:Program} {w:World} {H:Hp} (h:Heap) (hb:sysModules < h.objs.size):ObjOk P w H (h.push { cls := .type "dict",data := .dict #[] }) h.objs.size (.dK []) :=
  ⟨Nat.zero_le _,beq_eq_false_iff_ne.mpr (Ne.symm (Nat.ne_of_lt hb)), [],.nil,Heap.DictOf.new h⟩
noncomputable def tDNewK:TE:=fun _ H Q=>∀ p,H p=none→Q (.ref p) (upd H p (.dK []))
section
variable {X:Cx} {pos:Pos}
theorem pe_dnewK:PE X (.Dict [] [] pos) tDNewK:=fun pins s σ H Q I h =>
  wpAny_Dict_empty ⟨.ref s.heap.objs.size,_,I.laid (a:=s.heap.objs.size) (o := .dK []) (t':=s.toks) (fun _ _ q=>Heap.get?_push_of_some _ q) (Nat.le_refl _) (dk_empty s.heap I.big),rfl,h _ (I.hok.fresh (Nat.le_refl _))⟩
end






section
variable {X:Cx} {pins:List (Addr × Obj)} {σ : St} {H:Hp} {s:Shared} {a:Addr} {y d:V} {u r:Value} {o:Option V} {A:Around} {E:Value→Shared→Prop}
end

section
variable {X:Cx} {o e f:Expr} {apos cpos:Pos} {td ty tx:TE}
end

section
variable {X:Cx} {pins:List (Addr × Obj)} {σ : St} {H:Hp} {s:Shared} {a:Addr} {kvs:List (Key × V)} {A:Around} {E:Value→Shared→Prop}
end


section
variable {X:Cx} {pins:List (Addr × Obj)} {σ : St} {H:Hp} {s:Shared} {a:Addr} {y:V} {u:Value} {A:Around} {E:Value→Shared→Prop}
end
end L2
namespace L2
open PySem PySem.Spec PyProof.Rows

section
variable (P:Program) (w:World)
end
section
variable {P:Program} {w:World} {h h':Heap}
end
section
variable {P:Program} {w:World} {A:Around} {E:Value→Shared→Prop} {s:Shared}
end

section
variable {prog:Program} {w:World} {K:Type} [DecidableEq K] {knd:HeapKind prog w K} {A:Around} {E:Value→Shared→Prop} {s:Shared} {d a:Addr} {k:K} {xs:List (K × Addr × Value)}
end
section
variable {prog:Program} {w:World} {K:Type} [DecidableEq K] (knd:HeapKind prog w K) (d a:Addr)
end
end L2
namespace L2
open PySem PySem.Spec PyProof.Rows

section
variable {X:Cx} {scope:Scope} {own:List Str} {caps:List (Str × Nat)} {pins:List (Addr × Obj)} {σ : St} {H:Hp} {s:Shared} {fp:List Addr}
theorem comp_goI {prog:Program} {w:World} {A:Around} {R:Result→Shared→Prop} {elt target iter tst:Expr} {pos:Pos} {it acc:Value} {env:Env} (Iv:Nat→Shared→Prop)
    (turn:∀ n s,Iv n s→wpAny (model prog w) A (pyNext it) (fun r s₁ => match r with
      | none=>R (.ok .next) s₁
      | some v=>wpAny (model prog w) A (letOwnedTupleGo target it v) (fun _ s₂ => wpAny (model prog w) A (assign target env v) (fun _ s₃ => wpAny (model prog w) A (isTrue tst env (eval tst env)) (fun ok s₆ => if ok=true then wpAny (model prog w) A (eval elt env) (fun x s₄ =>
              wpAny (model prog w) A (call (.builtin "list.append") [acc,x]) (fun _ s₅ => ∃ m,m < n∧Iv m s₅) (fun _ _=>False) s₄) (fun _ _=>False) s₆ else ∃ m,m < n∧Iv m s₆) (fun _ _=>False) s₃) (fun _ _=>False) s₂) (fun _ _=>False) s₁) (fun _ _=>False) s)
    (n:Nat) (h:Iv n s):codeAny (model prog w) A (.compLoop (.ListComp elt [⟨target,iter, [tst],0⟩] scope pos) 0 it acc env) R s:=by
  refine codeAny_loop rfl Iv (fun n s hI => ?_) n h
  show wpAny _ A ((compTurn (.ListComp elt [⟨target,iter, [tst],0⟩] scope pos) 0 it acc env).onRaise (fun x=>do noteFrame x env;theTreesLotGoes x)) _ _ s
  refine wpAny_noted ?_
  rw [compTurn_list]
  refine wpAny_bind (wpAny_standAt (wpAny_bind (wpAny_mono (turn n s hI) (fun r s₁ h₁ => ?_) fun _ _ z=>z.elim)))
  cases r with
  | none=>exact wpAny_pure h₁
  | some v =>
    refine wpAny_bind (wpAny_mono h₁ (fun _ s₂ h₂ => wpAny_bind (wpAny_mono h₂ (fun _ s₃ h₃ => wpAny_bind (wpAny_tests_one (wpAny_mono h₃ (fun ok s₆ h₆ => ?_) fun _ _ z=>z.elim))) fun _ _ z=>z.elim)) fun _ _ z=>z.elim)
    cases ok with
    | true =>
      have h₆':=(if_pos rfl:(if true=true then _ else _)=_) ▸ h₆
      exact wpAny_bind (wpAny_bind (wpAny_mono h₆' (fun x s₄ h₄ => wpAny_bind (wpAny_mono h₄ (fun _ s₅ h₅ => wpAny_pure (wpAny_pure ⟨rfl,h₅⟩)) fun _ _ z=>z.elim)) fun _ _ z=>z.elim))
    | false =>
      have h₆':∃ m,m < n∧Iv m s₆ := h₆
      exact wpAny_bind (wpAny_pure (wpAny_pure ⟨rfl,h₆'⟩))

noncomputable def CompBodyI (J:It) (g:TG) (ct:TT) (te:TE) (τ0:St) (H1:Hp) (Q:VK):Prop := ∀ D,H1 D=none→∃ W:Nat→Nat→St→List V→Hp→Prop,
  (∃ m,W 0 m τ0 [] (upd H1 D (.lst []))) ∧
  ∀ i m τ ys H,W i m τ ys H→H D=some (.lst ys)∧((J.stop i H∧Q (.ref D) H)∨(J.go i H∧ys.length < sizeLine∧∀ x H',J.yld i H x H'→g x τ H' fun τ2 H2=>ct τ2 H2 fun b H4=>if b=true then te τ2 H4 fun y H3 =>
    H3 D=some (.lst ys)∧∃ m',m' < m∧W (i+1) m' τ2 (ys ++ [y]) (upd H3 D (.lst (ys ++ [y]))) else ∃ m',m' < m∧W (i+1) m' τ2 ys H4))
noncomputable def tCompI (wi:TI) (g:TG) (ct:TT) (te:TE) (k:Nat) (caps:List (Str × Nat)):TE:=fun σ H Q=>wi σ H fun J H1=>CompBodyI J g ct te (List.replicate k none ++ capt σ caps) H1 Q

theorem comp_coreI {tg elt iter tst:Expr} {wi:TI} {g:TG} {ct:TT} {te:TE} {pos p2:Pos} {use:Option (Value→Sem Unit)} {Q:VK} {Q':Value→Shared→Prop} (S:CompScope X scope own caps) (hi:PI X tg iter wi) (hc:X.calm=true)
    (hg:∀ fp s H,PG (cxComp X scope (own ++ caps.map (·.1)) fp s H) tg g) (hct:∀ fp s H,PT (cxComp X scope (own ++ caps.map (·.1)) fp s H) tst ct) (he:∀ fp s H,PE (cxComp X scope (own ++ caps.map (·.1)) fp s H) elt te)
    (I:Inv X pins σ H s) (h:tCompI wi g ct te own.length caps σ H Q)
    (fin:∀ D C H5 s5,Inv X pins σ H5 s5→Q (.ref D) H5→(∃ m,s5.heap.Ns C m)→H5 C=none→C≠X.env.locals→X.s₀.heap.objs.size≤C→(∀ x c,X.env.cells.lookup x=some c→c≠C)→(∀ p∈X.pn ++ pins,p.1≠C) →
      compPost (model X.prog X.w) X.A X.xe use Q' (.ref D) C (.ok .next) s5)
    (hs:∀ x,foldedSetIterable iter X.env x=pure x:=by intro _;rfl) :
    wpAny (model X.prog X.w) X.A (comprehension (.ListComp elt [⟨tg,iter, [tst],0⟩] scope pos) scope X.env p2 (newList []) false (eval iter X.env) use) Q' X.xe s:=by
  have hclos:closureFor scope X.env=pure (capsOf X.env.cells scope.names []):=closure_caps fun y hy hk=>I.ok.has y.1 (.inl (S.frees y hy hk))
  refine wpAny_comprehension_free (g:=⟨tg,iter, [tst],0⟩) (gs := []) rfl hs hclos S.kind S.locs (thn (hi pins s σ H _ I h) fun v s1 h1=>thn h1 fun itv s2 h2 => ?_)
  obtain ⟨it,fp,tn,J,H2,e,I2,T,st2,f2,R⟩:=h2
  subst e
  refine wpAny_newObj_type (wpAny_newFunctionEnv S.nocell (by intro y hy;simp at hy) (fun h₁ hns₁ hsb₁ => ?_) S.kind)
  have fr2:H2 s2.heap.objs.size=none:=I2.hok.fresh (Nat.le_refl _)
  obtain ⟨W,⟨m0,w0⟩,turn⟩:=R s2.heap.objs.size fr2
  have I3:Inv X pins σ (upd H2 s2.heap.objs.size (.lst [])) { s2 with heap:=s2.heap.push { cls := .type "list",dict:=none,data := .seq ([]:List Value).toArray } }:=I2.lnew (its := []) (t':=s2.toks) .nil (Nat.zero_le _)
  have lt2:∀ b∈fp,b < s2.heap.objs.size:=fun b hb=>by
    obtain ⟨o,ho,_⟩:=T.obj _ _ st2 b hb
    exact Heap.lt_size ho
  have f3:∀ b∈fp,FpOk X pins (upd H2 s2.heap.objs.size (.lst [])) b:=fun b hb=>⟨by rw [upd_ne (Nat.ne_of_lt (lt2 b hb))];exact (f2 b hb).1,(f2 b hb).2⟩
  generalize hs3:({ s2 with heap:=s2.heap.push { cls := .type "list",dict:=none,data := .seq ([]:List Value).toArray } }:Shared)=s3 at I3
  have hz3:s3.heap.objs.size=s2.heap.objs.size+1:=by rw [← hs3];exact Heap.size_push _ _
  have kp23:∀ b o,s2.heap.get? b=some o→s3.heap.get? b=some o:=fun b o e=>by rw [← hs3];exact Heap.get?_push_of_some _ e
  have lt3:∀ b∈fp,b < s3.heap.objs.size:=fun b hb=>by rw [hz3];exact Nat.lt_succ_of_lt (lt2 b hb)
  have hns₁':h₁.Ns s3.heap.objs.size (fun x=>([]:List (Str × Value)).reverse.lookup x):=by rw [← hs3];exact hns₁
  have kp31:∀ b o,s3.heap.get? b=some o→h₁.get? b=some o:=fun b o e=>by
    have hb:b≠s3.heap.objs.size:=Nat.ne_of_lt (Heap.lt_size e)
    rw [← hs3] at e hb
    exact hsb₁.extBut b o hb (Heap.get?_push_of_some _ e)
  have J1:=comp_start S I3 f3 lt3 (t:=s2.toks+([]:List (Str × Value)).length) hns₁' kp31
  have st1:tn 0 h₁ := T.keep _ _ _ st2 fun b hb o e=>kp31 b o (kp23 b o e)
  -- the loop
  have loop:∀ s₃ : Shared,s₃ = { s3 with heap:=h₁,toks:=s2.toks+([]:List (Str × Value)).length } →
      codeAny (model X.prog X.w) X.A (.compLoop (.ListComp elt [⟨tg,iter, [tst],0⟩] scope pos) 0 (.ref it) (.ref s2.heap.objs.size) (cxComp X scope (own ++ caps.map (·.1)) fp s3 (upd H2 s2.heap.objs.size (.lst []))).env)
        (compPost (model X.prog X.w) X.A X.xe use Q' (.ref s2.heap.objs.size) s3.heap.objs.size) s₃ := by
    rintro s₃ rfl
    refine comp_goI (fun n s'=>∃ i τ ys H',Inv (cxComp X scope (own ++ caps.map (·.1)) fp s3 (upd H2 s2.heap.objs.size (.lst []))) [] τ H' s'∧tn i s'.heap∧(∀ b∈fp,H' b=none)∧W i n τ ys H') ?_ m0
      ⟨0,_, [],_,J1,st1,fun b hb=>(f3 b hb).1,w0⟩
    rintro n s' ⟨i, τ,ys,H',J',st',fr',w'⟩
    have fY:∀ {H'':Hp},(∀ b∈fp,H'' b=none)→∀ b∈fp,FpOk (cxComp X scope (own ++ caps.map (·.1)) fp s3 (upd H2 s2.heap.objs.size (.lst []))) [] H'' b:=fun hn b hb =>
      ⟨hn b hb,Nat.ne_of_lt (lt3 b hb),fun z=>by
          rcases List.mem_cons.mp (I3.stkSub b z) with e | e
          · exact (f3 b hb).2.1 e
          · exact (f3 b hb).2.2.1 e,.inl hb,fun x c e=>(f3 b hb).2.2.2.2.1 x c (caps_cells e),(fun p hp=>by cases hp)⟩
    obtain ⟨hD,tt⟩:=turn i n τ ys H' w'
    rcases tt with ⟨stop,qn⟩ | ⟨go,hlen,step⟩
    · refine thn (T.done (cxComp X scope (own ++ caps.map (·.1)) fp s3 (upd H2 s2.heap.objs.size (.lst []))) rfl rfl rfl hc i [] s' τ H' (fun _ _=>False) J' (fY fr') st' stop) fun r s4 ⟨hr,J4⟩ => ?_
      subst hr
      obtain ⟨m4,hn4,_⟩:=J4.loc
      have I5:=comp_back I3 J4 f3
      refine fin _ _ _ s4 I5 qn ⟨m4,hn4⟩ J4.free ?_ ?_ (fun x c e z => ?_) fun p hp z => ?_
      · exact Nat.ne_of_gt I3.lt
      · exact I3.sz
      · obtain ⟨v,q⟩:=I3.cell x c e
        rw [z] at q
        exact absurd q.lt (Nat.lt_irrefl _)
      · have q:=(I3.pin p hp).1
        rw [z] at q
        exact absurd (Heap.lt_size q) (Nat.lt_irrefl _)
    · refine thn (T.item (cxComp X scope (own ++ caps.map (·.1)) fp s3 (upd H2 s2.heap.objs.size (.lst []))) rfl rfl rfl hc i [] s' τ H' (fun _ _=>False) J' (fY fr') st' go) fun r s4 ⟨u,hr,h4⟩ => ?_
      subst hr
      refine thn h4 fun _ s5 ⟨x,H5,J5,r5,y5,st5,fr5⟩ => ?_
      have J5':=J5.pinned (fY fr5) (T.obj _ _ st5)
      have keepsT:∀ {τ6:St} {H8:Hp} {s8:Shared},Inv (cxComp X scope (own ++ caps.map (·.1)) fp s3 (upd H2 s2.heap.objs.size (.lst []))) ([] ++ pinsAt fp s5.heap) τ6 H8 s8→tn (i+1) s8.heap∧∀ b∈fp,H8 b=none:=fun {τ6 H8 s8} J8=>by
        refine ⟨T.keep _ _ _ st5 fun b hb o e=>(J8.pin (b,o) (List.mem_append_right _ (List.mem_append_right _ (mem_pinsAt hb e)))).1,fun b hb => ?_⟩
        obtain ⟨o,e,d⟩:=T.obj _ _ st5 b hb
        exact (J8.pin (b,o) (List.mem_append_right _ (List.mem_append_right _ (mem_pinsAt hb e)))).2.1
      refine thn (hg fp s3 _ _ s5 τ H5 x u _ J5' r5 (step x H5 y5)) fun _ s6 ⟨τ6,H6,J6,q6⟩ => ?_
      refine thn (hct fp s3 _ _ s6 τ6 H6 _ J6 q6) fun ok s9 ⟨H9,J9,q9⟩ => ?_
      cases ok with
      | false =>
        obtain ⟨m',hm',w9⟩:=(show ∃ m',m' < n∧W (i+1) m' τ6 ys H9 from q9)
        exact ⟨m',hm',i+1, τ6,ys,_,J9.unpinned,(keepsT J9).1,(keepsT J9).2,w9⟩
      | true =>
        refine thn (he fp s3 _ _ s9 τ6 H9 _ J9 q9) fun yv s7 ⟨y,H7,J7,r7,hD7,m',hm',w7⟩ => ?_
        refine thn (mt_append (X:=cxComp X scope (own ++ caps.map (·.1)) fp s3 (upd H2 s2.heap.objs.size (.lst []))) _ s7 τ6 H7 (.ref s2.heap.objs.size) [y] _ [yv] (fun _ H8=>H8=upd H7 s2.heap.objs.size (.lst (ys ++ [y]))) J7 rfl (.cons r7 .nil) ⟨_,ys,y,rfl,rfl,hD7,hlen,rfl⟩) fun _ s8 ⟨_,H8,J8,_,e8⟩ => ?_
        subst e8
        exact ⟨m',hm',i+1, τ6,ys ++ [y],_,J8.unpinned,(keepsT J8).1,(keepsT J8).2,w7⟩
  have hloop:=loop _ rfl
  subst hs3
  exact codeAny_compStart_list hloop (T.self _ 0 _ _ _ st1 hloop)
theorem pe_compI {tg elt iter tst:Expr} {wi:TI} {g:TG} {ct:TT} {te:TE} {pos:Pos} (S:CompScope X scope own caps) (hi:PI X tg iter wi) (hc:X.calm=true)
    (hg:∀ fp s H,PG (cxComp X scope (own ++ caps.map (·.1)) fp s H) tg g) (hct:∀ fp s H,PT (cxComp X scope (own ++ caps.map (·.1)) fp s H) tst ct) (he:∀ fp s H,PE (cxComp X scope (own ++ caps.map (·.1)) fp s H) elt te)
    (hs:∀ x,foldedSetIterable iter X.env x=pure x:=by intro _;rfl):PE X (.ListComp elt [⟨tg,iter, [tst],0⟩] scope pos) (tCompI wi g ct te own.length caps):=by
  intro pins s σ H Q I h
  rw [eval_ListComp]
  refine comp_coreI (use:=none) (Q:=Q) S hi hc hg hct he I h (fun D C H5 s5 I5 q ⟨m,hn⟩ hC hL hz hcell hpin => ?_) hs
  refine ⟨m,hn,fun h' hs' => ?_⟩
  exact ⟨.ref D,H5,I5.turned (t':=s5.toks) (fun b o hb e=>(hs'.2 b hb).trans e) hC hL (.inr hz) hcell hpin,rfl,q⟩
end
end L2
namespace L2
open PySem PySem.Spec PyProof.Rows

section
variable {P:Program} {w:World} {H:Hp} {h:Heap}
end
section
variable {X:Cx} {pins:List (Addr × Obj)} {σ : St} {H:Hp} {s:Shared} {a b:Addr} {kvs kvs':List (NK × V)} {k:NK} {y v:V} {u r:Value} {A:Around} {E:Value→Shared→Prop}
end
section
variable {X:Cx} {o e f:Expr} {apos cpos:Pos} {td ty tx:TE}
end
end L2
namespace Sw
section
variable {S:Type}
end
end Sw
namespace L2
open PySem PySem.Spec PyProof.Rows

section
variable {X:Cx}
end
theorem un101 {k:Nat} {A:Around} (hr:Room k A):A.units+151 < cLine:=by have:=hr.un;omega
inductive J_op_mul_str0 (x:V) (y:V) (H:Hp) (Q:VK):Prop
  | mk:∀ z n,(x = .str z)→(y = .int n)→(0≤n)→(n≤1000)→(z.length≤1000)→(Q (.str (timesS z n.toNat)) H)→J_op_mul_str0 x y H Q
theorem op_mul_str0 {X:Cx}:OpR X (binaryOp .Mult) (fun x y H Q=>J_op_mul_str0 x y H Q):=by
  intro pins s σ H x y v u Q I rx ry h
  obtain ⟨z,n,rfl,rfl,h1,h2,h3,q⟩:=h
  by_cases h0:n=0
  · subst h0
    obtain ⟨t,rfl⟩:=rx
    obtain ⟨t',rfl⟩:=ry
    exact PySem.P.mul_str_none (by omega) (by omega) ⟨.str (timesS z 0),H,I.tok _,⟨_,rfl⟩,q⟩
  · exact op_mul_str pins s σ H _ _ v u Q I rx ry ⟨z,n,rfl,rfl,by omega,h2,h3,q⟩
end L2
namespace Sw
open PySem L2
theorem rd_cut {t rest:TS} {D:Ends} {σ : St} {H:Hp} (R:St→Hp→Prop) (key:∀ σ' H',R σ' H'→rest D σ' H') (h:∀ {N:St→Hp→Prop},(∀ σ' H',R σ' H'→N σ' H')→t { D with nx:=N } σ H):tSeq t rest D σ H:=h key
end Sw
namespace Sw
open PySem L2

theorem str_ext {x y:Str} (h:x.cps.toList=y.cps.toList):x=y:=by
  cases x;cases y;simp only [Str.mk.injEq];exact Array.toList_inj.mp h
theorem slice_cps (x:Str) (lo hi:Option Int):(Txt.slice x lo hi).cps.toList=(x.cps.toList.drop (HT.sIx x.length 0 lo)).take (HT.sIx x.length x.length hi - HT.sIx x.length 0 lo):=by
  have hx:x.cps.toList.length=x.length:=by simp [Str.length]
  obtain ⟨h1,h2,h3⟩:=slice_bounds lo hi x.length
  have ha:HT.sIx x.length 0 lo≤x.length:=HT.sIx_le _ _ (Nat.zero_le _) _
  have hb:HT.sIx x.length x.length hi≤x.length:=HT.sIx_le _ _ (Nat.le_refl _) _
  have e:Builtin.Str.strSliceIndices lo hi 1 x.length=sliceRange ((HT.sIx x.length 0 lo:Nat):Int) ((HT.sIx x.length x.length hi:Nat):Int) 1:=by
    rw [← h1, ← h2]
    unfold Builtin.Str.strSliceIndices sliceBounds
    rfl
  have e2:((sliceRange ((HT.sIx x.length 0 lo:Nat):Int) ((HT.sIx x.length x.length hi:Nat):Int) 1).filterMap (x.cps[·]?))=(x.cps.toList.drop (HT.sIx x.length 0 lo)).take (HT.sIx x.length x.length hi - HT.sIx x.length 0 lo):=by
    rw [sliceRange_one,pick_run]
  unfold Txt.slice
  rw [e]
  split
  · rename_i hc
    have hl:(sliceRange ((HT.sIx x.length 0 lo:Nat):Int) ((HT.sIx x.length x.length hi:Nat):Int) 1).length=x.length:=by simpa using hc
    rw [sliceRange_one,List.length_map,List.length_range] at hl
    have ea:HT.sIx x.length 0 lo=0∨x.length=0:=by omega
    rcases ea with ea | ea
    · rw [ea,Nat.sub_zero] at hl ⊢
      rw [List.drop_zero,hl, ← hx,List.take_length]
    · have:x.cps.toList = []:=List.length_eq_zero_iff.mp (hx.trans ea)
      rw [this];simp
  · show (_:List Nat).toArray.toList=_
    rw [e2]
theorem app_cps (x y:Str):(x ++ y).cps.toList=x.cps.toList ++ y.cps.toList:=by
  rw [Str.cps_append,Array.toList_append]
theorem len_cps (x:Str):x.length=x.cps.toList.length:=by simp [Str.length]

inductive T where
  | num (n:Int)
  | name (w:Str)
  | any (w:Str)
  | of (w:Str) (ts:List T)
noncomputable def IsW (w:Str):Prop:=1≤w.length∧w.length≤8∧∀ c∈w.cps.toList,97≤c∧c≤122
mutual
noncomputable def T.shown:T→Str
  | .num n=>Str.ofString (toString n)
  | .name w=>w
  | .any w => "?" ++ w
  | .of w ts=>w ++ "(" ++ Str.join ", " (T.showns ts) ++ ")"
noncomputable def T.showns:List T→List Str
  | [] => []
  | t :: ts=>t.shown :: T.showns ts
end
mutual
noncomputable def T.parts:T→Nat
  | .num _=>1
  | .name _=>1
  | .any _=>1
  | .of _ ts=>1+T.partss ts
noncomputable def T.partss:List T→Nat
  | []=>0
  | t :: ts=>t.parts+T.partss ts
end
mutual
noncomputable def T.depth:T→Nat
  | .num _=>1
  | .name _=>1
  | .any _=>1
  | .of _ ts=>1+T.deepest ts
noncomputable def T.deepest:List T→Nat
  | []=>0
  | t :: ts=>max t.depth (T.deepest ts)
end
mutual
noncomputable def T.Ok:T→Prop
  | .num n => -(10 ^ 60) < n∧n < 10 ^ 60
  | .name w=>IsW w
  | .any w=>IsW w
  | .of w ts=>IsW w∧1≤ts.length∧ts.length≤4∧T.Oks ts
noncomputable def T.Oks:List T→Prop
  | []=>True
  | t :: ts=>t.Ok∧T.Oks ts
end
theorem showns_map:∀ ts:List T,T.showns ts=ts.map T.shown
  | []=>rfl
  | t :: ts=>by rw [T.showns,showns_map ts];rfl
theorem partss_sum:∀ ts:List T,T.partss ts=(ts.map T.parts).sum
  | []=>rfl
  | t :: ts=>by rw [T.partss,partss_sum ts];rfl
theorem oks_all:∀ {ts:List T},T.Oks ts↔∀ t∈ts,t.Ok
  | []=>by simp [T.Oks]
  | t :: ts=>by
    rw [T.Oks,oks_all (ts:=ts)]
    simp
theorem deepest_le:∀ {ts:List T} {t:T},t∈ts→t.depth≤T.deepest ts
  | t' :: ts,t,h=>by
    rw [T.deepest]
    rcases List.mem_cons.mp h with rfl | h
    · exact Nat.le_max_left _ _
    · exact Nat.le_trans (deepest_le h) (Nat.le_max_right _ _)
theorem deepest_is:∀ {ts:List T} {M:Nat},(∀ t∈ts,t.depth≤M)→T.deepest ts≤M
  | [],_,_=>Nat.zero_le _
  | t :: ts,M,h=>by
    rw [T.deepest]
    exact Nat.max_le.mpr ⟨h t List.mem_cons_self,deepest_is fun t ht=>h t (List.mem_cons_of_mem _ ht)⟩
theorem depth_pos:∀ t:T,1≤t.depth
  | .num _=>by rw [T.depth];exact Nat.le_refl _
  | .name _=>by rw [T.depth];exact Nat.le_refl _
  | .any _=>by rw [T.depth];exact Nat.le_refl _
  | .of _ ts=>by rw [T.depth];omega
theorem num_len {n:Int} (h1 : -(10 ^ 60) < n) (h2:n < 10 ^ 60):(Str.ofString (toString n)).length≤61:=by
  have hn:n.natAbs < 10 ^ 60:=by omega
  have h:=int_text_length_le10 (a:=n) (k:=60) (by decide) hn
  rw [ofString_length];exact h
theorem num_log {n:Int} (h1 : -(10 ^ 60) < n) (h2:n < 10 ^ 60):n.natAbs.log2 < 1920:=by
  have hn:n.natAbs < 2 ^ 200:=by
    have:(10:Nat) ^ 60≤2 ^ 200:=by decide
    have:n.natAbs < 10 ^ 60:=by omega
    omega
  by_cases h0:n.natAbs=0
  · rw [h0];decide
  · exact Nat.lt_trans ((Nat.log2_lt h0).mpr hn) (by decide)
mutual
theorem shown_len:∀ t:T,t.Ok→t.shown.length+2≤70 * t.parts
  | .num n,h=>by
    rw [T.Ok] at h
    rw [T.shown,T.parts]
    have:=num_len h.1 h.2
    omega
  | .name w,h=>by
    rw [T.Ok] at h
    rw [T.shown,T.parts]
    have:=h.2.1
    omega
  | .any w,h=>by
    rw [T.Ok] at h
    rw [T.shown,T.parts,Str.length_append]
    have:=h.2.1
    have:("?" : Str).length=1:=rfl
    omega
  | .of w ts,h=>by
    rw [T.Ok] at h
    rw [T.shown,T.parts,Str.length_append,Str.length_append,Str.length_append]
    have h1:=h.1.2.1
    have h2:=showns_len ts h.2.2.2
    have h3:=StrLaws.join_length_le ", " (T.showns ts)
    have e1:("(" : Str).length=1:=rfl
    have e2:(")" : Str).length=1:=rfl
    have e3:(", " : Str).length=2:=rfl
    rw [e3] at h3
    omega
theorem showns_len:∀ ts:List T,T.Oks ts→((T.showns ts).map (·.length)).sum+(T.showns ts).length * 2≤70 * T.partss ts
  | [],_=>by simp [T.showns,T.partss]
  | t :: ts,h=>by
    rw [T.Oks] at h
    have h1:=shown_len t h.1
    have h2:=showns_len ts h.2
    rw [T.showns,T.partss,List.map_cons,List.sum_cons,List.length_cons]
    omega
end

mutual
noncomputable def IsTr (H:Hp):T→V→Prop
  | .num n,v=>∃ a,v = .ref a∧H a=some (.tup [.str "num",.int n])
  | .name w,v=>∃ a,v = .ref a∧H a=some (.tup [.str "name",.str w])
  | .any w,v=>∃ a,v = .ref a∧H a=some (.tup [.str "any",.str w])
  | .of w ts,v=>∃ a b vs,v = .ref a∧H a=some (.tup [.str "of",.str w,.ref b])∧H b=some (.tup vs)∧IsTrs H ts vs
noncomputable def IsTrs (H:Hp):List T→List V→Prop
  | [],vs=>vs = []
  | t :: ts,vs=>∃ v r,vs=v :: r∧IsTr H t v∧IsTrs H ts r
end
mutual
theorem tr_keep {H H':Hp} (k:∀ a xs,H a=some (.tup xs)→H' a=some (.tup xs)):∀ {t:T} {v:V},IsTr H t v→IsTr H' t v
  | .num n,v,h=>by
    rw [IsTr] at h ⊢
    obtain ⟨a,e,h⟩:=h
    exact ⟨a,e,k _ _ h⟩
  | .name n,v,h=>by
    rw [IsTr] at h ⊢
    obtain ⟨a,e,h⟩:=h
    exact ⟨a,e,k _ _ h⟩
  | .any n,v,h=>by
    rw [IsTr] at h ⊢
    obtain ⟨a,e,h⟩:=h
    exact ⟨a,e,k _ _ h⟩
  | .of w ts,v,h=>by
    rw [IsTr] at h ⊢
    obtain ⟨a,b,vs,e,h1,h2,h3⟩:=h
    exact ⟨a,b,vs,e,k _ _ h1,k _ _ h2,trs_keep k h3⟩
theorem trs_keep {H H':Hp} (k:∀ a xs,H a=some (.tup xs)→H' a=some (.tup xs)):∀ {ts:List T} {vs:List V},IsTrs H ts vs→IsTrs H' ts vs
  | [],vs,h=>by rw [IsTrs] at h ⊢;exact h
  | t :: ts,vs,h=>by
    rw [IsTrs] at h ⊢
    obtain ⟨v,r,e,h1,h2⟩:=h
    exact ⟨v,r,e,tr_keep k h1,trs_keep k h2⟩
end
theorem tr_same {H H':Hp} (s:Same H H') {t:T} {v:V} (h:IsTr H t v):IsTr H' t v:=tr_keep (fun a xs e=>s _ _ e) h
theorem trs_same {H H':Hp} (s:Same H H') {ts:List T} {vs:List V} (h:IsTrs H ts vs):IsTrs H' ts vs:=trs_keep (fun a xs e=>s _ _ e) h
noncomputable def notTup:HO→Prop
  | .tup _=>False
  | _=>True
theorem keep_put {H:Hp} {p:Addr} {o o':HO} (hp:H p=some o) (hn:notTup o):∀ a xs,H a=some (.tup xs)→upd H p o' a=some (.tup xs):=fun a xs e=>by
  have:a≠p:=fun z=>by
    rw [z,hp] at e
    cases e
    exact hn
  rw [upd_ne this];exact e
theorem trs_len {H:Hp}:∀ {ts:List T} {vs:List V},IsTrs H ts vs→ts.length=vs.length
  | [],vs,h=>by rw [IsTrs] at h;subst h;rfl
  | t :: ts,vs,h=>by
    rw [IsTrs] at h
    obtain ⟨v,r,rfl,_,h2⟩:=h
    rw [List.length_cons,List.length_cons,trs_len h2]
theorem trs_at {H:Hp}:∀ {ts:List T} {vs:List V} {i:Nat} {v:V},IsTrs H ts vs→vs[i]? = some v→∃ t,ts[i]? = some t∧IsTr H t v
  | [],vs,i,v,h,e=>by rw [IsTrs] at h;subst h;simp at e
  | t :: ts,vs,i,v,h,e=>by
    rw [IsTrs] at h
    obtain ⟨v',r,rfl,h1,h2⟩:=h
    cases i with
    | zero=>simp at e;subst e;exact ⟨t,rfl,h1⟩
    | succ i=>simpa using trs_at (i:=i) h2 (by simpa using e)

noncomputable def sg (i:Int):Str:=⟨#[97+i.toNat]⟩
theorem abc_at {i:Int} (h0:0≤i) (h1:i < 26):atI ("abcdefghijklmnopqrstuvwxyz" : Str).cps.toList i=some (97+i.toNat):=by
  have e:((i.toNat:Nat):Int)=i:=by omega
  have hj:i.toNat < 26:=by omega
  rw [← e]
  refine atI_nat ?_
  rw [Int.toNat_natCast]
  generalize i.toNat=j at hj
  revert j
  decide +kernel
end Sw
namespace Sw
open PySem L2

noncomputable def isLet (c:Nat):Bool:=decide (97≤c∧c≤122)
noncomputable def isFig (c:Nat):Bool:=decide (48≤c∧c≤57)
noncomputable def mkS (l:List Nat):Str:=⟨l.toArray⟩
theorem mkS_cps (l:List Nat):(mkS l).cps.toList=l:=rfl
theorem mkS_len (l:List Nat):(mkS l).length=l.length:=by rw [len_cps,mkS_cps]
noncomputable def pWord (l:List Nat):Option (List Nat × List Nat) :=
  if l.takeWhile isLet = []∨8 < (l.takeWhile isLet).length then none else some (l.takeWhile isLet,l.drop (l.takeWhile isLet).length)
noncomputable def pNum (l:List Nat):Option (Int × List Nat) :=
  let neg:=decide (l.head? = some 45)
  let l1:=if neg then l.tail else l
  let f:=l1.takeWhile isFig
  if f = []∨60 < f.length then none
  else if f.head? = some 48∧¬ (neg=false∧f = [48]) then none
  else some (if neg then -((PySem.NumText.digitsVal f:Nat):Int) else ((PySem.NumText.digitsVal f:Nat):Int),l1.drop f.length)
noncomputable def pMore (tree:List Nat→Option (T × List Nat)):Nat→List Nat→Option (List T × List Nat)
  | 0,_=>none
  | n+1,44 :: 32 :: r=>match tree r with
    | some (t,r2)=>(match pMore tree n r2 with
      | some (ts,r3)=>some (t :: ts,r3)
      | none=>none)
    | none=>none
  | _+1,41 :: r=>some ([],r)
  | _+1,_=>none
noncomputable def pArms (tree:List Nat→Option (T × List Nat)) (l:List Nat):Option (List T × List Nat):=match tree l with
  | some (t,r)=>(match pMore tree (r.length+1) r with
    | some (ts,r2)=>if 4 < ts.length+1 then none else some (t :: ts,r2)
    | none=>none)
  | none=>none
noncomputable def pKnot (arms:List Nat→Option (List T × List Nat)) (x:List Nat):List Nat→Option (T × List Nat)
  | 40 :: l2=>(match arms l2 with
    | some (ts,l')=>some (.of (mkS x) ts,l')
    | none=>none)
  | l1=>some (.name (mkS x),l1)
theorem pk_of {arms:List Nat→Option (List T × List Nat)} {x l2:List Nat}:pKnot arms x (40 :: l2)=(match arms l2 with
    | some (ts,l')=>some (.of (mkS x) ts,l')
    | none=>none):=rfl
theorem pk_name {arms:List Nat→Option (List T × List Nat)} {x l1:List Nat} (h:l1.take 1 ≠ [40]):pKnot arms x l1=some (.name (mkS x),l1):=by
  unfold pKnot
  split
  · simp at h
  · rfl
noncomputable def pTree (b:Bool):Nat→List Nat→Option (T × List Nat)
  | 0,_=>none
  | k+1,l=>match l with
    | []=>none
    | c :: r =>
      if c=45∨isFig c=true then (match pNum (c :: r) with
        | some (n,l')=>some (.num n,l')
        | none=>none)
      else if c=63∧b=true then (match pWord r with
        | some (w,l')=>some (.any (mkS w),l')
        | none=>none)
      else match pWord (c :: r) with
        | none=>none
        | some (w,l1)=>pKnot (pArms (pTree b k)) w l1

theorem pt_cons {b:Bool} {k c:Nat} {r:List Nat}:pTree b (k+1) (c :: r)=(if c=45∨isFig c=true then (match pNum (c :: r) with
        | some (n,l')=>some (T.num n,l')
        | none=>none)
      else if c=63∧b=true then (match pWord r with
        | some (w,l')=>some (T.any (mkS w),l')
        | none=>none)
      else match pWord (c :: r) with
        | none=>none
        | some (w,l1)=>pKnot (pArms (pTree b k)) w l1):=rfl

noncomputable def rdr (CR dx:Addr) (tx:Str) (b:Bool) (p:Nat):HO := .ins CR dx [("text",.str tx),("with_holes",.bl b),("place",.int (p:Int))]
noncomputable def KeepBut (r:Addr) (H H':Hp):Prop := ∀ a o,a≠r→H a=some o→H' a=some o
theorem KeepBut.refl {r:Addr} {H:Hp}:KeepBut r H H:=fun _ _ _ h=>h
theorem KeepBut.trans {r:Addr} {H H1 H2:Hp} (x:KeepBut r H H1) (y:KeepBut r H1 H2):KeepBut r H H2:=fun a o n h=>y a o n (x a o n h)
theorem KeepBut.put {r:Addr} {H:Hp} {o:HO}:KeepBut r H (upd H r o):=fun a u n h=>by rw [upd_ne n];exact h
theorem KeepBut.of {r:Addr} {H H':Hp} (s:Same H H'):KeepBut r H H':=fun a u _ h=>s a u h
theorem KeepBut.new {r p:Addr} {H:Hp} {o:HO} (h:H p=none):KeepBut r H (upd H p o):=KeepBut.of (same_new h o)
theorem KeepBut.tups {r:Addr} {H H':Hp} {o:HO} (k:KeepBut r H H') (hr:H r=some o) (hn:notTup o):∀ a xs,H a=some (.tup xs)→H' a=some (.tup xs):=fun a xs e=>k a _ (fun z=>by rw [z,hr] at e;cases e;exact hn) e
theorem slice_cut (x:Str) {p q:Nat} (hp:p≤x.length):Txt.slice x (some (p:Int)) (some (q:Int))=mkS ((x.cps.toList.drop p).take (q - p)):=by
  refine str_ext ?_
  rw [slice_cps,mkS_cps,HT.sIx_nat,HT.sIx_nat,Nat.min_eq_left hp]
  have hl:x.cps.toList.length=x.length:=(len_cps x).symm
  by_cases h:q≤x.length
  · rw [Nat.min_eq_left h]
  · rw [Nat.min_eq_right (by omega),List.take_of_length_le (by rw [List.length_drop];omega),List.take_of_length_le (by rw [List.length_drop];omega)]
theorem upd_id {H:Hp} {r:Addr} {o:HO} (h:H r=some o):upd H r o=H:=by
  funext a
  by_cases e:a=r
  · subst e;rw [upd_same,h]
  · rw [upd_ne e]
theorem tw_le (pr:Nat→Bool):∀ l:List Nat,(l.takeWhile pr).length≤l.length
  | []=>Nat.le_refl _
  | c :: l=>by
    rw [List.takeWhile_cons]
    split
    · simp only [List.length_cons];have:=tw_le pr l;omega
    · simp
theorem tw_at (pr:Nat→Bool):∀ (l:List Nat) (j:Nat),j < (l.takeWhile pr).length→∃ c,l[j]? = some c∧pr c=true
  | [],j,h=>by simp at h
  | c :: l,j,h=>by
    rw [List.takeWhile_cons] at h
    split at h
    · rename_i hc
      cases j with
      | zero=>exact ⟨c,rfl,hc⟩
      | succ j=>exact tw_at pr l j (by simpa using h)
    · simp at h
theorem tw_end (pr:Nat→Bool):∀ (l:List Nat),(l.takeWhile pr).length < l.length→∃ c,l[(l.takeWhile pr).length]? = some c∧pr c=false
  | [],h=>by simp at h
  | c :: l,h=>by
    rw [List.takeWhile_cons] at h ⊢
    by_cases hc:pr c=true
    · rw [if_pos hc] at h ⊢
      exact tw_end pr l (by simpa using h)
    · rw [if_neg hc] at h ⊢
      exact ⟨c,rfl,by simpa using hc⟩
theorem tw_take (pr:Nat→Bool):∀ l:List Nat,l.take (l.takeWhile pr).length=l.takeWhile pr
  | []=>rfl
  | c :: l=>by
    rw [List.takeWhile_cons]
    split
    · rw [List.length_cons,List.take_succ_cons,tw_take pr l]
    · rfl
theorem lets_are (c:Nat):decide (c∈("abcdefghijklmnopqrstuvwxyz" : Str).cps.toList)=isLet c:=by
  by_cases h:c < 128
  · revert h
    revert c
    decide +kernel
  · have h1:isLet c=false:=by unfold isLet;exact decide_eq_false (by omega)
    rw [h1]
    refine decide_eq_false fun hm=>h ?_
    have:∀ d∈("abcdefghijklmnopqrstuvwxyz" : Str).cps.toList,d < 128:=by decide +kernel
    exact this c hm
theorem figs_are (c:Nat):decide (c∈("0123456789" : Str).cps.toList)=isFig c:=by
  by_cases h:c < 128
  · revert h
    revert c
    decide +kernel
  · have h1:isFig c=false:=by unfold isFig;exact decide_eq_false (by omega)
    rw [h1]
    refine decide_eq_false fun hm=>h ?_
    have:∀ d∈("0123456789" : Str).cps.toList,d < 128:=by decide +kernel
    exact this c hm
theorem mkS_empty {l:List Nat} (h:V.str (mkS l)=V.str ""):l = []:=by
  have:=congrArg (fun z:Str=>z.cps.toList) (V.str.inj h)
  exact this
theorem mkS_ne {l:List Nat} (h:¬ V.str (mkS l)=V.str ""):l ≠ []:=fun z=>h (by rw [z];rfl)
theorem mkS_eq {l:List Nat} {x:Str} (h:l=x.cps.toList):mkS l=x:=str_ext h
theorem tw_all (pr:Nat→Bool):∀ (l:List Nat),∀ c∈l.takeWhile pr,pr c=true
  | [],c,h=>by simp at h
  | d :: l,c,h=>by
    rw [List.takeWhile_cons] at h
    split at h
    · rename_i hd
      rcases List.mem_cons.mp h with rfl | h
      · exact hd
      · exact tw_all pr l c h
    · cases h
theorem pm_comma {tree:List Nat→Option (T × List Nat)} {n:Nat} {r:List Nat}:pMore tree (n+1) (44 :: 32 :: r)=(match tree r with
    | some (t,r2)=>(match pMore tree n r2 with
      | some (ts,r3)=>some (t :: ts,r3)
      | none=>none)
    | none=>none):=rfl
theorem pm_close {tree:List Nat→Option (T × List Nat)} {n:Nat} {r:List Nat}:pMore tree (n+1) (41 :: r)=some ([],r):=rfl
theorem pm_none {tree:List Nat→Option (T × List Nat)} {n:Nat} {l:List Nat} (h1:l.take 2 ≠ [44,32]) (h2:l.take 1 ≠ [41]):pMore tree (n+1) l=none:=by
  unfold pMore
  split
  · rename_i h;cases h
  · simp at h1
  · simp at h2
  · rfl
theorem pw_len {l x r:List Nat} (h:pWord l=some (x,r)):r.length≤l.length:=by
  unfold pWord at h
  split at h
  · cases h
  · cases h
    rw [List.length_drop];omega
theorem pw_is {l x r:List Nat} (h:pWord l=some (x,r)):x=l.takeWhile isLet∧r=l.drop x.length∧x.length≤l.length∧x ≠ []∧x.length≤8:=by
  unfold pWord at h
  split at h
  · cases h
  · rename_i hn
    cases h
    exact ⟨rfl,rfl,tw_le _ _,fun z=>hn (.inl z),Nat.le_of_not_lt fun z=>hn (.inr z)⟩
theorem pn_len {l r:List Nat} {n:Int} (h:pNum l=some (n,r)):r.length≤l.length:=by
  unfold pNum at h
  dsimp only at h
  generalize hd:decide (l.head? = some 45)=neg at h
  have hl1:(if neg=true then l.tail else l).length≤l.length:=by cases neg <;> simp
  generalize (if neg=true then l.tail else l)=l1 at h hl1
  by_cases h1:l1.takeWhile isFig = []∨60 < (l1.takeWhile isFig).length
  · rw [if_pos h1] at h;cases h
  · rw [if_neg h1] at h
    by_cases h2:(l1.takeWhile isFig).head? = some 48∧¬ (neg=false∧l1.takeWhile isFig = [48])
    · rw [if_pos h2] at h;cases h
    · rw [if_neg h2] at h
      have e:=(Prod.mk.inj (Option.some.inj h)).2
      rw [← e,List.length_drop]
      omega
theorem pm_len {tree:List Nat→Option (T × List Nat)} (ht:∀ l t r,tree l=some (t,r)→r.length≤l.length):∀ (n:Nat) (l:List Nat) (ts:List T) (r:List Nat),pMore tree n l=some (ts,r)→r.length≤l.length
  | 0,_,_,_,h=>by cases h
  | n+1,l,ts,r,h=>by
    unfold pMore at h
    split at h
    · rename_i z;cases z
    · split at h
      · rename_i t r2 e
        split at h
        · rename_i ts3 r3 e3
          cases h
          have h1:=ht _ _ _ e
          have h2:=pm_len ht _ _ _ _ e3
          simp only [List.length_cons]
          omega
        · cases h
      · cases h
    · cases h
      simp
    · cases h
theorem pa_len {tree:List Nat→Option (T × List Nat)} (ht:∀ l t r,tree l=some (t,r)→r.length≤l.length) {l:List Nat} {ts:List T} {r:List Nat} (h:pArms tree l=some (ts,r)):r.length≤l.length:=by
  unfold pArms at h
  split at h
  · rename_i t r1 e
    split at h
    · rename_i ts2 r2 e2
      split at h
      · cases h
      · cases h
        exact Nat.le_trans (pm_len ht _ _ _ _ e2) (ht _ _ _ e)
    · cases h
  · cases h
theorem pt_len (b:Bool):∀ (k:Nat) (l:List Nat) (t:T) (r:List Nat),pTree b k l=some (t,r)→r.length≤l.length
  | 0,_,_,_,h=>by cases h
  | k+1,l,t,r,h=>by
    unfold pTree at h
    split at h
    · cases h
    · rename_i c l0
      split at h
      · split at h
        · rename_i n l' e
          cases h
          exact pn_len e
        · cases h
      · split at h
        · split at h
          · rename_i x l' e
            cases h
            have:=pw_len e
            simp only [List.length_cons]
            omega
          · cases h
        · split at h
          · cases h
          · rename_i x l1 e
            have h1:=pw_len e
            unfold pKnot at h
            split at h
            · rename_i l2
              split at h
              · rename_i ts l' e2
                cases h
                have h2:=pa_len (pt_len b k) e2
                simp only [List.length_cons] at h1 ⊢
                omega
              · cases h
            · cases h
              exact h1
theorem take1 {l:List Nat} {c:Nat} (h:l.take 1 = [c]):∃ r,l=c :: r:=by
  cases l with
  | nil=>simp at h
  | cons d r=>simp at h;exact ⟨r,by rw [h]⟩
theorem take2 {l:List Nat} {c d:Nat} (h:l.take 2 = [c,d]):∃ r,l=c :: d :: r:=by
  cases l with
  | nil=>simp at h
  | cons a r =>
    cases r with
    | nil=>simp at h
    | cons e r=>simp at h;exact ⟨r,by rw [h.1,h.2]⟩
theorem trs_snoc {H:Hp} {t:T} {v:V}:∀ {ts:List T} {vs:List V},IsTrs H ts vs→IsTr H t v→IsTrs H (ts ++ [t]) (vs ++ [v])
  | [],vs,h,q=>by
    rw [IsTrs] at h
    subst h
    rw [List.nil_append,List.nil_append,IsTrs]
    exact ⟨v, [],rfl,q,by rw [IsTrs]⟩
  | t' :: ts,vs,h,q=>by
    rw [IsTrs] at h
    obtain ⟨v',r,rfl,h1,h2⟩:=h
    rw [List.cons_append,List.cons_append,IsTrs]
    exact ⟨v',r ++ [v],rfl,h1,trs_snoc h2 q⟩
end Sw
namespace Sw
open PySem L2 PySem.NumText

noncomputable def nt (n:Int):List Nat:=(Str.ofString (toString n)).cps.toList
noncomputable def dg (m:Nat):List Nat:=(Nat.toDigits 10 m).map Char.toNat
theorem nt_pos (m:Nat):nt (m:Int)=dg m:=PySem.W.KIN.signs_num m
theorem nt_neg (m:Nat) (h:1≤m):nt (-(m:Int))=45 :: dg m:=by
  obtain ⟨k,rfl⟩:∃ k,m=k+1:=⟨m - 1,by omega⟩
  have e : -(((k+1:Nat)):Int)=Int.negSucc k:=rfl
  unfold nt dg
  rw [e,PyProof.Rows.signs_ofString]
  show ("-" ++ Nat.repr (k+1)).toList.map Char.toNat=_
  rw [String.toList_append,List.map_append,Nat.toList_repr]
  rfl
theorem dg_digits (m:Nat):AllDigits (dg m):=by
  intro c hc
  obtain ⟨ch,hch,e⟩:=List.mem_map.mp hc
  have r:=PyProof.Rows.digit_range (Nat.isDigit_of_mem_toDigits (by decide) (by decide) hch)
  rw [← e]
  exact r
theorem dg_ne (m:Nat):dg m ≠ []:=by
  unfold dg
  intro e
  have h:=Nat.length_toDigits_pos (b:=10) (n:=m)
  rw [List.map_eq_nil_iff.mp e] at h
  exact absurd h (by decide)
theorem dg_val (m:Nat):digitsVal (dg m)=m:=PySem.W.KIN.val_back m
theorem map_back {cs:List Nat} (h:AllDigits cs):(cs.map Char.ofNat).map Char.toNat=cs:=by
  induction cs with
  | nil=>rfl
  | cons c cs ih =>
    have hc:=h.head
    rw [List.map_cons,List.map_cons,ih h.tail]
    have:(Char.ofNat c).toNat=c:=by
      have:∀ d,d < 128→(Char.ofNat d).toNat=d:=by decide +kernel
      exact this c (by omega)
    rw [this]
theorem dg_of {cs:List Nat} (h:AllDigits cs) (hne:cs ≠ []) (hh:cs.length=1∨∃ c r,cs=c :: r∧49≤c):dg (digitsVal cs)=cs:=by
  unfold dg
  have hl:cs.length=(cs.length - 1)+1:=by
    cases cs with
    | nil=>exact absurd rfl hne
    | cons c r=>simp
  rw [toDigits_digitsVal (cs.length - 1) cs hl h (hh.imp (fun z=>by omega) id),map_back h]
theorem dg_head (m:Nat) (h:(dg m).head? = some 48):dg m = [48]:=by
  have ha:=toDigits_all (dg m) (dg_digits m)
  rw [dg_val] at ha
  have hl:(Nat.toDigits 10 m).length=(dg m).length:=by unfold dg;rw [List.length_map]
  cases e:dg m with
  | nil=>exact absurd e (dg_ne m)
  | cons c r =>
    rw [e] at h ha hl
    cases h
    rw [List.dropWhile_cons] at ha
    simp only [beq_self_eq_true,if_true] at ha
    have hd:=PySem.NumText.len_dropWhile (· == 48) r
    cases e2:r.dropWhile (· == 48) with
    | nil =>
      rw [e2] at ha
      rw [ha] at hl
      simp only [List.length_cons,List.length_nil] at hl
      have:r = []:=List.length_eq_zero_iff.mp (by omega)
      rw [this]
    | cons d r2 =>
      rw [e2] at ha hd
      rw [ha,List.length_map] at hl
      simp only [List.length_cons] at hl hd
      omega
theorem dv_lt:∀ (cs:List Nat) (a:Nat),AllDigits cs→cs.foldl (fun acc c=>acc * 10+(c - 48)) a < (a+1) * 10 ^ cs.length
  | [],a,_=>by simp
  | c :: cs,a,h=>by
    have hc:=h.head
    have ih:=dv_lt cs (a * 10+(c - 48)) h.tail
    show cs.foldl _ (a * 10+(c - 48)) < _
    refine Nat.lt_of_lt_of_le ih ?_
    rw [List.length_cons,Nat.pow_succ,Nat.mul_comm (10 ^ cs.length) 10, ← Nat.mul_assoc]
    exact Nat.mul_le_mul_right _ (by omega)
theorem dg_len {m:Nat} (h:m < 10 ^ 60):(dg m).length≤60:=by
  by_cases h0:m=0
  · subst h0;decide
  · have hl:=num_len (n := -(m:Int)) (by omega) (by omega)
    have e:(Str.ofString (toString (-(m:Int)))).length=(nt (-(m:Int))).length:=len_cps _
    rw [e,nt_neg m (by omega),List.length_cons] at hl
    omega
noncomputable def Stop (r:List Nat):Prop := ∀ c,r.head? = some c→c=44∨c=41
theorem tw_app {pr:Nat→Bool}:∀ {a r:List Nat},(∀ c∈a,pr c=true)→(∀ c,r.head? = some c→pr c=false)→(a ++ r).takeWhile pr=a
  | [],r,_,h=>by
    cases r with
    | nil=>rfl
    | cons c r=>rw [List.nil_append,List.takeWhile_cons,h c rfl];rfl
  | c :: a,r,ha,h=>by
    rw [List.cons_append,List.takeWhile_cons,ha c List.mem_cons_self,if_pos rfl,tw_app (fun d hd=>ha d (List.mem_cons_of_mem _ hd)) h]
theorem fig_of {c:Nat} (h:48≤c∧c≤57):isFig c=true:=decide_eq_true h
theorem stop_fig {r:List Nat} (h:Stop r):∀ c,r.head? = some c→isFig c=false:=fun c hc=>by
  rcases h c hc with rfl | rfl <;> rfl
theorem stop_let {r:List Nat} (h:Stop r):∀ c,r.head? = some c→isLet c=false:=fun c hc=>by
  rcases h c hc with rfl | rfl <;> rfl
theorem pn_done {n:Int} (h1 : -(10 ^ 60) < n) (h2:n < 10 ^ 60) {r:List Nat} (hr:Stop r):pNum (nt n ++ r)=some (n,r):=by
  have key:∀ m:Nat,m < 10 ^ 60→(dg m ++ r).takeWhile isFig=dg m:=fun m hm=>tw_app (fun c hc=>fig_of (dg_digits m c hc)) (stop_fig hr)
  by_cases hn:0≤n
  · obtain ⟨m,rfl⟩:=Int.eq_ofNat_of_zero_le hn
    have hm:m < 10 ^ 60:=by omega
    rw [nt_pos]
    have hh:(dg m ++ r).head? ≠ some 45:=fun z=>by
      cases e:dg m with
      | nil=>exact dg_ne m e
      | cons c l =>
        rw [e] at z
        cases z
        have:=dg_digits m 45 (by rw [e];exact List.mem_cons_self)
        omega
    unfold pNum
    rw [decide_eq_false hh]
    simp only [Bool.false_eq_true,if_false,key m hm]
    rw [if_neg (fun z=>z.elim (dg_ne m) (by have:=dg_len hm;omega)),if_neg (fun z=>z.2 ⟨trivial,dg_head m z.1⟩),dg_val,List.drop_left]
  · obtain ⟨m,rfl,hm1⟩:∃ m:Nat,n = -(m:Int)∧1≤m:=⟨n.natAbs,by omega,by omega⟩
    have hm:m < 10 ^ 60:=by omega
    rw [nt_neg m hm1]
    unfold pNum
    simp only [List.cons_append,List.head?_cons,List.tail_cons,decide_true,if_true,key m hm]
    rw [if_neg (fun z=>z.elim (dg_ne m) (by have:=dg_len hm;omega)),if_neg (fun z => ?_),dg_val,List.drop_left]
    have e:=dg_head m z.1
    have e2:=dg_val m
    rw [e] at e2
    have:digitsVal [48]=0:=rfl
    omega
theorem pn_sound {l r:List Nat} {n:Int} (h:pNum l=some (n,r)):l=nt n ++ r ∧ -(10 ^ 60) < n∧n < 10 ^ 60:=by
  unfold pNum at h
  dsimp only at h
  generalize hd:decide (l.head? = some 45)=neg at h
  generalize hl1:(if neg=true then l.tail else l)=l1 at h
  by_cases h1:l1.takeWhile isFig = []∨60 < (l1.takeWhile isFig).length
  · rw [if_pos h1] at h;cases h
  rw [if_neg h1] at h
  by_cases h2:(l1.takeWhile isFig).head? = some 48∧¬ (neg=false∧l1.takeWhile isFig = [48])
  · rw [if_pos h2] at h;cases h
  rw [if_neg h2] at h
  have hF:AllDigits (l1.takeWhile isFig):=fun c hc=>by
    have:=tw_all _ _ c hc
    unfold isFig at this
    exact of_decide_eq_true this
  have e1:l1=l1.takeWhile isFig ++ l1.drop (l1.takeWhile isFig).length:=by
    have:=List.take_append_drop (l1.takeWhile isFig).length l1
    rw [tw_take] at this
    exact this.symm
  generalize l1.takeWhile isFig=F at h h1 h2 hF e1
  generalize l1.drop F.length=R at h e1
  have hne:F ≠ []:=fun z=>h1 (.inl z)
  have h60:F.length≤60:=Nat.le_of_not_lt fun z=>h1 (.inr z)
  have hlt:digitsVal F < 10 ^ 60:=by
    have:=dv_lt F 0 hF
    have h10:(10:Nat) ^ F.length≤10 ^ 60:=Nat.pow_le_pow_right (by decide) h60
    unfold digitsVal
    omega
  have hdg:dg (digitsVal F)=F:=by
    refine dg_of hF hne ?_
    cases F with
    | nil=>exact absurd rfl hne
    | cons c F' =>
      by_cases hc:c=48
      · subst hc
        have:neg=false∧48 :: F' = [48]:=Classical.byContradiction fun z=>h2 ⟨rfl,z⟩
        exact .inl (by rw [this.2];rfl)
      · have:=hF.head
        exact .inr ⟨c,F',rfl,by omega⟩
  cases neg with
  | false =>
    simp only [Bool.false_eq_true,if_false,Option.some.injEq,Prod.mk.injEq] at h hl1
    obtain ⟨rfl,rfl⟩:=h
    subst hl1
    refine ⟨by rw [nt_pos,hdg];exact e1,by omega,by omega⟩
  | true =>
    simp only [if_true,Option.some.injEq,Prod.mk.injEq] at h hl1
    obtain ⟨rfl,rfl⟩:=h
    have hh:=of_decide_eq_true hd
    have hpos:1≤digitsVal F:=by
      cases F with
      | nil=>exact absurd rfl hne
      | cons c F' =>
        by_cases hc:c=48
        · subst hc
          exact absurd ⟨rfl,fun z=>by cases z.1⟩ h2
        · have:=hF.head
          exact digitsVal_pos (by omega)
    refine ⟨?_,by omega,by omega⟩
    rw [nt_neg _ hpos,hdg,List.cons_append]
    cases l with
    | nil=>cases hh
    | cons c l' =>
      cases hh
      rw [List.tail_cons] at hl1
      rw [hl1, ← e1]
theorem let_of {c:Nat} (h:97≤c∧c≤122):isLet c=true:=decide_eq_true h
theorem mkS_back (x:Str):mkS x.cps.toList=x:=mkS_eq rfl
theorem pw_done {x:Str} (hx:IsW x) {r:List Nat} (hr:∀ c,r.head? = some c→isLet c=false):pWord (x.cps.toList ++ r)=some (x.cps.toList,r):=by
  have e:(x.cps.toList ++ r).takeWhile isLet=x.cps.toList:=tw_app (fun c hc=>let_of (hx.2.2 c hc)) hr
  unfold pWord
  rw [e]
  have hl:=len_cps x
  have h1:=hx.1
  have h2:=hx.2.1
  rw [if_neg (fun z=>z.elim (fun z=>by rw [z] at hl;simp at hl;omega) (by omega)),List.drop_left]
theorem pw_sound {l x r:List Nat} (h:pWord l=some (x,r)):l=x ++ r∧IsW (mkS x):=by
  obtain ⟨h1,h2,h3,h4,h5⟩:=pw_is h
  have e:=List.take_append_drop x.length l
  rw [h1,tw_take, ← h1, ← h2] at e
  refine ⟨e.symm,?_,?_,fun c hc => ?_⟩
  · rw [mkS_len]
    cases x with
    | nil=>exact absurd rfl h4
    | cons c x=>simp
  · rw [mkS_len];exact h5
  · rw [mkS_cps,h1] at hc
    have:=tw_all _ _ c hc
    unfold isLet at this
    exact of_decide_eq_true this
noncomputable def more:List T→List Nat
  | [] => []
  | t :: ts=>44 :: 32 :: (t.shown.cps.toList ++ more ts)
theorem join_cps:∀ (t:T) (ts:List T),(Str.join ", " (T.showns (t :: ts))).cps.toList=t.shown.cps.toList ++ more ts
  | t, []=>by
    rw [T.showns,T.showns,Str.join,more,List.append_nil]
  | t,u :: ts=>by
    have ih:=join_cps u ts
    rw [T.showns] at ih
    rw [T.showns,T.showns,Str.join,app_cps,app_cps,ih,more]
    · show (t.shown.cps.toList ++ [44,32]) ++ _=_
      rw [List.append_assoc]
      rfl
    · intro z;cases z
theorem shown_of (x:Str) (t:T) (ts:List T):(T.of x (t :: ts)).shown.cps.toList=x.cps.toList ++ 40 :: (t.shown.cps.toList ++ (more ts ++ [41])):=by
  rw [T.shown,app_cps,app_cps,app_cps,join_cps]
  show ((x.cps.toList ++ [40]) ++ (t.shown.cps.toList ++ more ts)) ++ [41]=_
  simp
theorem shown_any (x:Str):(T.any x).shown.cps.toList=63 :: x.cps.toList:=by
  rw [T.shown,app_cps];rfl
theorem stop_more {ts:List T} {r:List Nat}:Stop (more ts ++ 41 :: r):=by
  cases ts with
  | nil=>intro c hc;cases hc;exact .inr rfl
  | cons t ts=>intro c hc;cases hc;exact .inl rfl
theorem pm_done {tree:List Nat→Option (T × List Nat)}:∀ (ts:List T) (n:Nat) (r:List Nat),(∀ t∈ts,∀ r,Stop r→tree (t.shown.cps.toList ++ r)=some (t,r))→(more ts ++ 41 :: r).length < n→pMore tree n (more ts ++ 41 :: r)=some (ts,r)
  | [],n,r,_,hn=>by
    obtain ⟨n',rfl⟩:∃ n',n=n'+1:=⟨n - 1,by omega⟩
    rfl
  | t :: ts,n,r,h,hn=>by
    obtain ⟨n',rfl⟩:∃ n',n=n'+1:=⟨n - 1,by omega⟩
    have e:more (t :: ts) ++ 41 :: r=44 :: 32 :: (t.shown.cps.toList ++ (more ts ++ 41 :: r)):=by rw [more];simp
    rw [e] at hn ⊢
    simp only [List.length_cons,List.length_append] at hn
    rw [pm_comma,h t List.mem_cons_self _ stop_more]
    dsimp only
    rw [pm_done ts n' r (fun u hu=>h u (List.mem_cons_of_mem _ hu)) (by simp only [List.length_append,List.length_cons];omega)]
theorem more_mem {t:T} {c:Nat}:∀ {ts:List T},t∈ts→c∈t.shown.cps.toList→c∈more ts
  | u :: ts,h,hc=>by
    rw [more]
    refine List.mem_cons_of_mem _ (List.mem_cons_of_mem _ (List.mem_append.mpr ?_))
    rcases List.mem_cons.mp h with rfl | h
    · exact .inl hc
    · exact .inr (more_mem h hc)
theorem word_head {x:Str} (hx:IsW x):∃ c l,x.cps.toList=c :: l∧97≤c∧c≤122:=by
  cases e:x.cps.toList with
  | nil=>have:=len_cps x;rw [e] at this;have:=hx.1;simp at *;omega
  | cons c l=>exact ⟨c,l,rfl,hx.2.2 c (by rw [e];exact List.mem_cons_self)⟩
theorem pt_done (b:Bool):∀ (k:Nat) (t:T),t.Ok→t.depth≤k→(b=true∨63 ∉ t.shown.cps.toList)→∀ r,Stop r→pTree b k (t.shown.cps.toList ++ r)=some (t,r)
  | 0,t,_,hd,_,_,_=>by have:=depth_pos t;omega
  | k+1,.num n,hok,_,_,r,hr=>by
    rw [T.Ok] at hok
    have e:=pn_done hok.1 hok.2 hr
    rw [T.shown]
    show pTree b (k+1) (nt n ++ r)=_
    have hh:∃ c l,nt n=c :: l∧(c=45∨isFig c=true):=by
      by_cases hn:0≤n
      · obtain ⟨m,rfl⟩:=Int.eq_ofNat_of_zero_le hn
        rw [nt_pos]
        cases e:dg m with
        | nil=>exact absurd e (dg_ne m)
        | cons c l=>exact ⟨c,l,rfl,.inr (fig_of (dg_digits m c (by rw [e];exact List.mem_cons_self)))⟩
      · obtain ⟨m,rfl,hm1⟩:∃ m:Nat,n = -(m:Int)∧1≤m:=⟨n.natAbs,by omega,by omega⟩
        exact ⟨45,_,nt_neg m hm1,.inl rfl⟩
    obtain ⟨c,l,e2,hc⟩:=hh
    rw [e2,List.cons_append] at e ⊢
    rw [pt_cons,if_pos hc,e]
  | k+1,.name x,hok,_,_,r,hr=>by
    rw [T.Ok] at hok
    obtain ⟨c,l,e2,hc⟩:=word_head hok
    have e:=pw_done hok (stop_let hr)
    rw [T.shown]
    rw [e2,List.cons_append] at e ⊢
    have nf:¬ (c=45∨isFig c=true):=fun z=>z.elim (by omega) (fun z=>by unfold isFig at z;have:=of_decide_eq_true z;omega)
    rw [pt_cons,if_neg nf,if_neg (fun z=>by have:=z.1;omega),e]
    dsimp only
    rw [pk_name (fun z => ?_), ← e2,mkS_back]
    obtain ⟨r',e3⟩:=take1 z
    rcases hr 40 (by rw [e3];rfl) with h | h <;> omega
  | k+1,.any x,hok,_,hb,r,hr=>by
    rw [T.Ok] at hok
    rw [shown_any] at hb ⊢
    have hb':b=true:=hb.resolve_right (fun z=>z List.mem_cons_self)
    have e:=pw_done hok (stop_let hr)
    rw [List.cons_append,pt_cons,if_neg (by decide),if_pos ⟨rfl,hb'⟩,e]
    dsimp only
    rw [mkS_back]
  | k+1,.of x [],hok,_,_,_,_=>by
    rw [T.Ok] at hok
    have:=hok.2.1
    simp at this
  | k+1,.of x (t :: ts),hok,hd,hb,r,hr=>by
    rw [T.Ok] at hok
    obtain ⟨hx,_,h4,hoks⟩:=hok
    rw [T.depth] at hd
    rw [shown_of] at hb ⊢
    have hm:∀ u∈t :: ts,∀ r,Stop r→pTree b k (u.shown.cps.toList ++ r)=some (u,r):=fun u hu r hr=>by
      refine pt_done b k u (oks_all.mp hoks u hu) ?_ (hb.imp id fun z hc=>z ?_) r hr
      · have:=deepest_le hu
        omega
      · refine List.mem_append_right _ (List.mem_cons_of_mem _ (List.mem_append.mpr ?_))
        rcases List.mem_cons.mp hu with rfl | hu
        · exact .inl hc
        · exact .inr (List.mem_append_left _ (more_mem hu hc))
    obtain ⟨c,l,e2,hc⟩:=word_head hx
    have ea:x.cps.toList ++ 40 :: (t.shown.cps.toList ++ (more ts ++ [41])) ++ r=x.cps.toList ++ 40 :: (t.shown.cps.toList ++ (more ts ++ 41 :: r)):=by simp
    have e:=pw_done hx (r:=40 :: (t.shown.cps.toList ++ (more ts ++ 41 :: r))) (fun c hc=>by cases hc;rfl)
    rw [ea]
    rw [e2,List.cons_append] at e ⊢
    have nf:¬ (c=45∨isFig c=true):=fun z=>z.elim (by omega) (fun z=>by unfold isFig at z;have:=of_decide_eq_true z;omega)
    rw [pt_cons,if_neg nf,if_neg (fun z=>by have:=z.1;omega),e]
    dsimp only
    rw [pk_of]
    unfold pArms
    rw [hm t List.mem_cons_self _ stop_more]
    dsimp only
    rw [pm_done ts _ r (fun u hu=>hm u (List.mem_cons_of_mem _ hu)) (by omega)]
    dsimp only
    rw [if_neg (by simp only [List.length_cons] at h4;omega), ← e2,mkS_back]
noncomputable def Good (b:Bool) (k:Nat) (t:T):Prop:=t.Ok∧t.depth≤k∧(b=false→63 ∉ t.shown.cps.toList)
theorem pm_sound {tree:List Nat→Option (T × List Nat)} {G:T→Prop} (ht:∀ l t r,tree l=some (t,r)→G t∧l=t.shown.cps.toList ++ r):∀ (n:Nat) (l:List Nat) (ts:List T) (r:List Nat),pMore tree n l=some (ts,r)→l=more ts ++ 41 :: r∧∀ t∈ts,G t
  | 0,_,_,_,h=>by cases h
  | n+1,l,ts,r,h=>by
    unfold pMore at h
    split at h
    · rename_i z;cases z
    · rename_i n' r0 z
      split at h
      · rename_i t r2 e
        split at h
        · rename_i ts3 r3 e3
          cases h
          obtain ⟨g1,e1⟩:=ht _ _ _ e
          obtain ⟨e4,g4⟩:=pm_sound ht _ _ _ _ e3
          refine ⟨?_,fun u hu => ?_⟩
          · rw [e1,e4,more];simp
          · rcases List.mem_cons.mp hu with rfl | hu
            · exact g1
            · exact g4 u hu
        · cases h
      · cases h
    · cases h
      exact ⟨rfl,fun t ht=>by cases ht⟩
    · cases h
theorem more_not {c:Nat} (h1:c≠44) (h2:c≠32):∀ {ts:List T},(∀ t∈ts,c ∉ t.shown.cps.toList)→c ∉ more ts
  | [],_,h=>by cases h
  | t :: ts,h,hc=>by
    rw [more] at hc
    rcases List.mem_cons.mp hc with z | hc
    · exact h1 z
    rcases List.mem_cons.mp hc with z | hc
    · exact h2 z
    rcases List.mem_append.mp hc with hc | hc
    · exact h t List.mem_cons_self hc
    · exact more_not h1 h2 (fun u hu=>h u (List.mem_cons_of_mem _ hu)) hc
theorem word_not {x:Str} (hx:IsW x) {c:Nat} (h:c < 97):c ∉ x.cps.toList:=fun z=>by have:=hx.2.2 c z;omega
theorem pt_sound (b:Bool):∀ (k:Nat) (l:List Nat) (t:T) (r:List Nat),pTree b k l=some (t,r)→Good b k t∧l=t.shown.cps.toList ++ r
  | 0,_,_,_,h=>by cases h
  | k+1, [],t,r,h=>by cases h
  | k+1,c :: l0,t,r,h=>by
    rw [pt_cons] at h
    split at h
    · split at h
      · rename_i n l' e
        cases h
        obtain ⟨e1,n1,n2⟩:=pn_sound e
        refine ⟨⟨by rw [T.Ok];exact ⟨n1,n2⟩,by rw [T.depth];omega,fun _ hc => ?_⟩,by rw [T.shown];exact e1⟩
        rw [T.shown] at hc
        have hc:63∈nt n:=hc
        by_cases hn:0≤n
        · obtain ⟨m,rfl⟩:=Int.eq_ofNat_of_zero_le hn
          rw [nt_pos] at hc
          have:=dg_digits m 63 hc
          omega
        · obtain ⟨m,rfl,hm1⟩:∃ m:Nat,n = -(m:Int)∧1≤m:=⟨n.natAbs,by omega,by omega⟩
          rw [nt_neg m hm1] at hc
          rcases List.mem_cons.mp hc with z | hc
          · omega
          · have:=dg_digits m 63 hc
            omega
      · cases h
    · split at h
      · rename_i hcb
        split at h
        · rename_i x l' e
          cases h
          obtain ⟨e1,hw⟩:=pw_sound e
          refine ⟨⟨by rw [T.Ok];exact hw,by rw [T.depth];omega,fun z=>by rw [hcb.2] at z;cases z⟩,?_⟩
          rw [shown_any,mkS_cps,List.cons_append, ← e1,hcb.1]
        · cases h
      · split at h
        · cases h
        · rename_i x l1 e
          obtain ⟨e1,hw⟩:=pw_sound e
          unfold pKnot at h
          split at h
          · rename_i l2
            split at h
            · rename_i ts l' e2
              cases h
              unfold pArms at e2
              split at e2
              · rename_i t r1 e3
                split at e2
                · rename_i ts2 r2 e4
                  split at e2
                  · cases e2
                  · rename_i h4
                    cases e2
                    obtain ⟨g3,l3⟩:=pt_sound b k _ _ _ e3
                    obtain ⟨l4,g4⟩:=pm_sound (G:=Good b k) (fun l t r h=>pt_sound b k l t r h) _ _ _ _ e4
                    have ga:∀ u∈t :: ts2,Good b k u:=fun u hu=>by
                      rcases List.mem_cons.mp hu with rfl | hu
                      · exact g3
                      · exact g4 u hu
                    refine ⟨⟨?_,?_,fun hb hc => ?_⟩,?_⟩
                    · rw [T.Ok]
                      exact ⟨hw,by simp,by simp only [List.length_cons];omega,oks_all.mpr fun u hu=>(ga u hu).1⟩
                    · rw [T.depth]
                      have:=deepest_is (ts:=t :: ts2) (M:=k) fun u hu=>(ga u hu).2.1
                      omega
                    · rw [shown_of] at hc
                      rcases List.mem_append.mp hc with hc | hc
                      · exact word_not hw (by decide) hc
                      rcases List.mem_cons.mp hc with z | hc
                      · omega
                      rcases List.mem_append.mp hc with hc | hc
                      · exact g3.2.2 hb hc
                      rcases List.mem_append.mp hc with hc | hc
                      · exact more_not (by decide) (by decide) (fun u hu=>(g4 u hu).2.2 hb) hc
                      · rcases List.mem_cons.mp hc with z | hc
                        · omega
                        · cases hc
                    · rw [shown_of,mkS_cps,e1,l3,l4]
                      simp
                · cases e2
              · cases e2
            · cases h
          · cases h
            refine ⟨⟨by rw [T.Ok];exact hw,by rw [T.depth];omega,fun _ hc => ?_⟩,by rw [T.shown,mkS_cps];exact e1⟩
            rw [T.shown] at hc
            exact word_not hw (by decide) hc
end Sw
namespace Sw
open PySem L2 PySem.NumText

end Sw
namespace L2
open PySem PySem.Spec PyProof.Rows

section
variable {prog:Program} {w:World} {K:Type} [DecidableEq K] {knd:HeapKind prog w K} {A:Around} {E:Value→Shared→Prop} {s:Shared} {d:Addr} {xs:List (K × Addr × Value)}
end
section
variable {X:Cx} {pins:List (Addr × Obj)} {σ : St} {H:Hp} {s:Shared} {a b:Addr} {kvs kvs':List (NK × V)} {k:NK} {y v:V} {u r:Value} {A:Around} {E:Value→Shared→Prop}
end
section
variable {X:Cx} {o i e f value:Expr} {pos pos' apos cpos:Pos} {td ty tv:TE}
end
end L2
namespace L2
open PySem PySem.Spec PyProof.Rows

section
variable {X:Cx}
variable {o:Expr} {apos cpos:Pos} {td:TE}
end
section
variable {X:Cx} {tg l:Expr} {tl:TE}
end
end L2
namespace L2
open PySem PySem.Spec PyProof.Rows

section
variable {X:Cx} {pins:List (Addr × Obj)} {σ : St} {H:Hp} {s:Shared} {a:Addr} {kvs:List (Key × V)} {k:Key} {v:V} {u r:Value} {A:Around} {E:Value→Shared→Prop}
end
section
variable {X:Cx} {o e f:Expr} {apos cpos:Pos} {td ty tx:TE}
end
theorem compI_rangeS {lo:Int} {n:Nat} {ct:TT} {te:TE} {σ : St} {caps:List (Str × Nat)} {H:Hp} {Q:VK} (f:Int→Option V) (hn:n≤1000)
    (hel:∀ (i:Nat),i < n→∀ H',Same H H'→∀ (R:Bool→Hp→Prop),(∀ H'',Same H' H''→R (f (lo+i)).isSome H'')→ct (some (.int (lo+i)) :: capt σ caps) H' R)
    (hev:∀ (i:Nat) v,i < n→f (lo+i)=some v→∀ H',Same H H'→∀ Q':VK,(∀ H'',Same H' H''→Q' v H'')→te (some (.int (lo+i)) :: capt σ caps) H' Q')
    (hq:∀ D H',H D=none→Same H H'→H' D=some (.lst ((List.range n).filterMap fun i:Nat=>f (lo+i)))→Q (.ref D) H') :
    CompBodyI (Itr lo n) (gName 0) ct te (List.replicate 1 none ++ capt σ caps) H Q:=by
  intro D hD
  refine ⟨fun i m τ zs H'=>m=n - i∧i≤n∧(∃ o, τ = o :: capt σ caps)∧zs=(List.range i).filterMap (fun i:Nat=>f (lo+i))∧Same H H'∧H' D=some (.lst zs),⟨n,by simp,Nat.zero_le _,⟨none,rfl⟩,by simp,same_new hD _,upd_same⟩,?_⟩
  rintro i m τ zs H' ⟨rfl,hi,⟨o,rfl⟩,rfl,sm,hDl⟩
  refine ⟨hDl,?_⟩
  by_cases hlt:i < n
  · refine .inr ⟨hlt,?_,fun x H'' y => ?_⟩
    · refine small1000 (Nat.le_trans (List.length_filterMap_le _ _) ?_)
      rw [List.length_range];omega
    · obtain ⟨e,rfl⟩:=y
      subst e
      have er:List.range (i+1)=List.range i ++ [i]:=List.range_succ
      show ct (some (.int (lo+i)) :: capt σ caps) _ _
      refine hel i hlt _ sm _ (fun H2 s2 => ?_)
      cases e:f (lo+i) with
      | none =>
        refine ⟨n - (i+1),by omega,rfl,hlt,⟨_,rfl⟩,?_,sm.trans s2,s2 _ _ hDl⟩
        rw [er,List.filterMap_append,List.filterMap_cons,e];simp
      | some v =>
        refine hev i v hlt e _ (sm.trans s2) _ (fun H3 s3 => ?_)
        have hD3:=s3 _ _ (s2 _ _ hDl)
        refine ⟨hD3,n - (i+1),by omega,rfl,hlt,⟨_,rfl⟩,?_,(sm.trans (s2.trans s3)).put hD,upd_same⟩
        rw [er,List.filterMap_append,List.filterMap_cons,e];simp
  · have e:i=n:=by omega
    subst e
    exact .inl ⟨Nat.le_refl _,hq D H' hD sm hDl⟩
theorem comp_listP {β : Type} {R:Hp→V → β → Prop} {K:PySem.W.Frag} {a:Addr} {xs:List V} {bs:List β} {te:TE} {σ : St} {caps:List (Str × Nat)} {H:Hp} {Q:VK} (kp:∀ (H H':Hp) v b,(∀ c ys,H c=some (.tup ys)→H' c=some (.tup ys))→R H v b→R H' v b)
    (hS:SqL K H a xs) (hz:xs.length≤1000) (hy:bs.length=xs.length)
    (hel:∀ (i:Nat) (x:V) (b : β),xs[i]? = some x→bs[i]? = some b→∀ H',Same H H'→∀ Q':VK,(∀ y H'',Same H' H''→R H'' y b→Q' y H'')→te (some x :: capt σ caps) H' Q')
    (hq:∀ D H' ys,H D=none→Same H H'→H' D=some (.lst ys)→Paired (R H') ys bs→Q (.ref D) H') :
    CompBody (Itl K a) (gName 0) te (List.replicate 1 none ++ capt σ caps) H Q:=by
  intro D hD
  refine ⟨fun i m τ zs H'=>m=xs.length - i∧i≤xs.length∧(∃ o, τ = o :: capt σ caps)∧Paired (R H') zs (bs.take i)∧Same H H'∧H' D=some (.lst zs),⟨xs.length,by simp,Nat.zero_le _,⟨none,rfl⟩,.nil,same_new hD _,upd_same⟩,?_⟩
  rintro i m τ zs H' ⟨rfl,hi,⟨o,rfl⟩,hzs,sm,hDl⟩
  refine ⟨hDl,?_⟩
  have hlz:=Paired.length hzs
  rw [List.length_take] at hlz
  by_cases hlt:i < xs.length
  · refine .inr ⟨⟨xs,xs[i],sm.seq hS,by simp [hlt]⟩,small1000 (by omega),fun x H'' y => ?_⟩
    obtain ⟨e,y⟩:=y
    subst e
    have hx:=y xs (sm.seq hS)
    have hdi:bs[i]? = some bs[i]:=List.getElem?_eq_getElem (by omega)
    show te (some x :: capt σ caps) _ _
    refine hel i x bs[i] hx hdi _ sm _ (fun v H2 s2 hv => ?_)
    have hD2:=s2 _ _ hDl
    have k2:∀ b ys,H2 b=some (.tup ys)→(upd H2 D (.lst (zs ++ [v]))) b=some (.tup ys):=fun b ys e=>by rw [upd_ne (ne_of e hD2 (fun z=>nomatch z))];exact e
    refine ⟨hD2,xs.length - (i+1),by omega,rfl,hlt,⟨_,rfl⟩,?_,(sm.trans s2).put hD,upd_same⟩
    have e1:bs.take (i+1)=bs.take i ++ [bs[i]]:=by rw [List.take_add_one,hdi];rfl
    rw [e1]
    exact Paired.snoc (Paired.mapP hzs fun v b r=>kp _ _ v b k2 (kp _ _ v b (fun c ys=>s2 _ _) r)) (kp _ _ _ _ k2 hv)
  · have e:i=xs.length:=by omega
    subst e
    refine .inl ⟨⟨xs,sm.seq hS,Nat.le_refl _⟩,?_⟩
    rw [← hy,List.take_length] at hzs
    exact hq D H' zs hD sm hDl hzs
end L2
namespace PySem
section
variable {prog:Program} {w:World} {A:Around} {E:Value→Shared→Prop} {s:Shared}
end
section
variable {prog:Program} {w:World} {A:Around} {s:Shared} {R:Result→Shared→Prop} {I l:Addr} {items:Array Value}
end
section
variable {prog:Program} {w:World} {A:Around} {E:Value→Shared→Prop} {s:Shared} {I l:Addr} {items:Array Value}
end
end PySem
namespace L2
open PySem PySem.Spec PyProof.Rows
theorem passNo {X:Cx}:Passes (CXE X.prog X.w) X E0:=fun pins σ H s e s' I h=>by
  obtain ⟨_,_,_,_,_,_,_,_,_,_,_,_,_,_,q⟩:=h
  exact False.elim q
theorem ps_tryNo {X:Cx} {body:List Stmt} {h0:ExceptHandler} {hs:List ExceptHandler} {tb:TS} {pos:Pos} (hb:PSs X.nox body tb):PS X (.Try body (h0 :: hs) [] [] pos) tb:=by
  intro pins s σ H D I h
  refine wpAny_Try_except (show wpAny (model X.prog X.w) X.A (execs body X.env) _ _ s from wpAny_mono (hb pins s σ H D (I.wish _) h) (fun f s1 q => ?_) fun _ _ z=>False.elim z)
  cases f with
  | next =>
    obtain ⟨σ',H',J,q⟩:=q
    exact wpAny_execs_nil ⟨σ',H',J.unwish,q⟩
  | brk =>
    obtain ⟨σ',H',J,q⟩:=q
    exact ⟨σ',H',J.unwish,q⟩
  | cont =>
    obtain ⟨σ',H',J,q⟩:=q
    exact ⟨σ',H',J.unwish,q⟩
  | ret u =>
    obtain ⟨v, σ',H',J,r,q⟩:=q
    exact ⟨v, σ',H',J.unwish,r,q⟩
inductive J_rEqNil (x:V) (y:V) (H:Hp) (Q:VK):Prop
  | mk:∀ a b zs,(x = .ref a)→(y = .ref b)→(H a=some (.lst zs))→(H b=some (.lst []))→(Q (.bl zs.isEmpty) H)→J_rEqNil x y H Q
noncomputable def rEqNil:R2:=fun x y H Q=>J_rEqNil x y H Q
theorem op_eqNil {X:Cx} (hu:X.A.units < cLine):OpR X (compareOp .Eq) rEqNil:=by
  intro pins s σ H x y v u Q I rx ry h
  obtain ⟨a,b,zs,rfl,rfl,ha,hb,q⟩:=h
  cases (show v=Value.ref a from rx)
  cases (show u=Value.ref b from ry)
  obtain ⟨_,us,c,r,e⟩:=(show ObjOk X.prog X.w H s.heap a (.lst zs) from I.hok a _ ha)
  obtain ⟨_,us',c',r',e'⟩:=(show ObjOk X.prog X.w H s.heap b (.lst []) from I.hok b _ hb)
  cases r'
  have p:s.heap.IsList a us.toArray:=⟨_,e,rfl,_,rfl⟩
  have p':s.heap.IsList b (List.toArray ([]:List Value)):=⟨_,e',rfl,_,rfl⟩
  have hl:=r.length
  cases zs with
  | nil =>
    have hu':us = []:=List.eq_nil_of_length_eq_zero hl.symm
    subst hu'
    refine SeqAt.eq_listAt (e:=fun _=>true) p p' rfl hu (fun j h1=>absurd h1 (by simp)) ?_
    exact ⟨.bl true,H,I,rfl,q⟩
  | cons z zs =>
    refine SeqAt.eq_list_lengthsAt p p' (by simp only [List.size_toArray];rw [← hl];simp) hu ?_
    exact ⟨.bl false,H,I,rfl,q⟩
end L2
namespace L2
open PySem PySem.Spec PyProof.Rows
end L2
namespace L2
open PySem PySem.Spec PyProof.Rows
noncomputable def strsOf:List Expr→Option (List Str)
  | []=>some []
  | .Constant (.str x) _ _ :: es=>(strsOf es).map (x :: ·)
  | _=>none
theorem strsC_of:∀ {es:List Expr} {L:List Str},strsOf es=some L→StrsC es L
  | [],L,h=>by
    cases (show some []=some L from h)
    exact .nil
  | e :: es,L,h=>by
    unfold strsOf at h
    split at h
    · rename_i heq;cases heq
    · rename_i x j p es' heq
      cases heq
      cases q:strsOf es with
      | none=>rw [q] at h;cases h
      | some L' =>
        rw [q] at h
        cases h
        exact .cons (strsC_of q)
    · cases h
theorem pa_strsB {X:Cx} {es:List Expr} {L:List Str} (h:strsOf es=some L):PA X es (tStrs L):=pa_strs (strsC_of h)
end L2
namespace L2
open PySem PySem.Spec PyProof.Rows
section
variable {X:Cx}
end
theorem rd_if2 {c:TT} {t u:TS} {D:Ends} {σ : St} {H:Hp} (R:Bool→Hp→Prop) (hc:∀ Q:Bool→Hp→Prop,(∀ b H',R b H'→Q b H')→c σ H Q) (h1:∀ H',R true H'→t D σ H') (h2:∀ H',R false H'→u D σ H'):tIfS c t u D σ H:=by
  refine hc _ fun b H' r => ?_
  cases b with
  | true=>exact iteT (h1 _ r)
  | false=>exact iteF (h2 _ r)
section
variable {P:Program} {w:World} {A:Around} {s:Shared}
open SeqAt MeetsSeq MeetsSeq2 MeetsSeq3 SeqRoads2
open AutoSeq1 (wpAny_loadPart')
end
end L2
namespace L2
open PySem PySem.W PySem.Calls PyProof.Rows
theorem weight_le {ns:List Int} {c:Int}:c∈ns→WData.weight (.int c)≤WData.weightAll (ns.map WData.int):=by
  induction ns with
  | nil=>intro h;cases h
  | cons n ns ih =>
    intro h
    rw [List.map_cons,WData.weightAll]
    rcases List.mem_cons.mp h with rfl | h
    · omega
    · have:=ih h;omega
theorem bits_lay {ns:List Int} (h:WData.layableAll [WData.list (ns.map WData.int)]=true):∀ c∈ns,Builtin.Int.intBits c≤1048576:=fun c hc=>by
  have h1:WData.layable (WData.list (ns.map WData.int))=true:=List.all_eq_true.mp h _ List.mem_cons_self
  have h2:=of_decide_eq_true (Bool.and_eq_true_iff.mp h1).2
  rw [WData.weight] at h2
  have h3:=weight_le hc
  rw [WData.weight] at h3
  show (if c == 0 then 0 else c.natAbs.log2+1)≤1048576
  have:(2:Nat) ^ 20=1048576:=by decide
  omega
theorem walk_ofB {l:OpenLaw} {n k:Nat} {q:Program} {loose:List Str} {XP:(Str→Option Value)→Heap→Prop} {YP:World→Heap→Prop} {d:DefRec} {K:Params→Frag} {CX:World→CXT} {sp:World→Sp} {x:Str}
    (hn:l.most=some n) (hn2:n≤sizeLine) (hdf:d.params.defaults = []) (hr:Room k callerA)
    (hY:∀ (w:World) (h:Heap),YP w h→(K w.params).In h)
    (F:∀ (w:World) (mg:Str→Option Value) (fa:Addr) (h:Heap),(K w.params).In h→h.Ns mainGlobals mg→mg d.name=some (.ref fa) →
      ∃ fd:FuncData,(∀ (s:Shared) (u:Value),BindsTo s fd ⟨[u], []⟩ [(x,u)])∧∀ base:Heap,(K w.params).In base→base.Ns mainGlobals mg→FnOk l.prog w (K w.params) mg base (CX w) k fa fd [x] (sp w))
    (hsp:∀ (w:World) (H:Hp) (a:Addr) (ns:List Int),ns.length≤n→(∀ c∈ns,Builtin.Int.intBits c≤1048576)→SqL (K w.params) H a (ns.map V.int)→sp w [.ref a] H (fun v _=>v = .bl true) fun _ _ _=>False)
    (hCX:∀ (w:World) (H:Hp) (s:Shared) (e:Value) (s':Shared),CX w [] H s (fun _ _ _=>False) e s'→False) :
    WalkO q loose XP YP l.row.toRowW d [] (fun f vs=>PySem.call f vs):=by
  intro w s0 s1 mg mb G Y fa o pm cd doc dV kV ho hd hcd hD hmg hg args vals as hpre hlay hrd hwl hlo
  have e1:=Dflts.none hD hdf
  have e2:=Dflts.noKw hD
  subst e1 e2
  obtain ⟨a,vs,ns,ev,ea,hobj,hints,hlen⟩:=Att.script_of hn hpre hwl
  subst ev ea
  have KX:=hY w _ Y
  obtain ⟨fd,hb,hF⟩:=F w mg fa _ KX G.T.g hmg
  refine enter_call (codeAny_mono (law_call KX G.T.g G.T.b G.T.builtins G.T.nolimit hg hobj hints (Nat.le_trans hlen hn2) hr hF hb (fun H _ hS=>hsp w H a ns hlen (bits_lay hlay) hS) fun H e s'=>hCX w H s1 e s') fun r s' hq => ?_)
  obtain ⟨er,h2,h3,h4⟩:=hq
  subst er
  exact ⟨.inl ⟨.bool true,.bool true, [],rfl,fun _=>rfl,.bool true,Att.post_true l _,fun _=>⟨List.Pairwise.nil,fun _ hm=>(nomatch hm)⟩⟩,h2,h3,h4⟩
end L2
namespace L2
open PySem PySem.Spec PyProof.Rows
section
variable {X:Cx} {k:Nat} {y:Str} {p pos:Pos} {e:Expr} {es:List Expr} {tv:TE} {t:TA}
end
end L2
namespace L2
open PySem PySem.Spec PyProof.Rows
section
variable {prog:Program} {w:World} {A:Around} {R:Result→Shared→Prop} {I:Addr} {fp wr:List Addr} {n:Nat} {P:Nat→Value→Prop} {St:Nat→Heap→Prop} {kw:List (Str × Value)} {G:Heap→Prop}
end
section
variable {X:Cx} {e:Expr} {te:TE} {p pos kp cp:Pos} {j:Nat}
end
end L2
namespace L2
open PySem PySem.Spec PyProof.Rows
section
variable {prog:Program} {w:World} {A:Around} {R:Result→Shared→Prop} {I:Addr} {fp wr:List Addr} {n:Nat} {P:Nat→Value→Prop} {St:Nat→Heap→Prop} {kw:List (Str × Value)} {G:Heap→Prop}
end
section
variable {X:Cx} {e:Expr} {te:TE} {p pos kp cp:Pos} {j:Nat} {d:Int}
end

end L2
namespace HT
open PySem PySem.Spec PyProof.Rows
section
variable {prog:Program} {w:World} {A:Around} {E:Value→Shared→Prop} {s:Shared}
end
end HT
namespace L2
open PySem PySem.Spec PyProof.Rows
section
variable {X:Cx}
end
end L2
namespace L2
open PySem PySem.Spec PyProof.Rows
section
variable {X:Cx} {scope:Scope} {y y0:Str} {caps:List (Str × Nat)} {pins:List (Addr × Obj)} {σ : St} {H:Hp} {s:Shared} {fp:List Addr}
end
end L2
namespace L2
open PySem PySem.Spec PyProof.Rows
section
variable {X:Cx}
end
end L2
namespace L2
open PySem PySem.Spec PyProof.Rows

section
variable {prog:Program} {w:World} {A:Around} {E:Value→Shared→Prop} {s:Shared}
end
section
variable {M:Model} {A:Around} {E:Value→Shared→Prop} {qn nm:Str} {N C:Addr} {bm bs:List Value} {hdct ab:Bool} {sn:List Str} {sub:List Value} {col:Option Bool} {dd:Option Addr} {k0 k1 k2 k3 k5:Option Value} {newId:String}
end
section
variable {prog:Program} {w:World} {A:Around} {E:Value→Shared→Prop} {s:Shared} {env:Env} {qn nm:Str} {N C:Addr} {bm bs:List Value} {hdct ab:Bool} {sn:List Str} {sub:List Value} {col:Option Bool} {dd:Option Addr} {k0 k1 k2 k3 k5:Option Value} {newId:String}
end
section
variable {prog:Program} {w:World} {A:Around} {E:Value→Shared→Prop} {s:Shared} {env:Env} {qn nm:Str} {N C:Addr} {bm bs bmB:List Value} {hdct ab:Bool} {sn:List Str} {sub:List Value} {col:Option Bool} {dd:Option Addr} {k0 k1 k2 k3 k5:Option Value} {B newId initId:String}
end
section
variable {M:Model} {A:Around} {E:Value→Shared→Prop} {s:Shared}
end
end L2
namespace L2
open PySem PySem.Spec PyProof.Rows

section
variable {P:Program} {w:World} {K:PySem.W.Frag} {mg:Str→Option Value} {base:Heap} {N:List Str} {qual:Str} {scope:Scope} {f:Addr} {cdv:Value} {A:Around} {outer:List Env} {s0:Shared} {H0:Hp} {E:XK} {ea C:Addr}
end
section
variable {X:Cx} {pins:List (Addr × Obj)} {σ : St} {H0 H':Hp} {s0 s':Shared} {ea C:Addr} {a0:Value} {B h5:Heap}
end
section
variable {X:Cx} {k k':Nat} {m:Str} {C:Addr} {ps:List Str} {dvs:List V} {sp:Sp} {pos apos:Pos} {e o:Expr} {es:List Expr} {ta:TE} {t:TA} {pl:Sem Bool}
end
end L2
namespace L2
open PySem PySem.Spec PyProof.Rows

section
variable {prog:Program} {w:World} {K:Type} [DecidableEq K] {knd:HeapKind prog w K} {A:Around} {E:Value→Shared→Prop} {s:Shared} {d a:Addr} {k:K} {xs:List (K × Addr × Value)}
end
section
variable {prog:Program} {w:World} {K:Type} [DecidableEq K] (knd:HeapKind prog w K) (d a:Addr)
end
section
variable {X:Cx} {pins:List (Addr × Obj)} {σ : St} {H:Hp} {s:Shared} {a b:Addr} {kvs:List (NK × V)} {k:NK} {v:V} {A:Around} {E:Value→Shared→Prop}
end
section
variable {X:Cx} {o e:Expr} {apos cpos:Pos} {td ty:TE}
end
end L2
namespace L2
open PySem PySem.Spec PyProof.Rows
section
variable {X:Cx}
end
end L2
namespace L2
open PySem PySem.Spec PyProof.Rows
section
variable {X:Cx}
end
section
variable {X:Cx} {CX:CXT} {k k':Nat} {f C:Addr} {fd:FuncData} {ps:List Str} {sp:Sp} {dvs:List V} {ds:List Value} {E:XK} {x m:Str} {p pos apos:Pos} {e o:Expr} {es:List Expr} {ta:TE} {t:TA}
end
end L2
namespace L2
open PySem PySem.Spec PyProof.Rows
section
variable {P:Program} {w:World} {K:PySem.W.Frag} {mg:Str→Option Value} {base:Heap} {x m qual:Str} {st:Stmt} {N ps:List Str} {k:Nat} {sp:Sp}
end
section
variable {X:Cx} {k k':Nat} {x m:Str} {ps:List Str} {sp:Sp} {p pos apos:Pos} {e:Expr} {es:List Expr} {t:TA} {E:XK}
end
end L2
namespace L2
open PySem PySem.Spec PyProof.Rows
section
variable {X:Cx}
theorem abc_occ:∀ k,k < 26→Builtin.Str.occurrences ("abcdefghijklmnopqrstuvwxyz" : Str) ⟨#[97+k]⟩ 0 ("abcdefghijklmnopqrstuvwxyz" : Str).length 1 = [k]:=by decide +kernel
end
end L2
namespace L2
open PySem PySem.Spec PyProof.Rows
section
variable {X:Cx}
theorem ip_addS:PIp X .Add (fun x y H Q=>J_iop_add_str x y H Q):=fun pins s σ H x y v u Q I r1 r2 h=>iop_add_str pins s σ H x y v u Q I r1 r2 h
inductive J_part (x:V) (vs:List V) (H:Hp) (Q:VK):Prop
  | mk:∀ (z y:Str),(x = .str z)→(vs = [.str y])→((y.length == 0)=false)→(z.length≤sizeLine)→(∀ p,H p=none→Q (.ref p) (upd H p (.tup [.str (Txt.partition z y).1,.str (Txt.partition z y).2.1,.str (Txt.partition z y).2.2])))→J_part x vs H Q
theorem mt_partition:MtR X "str.partition" (fun x vs H Q=>J_part x vs H Q):=by
  intro pins s σ H x vs v us Q I rx rv h
  obtain ⟨z,y,rfl,rfl,hy,hsz,q⟩:=h
  obtain ⟨t,rfl⟩:=rx
  obtain ⟨u,rfl,ru⟩:=Vals.one rv
  obtain ⟨t',rfl⟩:=ru
  refine call_meets F.slot_str_partition (typeIs_str _ _ _) F.entry_str_partition (F.args_str_partition_2 _ _) (meets_str_partition z y t t' hy hsz) ?_
  have q':=q
  unfold Txt.partition at q'
  revert q'
  cases Builtin.Str.occurrences z y 0 z.length 1 with
  | nil =>
    intro q'
    refine ⟨.ref s.heap.objs.size,_,I.laid (o := .tup [.str z,.str Str.empty,.str Str.empty]) (fun b ob q=>Heap.get?_push_of_some _ q) (Nat.le_refl _) ⟨by show 3≤sizeLine;decide,_,?_,IsTupN.new _ _⟩,rfl,q' _ (I.hok.fresh (Nat.le_refl _))⟩
    exact .cons ⟨_,rfl⟩ (.cons ⟨_,rfl⟩ (.cons ⟨_,rfl⟩ .nil))
  | cons i r =>
    intro q'
    refine ⟨.ref s.heap.objs.size,_,I.laid (o := .tup [.str (Builtin.Str.strSub z 0 i),.str y,.str (Builtin.Str.strSub z (i+y.length) z.length)]) (fun b ob q=>Heap.get?_push_of_some _ q) (Nat.le_refl _) ⟨by show 3≤sizeLine;decide,_,?_,IsTupN.new _ _⟩,rfl,q' _ (I.hok.fresh (Nat.le_refl _))⟩
    exact .cons ⟨_,rfl⟩ (.cons ⟨_,rfl⟩ (.cons ⟨_,rfl⟩ .nil))
theorem vals_strs:∀ l:List (Str × Tok),Vals ((l.map (·.1)).map V.str) (strValues l)
  | [] => .nil
  | p :: l => .cons ⟨_,rfl⟩ (vals_strs l)
inductive J_split (x:V) (vs:List V) (H:Hp) (Q:VK):Prop
  | mk:∀ (z y:Str),(x = .str z)→(vs = [.str y])→((y.length == 0)=false)→(z.length+2≤sizeLine)→(∀ p,H p=none→Q (.ref p) (upd H p (.lst ((Txt.split z y).map V.str))))→J_split x vs H Q
theorem mt_split:MtR X "str.split" (fun x vs H Q=>J_split x vs H Q):=by
  intro pins s σ H x vs v us Q I rx rv h
  obtain ⟨x,y,rfl,rfl,hy,hsz,q⟩:=h
  obtain ⟨t,rfl⟩:=rx
  obtain ⟨u,rfl,ru⟩:=Vals.one rv
  obtain ⟨t',rfl⟩:=ru
  have hle:=split_le x y
  have fin:∀ (l:List (Str × Tok)) (k:Nat),l.map (·.1)=Txt.split x y→EP X pins σ Q (.ref s.heap.objs.size) { s with heap:=s.heap.push { cls := .type "list",data := .seq (strValues l).toArray },toks:=k }:=fun l k e=>by
    have q':=q s.heap.objs.size (I.hok.fresh (Nat.le_refl _))
    rw [← e] at q' hle
    rw [List.length_map] at hle
    exact ⟨.ref s.heap.objs.size,_,I.laid (o := .lst _) (fun b ob q=>Heap.get?_push_of_some _ q) (Nat.le_refl _) ⟨by rw [List.length_map,List.length_map];omega,_,0,vals_strs l,Heap.get?_push_size _ rfl⟩,rfl,q'⟩
  have hn:(Builtin.Str.partsBetween x (Builtin.Str.occurrences x y 0 x.length (x.length+1)) y.length).length≤sizeLine:=by
    have e1:=StrLaws.occ_length_le x y 0 x.length (x.length+1)
    rw [length_partsBetween];omega
  cases h1:(decide (x.length < y.length) || decide (Builtin.Str.strKind x < Builtin.Str.strKind y))
  · cases hf:(Builtin.Str.occurrences x y 0 x.length (x.length+1)).isEmpty
    · refine call_meets F.slot_str_split (typeIs_str _ _ _) F.entry_str_split (F.args_str_split_2 _ _) (meets_str_split_sep x y t t' h1 hy hf (by omega) hn) ?_
      show wants _ _ _ { s with toks:=_,heap:=s.heap.push { cls := .type "list",data := .seq (strsFrom s.toks (Builtin.Str.partsBetween x (Builtin.Str.occurrences x y 0 x.length (x.length+1)) y.length)).toArray } }
      rw [strsFrom_eq]
      exact fin (numbered s.toks _) _ ((numbered_texts _ _).trans ((if_neg (ne_true_of_eq_false h1)).trans (if_neg (ne_true_of_eq_false hf))).symm)
    · exact call_meets F.slot_str_split (typeIs_str _ _ _) F.entry_str_split (F.args_str_split_2 _ _) (meets_str_split_not_found x y t t' h1 hy hf)
        (fin [(x,t)] s.toks ((if_neg (ne_true_of_eq_false h1)).trans (if_pos hf)).symm)
  · exact call_meets F.slot_str_split (typeIs_str _ _ _) F.entry_str_split (F.args_str_split_2 _ _) (meets_str_split_cannot_occur x y t t' h1)
      (fin [(x,t)] s.toks (if_pos h1).symm)
inductive J_starts (x:V) (vs:List V) (H:Hp) (Q:VK):Prop
  | mk:∀ (z y:Str),(x = .str z)→(vs = [.str y])→(Q (.bl (Txt.startswith z y)) H)→J_starts x vs H Q
theorem mt_startswith:MtR X "str.startswith" (fun x vs H Q=>J_starts x vs H Q):=by
  intro pins s σ H x vs v us Q I rx rv h
  obtain ⟨z,y,rfl,rfl,q⟩:=h
  obtain ⟨t,rfl⟩:=rx
  obtain ⟨u,rfl,ru⟩:=Vals.one rv
  obtain ⟨t',rfl⟩:=ru
  exact SC.startswith ⟨.bl _,H,I,rfl,q⟩
end
noncomputable def Ites (x:Str):It :=
  ⟨fun i _=>i < x.length,
   fun i H v H'=>∃ p c,H p=none∧v = .ref p∧x.cps.toList[i]? = some c∧H'=upd H p (.tup [.int (i:Int),.str ⟨#[c]⟩]),
   fun i _=>x.length=i⟩
theorem turn_enumS {P:Program} {w:World} {K:PySem.W.Frag} {elts:List Expr} {k:Nat} {tp:Pos} (x:Str) (t:Tok) (e it:Addr) (hne:e≠it) :
    Turn P w K (.Tuple elts k tp) (Ites x) [e,it] e (fun i h=>(∃ old,IsEnum h e it (i:Int) old)∧h.IsStrIter it "str_ascii_iterator" x t i) where
  mem:=by simp
  obj:=fun i h st b hb=>by
    obtain ⟨⟨old,he⟩,hit⟩:=st
    rcases List.mem_cons.mp hb with rfl | hb
    · exact ⟨_,he,fun v z=>by
        have z':Data.fields _=Data.cell v:=z
        cases z'⟩
    · have e:b=it:=by simpa using hb
      subst e
      obtain ⟨o,e,c,d⟩:=hit
      exact ⟨o,e,fun v z=>by rw [d] at z;cases z⟩
  keep:=fun i h h' st k=>by
    obtain ⟨⟨old,he⟩,hit⟩:=st
    obtain ⟨o,e2,c,d⟩:=hit
    exact ⟨⟨old,k e (by simp) _ he⟩,⟨o,k it (by simp) o e2,c,d⟩⟩
  item:=by
    intro X hP hw hK hc i pins s σ H E I hf st hg
    subst hP hw hK
    obtain ⟨⟨old,he⟩,hit⟩:=st
    have hlt:i < x.cps.size:=hg
    have hel:e < s.heap.objs.size:=Heap.lt_size he
    have hil:it < s.heap.objs.size:=by obtain ⟨o,q,_⟩:=hit;exact Heap.lt_size q
    refine wpAny_pyNext_enum_itemD (Draws.strAscii (A:=X.A.in1) (I.ok.hd hc) it x t) he hit hlt hne (by
      intro z
      exact hne (List.mem_singleton.mp z)) fun y h1 tk hy ho hs1 hT hsz hk => ?_
    obtain ⟨c,u,hcx,rfl⟩:=hy
    refine ⟨_,rfl,wpAny_letOwnedTupleGo_enum ho fun h2 he2 hs2 => ?_⟩
    have kk:∀ b o,b ∉ [e,it]→s.heap.get? b=some o→h2.get? b=some o:=fun b o hb q=>by
      have b1:b≠e:=fun z=>hb (by simp [z])
      have b2:b≠it:=fun z=>hb (by simp [z])
      exact (hs2.2 b b1).trans (hk b o b1 b2 q)
    have hTe:s.heap.objs.size≠e:=Nat.ne_of_gt hel
    have hcx':x.cps.toList[i]? = some c:=by simpa using hcx
    obtain ⟨o1,e1,c1,d1⟩:=hs1
    refine ⟨.ref s.heap.objs.size,upd H s.heap.objs.size (.tup [.int (i:Int),.str ⟨#[c]⟩]),?_,rfl,⟨_,c,I.hok.fresh (Nat.le_refl _),rfl,hcx',rfl⟩,
      ⟨⟨_,by simpa using he2⟩,⟨o1,(hs2.2 it (Ne.symm hne)).trans e1,c1,d1⟩⟩,fun b hb => ?_⟩
    · refine I.turnedLaid (ch := [e,it]) (t':=tk+1) kk hf (Nat.le_refl _) ⟨by show 2≤sizeLine;decide, [.int (i:Int) tk,.str ⟨#[c]⟩ u],.cons ⟨_,rfl⟩ (.cons ⟨_,rfl⟩ .nil),?_⟩
      exact ⟨_,(hs2.2 _ hTe).trans hT,rfl,_,rfl,rfl⟩
    · have hb':=hf b hb
      have:b≠s.heap.objs.size:=by
        rcases List.mem_cons.mp hb with rfl | hb
        · exact Nat.ne_of_lt hel
        · rw [List.mem_singleton.mp hb];exact Nat.ne_of_lt hil
      rw [upd_ne this]
      exact hb'.1
  done:=by
    intro X hP hw hK hc i pins s σ H E I hf st hg
    subst hP hw hK
    obtain ⟨⟨old,he⟩,hit⟩:=st
    have hi:i=x.cps.size:=hg.symm
    subst hi
    obtain ⟨f0,f1,f2,f3,f4,f5⟩:=hf it (by simp)
    exact wpAny_pyNext_enum_endD (Draws.strAscii (A:=X.A.in1) (I.ok.hd hc) it x t) he hit fun h1 eb=>⟨rfl,I.turned (t':=s.toks) (fun b o hb q=>eb b o hb q) f0 f1 f3 f4 f5⟩
  self:=fun _ _ _ _ _ st h=>by
    obtain ⟨⟨old,he⟩,_⟩:=st
    exact wpAny_pyIter_enum he h
inductive J_iEnumS (R:It→Hp→Prop) (vs:List V) (H1:Hp):Prop
  | mk:∀ z,(vs = [.str z])→(z.cps.all (· < 128)=true)→(R (Ites z) H1)→J_iEnumS R vs H1
noncomputable def iEnumS (ta:TA):TI:=fun σ H R=>ta σ H fun vs H1=>J_iEnumS R vs H1
section
variable {X:Cx}
theorem pi_enumS {l:Expr} {ta:TA} {elts:List Expr} {k:Nat} {tp p pos:Pos} (hg:Gl X "enumerate") (hm:X.mg "enumerate" = none) (ha:PA X [l] ta) (hs:starEach [l] X.env = [(false,eval l X.env)]:=by rfl) :
    PI X (.Tuple elts k tp) (.Call (.Name "enumerate" p) [l] [] pos) (iEnumS ta):=by
  intro pins s σ H R I h
  refine Call_ (ld_blt I hg hm boot_enum (PyProof.Rows.callWith_type1 (thn (ha pos pins s σ H _ I h) fun us s1 ⟨vs,H1,I1,r1,q1⟩ => ?_) hs rfl))
  obtain ⟨z,e,h128,q⟩:=q1
  subst e
  obtain ⟨u,rfl,ru⟩:=vals1 r1
  obtain ⟨t,rfl⟩:=ru
  refine call_enumerate_str fun h1 he hit hsz hk => ?_
  have I2:Inv X pins σ H1 { s1 with heap:=h1 }:=I1.kept (t':=s1.toks) hk
  have hne:s1.heap.objs.size+1≠s1.heap.objs.size:=Nat.succ_ne_self _
  have hit':h1.IsStrIter s1.heap.objs.size "str_ascii_iterator" z t 0:=by
    have e:strIterType z = "str_ascii_iterator" := by unfold strIterType;rw [if_pos (by simpa using h128)]
    rw [e] at hit
    exact hit
  refine wpAny_pyIter_enum (s := { s1 with heap:=h1 }) he ⟨_, [s1.heap.objs.size+1,s1.heap.objs.size],_,_,H1,rfl,I2,turn_enumS z t _ _ hne,⟨⟨_,he⟩,hit'⟩,fun b hb => ?_,q⟩
  rcases List.mem_cons.mp hb with rfl | hb
  · exact I1.fpOk (Nat.le_succ _) (I1.hok.fresh (Nat.le_succ _))
  · rw [List.mem_singleton.mp hb]
    exact I1.fpOk (Nat.le_refl _) (I1.hok.fresh (Nat.le_refl _))
end
theorem for_enumS {z:Str} {g:TG} {tb:TS} {D:Ends} {σ : St} {H:Hp} (Pv:Nat→St→Hp→Prop) (h0:Pv 0 σ H)
    (hs:∀ i c p σ H,z.cps.toList[i]? = some c→Pv i σ H→H p=none→g (.ref p) σ (upd H p (.tup [.int (i:Int),.str ⟨#[c]⟩])) fun σ2 H2=>tb { D with nx:=Pv (i+1),ct:=Pv (i+1),bk:=D.nx } σ2 H2) (hd:∀ σ H,Pv z.length σ H→D.nx σ H) :
    ∃ W:Nat→Nat→St→Hp→Prop,(∃ m,W 0 m σ H)∧∀ i m σ H,W i m σ H →
      ((Ites z).stop i H∧D.nx σ H)∨((Ites z).go i H∧∃ N:St→Hp→Prop,(∀ σ' H',N σ' H'→∃ m',m' < m∧W (i+1) m' σ' H')∧∀ x H',(Ites z).yld i H x H'→g x σ H' fun σ2 H2=>tb { D with nx:=N,ct:=N,bk:=D.nx } σ2 H2):=by
  refine ⟨fun i m σ H=>m=z.length - i∧i≤z.length∧Pv i σ H,⟨z.length,by simp,Nat.zero_le _,h0⟩,?_⟩
  rintro i m σ H ⟨rfl,hi,p⟩
  by_cases hlt:i < z.length
  · refine .inr ⟨hlt,Pv (i+1),fun σ' H' p'=>⟨z.length - (i+1),by omega,rfl,hlt,p'⟩,fun x H' y => ?_⟩
    obtain ⟨pa,c,hpa,rfl,hc,rfl⟩:=y
    exact hs i c pa σ H hc p hpa
  · have e:i=z.length:=by omega
    subst e
    exact .inl ⟨rfl,hd σ H p⟩
end L2
namespace Sw
open PySem L2 PySem.NumText

theorem at_list {x y:Str} {k:Nat} (h:StrLaws.At x y x.length k):(x.cps.toList.drop k).take y.cps.toList.length=y.cps.toList:=by
  have e:=h.2
  rw [StrLaws.subAt_eq] at e
  have:=eq_of_beq e
  rw [len_cps] at this
  exact this
theorem at_of {x y:Str} {k:Nat} (h:(x.cps.toList.drop k).take y.cps.toList.length=y.cps.toList) (hk:k+y.length≤x.length):StrLaws.At x y x.length k:=by
  refine ⟨hk,?_⟩
  rw [StrLaws.subAt_eq,len_cps,h]
  exact beq_self_eq_true _
theorem at_get {x y:Str} {k j:Nat} {c:Nat} (h:StrLaws.At x y x.length k) (hj:y.cps.toList[j]? = some c):x.cps.toList[k+j]? = some c:=by
  have e:=at_list h
  have hl:=(List.getElem?_eq_some_iff.mp hj).1
  rw [← e,List.getElem?_take_of_lt hl,List.getElem?_drop] at hj
  exact hj
theorem cut_first {x a y b:Str} (hx:x.cps.toList=a.cps.toList ++ (y.cps.toList ++ b.cps.toList)) (hn:∀ k,k < a.length→¬ StrLaws.At x y x.length k):Txt.partition x y=(a,y,b):=by
  have hl:x.length=a.length+(y.length+b.length):=by rw [len_cps,hx,List.length_append,List.length_append, ← len_cps, ← len_cps, ← len_cps]
  have ha:StrLaws.At x y x.length a.length:=at_of (by rw [hx,len_cps,List.drop_left,List.take_left]) (by omega)
  unfold Txt.partition
  rcases StrLaws.occ_head x y 1 (Nat.le_refl 1) with ⟨h0,hn'⟩ | ⟨i,r,h0,hi,hn'⟩
  · exact absurd ha (hn' _)
  · have ei:i=a.length:=by
      rcases Nat.lt_trichotomy i a.length with h | h | h
      · exact absurd hi (hn i h)
      · exact h
      · exact absurd ha (hn' _ h)
    subst ei
    rw [h0]
    have e1:Builtin.Str.strSub x 0 a.length=a:=str_ext (by rw [StrLaws.strSub_toList,List.drop_zero,Nat.sub_zero,hx,len_cps,List.take_left])
    have e2:Builtin.Str.strSub x (a.length+y.length) x.length=b:=str_ext (by
      rw [StrLaws.strSub_toList,hx, ← List.append_assoc,show a.length+y.length=(a.cps.toList ++ y.cps.toList).length by rw [List.length_append,len_cps,len_cps],List.drop_left]
      exact List.take_of_length_le (by rw [List.length_append, ← len_cps, ← len_cps, ← len_cps];omega))
    show (Builtin.Str.strSub x 0 a.length,y,Builtin.Str.strSub x (a.length+y.length) x.length)=_
    rw [e1,e2]
theorem cut_none {x y:Str} (hn:∀ k, ¬ StrLaws.At x y x.length k):Txt.partition x y=(x,Str.empty,Str.empty):=by
  unfold Txt.partition
  rcases StrLaws.occ_head x y 1 (Nat.le_refl 1) with ⟨h0,hn'⟩ | ⟨i,r,h0,hi,hn'⟩
  · rw [h0]
  · exact absurd hi (hn _)
theorem cut_sign {x a y b:Str} {j c:Nat} (hx:x.cps.toList=a.cps.toList ++ (y.cps.toList ++ b.cps.toList)) (hj:y.cps.toList[j]? = some c) (hc:c ∉ a.cps.toList) (hjn:∀ i,i < j→y.cps.toList[i]? ≠ some c):Txt.partition x y=(a,y,b):=by
  refine cut_first hx fun k hk h => ?_
  have e:=at_get h hj
  rw [hx] at e
  have hjl:=(List.getElem?_eq_some_iff.mp hj).1
  by_cases hlt:k+j < a.cps.toList.length
  · rw [List.getElem?_append_left hlt] at e
    exact hc (List.mem_of_getElem? e)
  · rw [len_cps] at hk
    rw [List.getElem?_append_right (by omega),List.getElem?_append_left (by omega)] at e
    exact hjn _ (by omega) e
theorem split_is {y:Str} {c:Nat} (hy:y.cps.toList[0]? = some c):∀ (ps:List Str) (p:Str) (x:Str) (pre:List Nat) (cuts:List Nat) (f:Nat),(∀ u∈p :: ps,c ∉ u.cps.toList)→x.cps.toList=pre ++ (Str.join y (p :: ps)).cps.toList →
    StrLaws.ChainG x y x.length pre.length cuts f→(∀ k,f≤k→¬ StrLaws.At x y x.length k)→StrLaws.partsFrom x y.length pre.length cuts=p :: ps
  | [],p,x,pre,cuts,f,hn,hx,hc,hf=>by
    have hx':x.cps.toList=pre ++ p.cps.toList:=hx
    have hl:x.length=pre.length+p.length:=by rw [len_cps,hx',List.length_append, ← len_cps]
    have no:∀ k,pre.length≤k→¬ StrLaws.At x y x.length k:=fun k hk h=>by
      have e:=at_get h hy
      rw [Nat.add_zero,hx',List.getElem?_append_right hk] at e
      exact hn p List.mem_cons_self (List.mem_of_getElem? e)
    cases cuts with
    | nil =>
      show [Builtin.Str.strSub x pre.length x.length]=_
      congr 1
      refine str_ext ?_
      rw [StrLaws.strSub_toList,hx',List.drop_left]
      exact List.take_of_length_le (by rw [← len_cps];omega)
    | cons d r=>exact absurd hc.2.1 (no d hc.1)
  | q :: ps,p,x,pre,cuts,f,hn,hx,hc,hf=>by
    have ej:(Str.join y (p :: q :: ps)).cps.toList=p.cps.toList ++ (y.cps.toList ++ (Str.join y (q :: ps)).cps.toList):=by
      rw [Str.join,app_cps,app_cps,List.append_assoc]
      intro z;cases z
    have hx':x.cps.toList=pre ++ (p.cps.toList ++ (y.cps.toList ++ (Str.join y (q :: ps)).cps.toList)):=by rw [hx,ej]
    have hl:x.length=pre.length+(p.length+(y.length+(Str.join y (q :: ps)).length)):=by rw [len_cps,hx',List.length_append,List.length_append,List.length_append, ← len_cps, ← len_cps, ← len_cps]
    have ha:StrLaws.At x y x.length (pre.length+p.length):=at_of (by
      rw [hx', ← List.append_assoc,show pre.length+p.length=(pre ++ p.cps.toList).length by rw [List.length_append,len_cps],List.drop_left,List.take_left]) (by omega)
    have no:∀ k,pre.length≤k→k < pre.length+p.length→¬ StrLaws.At x y x.length k:=fun k hk hk2 h=>by
      have e:=at_get h hy
      rw [Nat.add_zero,hx',List.getElem?_append_right hk,List.getElem?_append_left (by rw [← len_cps];omega)] at e
      exact hn p List.mem_cons_self (List.mem_of_getElem? e)
    cases cuts with
    | nil=>exact absurd ha (hf _ (by have e:f=pre.length:=hc;omega))
    | cons d r =>
      obtain ⟨h1,h2,h3,h4⟩:=hc
      have ed:d=pre.length+p.length:=by
        rcases Nat.lt_trichotomy d (pre.length+p.length) with h | h | h
        · exact absurd h2 (no d h1 h)
        · exact h
        · exact absurd ha (h3 _ (by omega) h)
      subst ed
      show Builtin.Str.strSub x pre.length (pre.length+p.length) :: StrLaws.partsFrom x y.length (pre.length+p.length+y.length) r=_
      have e1:Builtin.Str.strSub x pre.length (pre.length+p.length)=p:=str_ext (by
        rw [StrLaws.strSub_toList,hx',List.drop_left,Nat.add_sub_cancel_left,len_cps,List.take_left])
      have el:(pre ++ (p.cps.toList ++ y.cps.toList)).length=pre.length+p.length+y.length:=by rw [List.length_append,List.length_append, ← len_cps, ← len_cps];omega
      have ih:=split_is hy ps q x (pre ++ (p.cps.toList ++ y.cps.toList)) r f (fun u hu=>hn u (List.mem_cons_of_mem _ hu)) (by rw [hx'];simp) (by rw [el];exact h4) hf
      rw [el] at ih
      rw [e1,ih]
theorem split_join {y:Str} {c:Nat} (hk:Builtin.Str.strKind y=1) (hy:y.cps.toList[0]? = some c) {ps:List Str} (h1:1≤ps.length) (hn:∀ u∈ps,c ∉ u.cps.toList):Txt.split (Str.join y ps) y=ps:=by
  cases ps with
  | nil=>exact absurd h1 (by decide)
  | cons p ps =>
    have hyl:1≤y.length:=by
      have:=(List.getElem?_eq_some_iff.mp hy).1
      rw [len_cps];omega
    obtain ⟨f,hc,hf⟩:=StrLaws.occ_tight (Str.join y (p :: ps)) y hyl
    have key:=split_is hy ps p (Str.join y (p :: ps)) [] _ f hn (by rw [List.nil_append]) hc hf
    have one:∀ _:¬ StrLaws.At (Str.join y (p :: ps)) y (Str.join y (p :: ps)).length p.length, [Str.join y (p :: ps)]=p :: ps:=fun hna=>by
      cases ps with
      | nil=>rfl
      | cons q ps =>
        refine absurd (at_of ?_ ?_) hna
        · rw [show (Str.join y (p :: q :: ps)).cps.toList=p.cps.toList ++ (y.cps.toList ++ (Str.join y (q :: ps)).cps.toList) by
            rw [Str.join,app_cps,app_cps,List.append_assoc]
            intro z;cases z]
          rw [len_cps,List.drop_left,List.take_left]
        · rw [show Str.join y (p :: q :: ps)=p ++ y ++ Str.join y (q :: ps) by
            rw [Str.join]
            intro z;cases z]
          rw [Str.length_append,Str.length_append]
          omega
    unfold Txt.split
    split
    · rename_i h
      refine one fun hA => ?_
      rw [Bool.or_eq_true,decide_eq_true_iff,decide_eq_true_iff] at h
      rcases h with h | h
      · have:=hA.1;omega
      · rw [hk] at h
        have:∀ x:Str,1≤Builtin.Str.strKind x:=fun x=>by
          unfold Builtin.Str.strKind
          split
          · decide
          · split <;> decide
        have:=this (Str.join y (p :: ps))
        omega
    · split
      · rename_i h0 h
        refine one fun hA => ?_
        have:Builtin.Str.occurrences (Str.join y (p :: ps)) y 0 (Str.join y (p :: ps)).length ((Str.join y (p :: ps)).length+1) = []:=List.isEmpty_iff.mp h
        rw [this] at hc
        have e:f=0:=hc
        exact hf _ (by omega) hA
      · rw [StrLaws.partsBetween_eq]
        exact key
end Sw
namespace Sw
open PySem L2 PySem.NumText
noncomputable def okSigns:Str := "(),-? 0123456789abcdefghijklmnopqrstuvwxyz"
theorem ok_sign {c:Nat} (h:(97≤c∧c≤122)∨(48≤c∧c≤57)∨c=45∨c=63∨c=40∨c=41∨c=44∨c=32):c∈okSigns.cps.toList:=by
  have hc:c < 128:=by omega
  revert h
  revert hc
  revert c
  decide +kernel
noncomputable def Bal (l:List Nat):Prop:=l.count 40=l.count 41∧l.count 32=l.count 44∧∀ c∈l,c∈okSigns.cps.toList∧c < 128
theorem bal_plain {l:List Nat} (h:∀ c∈l,(97≤c∧c≤122)∨(48≤c∧c≤57)∨c=45∨c=63):Bal l:=by
  have z:∀ d,(¬ ((97≤d∧d≤122)∨(48≤d∧d≤57)∨d=45∨d=63))→l.count d=0:=fun d hd=>List.count_eq_zero.mpr fun hm=>hd (h d hm)
  refine ⟨by rw [z 40 (by omega),z 41 (by omega)],by rw [z 32 (by omega),z 44 (by omega)],fun c hc => ?_⟩
  have k:∀ d:Nat,(97≤d∧d≤122)∨(48≤d∧d≤57)∨d=45∨d=63→d < 128:=fun d hd=>by omega
  refine ⟨ok_sign ?_,k c (h c hc)⟩
  rcases h c hc with z | z | z | z
  · exact .inl z
  · exact .inr (.inl z)
  · exact .inr (.inr (.inl z))
  · exact .inr (.inr (.inr (.inl z)))
theorem bal_more:∀ {ts:List T},(∀ t∈ts,Bal t.shown.cps.toList)→Bal (more ts)
  | [],_=>⟨rfl,rfl,fun c hc=>by cases hc⟩
  | t :: ts,h=>by
    obtain ⟨a1,a2,a3⟩:=h t List.mem_cons_self
    obtain ⟨b1,b2,b3⟩:=bal_more fun u hu=>h u (List.mem_cons_of_mem _ hu)
    rw [more]
    refine ⟨?_,?_,fun c hc => ?_⟩
    · simp only [List.count_cons,List.count_append,a1,b1];rfl
    · simp only [List.count_cons,List.count_append,a2,b2]
      have e1:((44:Nat) == 32)=false:=rfl
      have e2:((32:Nat) == 32)=true:=rfl
      have e3:((44:Nat) == 44)=true:=rfl
      have e4:((32:Nat) == 44)=false:=rfl
      simp only [e1,e2,e3,e4,if_true,if_false,Bool.false_eq_true]
    · rcases List.mem_cons.mp hc with rfl | hc
      · exact ⟨ok_sign (by omega),by omega⟩
      rcases List.mem_cons.mp hc with rfl | hc
      · exact ⟨ok_sign (by omega),by omega⟩
      rcases List.mem_append.mp hc with hc | hc
      · exact a3 c hc
      · exact b3 c hc
theorem bal_tree:∀ (k:Nat) (t:T),t.Ok→t.depth≤k→Bal t.shown.cps.toList
  | 0,t,_,hd=>by have:=depth_pos t;omega
  | k+1,.num n,_,_=>by
    rw [T.shown]
    refine bal_plain fun c hc => ?_
    have hc:c∈nt n:=hc
    by_cases hn:0≤n
    · obtain ⟨m,rfl⟩:=Int.eq_ofNat_of_zero_le hn
      rw [nt_pos] at hc
      exact .inr (.inl (dg_digits m c hc))
    · obtain ⟨m,rfl,hm1⟩:∃ m:Nat,n = -(m:Int)∧1≤m:=⟨n.natAbs,by omega,by omega⟩
      rw [nt_neg m hm1] at hc
      rcases List.mem_cons.mp hc with z | hc
      · exact .inr (.inr (.inl z))
      · exact .inr (.inl (dg_digits m c hc))
  | k+1,.name x,hok,_=>by
    rw [T.Ok] at hok
    rw [T.shown]
    exact bal_plain fun c hc => .inl (hok.2.2 c hc)
  | k+1,.any x,hok,_=>by
    rw [T.Ok] at hok
    rw [shown_any]
    refine bal_plain fun c hc => ?_
    rcases List.mem_cons.mp hc with rfl | hc
    · exact .inr (.inr (.inr rfl))
    · exact .inl (hok.2.2 c hc)
  | k+1,.of x [],hok,_=>by
    rw [T.Ok] at hok
    have:=hok.2.1
    simp at this
  | k+1,.of x (t :: ts),hok,hd=>by
    rw [T.Ok] at hok
    obtain ⟨hx,_,_,hoks⟩:=hok
    rw [T.depth] at hd
    have hm:∀ u∈t :: ts,Bal u.shown.cps.toList:=fun u hu=>bal_tree k u (oks_all.mp hoks u hu) (by have:=deepest_le hu;omega)
    obtain ⟨a1,a2,a3⟩:=hm t List.mem_cons_self
    obtain ⟨b1,b2,b3⟩:=bal_more fun u hu=>hm u (List.mem_cons_of_mem _ hu)
    obtain ⟨w1,w2,w3⟩:Bal x.cps.toList:=bal_plain fun c hc => .inl (hx.2.2 c hc)
    rw [shown_of]
    refine ⟨?_,?_,fun c hc => ?_⟩
    · simp only [List.count_cons,List.count_append,List.count_nil,a1,b1,w1]
      have e1:((40:Nat) == 40)=true:=rfl
      have e2:((41:Nat) == 40)=false:=rfl
      have e3:((40:Nat) == 41)=false:=rfl
      have e4:((41:Nat) == 41)=true:=rfl
      simp only [e1,e2,e3,e4,if_true,if_false,Bool.false_eq_true]
      omega
    · simp only [List.count_cons,List.count_append,List.count_nil,a2,b2,w2]
      rfl
    · rcases List.mem_append.mp hc with hc | hc
      · exact w3 c hc
      rcases List.mem_cons.mp hc with rfl | hc
      · exact ⟨ok_sign (by omega),by omega⟩
      rcases List.mem_append.mp hc with hc | hc
      · exact a3 c hc
      rcases List.mem_append.mp hc with hc | hc
      · exact b3 c hc
      · rw [List.mem_singleton.mp hc];exact ⟨ok_sign (by omega),by omega⟩
end Sw
namespace Sw
open PySem L2 PySem.NumText

noncomputable def okB:Nat→List Nat→Prop
  | _, []=>True
  | p,c :: l=>(c=32→p=44)∧okB c l
noncomputable def Free (l:List Nat):Prop := ∀ p,okB p l
theorem free_plain {l:List Nat} (h:32 ∉ l):Free l:=by
  induction l with
  | nil=>intro _;exact trivial
  | cons c l ih =>
    intro p
    exact ⟨fun e=>absurd (e ▸ List.mem_cons_self) h,ih (fun z=>h (List.mem_cons_of_mem _ z)) c⟩
theorem free_app {a b:List Nat} (ha:Free a) (hb:Free b):Free (a ++ b):=by
  intro p
  have:∀ (a:List Nat) (p:Nat),okB p a→okB p (a ++ b):=fun a=>by
    induction a with
    | nil=>intro p _;exact hb p
    | cons c a ih=>intro p h;exact ⟨h.1,ih c h.2⟩
  exact this a p (ha p)
theorem free_comma {l:List Nat} (h:Free l):Free (44 :: 32 :: l):=fun p=>⟨fun e=>absurd e (by decide),fun _=>rfl,h 32⟩
theorem free_more:∀ {ts:List T},(∀ t∈ts,Free t.shown.cps.toList)→Free (more ts)
  | [],_=>fun _=>trivial
  | t :: ts,h=>by
    rw [more]
    exact free_comma (free_app (h t List.mem_cons_self) (free_more fun u hu=>h u (List.mem_cons_of_mem _ hu)))
theorem num_signs (n:Int):∀ c∈nt n,c=45∨48≤c∧c≤57:=by
  rcases Int.lt_or_le n 0 with h | h
  · obtain ⟨m,e⟩:∃ m:Nat,n = -(m:Int):=⟨n.natAbs,by omega⟩
    subst e
    rw [nt_neg m (by omega)]
    intro c hc
    rcases List.mem_cons.mp hc with rfl | hc
    · exact .inl rfl
    · exact .inr (dg_digits m c hc)
  · obtain ⟨m,e⟩:=Int.eq_ofNat_of_zero_le h
    subst e
    rw [nt_pos]
    exact fun c hc => .inr (dg_digits m c hc)
theorem leaf_plain {t:T} (h:t.Ok) (hl:∀ x ts,t ≠ .of x ts):32 ∉ t.shown.cps.toList:=by
  cases t with
  | num n =>
    rw [T.shown]
    intro z
    have:=num_signs n 32 z
    omega
  | name x =>
    rw [T.Ok] at h
    rw [T.shown]
    exact word_not h (by decide)
  | any x =>
    rw [T.Ok] at h
    rw [shown_any]
    intro z
    rcases List.mem_cons.mp z with z | z
    · cases z
    · exact word_not h (by decide) z
  | of x ts=>exact absurd rfl (hl x ts)
theorem shown_free:∀ (k:Nat) (t:T),t.Ok→t.depth≤k→Free t.shown.cps.toList
  | 0,t,_,h=>by have:=depth_pos t;omega
  | k+1,.num n,h,_=>free_plain (leaf_plain h fun _ _ e=>nomatch e)
  | k+1,.name n,h,_=>free_plain (leaf_plain h fun _ _ e=>nomatch e)
  | k+1,.any n,h,_=>free_plain (leaf_plain h fun _ _ e=>nomatch e)
  | k+1,.of x ts,h,hd=>by
    rw [T.Ok,oks_all] at h
    rw [T.depth] at hd
    cases ts with
    | nil=>exact absurd h.2.1 (by decide)
    | cons t ts =>
      have key:∀ u∈t :: ts,Free u.shown.cps.toList:=fun u hu=>shown_free k u (h.2.2.2 u hu) (by have:=deepest_le hu;omega)
      rw [shown_of]
      refine free_app (free_plain (word_not h.1 (by decide))) ?_
      refine free_app (a := [40]) (free_plain (by decide)) (free_app (key t List.mem_cons_self) (free_app (free_more fun u hu=>key u (List.mem_cons_of_mem _ hu)) (free_plain (by decide))))
theorem okB_at:∀ {l:List Nat} {p i:Nat},okB p l→l[i]? = some 32→i=0∧p=44∨∃ j,i=j+1∧l[j]? = some 44
  | c :: l,p,0,h,e=>by
    have e':c=32:=by simpa using e
    exact .inl ⟨rfl,h.1 e'⟩
  | c :: l,p,i+1,h,e=>by
    have e':l[i]? = some 32:=by simpa using e
    rcases okB_at h.2 e' with ⟨rfl,z⟩ | ⟨j,rfl,z⟩
    · exact .inr ⟨0,rfl,by simp [z]⟩
    · exact .inr ⟨j+1,rfl,by simpa using z⟩
theorem shown_blank {t:T} (h:t.Ok) {i:Nat} (hi:t.shown.cps.toList[i]? = some 32):∃ j,i=j+1∧t.shown.cps.toList[j]? = some 44:=by
  rcases okB_at (shown_free t.depth t h (Nat.le_refl _) 0) hi with ⟨_,z⟩ | z
  · cases z
  · exact z
theorem shown_last {t:T} (h:t.Ok) (hb:32∈t.shown.cps.toList):t.shown.cps.toList[t.shown.length - 1]? = some 41:=by
  cases t with
  | num n=>exact absurd hb (leaf_plain h fun _ _ e=>nomatch e)
  | name n=>exact absurd hb (leaf_plain h fun _ _ e=>nomatch e)
  | any n=>exact absurd hb (leaf_plain h fun _ _ e=>nomatch e)
  | of x ts =>
    rw [T.shown,len_cps,app_cps]
    show ((x ++ "(" ++ Str.join ", " (T.showns ts)).cps.toList ++ [41])[((x ++ "(" ++ Str.join ", " (T.showns ts)).cps.toList ++ [41]).length - 1]? = some 41
    rw [List.length_append,List.length_singleton,Nat.add_sub_cancel,List.getElem?_append_right (Nat.le_refl _),Nat.sub_self]
    rfl
theorem shown_sign {t:T} (h:t.Ok) {c:Nat} (hc:c ∉ okSigns.cps.toList):c ∉ t.shown.cps.toList:=fun z=>hc ((bal_tree t.depth t h (Nat.le_refl _)).2.2 c z).1
theorem if_no {t:T} (h:t.Ok):∀ k, ¬ StrLaws.At t.shown (" if " : Str) t.shown.length k:=fun k hk=>by
  have e2:=at_get hk (show (" if " : Str).cps.toList[2]? = some 102 from rfl)
  have e3:=at_get hk (show (" if " : Str).cps.toList[3]? = some 32 from rfl)
  obtain ⟨j,ej,hj⟩:=shown_blank h e3
  have:j=k+2:=by omega
  subst this
  rw [e2] at hj
  cases hj
theorem if_first {t:T} {x b:Str} (h:t.Ok) (hx:x.cps.toList=t.shown.cps.toList ++ ((" if " : Str).cps.toList ++ b.cps.toList)):Txt.partition x (" if " : Str)=(t.shown,(" if " : Str),b):=by
  refine cut_first hx fun k hk hA => ?_
  have e0:=at_get hA (show (" if " : Str).cps.toList[0]? = some 32 from rfl)
  have e1:=at_get hA (show (" if " : Str).cps.toList[1]? = some 105 from rfl)
  have e2:=at_get hA (show (" if " : Str).cps.toList[2]? = some 102 from rfl)
  have e3:=at_get hA (show (" if " : Str).cps.toList[3]? = some 32 from rfl)
  rw [hx] at e0 e1 e2 e3
  rw [len_cps] at hk
  have hs:∀ i,t.shown.cps.toList.length≤i→i < t.shown.cps.toList.length+4→(t.shown.cps.toList ++ ((" if " : Str).cps.toList ++ b.cps.toList))[i]? = (" if " : Str).cps.toList[i - t.shown.cps.toList.length]? := fun i h1 h2=>by
    rw [List.getElem?_append_right h1,List.getElem?_append_left]
    show i - t.shown.cps.toList.length < 4
    omega
  rw [Nat.add_zero,List.getElem?_append_left hk] at e0
  by_cases h1:k+1 < t.shown.cps.toList.length
  · rw [List.getElem?_append_left h1] at e1
    by_cases h2:k+2 < t.shown.cps.toList.length
    · rw [List.getElem?_append_left h2] at e2
      by_cases h3:k+3 < t.shown.cps.toList.length
      · rw [List.getElem?_append_left h3] at e3
        obtain ⟨j,ej,hj⟩:=shown_blank h e3
        have:j=k+2:=by omega
        subst this
        rw [e2] at hj
        cases hj
      · have hl:=shown_last h (List.mem_of_getElem? e0)
        rw [len_cps,show t.shown.cps.toList.length - 1=k+2 by omega,e2] at hl
        cases hl
    · rw [hs _ (by omega) (by omega),show k+2 - t.shown.cps.toList.length=0 by omega] at e2
      exact absurd (Option.some.inj e2) (by decide)
  · rw [hs _ (by omega) (by omega),show k+1 - t.shown.cps.toList.length=0 by omega] at e1
    exact absurd (Option.some.inj e1) (by decide)
end Sw
namespace L2
open PySem PySem.Spec PyProof.Rows
theorem tc1 (a b:Value):checkTypeCall "enumerate" ⟨[a], [("start",b)]⟩=pure ():=by kernel_rfl
theorem nc1 (a b:Value):checkBuiltinCall "enumerate.__new__" ⟨[.type "enumerate",a], [("start",b)]⟩=pure ():=by kernel_rfl
theorem made1 (l:Addr) (items:Array Value) (n:Nat) (dct:Option Addr) (sl:Array (Option Value)) (t:Tok) :
    Meets (Builtin.«enumerate.__new__» ⟨[.type "enumerate",.ref l], [("start",.int 1 t)]⟩) (fun _ R s=>s.heap.get? l=some { cls := .type "list",dict:=dct,data := .seq items n,slots:=sl } ∧
      R (.ok (.ret (.ref (s.heap.push { cls := .type "list_iterator",data := .fields #[.ref l,.int 0 0] }).objs.size)))
        { s with heap:=(s.heap.push { cls := .type "list_iterator",data := .fields #[.ref l,.int 0 0] }).push { cls := .type "enumerate",data := .fields #[.none,.bool false,.ref s.heap.objs.size,rawInt 1,.none,.none] } }) :=
  .of_wp fun prog w A R s h=>by
    obtain ⟨hp,g,d,tk,os⟩:=s
    obtain ⟨hl,h⟩:=h
    have sb:=sub_enumerate
    have isL:Heap.IsList (Shared.heap ⟨hp,g,d,tk,os⟩) l items:=⟨_,hl,rfl,n,rfl⟩
    wp_walk using AutoSeq1.wpAny_loadPart' hl
    refine wpAny_stack_any fun st=>wpAny_pure ?_
    split
    · rename_i c _ _ _ _ _
      rcases (c == Value.type "enumerate")
      all_goals (wp_walk using AutoSeq1.wpAny_loadPart' hl,wpAny_pyIter_list isL)
      all_goals exact ⟨_,rfl,h⟩
    · wp_walk using AutoSeq1.wpAny_loadPart' hl,wpAny_pyIter_list isL
      exact ⟨_,rfl,h⟩
theorem initK (self a b:Value):Meets (Builtin.«object.__init__» ⟨[self,a], [("start",b)]⟩) (fun _ R s=>s.TypeIs self "enumerate" ∧ R (.ok (.ret .none)) s):=by
  have li:=F.called_enumerate.init.lookup
  have lm:=F.called_enumerate.made
  have le:(some "enumerate.__new__" != some "object.__new__")=true:=by decide
  refine Meets.of_wp fun prog w A R s ⟨ty,q⟩ => ?_
  repeat (any_goals (first | wp_step | assumption))
  exact ⟨_,rfl,q⟩
theorem okI (a b c:Value):argsOk "object.__init__" ⟨[a,b], [("start",c)]⟩:=by
  kernel_rfl
noncomputable def enumS (s:Shared) (l:Addr):Shared := { s with heap:=(s.heap.push { cls := .type "list_iterator",data := .fields #[.ref l,.int 0 0] }).push { cls := .type "enumerate",data := .fields #[.none,.bool false,.ref s.heap.objs.size,rawInt 1,.none,.none] } }
noncomputable def EnumR (s:Shared) (l:Addr) (r:Result) (s':Shared):Prop:=r = .ok (.ret (.ref (s.heap.push { cls := .type "list_iterator",data := .fields #[.ref l,.int 0 0] }).objs.size))∧s'=enumS s l
noncomputable def NoneR (s:Shared) (r:Result) (s':Shared):Prop:=r = .ok (.ret .none)∧s'=s
section
variable {prog:Program} {w:World} {A:Around} {E:Value→Shared→Prop} {s:Shared}
theorem call_enum1 {l:Addr} {items:Array Value} {t:Tok} {Q:Value→Shared→Prop} (hL:s.heap.IsList l items)
    (h:∀ h',IsEnum h' (s.heap.objs.size+1) s.heap.objs.size 1 .none→h'.IsListIter s.heap.objs.size l 0→(∀ b o,s.heap.get? b=some o→h'.get? b=some o)→Q (.ref (s.heap.objs.size+1)) { s with heap:=h' }) :
    wpAny (model prog w) A (call (.type "enumerate") [.ref l] [("start",.int 1 t)]) Q E s:=by
  obtain ⟨⟨c,dct,dt,sl⟩,g,ec,n,ed⟩:=hL
  obtain rfl:c = .type "list" := ec
  obtain rfl:dt = .seq items n:=ed
  have ft:=F.called_enumerate
  obtain ⟨c1,tl,m1⟩:=ft.mro
  have m2:=ft.made
  have m3:=ft.sub
  have ct:=tc1 (.ref l) (.int 1 t)
  have cn:=nc1 (.ref l) (.int 1 t)
  have n1:=ft.notType
  have n2:=ft.canCreate
  refine wpAny_call (codeAny_of_tree (show wpAny _ _ (callAny (.type "enumerate") _) _ _ _ from wpAny_pure ⟨Code.quiet_builtin _ (by decide +kernel),?_⟩))
  refine codeAny_builtin F.entry_type_call ?_
  rw [Around.under_plain (weight_type_call_type "enumerate" [.ref l] [("start",.int 1 t)]) (units_type_call_type "enumerate" [.ref l] [("start",.int 1 t)])]
  repeat (any_goals (first | wp_step | assumption))
  have hz:(s.heap.push { cls := .type "list_iterator",data := .fields #[.ref l,.int 0 0] }).objs.size=s.heap.objs.size+1:=Heap.size_push ..
  have ge:=Heap.get?_push_size (s.heap.push { cls := .type "list_iterator",data := .fields #[.ref l,.int 0 0] }) (o := { cls := .type "enumerate",data := .fields #[.none,.bool false,.ref s.heap.objs.size,rawInt 1,.none,.none] }) rfl
  refine codeAny_mono (codeAny_call_builtin (R:=EnumR s l) ft.plain F.entry_enumerate_new (wpAny_of_eq cn (made1 l items n dct sl t prog w A.in1 (EnumR s l) s ⟨g,rfl,rfl⟩))) fun r s1 hr => ?_
  obtain ⟨rfl,rfl⟩:=hr
  rw [hz] at ge ⊢
  have hT:Shared.TypeIs (enumS s l) (.ref (s.heap.objs.size+1)) "enumerate" := ⟨_,ge,rfl⟩
  have fin:=h _ ge ⟨_,Heap.get?_push_of_some _ (Heap.get?_push_size _ rfl),rfl,rfl⟩ fun b o x=>Heap.get?_push_of_some _ (Heap.get?_push_of_some _ x)
  have li:=ft.init.lookup
  have lb:=ft.init.bind (.ref (s.heap.objs.size+1))
  repeat (any_goals (first | wp_step | assumption))
  refine codeAny_mono (codeAny_call_builtin (R:=NoneR (enumS s l)) ft.init.plain F.entry_object_init (ft.init.check _ _ _ _ _ _ _ _ hT (okI _ _ _) (initK _ _ _ prog w A.in1 (NoneR (enumS s l)) _ ⟨hT,rfl,rfl⟩))) fun r2 s2 hr2 => ?_
  obtain ⟨rfl,rfl⟩:=hr2
  repeat (any_goals (first | wp_step | assumption))
end
end L2
namespace L2
open PySem PySem.Spec PyProof.Rows
theorem draws_shift {prog:Program} {w:World} {A:Around} {it:Addr} {fp:List Addr} {n:Nat} {P:Nat→Value→Prop} {St:Nat→Heap→Prop} (D:Draws prog w A it fp n P St):Draws prog w A it fp (n+1) (fun j v=>∃ i,j=i+1∧P i v) (fun j h=>∃ i,j=i+1∧St i h) where
  live:=fun j h ⟨i,_,st⟩=>D.live i h st
  frame:=fun j h h' ⟨i,e,st⟩ k=>⟨i,e,D.frame i h h' st k⟩
  item:=fun j s Q E hj ⟨i,e,st⟩ hQ=>D.item i s Q E (by omega) st fun x h' tk p st' sb=>hQ x h' tk ⟨i,e,p⟩ ⟨i+1,by omega,st'⟩ sb
  done:=fun s Q E ⟨i,e,st⟩ hE=>by
    obtain rfl:i=n:=by omega
    exact D.done s Q E st hE
noncomputable def Ite1 (K:PySem.W.Frag) (a:Addr):It :=
  ⟨fun i H=>∃ xs x,SqL K H a xs∧xs[i]? = some x,
   fun i H x H'=>∃ p v,H p=none∧x = .ref p∧(∀ xs,SqL K H a xs→xs[i]? = some v)∧H'=upd H p (.tup [.int ((i+1:Nat):Int),v]),
   fun i H=>∃ xs,SqL K H a xs∧xs.length=i⟩
theorem turn_enum1 {P:Program} {w:World} {K:PySem.W.Frag} {elts:List Expr} {k:Nat} {tp:Pos} (a e it:Addr) (hne:e≠it) :
    Turn P w K (.Tuple elts k tp) (Ite1 K a) [e,it] e (fun i h=>(∃ old,IsEnum h e it ((i+1:Nat):Int) old)∧h.IsListIter it a i) where
  mem:=by simp
  obj:=fun i h st b hb=>by
    obtain ⟨⟨old,he⟩,hit⟩:=st
    rcases List.mem_cons.mp hb with rfl | hb
    · exact ⟨_,he,fun v z=>by
        have z':Data.fields _=Data.cell v:=z
        cases z'⟩
    · have e:b=it:=by simpa using hb
      subst e
      obtain ⟨o,e,c,d⟩:=hit
      exact ⟨o,e,fun v z=>by rw [d] at z;cases z⟩
  keep:=fun i h h' st k=>by
    obtain ⟨⟨old,he⟩,hit⟩:=st
    exact ⟨⟨old,k e (by simp) _ he⟩,hit.at fun o q=>k it (by simp) o q⟩
  item:=by
    intro X hP hw hK hc i pins s σ H E I hf st hg
    subst hP hw hK
    obtain ⟨⟨old,he⟩,hit⟩:=st
    obtain ⟨xs,x,hq,hx⟩:=hg
    obtain ⟨its,rv,p,hz⟩:=I.list hq
    obtain ⟨u,hu,ru⟩:=rv.get hx
    have hai:a≠it:=fun z=>by
      obtain ⟨o,n,e1,c1,_⟩:=p
      obtain ⟨o',e2,c2,_⟩:=hit
      rw [z,e2] at e1;cases e1
      rw [c1] at c2
      exact absurd (Value.type.inj c2) (by decide)
    have hae:a≠e:=fun z=>by
      obtain ⟨o,n,e1,c1,_⟩:=p
      rw [z,he] at e1;cases e1
      exact absurd (Value.type.inj c1) (by decide)
    have hlt:i < its.toArray.size:=by
      rw [List.size_toArray]
      exact (List.getElem?_eq_some_iff.mp hu).1
    have hel:e < s.heap.objs.size:=Heap.lt_size he
    have hil:it < s.heap.objs.size:=by obtain ⟨o,q,_⟩:=hit;exact Heap.lt_size q
    refine wpAny_pyNext_enum_itemD (draws_shift (Draws.list (A:=X.A.in1) (I.ok.hd hc) it a hai its.toArray)) he ⟨i,rfl,hit,p.isList⟩ (Nat.succ_lt_succ hlt) hne (by
      intro z
      rcases List.mem_cons.mp z with z | z
      · exact hne z
      · exact hae (List.mem_singleton.mp z).symm) fun y h1 tk hy ho hs1 hT hsz hk => ?_
    obtain ⟨i1,ei,hy⟩:=hy
    obtain rfl:i1=i:=by omega
    obtain ⟨i2,ei2,hs1⟩:=hs1
    obtain rfl:i2=i1+1:=by omega
    have hyu:y=u:=by
      have e1:its[i1]? = some y:=by simpa using hy
      rw [hu] at e1
      exact (Option.some.inj e1).symm
    subst hyu
    refine ⟨_,rfl,wpAny_letOwnedTupleGo_enum ho fun h2 he2 hs2 => ?_⟩
    have kk:∀ b o,b ∉ [e,it]→s.heap.get? b=some o→h2.get? b=some o:=fun b o hb q=>by
      have b1:b≠e:=fun z=>hb (by simp [z])
      have b2:b≠it:=fun z=>hb (by simp [z])
      exact (hs2.2 b b1).trans (hk b o b1 b2 q)
    have hTe:s.heap.objs.size≠e:=Nat.ne_of_gt hel
    refine ⟨.ref s.heap.objs.size,upd H s.heap.objs.size (.tup [.int ((i1+1:Nat):Int),x]),?_,rfl,⟨_,x,I.hok.fresh (Nat.le_refl _),rfl,fun ys hy=>by rw [I.list_inj hy hq];exact hx,rfl⟩,
      ⟨⟨_,by simpa using he2⟩,hs1.1.at fun o q=>(hs2.2 it (Ne.symm hne)).trans q⟩,fun b hb => ?_⟩
    · refine I.turnedLaid (ch := [e,it]) (t':=tk+1) kk hf (Nat.le_refl _) ⟨by show 2≤sizeLine;decide, [.int ((i1+1:Nat):Int) tk,y],.cons ⟨_,rfl⟩ (.cons ru .nil),?_⟩
      exact ⟨_,(hs2.2 _ hTe).trans hT,rfl,_,rfl,rfl⟩
    · have hb':=hf b hb
      have:b≠s.heap.objs.size:=by
        rcases List.mem_cons.mp hb with rfl | hb
        · exact Nat.ne_of_lt hel
        · rw [List.mem_singleton.mp hb];exact Nat.ne_of_lt hil
      rw [upd_ne this]
      exact hb'.1
  done:=by
    intro X hP hw hK hc i pins s σ H E I hf st hg
    subst hP hw hK
    obtain ⟨⟨old,he⟩,hit⟩:=st
    obtain ⟨xs,hq,hx⟩:=hg
    obtain ⟨its,rv,p,hz⟩:=I.list hq
    have hai:a≠it:=fun z=>by
      obtain ⟨o,n,e1,c1,_⟩:=p
      obtain ⟨o',e2,c2,_⟩:=hit
      rw [z,e2] at e1;cases e1
      rw [c1] at c2
      exact absurd (Value.type.inj c2) (by decide)
    have hl:=rv.length
    have hi:i=its.toArray.size:=by rw [List.size_toArray];omega
    subst hi
    obtain ⟨f0,f1,f2,f3,f4,f5⟩:=hf it (by simp)
    exact wpAny_pyNext_enum_endD (draws_shift (Draws.list (A:=X.A.in1) (I.ok.hd hc) it a hai its.toArray)) he ⟨_,rfl,hit,p.isList⟩ fun h1 eb=>⟨rfl,I.turned (t':=s.toks) (fun b o hb q=>eb b o hb q) f0 f1 f3 f4 f5⟩
  self:=fun _ _ _ _ _ st h=>by
    obtain ⟨⟨old,he⟩,_⟩:=st
    exact wpAny_pyIter_enum he h

theorem callWith_typeK {M:Model} {A:Around} {E:Value→Shared→Prop} {s:Shared} {pos:Pos} {T:String} {x:Sem Value} {kws:List (Option Str × Sem Value)} {Q:Value→Shared→Prop} (k1:kws.any (·.1.isNone)=false) (k2:kws.all (·.1.isSome)=true)
    (h:wpAny M A (spliced [(false,x)]) (fun vs s1=>wpAny M A (evalAll (kws.map (·.2))) (fun ks s2=>wpAny M A (call (.type T) vs ((kws.filterMap (·.1)).zip ks)) Q E s2) E s1) E s):wpAny M A (callWith pos (.type T) [] [(false,x)] kws) Q E s:=by
  unfold callWith
  have ha:=evalArgs_kwB (f := .type T) (Q:=fun a s1=>wpAny M A (call (.type T) a.pos a.kw) Q E s1) k2 h
  refine wpAny_bind (wpAny_holding (wpAny_mono ha (fun a s1 h1=>wpAny_bind ?_) fun _ _ z=>z))
  refine wpAny_standAt ?_
  have e:([(false,x)]:List (Bool × Sem Value)).any (·.1)=false:=rfl
  simp only [e,k1,Bool.or_false]
  refine wpAny_bind (wpAny_pure (wpAny_bind (wpAny_mono h1 (fun r s2 q => ?_) fun _ _ z=>z)))
  exact wpAny_bind (wpAny_holding (wpAny_point (wpAny_pure q)))
inductive J_iEnum1 (K:PySem.W.Frag) (R:It→Hp→Prop) (vs:List V) (H1:Hp):Prop
  | mk:∀ a,(vs = [.ref a])→((∃ xs,SqL K H1 a xs))→(R (Ite1 K a) H1)→J_iEnum1 K R vs H1
noncomputable def iEnum1 (K:PySem.W.Frag) (ta:TA):TI:=fun σ H R=>ta σ H fun vs H1=>J_iEnum1 K R vs H1
section
variable {X:Cx}
theorem pi_enum1 {l:Expr} {ta:TA} {elts:List Expr} {k j:Nat} {tp p pos cp kp:Pos} (hg:Gl X "enumerate") (hm:X.mg "enumerate" = none) (ha:PA X [l] ta) (hs:starEach [l] X.env = [(false,eval l X.env)]:=by rfl) :
    PI X (.Tuple elts k tp) (.Call (.Name "enumerate" p) [l] [⟨some "start",.Constant (.int 1) j cp,kp⟩] pos) (iEnum1 X.K ta):=by
  intro pins s σ H R I h
  refine wpAny_Call_Name_kw (ld_blt I hg hm boot_enum ?_ (by decide) (by decide))
  have ha':=ha pos
  rw [hs] at ha' ⊢
  show wpAny _ _ (callWith pos (.type "enumerate") [] [(false,eval l X.env)] (backToKw pos (keywordEach [⟨some "start",.Constant (.int 1) j cp,kp⟩] X.env))) _ _ _
  refine callWith_typeK ?_ ?_ ?_
  · rfl
  · rfl
  refine thn (ha' pins s σ H _ I h) fun us s1 ⟨vs,H1,I1,r1,q1⟩ => ?_
  refine kws_cons (thn (pe_int (X:=X) pins s1 σ H1 (fun v H2=>v = .int 1∧H2=H1) I1 ⟨rfl,rfl⟩) fun dv s2 ⟨y,H2,I2,r2,q2⟩ => ?_)
  refine kws_nil ?_
  obtain ⟨rfl,rfl⟩:=q2
  obtain ⟨td,rfl⟩:=(show ∃ t,dv=Value.int 1 t from r2)
  obtain ⟨a,e,⟨xs,hq⟩,q⟩:=q1
  subst e
  obtain ⟨u,rfl,ru⟩:=vals1 r1
  cases ru
  obtain ⟨its,rv,pl,hz⟩:=I2.list hq
  show wpAny _ _ (call (.type "enumerate") [.ref a] [("start",.int 1 td)]) _ _ s2
  refine call_enum1 pl.isList fun h1 he hit hk => ?_
  have I3:Inv X pins σ H2 { s2 with heap:=h1 }:=I2.kept (t':=s2.toks) hk
  have hne:s2.heap.objs.size+1≠s2.heap.objs.size:=Nat.succ_ne_self _
  refine wpAny_pyIter_enum (s := { s2 with heap:=h1 }) he ⟨_, [s2.heap.objs.size+1,s2.heap.objs.size],_,_,H2,rfl,I3,turn_enum1 a _ _ hne,⟨⟨_,he⟩,hit⟩,fun b hb => ?_,q⟩
  rcases List.mem_cons.mp hb with rfl | hb
  · exact I2.fpOk (Nat.le_succ _) (I2.hok.fresh (Nat.le_succ _))
  · rw [List.mem_singleton.mp hb]
    exact I2.fpOk (Nat.le_refl _) (I2.hok.fresh (Nat.le_refl _))
end
theorem for_enum1 {K:PySem.W.Frag} {a:Addr} {xs:List V} {g:TG} {tb:TS} {D:Ends} {σ : St} {H:Hp} (Pv:Nat→St→Hp→Prop) (h0:Pv 0 σ H) (hl:∀ i σ H,i≤xs.length→Pv i σ H→SqL K H a xs)
    (hs:∀ i x p σ H,xs[i]? = some x→Pv i σ H→H p=none→g (.ref p) σ (upd H p (.tup [.int ((i+1:Nat):Int),x])) fun σ2 H2=>tb { D with nx:=Pv (i+1),ct:=Pv (i+1),bk:=D.nx } σ2 H2) (hd:∀ σ H,Pv xs.length σ H→D.nx σ H) :
    ∃ W:Nat→Nat→St→Hp→Prop,(∃ m,W 0 m σ H)∧∀ i m σ H,W i m σ H →
      ((Ite1 K a).stop i H∧D.nx σ H)∨((Ite1 K a).go i H∧∃ N:St→Hp→Prop,(∀ σ' H',N σ' H'→∃ m',m' < m∧W (i+1) m' σ' H')∧∀ x H',(Ite1 K a).yld i H x H'→g x σ H' fun σ2 H2=>tb { D with nx:=N,ct:=N,bk:=D.nx } σ2 H2):=by
  refine ⟨fun i m σ H=>m=xs.length - i∧i≤xs.length∧Pv i σ H,⟨xs.length,by simp,Nat.zero_le _,h0⟩,?_⟩
  rintro i m σ H ⟨rfl,hi,p⟩
  have q:=hl i σ H hi p
  by_cases hlt:i < xs.length
  · refine .inr ⟨⟨xs,xs[i],q,by simp [hlt]⟩,Pv (i+1),fun σ' H' p'=>⟨xs.length - (i+1),by omega,rfl,hlt,p'⟩,fun x H' y => ?_⟩
    obtain ⟨pa,v,hpa,rfl,hv,rfl⟩:=y
    exact hs i v pa σ H (hv xs q) p hpa
  · have e:i=xs.length:=by omega
    subst e
    exact .inl ⟨⟨xs,q,rfl⟩,hd σ H p⟩
end L2
namespace L2
open PySem PySem.Spec PyProof.Rows
theorem vals_by:∀ {xs:List V} {us:List Value},xs.length=us.length→(∀ (j:Nat) x u,xs[j]? = some x→us[j]? = some u→RelV x u)→Vals xs us
  | [], [],_,_ => .nil
  | [],_ :: _,h,_=>by cases h
  | _ :: _, [],h,_=>by cases h
  | x :: xs,u :: us,h,f => .cons (f 0 x u rfl rfl) (vals_by (by simpa using h) fun j a b ha hb=>f (j+1) a b (by simpa using ha) (by simpa using hb))
section
variable {X:Cx}
inductive J_call_list_dict (xs:List V) (H:Hp) (Q:VK):Prop
  | mk:∀ p kvs,(xs = [.ref p])→(Rd H p (.dK kvs))→(∀ l,H l=none→Q (.ref l) (upd H l (.lst (kvs.map fun kv=>kV kv.1))))→J_call_list_dict xs H Q
theorem call_list_dict (hc:X.calm=true):CallR X (.type "list") (fun xs H Q=>J_call_list_dict xs H Q):=by
  intro pins s σ H xs us Q I r h
  obtain ⟨p,kvs,rfl,hd,q⟩:=h
  obtain ⟨u,rfl,ru⟩:=vals1 r
  cases ru
  obtain ⟨z,lo,vs,rel,dd⟩:=dk_rd I.hok hd
  obtain ⟨ep,hat⟩:=dd.dictAt
  have hl:=rel.length
  have hk:=rel.keys
  refine PySem.W.kdl_call (PySem.W.kdl_dict (knd:=mixKind X.prog X.w) (kvs:=vs) (ep:=ep) lo) (I.ok.hd hc) hat (by rw [← hl];exact z) fun h' tk acc' c' kp hS hacc => ?_
  refine ⟨.ref s.heap.objs.size,_,I.laid kp (Nat.le_refl _) (show ObjOk X.prog X.w _ h' _ (.lst (kvs.map fun kv=>kV kv.1)) from ⟨by rw [List.length_map];exact z,acc'.toList,c',?_,by simpa using hS⟩),rfl,q _ (I.hok.fresh (Nat.le_refl _))⟩
  refine vals_by (by rw [List.length_map,hl,Array.length_toList];exact hacc.1.symm) fun j x v hx hv => ?_
  obtain ⟨k,y,hkv,his⟩:=hacc.2 j v (by rw [← Array.getElem?_toList];exact hv)
  have e1:(kvs.map (·.1))[j]? = some k:=by rw [hk,List.getElem?_map,hkv];rfl
  rw [List.getElem?_map] at e1 hx
  cases e:kvs[j]? with
  | none=>rw [e] at e1;cases e1
  | some kv =>
    rw [e] at e1 hx
    have ek:kv.1=k:=Option.some.inj e1
    have ex:kV kv.1=x:=Option.some.inj hx
    rw [← ex,ek]
    rcases keyIs_shape (show keyIs k v=true from his) with ⟨i,t,rfl,rfl⟩ | ⟨y,t,rfl,rfl⟩
    · exact ⟨t,rfl⟩
    · exact ⟨t,rfl⟩
end
end L2
namespace Sw
open PySem L2
end Sw
namespace L2
open PySem PySem.Spec PyProof.Rows
section
variable {X:Cx}
inductive J_call_isC (kK:PySem.W.Frag) (xs:List V) (H:Hp) (Q:VK):Prop
  | mk:∀ x c t b,(xs = [x,.ref c])→(TyOf kK H x t)→(PySem.W.kitOne kK t (.ref c)=some b)→(Q (.bl b) H)→J_call_isC kK xs H Q
theorem call_isC:CallR X (.builtin "isinstance") (fun xs H Q=>J_call_isC X.K xs H Q):=by
  intro pins s σ H xs us Q I r h
  obtain ⟨x,c,t,b,rfl,ty,e,q⟩:=h
  obtain ⟨u,w',rfl,rx,ry⟩:=vals2 r
  cases ry
  exact isinst_ok I rx ty e fun tk=>⟨.bl b,H,I.tok _,rfl,q⟩
end
structure ClsK (K:PySem.W.Frag) (C CK:Addr):Prop where
  cl:Cls K C
  ha:PySem.W.findIn K (.ref C) "__class__" = some (some (.builtin "object.__class__"))
  hn:PySem.W.specialIn K (.builtin "object.__class__") "__get__" = some (some (.builtin "getset_descriptor.__get__"))
  htk:PySem.W.takesIn K (.builtin "object.__class__")=some true
  hm:PySem.W.mroIn K C (.type "object")=some true
  kit:PySem.W.kitOne K (.ref C) (.ref CK)=some true
theorem ClsK.ty {K:PySem.W.Frag} {C CK a dx:Addr} {H:Hp} {fs:List (Str × V)} (h:ClsK K C CK) (e:H a=some (.ins C dx fs)):TyOf K H (.ref a) (.ref C) := .ins e h.cl h.ha h.hn h.htk h.hm
end L2
namespace K71
open PySem L2 Sw
noncomputable def top (i:Nat):Stmt:=PySem.Challenge.pw_samewise_k71_orders_read.main.body.getD i (.Pass ⟨0,0,0,0⟩)
noncomputable abbrev s_parts:Stmt:=top 6
theorem sc_parts:FnScope ["tree", "total", "arm"] ["tree"] (defScope s_parts):=⟨rfl,rfl,rfl,by decide +kernel,rfl,by decide +kernel,by decide +kernel⟩
noncomputable abbrev s_knots:Stmt:=top 7
theorem sc_knots:FnScope ["pattern", "total", "arm"] ["pattern"] (defScope s_knots):=⟨rfl,rfl,rfl,by decide +kernel,rfl,by decide +kernel,by decide +kernel⟩
noncomputable abbrev s_note_holes:Stmt:=top 9
theorem sc_note_holes:FnScope ["pattern", "found", "arm"] ["pattern", "found"] (defScope s_note_holes):=⟨rfl,rfl,rfl,by decide +kernel,rfl,by decide +kernel,by decide +kernel⟩
noncomputable abbrev s_holes:Stmt:=top 8
theorem sc_holes:FnScope ["pattern", "found"] ["pattern"] (defScope s_holes):=⟨rfl,rfl,rfl,by decide +kernel,rfl,by decide +kernel,by decide +kernel⟩
noncomputable abbrev s_is_word:Stmt:=top 18
theorem sc_is_word:FnScope ["text", "sign"] ["text"] (defScope s_is_word):=⟨rfl,rfl,rfl,by decide +kernel,rfl,by decide +kernel,by decide +kernel⟩
noncomputable abbrev s_read_count:Stmt:=top 19
theorem sc_read_count:FnScope ["text", "sign"] ["text"] (defScope s_read_count):=⟨rfl,rfl,rfl,by decide +kernel,rfl,by decide +kernel,by decide +kernel⟩
noncomputable abbrev s_init:Stmt:=inClass (top 23) 0
theorem sc_init:FnScope ["self", "text", "with_holes"] ["self", "text", "with_holes"] (defScope s_init):=⟨rfl,rfl,rfl,by decide +kernel,rfl,by decide +kernel,by decide +kernel⟩
noncomputable abbrev s_ahead:Stmt:=inClass (top 23) 1
theorem sc_ahead:FnScope ["self"] ["self"] (defScope s_ahead):=⟨rfl,rfl,rfl,by decide +kernel,rfl,by decide +kernel,by decide +kernel⟩
noncomputable abbrev s_take:Stmt:=inClass (top 23) 2
theorem sc_take:FnScope ["self", "wanted", "end"] ["self", "wanted"] (defScope s_take):=⟨rfl,rfl,rfl,by decide +kernel,rfl,by decide +kernel,by decide +kernel⟩
noncomputable abbrev s_take_run:Stmt:=inClass (top 23) 3
theorem sc_take_run:FnScope ["self", "signs", "start"] ["self", "signs"] (defScope s_take_run):=⟨rfl,rfl,rfl,by decide +kernel,rfl,by decide +kernel,by decide +kernel⟩
noncomputable abbrev s_take_word:Stmt:=inClass (top 23) 4
theorem sc_take_word:FnScope ["self", "word"] ["self"] (defScope s_take_word):=⟨rfl,rfl,rfl,by decide +kernel,rfl,by decide +kernel,by decide +kernel⟩
noncomputable abbrev s_take_number:Stmt:=inClass (top 23) 5
theorem sc_take_number:FnScope ["self", "start", "figures", "written"] ["self"] (defScope s_take_number):=⟨rfl,rfl,rfl,by decide +kernel,rfl,by decide +kernel,by decide +kernel⟩
noncomputable abbrev s_take_arms:Stmt:=inClass (top 23) 6
theorem sc_take_arms:FnScope ["self", "deep", "arms"] ["self", "deep"] (defScope s_take_arms):=⟨rfl,rfl,rfl,by decide +kernel,rfl,by decide +kernel,by decide +kernel⟩
noncomputable abbrev s_take_tree:Stmt:=inClass (top 23) 7
theorem sc_take_tree:FnScope ["self", "deep", "sign", "word"] ["self", "deep"] (defScope s_take_tree):=⟨rfl,rfl,rfl,by decide +kernel,rfl,by decide +kernel,by decide +kernel⟩
noncomputable abbrev s_read_whole:Stmt:=top 22
theorem sc_read_whole:FnScope ["reader", "tree"] ["reader"] (defScope s_read_whole):=⟨rfl,rfl,rfl,by decide +kernel,rfl,by decide +kernel,by decide +kernel⟩
noncomputable abbrev s_read:Stmt:=top 20
theorem sc_read:FnScope ["text"] ["text"] (defScope s_read):=⟨rfl,rfl,rfl,by decide +kernel,rfl,by decide +kernel,by decide +kernel⟩
noncomputable abbrev s_read_pattern:Stmt:=top 21
theorem sc_read_pattern:FnScope ["text"] ["text"] (defScope s_read_pattern):=⟨rfl,rfl,rfl,by decide +kernel,rfl,by decide +kernel,by decide +kernel⟩
noncomputable abbrev s_refuse_patterns:Stmt:=top 31
theorem sc_refuse_patterns:FnScope ["left", "right", "bound", "hole"] ["left", "right"] (defScope s_refuse_patterns):=⟨rfl,rfl,rfl,by decide +kernel,rfl,by decide +kernel,by decide +kernel⟩
noncomputable abbrev s_refuse_asks:Stmt:=top 32
theorem sc_refuse_asks:FnScope ["asks", "bound", "ask"] ["asks", "bound"] (defScope s_refuse_asks):=⟨rfl,rfl,rfl,by decide +kernel,rfl,by decide +kernel,by decide +kernel⟩
noncomputable abbrev s_rinit:Stmt:=inClass (top 30) 0
theorem sc_rinit:FnScope ["self", "title", "weight", "left", "right", "asks"] ["self", "title", "weight", "left", "right", "asks"] (defScope s_rinit):=⟨rfl,rfl,rfl,by decide +kernel,rfl,by decide +kernel,by decide +kernel⟩
noncomputable abbrev s_show_mask:Stmt:=top 35
theorem sc_show_mask:FnScope ["mask", "text", "place", "sign"] ["mask"] (defScope s_show_mask):=⟨rfl,rfl,rfl,by decide +kernel,rfl,by decide +kernel,by decide +kernel⟩
noncomputable abbrev s_split_at:Stmt:=top 37
theorem sc_split_at:FnScope ["text", "sign", "pieces"] ["text", "sign"] (defScope s_split_at):=⟨rfl,rfl,rfl,by decide +kernel,rfl,by decide +kernel,by decide +kernel⟩
noncomputable abbrev s_read_side:Stmt:=top 38
theorem sc_read_side:FnScope ["text"] ["text"] (defScope s_read_side):=⟨rfl,rfl,rfl,by decide +kernel,rfl,by decide +kernel,by decide +kernel⟩
noncomputable abbrev s_read_mask:Stmt:=top 40
theorem sc_read_mask:FnScope ["text", "mask", "place", "sign"] ["text"] (defScope s_read_mask):=⟨rfl,rfl,rfl,by decide +kernel,rfl,by decide +kernel,by decide +kernel⟩
noncomputable abbrev s_read_ask:Stmt:=top 39
theorem sc_read_ask:FnScope ["text", "words", "hole"] ["text"] (defScope s_read_ask):=⟨rfl,rfl,rfl,by decide +kernel,rfl,by decide +kernel,by decide +kernel⟩
noncomputable abbrev s_read_rule:Stmt:=top 36
theorem sc_read_rule:FnScope ["line", "head", "named", "sides", "weight", "asked", "asks"] ["line"] (defScope s_read_rule):=⟨rfl,rfl,rfl,by decide +kernel,rfl,by decide +kernel,by decide +kernel⟩
noncomputable abbrev s_count_within:Stmt:=top 52
theorem sc_count_within:FnScope ["text", "low", "high", "count"] ["text", "low", "high"] (defScope s_count_within):=⟨rfl,rfl,rfl,by decide +kernel,rfl,by decide +kernel,by decide +kernel⟩
noncomputable abbrev s_read_cost:Stmt:=top 50
theorem sc_read_cost:FnScope ["rest", "pieces", "key", "cost"] ["rest"] (defScope s_read_cost):=⟨rfl,rfl,rfl,by decide +kernel,rfl,by decide +kernel,by decide +kernel⟩
noncomputable abbrev s_read_grow:Stmt:=top 51
theorem sc_read_grow:FnScope ["rest", "pieces", "rounds", "size"] ["rest"] (defScope s_read_grow):=⟨rfl,rfl,rfl,by decide +kernel,rfl,by decide +kernel,by decide +kernel⟩
noncomputable abbrev s_read_order:Stmt:=top 49
theorem sc_read_order:FnScope ["word", "rest", "sides"] ["word", "rest"] (defScope s_read_order):=⟨rfl,rfl,rfl,by decide +kernel,rfl,by decide +kernel,by decide +kernel⟩
noncomputable abbrev s_read_row:Stmt:=top 48
theorem sc_read_row:FnScope ["row", "line", "pieces", "order"] ["row", "line"] (defScope s_read_row):=⟨rfl,rfl,rfl,by decide +kernel,rfl,by decide +kernel,by decide +kernel⟩
noncomputable abbrev s_read_sheet:Stmt:=top 47
theorem sc_read_sheet:FnScope ["text", "orders", "titles", "line", "row", "order"] ["text"] (defScope s_read_sheet):=⟨rfl,rfl,rfl,by decide +kernel,rfl,by decide +kernel,by decide +kernel⟩
noncomputable abbrev s_at:Stmt:=top 54
theorem sc_at:FnScope ["_law_script", "_law_k"] ["_law_script", "_law_k"] (defScope s_at):=⟨rfl,rfl,rfl,by decide +kernel,rfl,by decide +kernel,by decide +kernel⟩
noncomputable abbrev s_draw:Stmt:=top 55
theorem sc_draw:FnScope ["_law_cell", "_law_factor", "_law_many"] ["_law_cell", "_law_factor", "_law_many"] (defScope s_draw):=⟨rfl,rfl,rfl,by decide +kernel,rfl,by decide +kernel,by decide +kernel⟩
noncomputable abbrev s_word:Stmt:=top 56
theorem sc_word:FnScope ["_law_script", "_law_which", "_law_letters", "_law_seed", "_law_size", "_law_place", "_law_rest", "_law_told"] ["_law_script", "_law_which"] (defScope s_word):=⟨rfl,rfl,rfl,by decide +kernel,rfl,by decide +kernel,by decide +kernel⟩
noncomputable abbrev s_leaf:Stmt:=top 57
theorem sc_leaf:FnScope ["_law_script", "_law_cell", "_law_pick"] ["_law_script", "_law_cell"] (defScope s_leaf):=⟨rfl,rfl,rfl,by decide +kernel,rfl,by decide +kernel,by decide +kernel⟩
noncomputable abbrev s_knot:Stmt:=top 58
theorem sc_knot:FnScope ["_law_script", "_law_cell", "_law_arms", "_law_pick"] ["_law_script", "_law_cell", "_law_arms"] (defScope s_knot):=⟨rfl,rfl,rfl,by decide +kernel,rfl,by decide +kernel,by decide +kernel⟩
noncomputable abbrev s_trees:Stmt:=top 59
theorem sc_trees:FnScope ["_law_script", "_law_most", "_law_rows", "_law_cell", "_law_size", "_law_arms", "_law_many"] ["_law_script", "_law_most"] (defScope s_trees):=⟨rfl,rfl,rfl,by decide +kernel,rfl,by decide +kernel,by decide +kernel⟩
noncomputable abbrev s_shown:Stmt:=top 60
theorem sc_shown:FnScope ["_law_tree"] ["_law_tree"] (defScope s_shown):=⟨rfl,rfl,rfl,by decide +kernel,rfl,by decide +kernel,by decide +kernel⟩
noncomputable abbrev s_sides:Stmt:=top 61
theorem sc_sides:FnScope ["_law_script", "_law_cell", "_law_a", "_law_b", "_law_c", "_law_word_here", "_law_pick", "_law_name"] ["_law_script", "_law_cell"] (defScope s_sides):=⟨rfl,rfl,rfl,by decide +kernel,rfl,by decide +kernel,by decide +kernel⟩
noncomputable abbrev s_asks:Stmt:=top 62
theorem sc_asks:FnScope ["_law_script", "_law_cell", "_law_hole", "_law_pick", "_law_rows"] ["_law_script", "_law_cell"] (defScope s_asks):=⟨rfl,rfl,rfl,by decide +kernel,rfl,by decide +kernel,by decide +kernel⟩
noncomputable abbrev s_rule:Stmt:=top 63
theorem sc_rule:FnScope ["_law_script", "_law_cell", "_law_which", "_law_sides_here", "_law_asks_here"] ["_law_script", "_law_cell", "_law_which"] (defScope s_rule):=⟨rfl,rfl,rfl,by decide +kernel,rfl,by decide +kernel,by decide +kernel⟩
noncomputable abbrev s_ask_text:Stmt:=top 64
theorem sc_ask_text:FnScope ["_law_ask", "_law_told", "_law_k"] ["_law_ask"] (defScope s_ask_text):=⟨rfl,rfl,rfl,by decide +kernel,rfl,by decide +kernel,by decide +kernel⟩
noncomputable abbrev s_rule_text:Stmt:=top 65
theorem sc_rule_text:FnScope ["_law_rule_here", "_law_sides_here", "_law_told"] ["_law_rule_here"] (defScope s_rule_text):=⟨rfl,rfl,rfl,by decide +kernel,rfl,by decide +kernel,by decide +kernel⟩
noncomputable abbrev s_order:Stmt:=top 66
theorem sc_order:FnScope ["_law_script", "_law_cell", "_law_trees_here", "_law_titles", "_law_one", "_law_other", "_law_pick", "_law_word_here", "_law_key", "_law_rounds"] ["_law_script", "_law_cell", "_law_trees_here", "_law_titles"] (defScope s_order):=⟨rfl,rfl,rfl,by decide +kernel,rfl,by decide +kernel,by decide +kernel⟩
noncomputable abbrev s_row:Stmt:=top 67
theorem sc_row:FnScope ["_law_order_here"] ["_law_order_here"] (defScope s_row):=⟨rfl,rfl,rfl,by decide +kernel,rfl,by decide +kernel,by decide +kernel⟩
noncomputable abbrev s_orders:Stmt:=top 68
theorem sc_orders:FnScope ["_law_script", "_law_trees_here", "_law_rows", "_law_titles", "_law_cell"] ["_law_script", "_law_trees_here"] (defScope s_orders):=⟨rfl,rfl,rfl,by decide +kernel,rfl,by decide +kernel,by decide +kernel⟩
noncomputable abbrev s_rule_right:Stmt:=top 69
theorem sc_rule_right:FnScope ["_law_found", "_law_due"] ["_law_found", "_law_due"] (defScope s_rule_right):=⟨rfl,rfl,rfl,by decide +kernel,rfl,by decide +kernel,by decide +kernel⟩
noncomputable abbrev s_order_right:Stmt:=top 70
theorem sc_order_right:FnScope ["_law_found", "_law_due", "_law_k"] ["_law_found", "_law_due"] (defScope s_order_right):=⟨rfl,rfl,rfl,by decide +kernel,rfl,by decide +kernel,by decide +kernel⟩
noncomputable abbrev s_law:Stmt:=top 71
theorem sc_law:FnScope ["_law_script", "_law_orders_here", "_law_rows", "_law_k", "_law_found"] ["_law_script"] (defScope s_law):=⟨rfl,rfl,rfl,by decide +kernel,rfl,by decide +kernel,by decide +kernel⟩
section
variable {P:Program} {w:World} {K:PySem.W.Frag} {mg:Str→Option Value} {base:Heap}
noncomputable def add (acc:List Str) (x:Str):List Str:=if x∈acc then acc else acc ++ [x]
mutual
noncomputable def raw:T→List Str
  | .num _ => []
  | .name _ => []
  | .any x => [x]
  | .of _ ts=>raws ts
noncomputable def raws:List T→List Str
  | [] => []
  | t :: ts=>raw t ++ raws ts
end
noncomputable def note (t:T) (acc:List Str):List Str:=(raw t).foldl add acc
theorem mem_add {acc:List Str} {x y:Str}:y∈add acc x↔y∈acc∨y=x:=by
  unfold add
  split
  · rename_i h
    constructor
    · exact .inl
    · rintro (h' | rfl)
      · exact h'
      · exact h
  · simp
theorem mem_adds:∀ {l acc:List Str} {y:Str},y∈l.foldl add acc↔y∈acc∨y∈l
  | [],acc,y=>by simp
  | x :: l,acc,y=>by
    rw [List.foldl_cons,mem_adds (l:=l),mem_add]
    simp [or_assoc]
theorem add_len (acc:List Str) (x:Str):(add acc x).length≤acc.length+1:=by
  unfold add
  split
  · omega
  · rw [List.length_append,List.length_singleton];exact Nat.le_refl _
theorem adds_len:∀ (l acc:List Str),(l.foldl add acc).length≤acc.length+l.length
  | [],acc=>Nat.le_refl _
  | x :: l,acc=>by
    have h1:=adds_len l (add acc x)
    have h2:=add_len acc x
    rw [List.foldl_cons,List.length_cons]
    omega
mutual
theorem raw_len:∀ t:T,(raw t).length≤t.parts
  | .num _=>by rw [raw];exact Nat.zero_le _
  | .name _=>by rw [raw];exact Nat.zero_le _
  | .any _=>by rw [raw,T.parts];exact Nat.le_refl _
  | .of _ ts=>by
    rw [raw,T.parts]
    have:=raws_len ts
    omega
theorem raws_len:∀ ts:List T,(raws ts).length≤T.partss ts
  | []=>by rw [raws];exact Nat.zero_le _
  | t :: ts=>by
    rw [raws,T.partss,List.length_append]
    have:=raw_len t
    have:=raws_len ts
    omega
end
theorem raws_app:∀ (a b:List T),raws (a ++ b)=raws a ++ raws b
  | [],b=>by rw [List.nil_append,raws,List.nil_append]
  | t :: a,b=>by rw [List.cons_append,raws,raws,raws_app a b,List.append_assoc]
theorem raws_one (t:T):raws [t]=raw t:=by rw [raws,raws,List.append_nil]
theorem raws_take {ts:List T} {i:Nat} {t:T} (h:ts[i]? = some t):raws (ts.take (i+1))=raws (ts.take i) ++ raw t:=by
  rw [List.take_add_one,h,raws_app]
  show _ ++ raws [t]=_
  rw [raws_one]
noncomputable def dOf (acc:List Str):List (Key × V):=acc.map fun x=>(Sum.inr x,V.bl true)
theorem put_dOf (acc:List Str) (x:Str):putK (dOf acc) (Sum.inr x) (.bl true)=dOf (add acc x):=by
  have e:((dOf acc).any fun kv=>decide (kv.1=Sum.inr x))=decide (x∈acc):=by
    unfold dOf
    rw [List.any_map]
    induction acc with
    | nil=>rfl
    | cons y r ih =>
      rw [List.any_cons,ih]
      by_cases h:y=x
      · subst h;simp
      · have:¬ x=y:=fun z=>h z.symm
        simp [h,this]
  unfold putK add
  rw [e]
  by_cases h:x∈acc
  · rw [if_pos (decide_eq_true h),if_pos h]
    unfold dOf
    rw [List.map_map]
    apply List.map_congr_left
    intro y _
    simp only [Function.comp]
    split
    · rfl
    · rfl
  · rw [if_neg (by simpa using h),if_neg h]
    unfold dOf
    rw [List.map_append]
    rfl

theorem partss_cut (n:Nat) (ts:List T):T.partss (ts.take n)+T.partss (ts.drop n)=T.partss ts:=by
  rw [partss_sum,partss_sum,partss_sum, ← List.sum_append, ← List.map_append,List.take_append_drop]
noncomputable def spParts (n:Nat):Sp:=fun vs H Q _=>∃ v t,vs = [v]∧IsTr H t v∧t.depth≤n∧Q (.int (t.parts:Int)) H
theorem sum_take_parts (ts:List T) (i:Nat) (h:i < ts.length):T.partss (ts.take (i+1))=T.partss (ts.take i)+ts[i].parts:=by
  rw [List.take_add_one,List.getElem?_eq_getElem h]
  rw [partss_sum,partss_sum,List.map_append,List.sum_append]
  simp
theorem ok_parts (D:Def K mg "parts" s_parts ["tree"]):∀ n,Has P w K mg base n "parts" ["tree"] (spParts n)
  | 0=>by
    obtain ⟨fa,fd,F,hm,hb⟩:=D.ex
    have no:∀ vs H Q E, ¬ spParts 0 vs H Q E:=fun vs H Q E h=>by
      obtain ⟨v,t,_,_,z,_⟩:=h
      have:=depth_pos t
      omega
    exact ⟨fa,fd,⟨fun vs H Q E h=>absurd h (no vs H Q E),fun A outer s H args us vs Q E _ _ _ _ h=>absurd h (no vs H Q E)⟩,hm,F.kp,hb⟩
  | n+1=>by
    have h_parts:=ok_parts D n
    refine D.has sc_parts (fun vs H Q E h => ?_) (fun f cdv A outer s H vs Q E hr h => ?_)
    · obtain ⟨v,t,rfl,_⟩:=h;rfl
    obtain ⟨v,t,rfl,hT,hd,q⟩:=h
    refine ⟨_,(pss_cons (ps_if (pt_cmpR op_ne (pe_ix ix_tup (pv 0) pe_int (fun _ _=>rfl)) pe_str (nomark _)) (pss_one (ps_ret pe_int)) pss_nil)
    (pss_cons (ps_set (i:=1) sc_parts.nd rfl (Or.inl rfl) pe_int)
    (pss_cons (ps_for PassesOwn.never rfl (pi_tup (pe_ix ix_tup (pv 0) pe_int (fun _ _=>rfl))) (pg_name (i:=2) sc_parts.nd rfl (Or.inl rfl))
    (pss_one (ps_aug (i:=1) sc_parts.nd rfl (Or.inl rfl) (pe_callH h_parts hr (by omega) rfl (pa_cons (pv 2) pa_nil)) ip_add)))
    (pss_one (ps_ret (pv 1)))))),?_⟩
    try dsimp only [cxOf]
    cases t with
    | num k =>
      rw [IsTr] at hT
      obtain ⟨a,rfl,h⟩:=hT
      rw [T.parts] at q
      exact ⟨_,rfl,a,_,0,_,rfl,rfl,SqT.of h,atI_nat (j:=0) rfl,rfl,_,rfl,iteDN (fun _=>q) (fun z=>absurd (V.str.inj z) (by decide))⟩
    | name x =>
      rw [IsTr] at hT
      obtain ⟨a,rfl,h⟩:=hT
      rw [T.parts] at q
      exact ⟨_,rfl,a,_,0,_,rfl,rfl,SqT.of h,atI_nat (j:=0) rfl,rfl,_,rfl,iteDN (fun _=>q) (fun z=>absurd (V.str.inj z) (by decide))⟩
    | any x =>
      rw [IsTr] at hT
      obtain ⟨a,rfl,h⟩:=hT
      rw [T.parts] at q
      exact ⟨_,rfl,a,_,0,_,rfl,rfl,SqT.of h,atI_nat (j:=0) rfl,rfl,_,rfl,iteDN (fun _=>q) (fun z=>absurd (V.str.inj z) (by decide))⟩
    | of x ts =>
      rw [IsTr] at hT
      rw [T.depth] at hd
      rw [T.parts] at q
      obtain ⟨a,b,vs,rfl,ha,hb,htr⟩:=hT
      refine ⟨_,rfl,a,_,0,_,rfl,rfl,SqT.of ha,atI_nat (j:=0) rfl,rfl,_,rfl,iteDN (fun z=>absurd rfl z) (fun _ => ?_)⟩
      have hlen:=trs_len htr
      refine ⟨_,rfl,a,_,2,_,rfl,rfl,SqT.of ha,atI_nat (j:=2) rfl,b,rfl,⟨vs,SqT.of hb⟩,?_⟩
      refine for_tup (xs:=vs) (fun i σ H'=>∃ o, σ = [some (.ref a),some (.int ((1+T.partss (ts.take i):Nat):Int)),o]∧H'=H) ⟨none,rfl,rfl⟩ ?_ ?_ ?_
      · rintro i σ H' _ ⟨o,rfl,rfl⟩
        exact SqT.of hb
      · rintro i y σ H' hy ⟨o,rfl,rfl⟩
        obtain ⟨ti,hti,hTi⟩:=trs_at htr hy
        have hmem:ti∈ts:=List.mem_of_getElem? hti
        have d1:=deepest_le hmem
        obtain ⟨hi,hge⟩:=List.getElem?_eq_some_iff.mp hti
        have e:((1+T.partss (ts.take (i+1)):Nat):Int)=((1+T.partss (ts.take i):Nat):Int)+((ti.parts:Nat):Int):=by rw [sum_take_parts ts i hi,hge];omega
        refine ⟨_,rfl,_,rfl,y,ti,rfl,hTi,by omega,_,_,rfl,rfl,⟨some y,?_,rfl⟩⟩
        rw [e]
        rfl
      · rintro σ H' ⟨o,rfl,rfl⟩
        rw [← hlen,List.take_length]
        exact ⟨_,rfl,q⟩
mutual
noncomputable def knF:T→Nat
  | .num _=>0
  | .name _=>0
  | .any _=>0
  | .of _ ts=>1+knFs ts
noncomputable def knFs:List T→Nat
  | []=>0
  | t :: ts=>knF t+knFs ts
end
theorem knFs_sum:∀ ts:List T,knFs ts=(ts.map knF).sum
  | []=>by rw [knFs];rfl
  | t :: ts=>by rw [knFs,knFs_sum ts,List.map_cons,List.sum_cons]
noncomputable def spKnotsT (n:Nat):Sp:=fun vs H Q _=>∃ v t,vs = [v]∧IsTr H t v∧t.depth≤n∧Q (.int (knF t:Int)) H
theorem sum_take_knots (ts:List T) (i:Nat) (h:i < ts.length):knFs (ts.take (i+1))=knFs (ts.take i)+knF ts[i]:=by
  rw [List.take_add_one,List.getElem?_eq_getElem h]
  rw [knFs_sum,knFs_sum,List.map_append,List.sum_append]
  simp
theorem ok_knots (D:Def K mg "knots" s_knots ["pattern"]):∀ n,Has P w K mg base n "knots" ["pattern"] (spKnotsT n)
  | 0=>by
    obtain ⟨fa,fd,F,hm,hb⟩:=D.ex
    have no:∀ vs H Q E, ¬ spKnotsT 0 vs H Q E:=fun vs H Q E h=>by
      obtain ⟨v,t,_,_,z,_⟩:=h
      have:=depth_pos t
      omega
    exact ⟨fa,fd,⟨fun vs H Q E h=>absurd h (no vs H Q E),fun A outer s H args us vs Q E _ _ _ _ h=>absurd h (no vs H Q E)⟩,hm,F.kp,hb⟩
  | n+1=>by
    have h_knots:=ok_knots D n
    refine D.has sc_knots (fun vs H Q E h => ?_) (fun f cdv A outer s H vs Q E hr h => ?_)
    · obtain ⟨v,t,rfl,_⟩:=h;rfl
    obtain ⟨v,t,rfl,hT,hd,q⟩:=h
    refine ⟨_,(pss_cons (ps_if (pt_cmpR op_ne (pe_ix ix_tup (pv 0) pe_int (fun _ _=>rfl)) pe_str (nomark _)) (pss_one (ps_ret pe_int)) pss_nil)
    (pss_cons (ps_set (i:=1) sc_knots.nd rfl (Or.inl rfl) pe_int)
    (pss_cons (ps_for PassesOwn.never rfl (pi_tup (pe_ix ix_tup (pv 0) pe_int (fun _ _=>rfl))) (pg_name (i:=2) sc_knots.nd rfl (Or.inl rfl))
    (pss_one (ps_aug (i:=1) sc_knots.nd rfl (Or.inl rfl) (pe_callH h_knots hr (by omega) rfl (pa_cons (pv 2) pa_nil)) ip_add)))
    (pss_one (ps_ret (pv 1)))))),?_⟩
    try dsimp only [cxOf]
    cases t with
    | num k =>
      rw [IsTr] at hT
      obtain ⟨a,rfl,h⟩:=hT
      rw [knF] at q
      exact ⟨_,rfl,a,_,0,_,rfl,rfl,SqT.of h,atI_nat (j:=0) rfl,rfl,_,rfl,iteDN (fun _=>q) (fun z=>absurd (V.str.inj z) (by decide))⟩
    | name x =>
      rw [IsTr] at hT
      obtain ⟨a,rfl,h⟩:=hT
      rw [knF] at q
      exact ⟨_,rfl,a,_,0,_,rfl,rfl,SqT.of h,atI_nat (j:=0) rfl,rfl,_,rfl,iteDN (fun _=>q) (fun z=>absurd (V.str.inj z) (by decide))⟩
    | any x =>
      rw [IsTr] at hT
      obtain ⟨a,rfl,h⟩:=hT
      rw [knF] at q
      exact ⟨_,rfl,a,_,0,_,rfl,rfl,SqT.of h,atI_nat (j:=0) rfl,rfl,_,rfl,iteDN (fun _=>q) (fun z=>absurd (V.str.inj z) (by decide))⟩
    | of x ts =>
      rw [IsTr] at hT
      rw [T.depth] at hd
      rw [knF] at q
      obtain ⟨a,b,vs,rfl,ha,hb,htr⟩:=hT
      refine ⟨_,rfl,a,_,0,_,rfl,rfl,SqT.of ha,atI_nat (j:=0) rfl,rfl,_,rfl,iteDN (fun z=>absurd rfl z) (fun _ => ?_)⟩
      have hlen:=trs_len htr
      refine ⟨_,rfl,a,_,2,_,rfl,rfl,SqT.of ha,atI_nat (j:=2) rfl,b,rfl,⟨vs,SqT.of hb⟩,?_⟩
      refine for_tup (xs:=vs) (fun i σ H'=>∃ o, σ = [some (.ref a),some (.int ((1+knFs (ts.take i):Nat):Int)),o]∧H'=H) ⟨none,rfl,rfl⟩ ?_ ?_ ?_
      · rintro i σ H' _ ⟨o,rfl,rfl⟩
        exact SqT.of hb
      · rintro i y σ H' hy ⟨o,rfl,rfl⟩
        obtain ⟨ti,hti,hTi⟩:=trs_at htr hy
        have hmem:ti∈ts:=List.mem_of_getElem? hti
        have d1:=deepest_le hmem
        obtain ⟨hi,hge⟩:=List.getElem?_eq_some_iff.mp hti
        have e:((1+knFs (ts.take (i+1)):Nat):Int)=((1+knFs (ts.take i):Nat):Int)+((knF ti:Nat):Int):=by rw [sum_take_knots ts i hi,hge];omega
        refine ⟨_,rfl,_,rfl,y,ti,rfl,hTi,by omega,_,_,rfl,rfl,⟨some y,?_,rfl⟩⟩
        rw [e]
        rfl
      · rintro σ H' ⟨o,rfl,rfl⟩
        rw [← hlen,List.take_length]
        exact ⟨_,rfl,q⟩
noncomputable def spNote (n:Nat):Sp:=fun vs H Q _=>∃ v d t acc,vs = [v,.ref d]∧IsTr H t v∧t.depth≤n∧H d=some (.dK (dOf acc))∧acc.length+t.parts≤10000∧Q .non (upd H d (.dK (dOf (note t acc))))
theorem ok_note_holes (D:Def K mg "note_holes" s_note_holes ["pattern", "found"]):∀ n,Has P w K mg base n "note_holes" ["pattern", "found"] (spNote n)
  | 0=>by
    obtain ⟨fa,fd,F,hm,hb⟩:=D.ex
    have no:∀ vs H Q E, ¬ spNote 0 vs H Q E:=fun vs H Q E h=>by
      obtain ⟨v,d,t,acc,_,_,z,_⟩:=h
      have:=depth_pos t
      omega
    exact ⟨fa,fd,⟨fun vs H Q E h=>absurd h (no vs H Q E),fun A outer s H args us vs Q E _ _ _ _ h=>absurd h (no vs H Q E)⟩,hm,F.kp,hb⟩
  | n+1=>by
    have h_note_holes:=ok_note_holes D n
    refine D.has sc_note_holes (fun vs H Q E h => ?_) (fun f cdv A outer s H vs Q E hr h => ?_)
    · obtain ⟨v,d,t,acc,rfl,_⟩:=h;rfl
    obtain ⟨v,d,t,acc,rfl,hT,hd,hD,hz,q⟩:=h
    refine ⟨_,(pss_cons (ps_if (pt_cmpR op_eq (pe_ix ix_tup (pv 0) pe_int (fun _ _=>rfl)) pe_str (nomark _)) (pss_one (ps_dput (hu_of hr) (pv 1) (pe_ix ix_tup (pv 0) pe_int (fun _ _=>rfl)) pe_bl rfl)) pss_nil)
    (pss_one (ps_if (pt_cmpR op_eq (pe_ix ix_tup (pv 0) pe_int (fun _ _=>rfl)) pe_str (nomark _)) (pss_one (ps_for PassesOwn.never rfl (pi_tup (pe_ix ix_tup (pv 0) pe_int (fun _ _=>rfl))) (pg_name (i:=2) sc_note_holes.nd rfl (Or.inl rfl))
    (pss_one (ps_expr (pe_callH h_note_holes hr (by omega) rfl (pa_cons (pv 2) (pa_cons (pv 1) pa_nil))))))) pss_nil))),?_⟩
    try dsimp only [cxOf]
    have same0:note t acc=acc→Q .non H:=fun hn=>by
      have e:upd H d (.dK (dOf acc))=H:=by
        funext b
        by_cases hb:b=d
        · rw [hb,upd_same,hD]
        · rw [upd_ne hb]
      rw [hn,e] at q
      exact q
    cases t with
    | num k =>
      rw [IsTr] at hT
      obtain ⟨a,rfl,h⟩:=hT
      refine ⟨_,rfl,a,_,0,_,rfl,rfl,SqT.of h,atI_nat (j:=0) rfl,rfl,_,rfl,iteD (fun z=>absurd (V.str.inj z) (by decide)) (fun _ => ?_)⟩
      exact ⟨_,rfl,a,_,0,_,rfl,rfl,SqT.of h,atI_nat (j:=0) rfl,rfl,_,rfl,iteD (fun z=>absurd (V.str.inj z) (by decide)) (fun _=>same0 (by unfold note;rw [raw];rfl))⟩
    | name x =>
      rw [IsTr] at hT
      obtain ⟨a,rfl,h⟩:=hT
      refine ⟨_,rfl,a,_,0,_,rfl,rfl,SqT.of h,atI_nat (j:=0) rfl,rfl,_,rfl,iteD (fun z=>absurd (V.str.inj z) (by decide)) (fun _ => ?_)⟩
      exact ⟨_,rfl,a,_,0,_,rfl,rfl,SqT.of h,atI_nat (j:=0) rfl,rfl,_,rfl,iteD (fun z=>absurd (V.str.inj z) (by decide)) (fun _=>same0 (by unfold note;rw [raw];rfl))⟩
    | any x =>
      rw [IsTr] at hT
      obtain ⟨a,rfl,h⟩:=hT
      have en:note (.any x) acc=add acc x:=by unfold note;rw [raw];rfl
      rw [en] at q
      refine ⟨_,rfl,a,_,0,_,rfl,rfl,SqT.of h,atI_nat (j:=0) rfl,rfl,_,rfl,iteD (fun _ => ?_) (fun z=>absurd rfl z)⟩
      have kp:=keep_put (o' := .dK (dOf (add acc x))) hD trivial
      refine ⟨_,rfl,_,rfl,a,_,1,_,rfl,rfl,SqT.of h,atI_nat (j:=1) rfl,d,_,rfl,DPut.k (k:=Sum.inr x) hD ?_,?_⟩
      · unfold dOf
        rw [List.length_map]
        exact Nat.lt_of_le_of_lt (by omega:acc.length≤10000) (by decide)
      rw [put_dOf]
      refine ⟨_,rfl,a,_,0,_,rfl,rfl,SqT.of (kp _ _ h),atI_nat (j:=0) rfl,rfl,_,rfl,iteD (fun z=>absurd (V.str.inj z) (by decide)) (fun _=>q)⟩
    | of x ts =>
      rw [IsTr] at hT
      obtain ⟨a,b,vs,rfl,h,hb,hTs⟩:=hT
      rw [T.depth] at hd
      rw [T.parts] at hz
      have hlen:=trs_len hTs
      refine ⟨_,rfl,a,_,0,_,rfl,rfl,SqT.of h,atI_nat (j:=0) rfl,rfl,_,rfl,iteD (fun z=>absurd (V.str.inj z) (by decide)) (fun _ => ?_)⟩
      refine ⟨_,rfl,a,_,0,_,rfl,rfl,SqT.of h,atI_nat (j:=0) rfl,rfl,_,rfl,iteD (fun _ => ?_) (fun z=>absurd rfl z)⟩
      refine ⟨_,rfl,a,_,2,_,rfl,rfl,SqT.of h,atI_nat (j:=2) rfl,b,rfl,⟨vs,SqT.of hb⟩,?_⟩
      refine for_tup (xs:=vs) (fun i σ H'=>(∃ o, σ = [some (.ref a),some (.ref d),o])∧H'=upd H d (.dK (dOf ((raws (ts.take i)).foldl add acc)))) ⟨⟨none,rfl⟩,?_⟩ ?_ ?_ ?_
      · rw [List.take_zero,raws]
        funext c
        by_cases hc:c=d
        · rw [hc,upd_same,hD];rfl
        · rw [upd_ne hc]
      · rintro i σ H' _ ⟨_,rfl⟩
        exact SqT.of (keep_put hD trivial _ _ hb)
      · rintro i y σ H' hy ⟨⟨o,rfl⟩,rfl⟩
        obtain ⟨ti,hti,hTi⟩:=trs_at hTs hy
        have hmem:ti∈ts:=List.mem_of_getElem? hti
        have d1:=deepest_le hmem
        have et:=raws_take hti
        have l1:=adds_len (raws (ts.take i)) acc
        have l2:=raws_len (ts.take i)
        have l3:=partss_cut i ts
        have l4:ti.parts≤T.partss (ts.drop i):=by
          have e:ts.drop i=ti :: ts.drop (i+1):=by
            obtain ⟨h1,h2⟩:=List.getElem?_eq_some_iff.mp hti
            rw [List.drop_eq_getElem_cons h1,h2]
          rw [e,T.partss]
          omega
        refine ⟨_,rfl,_,rfl,y,d,ti,_,rfl,tr_keep (keep_put hD trivial) hTi,by omega,upd_same,by omega,⟨_,rfl⟩,?_⟩
        rw [upd_upd,et,List.foldl_append]
        rfl
      · rintro σ H' ⟨⟨o,rfl⟩,rfl⟩
        rw [← hlen,List.take_length]
        have en:note (.of x ts) acc=(raws ts).foldl add acc:=by unfold note;rw [raw]
        rw [en] at q
        exact q
noncomputable def spHoles (n:Nat):Sp:=fun vs H Q _=>∃ v t,vs = [v]∧IsTr H t v∧t.depth+1≤n∧t.parts≤1000∧∀ l H',Same H H'→H' l=some (.lst ((note t []).map V.str))→Q (.ref l) H'
theorem ok_holes {n:Nat} (B:Blt mg) (h_note_holes:Has P w K mg base n "note_holes" ["pattern", "found"] (spNote n)) (D:Def K mg "holes" s_holes ["pattern"]):Has P w K mg base (n+1) "holes" ["pattern"] (spHoles (n+1)):=by
  refine D.has sc_holes (fun vs H Q E h => ?_) (fun f cdv A outer s H vs Q E hr h => ?_)
  · obtain ⟨v,t,rfl,_⟩:=h;rfl
  obtain ⟨v,t,rfl,hT,hd,hz,q⟩:=h
  refine ⟨_,(pss_cons (ps_set (i:=1) sc_holes.nd rfl (Or.inl rfl) pe_dnewK)
    (pss_cons (ps_expr (pe_callH h_note_holes hr (by omega) rfl (pa_cons (pv 0) (pa_cons (pv 1) pa_nil))))
    (pss_one (ps_ret (pe_callTy (call_list_dict rfl) rfl B.list_ boot_list_ (pa_cons (pv 1) pa_nil)))))),?_⟩
  try dsimp only [cxOf]
  refine fun d hd0 => ?_
  have s1:=same_new hd0 (.dK [])
  refine ⟨_,rfl,_,rfl,v,d,t, [],rfl,tr_same s1 hT,by omega,upd_same,by simp only [List.length_nil];omega,?_⟩
  rw [upd_upd]
  have s2:=same_new hd0 (.dK (dOf (note t [])))
  refine ⟨_,rfl,d,_,rfl,.inl upd_same,fun l hl => ?_⟩
  refine q l _ (s2.trans (same_new hl _)) ?_
  rw [upd_same]
  unfold dOf
  rw [List.map_map]
  rfl
end

end K71
namespace K71
open PySem L2 Sw
section
variable {P:Program} {w:World} {K:PySem.W.Frag} {mg:Str→Option Value} {base:Heap} {CR CNT:Addr}
structure Top4 (K:PySem.W.Frag) (mg:Str→Option Value) (CR CNT:Addr):Prop where
  cR:Cls K CR
  nText:NoAttr K CR "text"
  nHoles:NoAttr K CR "with_holes"
  nPlace:NoAttr K CR "place"
  g_LETTERS:∃ t,mg "LETTERS" = some (.str "abcdefghijklmnopqrstuvwxyz" t)
  g_FIGURES:∃ t,mg "FIGURES" = some (.str "0123456789" t)
  g_MOST_LETTERS:∃ t,mg "MOST_LETTERS" = some (.int 8 t)
  g_MOST_FIGURES:∃ t,mg "MOST_FIGURES" = some (.int 60 t)
  g_MOST_ARMS:∃ t,mg "MOST_ARMS" = some (.int 4 t)
  g_MOST_PARTS:∃ t,mg "MOST_PARTS" = some (.int 120 t)
  g_MOST_DEEP:∃ t,mg "MOST_DEEP" = some (.int 30 t)
  oNoTree:Exc K mg "NoTree" CNT
inductive SpInit (CR:Addr) (vs:List V) (H:Hp) (Q:VK):Prop
  | mk (r dx:Addr) (tx:Str) (b:Bool) (z0:vs = [.ref r,.str tx,.bl b]) (z1:H r=some (.ins CR dx [])) (z2:Q .non (upd H r (rdr CR dx tx b 0))):SpInit CR vs H Q
noncomputable def spInit (CR:Addr):Sp:=fun vs H Q _=>SpInit CR vs H Q
theorem ok_init (Z:Top4 K mg CR CNT) (D:DefC K mg "Reader" CR "Reader.__init__" s_init ["self", "text", "with_holes"]):HasC P w K mg base 1 "Reader" CR ["self", "text", "with_holes"] (spInit CR):=by
  refine D.has sc_init (fun vs H Q E h => ?_) (fun f cdv A outer s H vs Q E hr h => ?_)
  · obtain ⟨r,dx,tx,b,rfl,_⟩:=h;rfl
  obtain ⟨r,dx,tx,b,rfl,hr1,q⟩:=h
  refine ⟨_,(pss_cons (ps_fld (pv 0) (pv 1) rfl)
    (pss_cons (ps_fld (pv 0) (pv 2) rfl)
    (pss_one (ps_fld (pv 0) pe_int rfl)))),?_⟩
  try dsimp only [cxOf]
  refine ⟨_,rfl,_,rfl,r,CR,dx,_,rfl,hr1,Z.cR,Z.nText,by decide,?_⟩
  refine ⟨_,rfl,_,rfl,r,CR,dx,_,rfl,upd_same,Z.cR,Z.nHoles,(show 1 < 1000 by decide),?_⟩
  refine ⟨_,rfl,r,CR,dx,_,rfl,upd_same,Z.cR,Z.nPlace,(show 2 < 1000 by decide),?_⟩
  rw [upd_upd,upd_upd]
  exact q
noncomputable def RdIn (CR:Addr) (H:Hp) (r dx:Addr) (tx:Str) (b:Bool) (p:Nat):Prop:=H r=some (rdr CR dx tx b p)∧p≤tx.length∧tx.length≤100000
noncomputable def ahd (tx:Str) (p:Nat):List Nat:=tx.cps.toList.drop p
inductive SpAhead (CR:Addr) (vs:List V) (H:Hp) (Q:VK):Prop
  | mk (r dx:Addr) (tx:Str) (b:Bool) (p:Nat) (z0:vs = [.ref r]) (z1:RdIn CR H r dx tx b p) (z2:Q (.str (mkS ((ahd tx p).take 1))) H):SpAhead CR vs H Q
noncomputable def spAhead (CR:Addr):Sp:=fun vs H Q _=>SpAhead CR vs H Q
theorem ok_ahead (Z:Top4 K mg CR CNT) (D:DefM K CR "ahead" "Reader.ahead" s_ahead ["self"]):HasM P w K mg base 1 CR "ahead" ["self"] (spAhead CR):=by
  refine D.has sc_ahead (fun vs H Q E h => ?_) (fun f cdv A outer s H vs Q E hr h => ?_)
  · obtain ⟨r,dx,tx,b,p,rfl,_⟩:=h;rfl
  obtain ⟨r,dx,tx,b,p,rfl,⟨hr1,hp,hz⟩,q⟩:=h
  refine ⟨_,(pss_one (ps_ret (pe_slice sl_str (pe_fld (pv 0) rfl) (po_some (pe_fld (pv 0) rfl)) (po_some (pe_op op_add (pe_fld (pv 0) rfl) pe_int))))),?_⟩
  try dsimp only [cxOf]
  refine ⟨_,rfl,r,CR,dx,_,_,rfl,hr1,Z.cR,Z.nText,rfl,?_⟩
  refine ⟨_,rfl,r,CR,dx,_,_,rfl,hr1,Z.cR,Z.nPlace,rfl,_,rfl,?_⟩
  refine ⟨_,rfl,r,CR,dx,_,_,rfl,hr1,Z.cR,Z.nPlace,rfl,_,_,rfl,rfl,_,rfl,tx,rfl,Nat.le_trans hz (by decide),?_⟩
  have e:((p:Int)+1)=((p+1:Nat):Int):=by omega
  rw [e,slice_cut tx hp,show p+1 - p=1 by omega]
  exact q
inductive SpTake (CR CNT:Addr) (vs:List V) (H:Hp) (Q:VK) (E:XK):Prop
  | mk (r dx:Addr) (tx:Str) (b:Bool) (p:Nat) (x:Str) (z0:vs = [.ref r,.str x]) (z1:RdIn CR H r dx tx b p) (z2:x.length≤10) (z3:(reprText x).length≤1000) (z4:((ahd tx p).take x.length=x.cps.toList→Q .non (upd H r (rdr CR dx tx b (p+x.length))))) (z5:((ahd tx p).take x.length≠x.cps.toList→E (.ref CNT) none H)):SpTake CR CNT vs H Q E
noncomputable def spTake (CR CNT:Addr):Sp:=fun vs H Q E=>SpTake CR CNT vs H Q E
theorem ok_take (B:Blt mg) (Z:Top4 K mg CR CNT) (D:DefM K CR "take" "Reader.take" s_take ["self", "wanted"]):HasM P w K mg base 1 CR "take" ["self", "wanted"] (spTake CR CNT):=by
  have oNoTree:=Z.oNoTree
  refine D.has sc_take (fun vs H Q E h => ?_) (fun f cdv A outer s H vs Q E hr h => ?_)
  · obtain ⟨r,dx,tx,b,p,x,rfl,_⟩:=h;rfl
  obtain ⟨r,dx,tx,b,p,x,rfl,⟨hr1,hp,hz⟩,hx,hrx,q1,q2⟩:=h
  refine ⟨_,(pss_cons (ps_set (i:=2) sc_take.nd rfl (Or.inl rfl) (pe_op op_add (pe_fld (pv 0) rfl) (pe_callB call_len_str rfl B.len_ PySem.boot_len (pa_cons (pv 1) pa_nil))))
    (pss_cons (ps_if (pt_cmpR op_ne (pe_slice sl_str (pe_fld (pv 0) rfl) (po_some (pe_fld (pv 0) rfl)) (po_some (pv 2))) (pv 1) (nomark _)) (pss_one (ps_raise oNoTree rfl (fun _ _ _ _ _ _ _ I hx q=>flies I hx q) (pa_cons (pe_joined (pj_cons (pe_fmtR (pv 1)) (pj_cons pe_str pj_nil))) pa_nil) rfl)) pss_nil)
    (pss_one (ps_fld (pv 0) (pv 2) rfl)))),?_⟩
  try dsimp only [cxOf]
  refine ⟨_,rfl,r,CR,dx,_,_,rfl,hr1,Z.cR,Z.nPlace,rfl,_,rfl,x,rfl,Nat.le_trans hx (by decide),_,_,rfl,rfl,?_⟩
  refine ⟨_,rfl,r,CR,dx,_,_,rfl,hr1,Z.cR,Z.nText,rfl,?_⟩
  refine ⟨_,rfl,r,CR,dx,_,_,rfl,hr1,Z.cR,Z.nPlace,rfl,_,rfl,_,rfl,_,rfl,tx,rfl,Nat.le_trans hz (by decide),_,rfl,?_⟩
  have e:((p:Int)+(x.length:Int))=((p+x.length:Nat):Int):=by omega
  have e2:Txt.slice tx (some (p:Int)) (some ((p:Int)+(x.length:Int)))=mkS ((ahd tx p).take x.length):=by
    rw [e,slice_cut tx hp,show p+x.length - p=x.length by omega];rfl
  refine ⟨rfl,_,rfl,iteDN (fun hne => ?_) (fun heq => ?_)⟩
  · rw [e2] at hne
    refine ⟨by decide,_,rfl,x,rfl,hrx,_,rfl,hrx,_,rfl,by decide,fun z=>⟨(show 1≤sizeLine by decide),q2 fun h=>hne ?_⟩⟩
    rw [h]
    exact congrArg V.str (str_ext rfl)
  · rw [e2] at heq
    have h:(ahd tx p).take x.length=x.cps.toList:=(congrArg (fun z:Str=>z.cps.toList) (V.str.inj heq):_)
    refine ⟨_,rfl,_,rfl,r,CR,dx,_,rfl,hr1,Z.cR,Z.nPlace,(show 3 < 1000 by decide),?_⟩
    have q:=q1 h
    unfold rdr at q
    rw [← e] at q
    exact q
inductive SpRun (CR:Addr) (vs:List V) (H:Hp) (Q:VK):Prop
  | mk (r dx:Addr) (tx:Str) (b:Bool) (p:Nat) (x:Str) (pr:Nat→Bool) (z0:vs = [.ref r,.str x]) (z1:RdIn CR H r dx tx b p) (z2:(∀ c,decide (c∈x.cps.toList)=pr c)) (z3:Q (.str (mkS ((ahd tx p).takeWhile pr))) (upd H r (rdr CR dx tx b (p+((ahd tx p).takeWhile pr).length)))):SpRun CR vs H Q
noncomputable def spRun (CR:Addr):Sp:=fun vs H Q _=>SpRun CR vs H Q
theorem ok_run (B:Blt mg) (Z:Top4 K mg CR CNT) (D:DefM K CR "take_run" "Reader.take_run" s_take_run ["self", "signs"]):HasM P w K mg base 1 CR "take_run" ["self", "signs"] (spRun CR):=by
  refine D.has sc_take_run (fun vs H Q E h => ?_) (fun f cdv A outer s H vs Q E hr h => ?_)
  · obtain ⟨r,dx,tx,b,p,x,pr,rfl,_⟩:=h;rfl
  obtain ⟨r,dx,tx,b,p,x,pr,rfl,⟨hr1,hp,hz⟩,hpr,q⟩:=h
  refine ⟨_,(pss_cons (ps_set (i:=2) sc_take_run.nd rfl (Or.inl rfl) (pe_fld (pv 0) rfl))
    (pss_cons (ps_while PassesOwn.leaving (PW.pt (pw_and (pt_cmpR op_lt (pe_fld (pv 0) rfl) (pe_callB call_len_str rfl B.len_ PySem.boot_len (pa_cons (pe_fld (pv 0) rfl) pa_nil)) (nomark _)) (pw_and1 (pt_cmpR op_in_str (pe_ix ix_str (pe_fld (pv 0) rfl) (pe_fld (pv 0) rfl) (fun _ _=>rfl)) (pv 1) (by with_unfolding_all rfl)))))
    (pss_one (ps_fldaug (pv 0) pe_int in_add)))
    (pss_one (ps_ret (pe_slice sl_str (pe_fld (pv 0) rfl) (po_some (pv 2)) (po_some (pe_fld (pv 0) rfl))))))),?_⟩
  try dsimp only [cxOf]
  refine ⟨_,rfl,r,CR,dx,_,_,rfl,hr1,Z.cR,Z.nPlace,rfl,?_⟩
  have hl:(ahd tx p).length=tx.length - p:=by unfold ahd;rw [List.length_drop,len_cps]
  have hn:=tw_le pr (ahd tx p)
  refine ⟨fun m σ' H'=>∃ j,j≤((ahd tx p).takeWhile pr).length∧m=((ahd tx p).takeWhile pr).length - j ∧ σ' = [some (.ref r),some (.str x),some (.int p)]∧H'=upd H r (rdr CR dx tx b (p+j)),⟨_,0,Nat.zero_le _,rfl,rfl,(upd_id hr1).symm⟩,?_⟩
  rintro m σ' H' ⟨j,hj,rfl,rfl,rfl⟩
  have big:tx.length≤sizeLine:=Nat.le_trans hz (by decide)
  have hat:∀ i,(ahd tx p)[i]? = tx.cps.toList[p+i]? := fun i=>by unfold ahd;rw [List.getElem?_drop]
  refine ⟨_,rfl,r,CR,dx,_,_,rfl,upd_same,Z.cR,Z.nPlace,rfl,_,rfl,r,CR,dx,_,_,rfl,upd_same,Z.cR,Z.nText,rfl,tx,rfl,big,?_⟩
  have fin:∀ Q':VK,j=((ahd tx p).takeWhile pr).length→Q' (.str (mkS ((ahd tx p).takeWhile pr))) (upd H r (rdr CR dx tx b (p+((ahd tx p).takeWhile pr).length))) →
      tSl rSlS (tFld K (tVar 0) "text") (tPart (tVar 2)) (tPart (tFld K (tVar 0) "place")) [some (V.ref r),some (V.str x),some (V.int p)] (upd H r (rdr CR dx tx b (p+j))) Q':=fun Q' hjn q'=>by
    subst hjn
    refine ⟨_,rfl,r,CR,dx,_,_,rfl,upd_same,Z.cR,Z.nText,rfl,_,rfl,_,rfl,_,rfl,r,CR,dx,_,_,rfl,upd_same,Z.cR,Z.nPlace,rfl,_,rfl,tx,rfl,big,?_⟩
    rw [slice_cut tx hp,show p+((ahd tx p).takeWhile pr).length - p=((ahd tx p).takeWhile pr).length by omega]
    have e:=tw_take pr (ahd tx p)
    unfold ahd at e q' ⊢
    rw [e]
    exact q'
  refine ⟨_,_,rfl,rfl,_,rfl,iteD (fun hlt => ?_) (fun hge => ?_)⟩
  · have hlt':p+j < tx.length:=by omega
    have hc:p+j < tx.cps.toList.length:=by rw [← len_cps];exact hlt'
    have hci:atI tx.cps.toList ((p+j:Nat):Int)=some tx.cps.toList[p+j]:=atI_nat (List.getElem?_eq_getElem hc)
    refine ⟨_,rfl,r,CR,dx,_,_,rfl,upd_same,Z.cR,Z.nText,rfl,_,rfl,r,CR,dx,_,_,rfl,upd_same,Z.cR,Z.nPlace,rfl,tx,_,tx.cps.toList[p+j],rfl,rfl,big,hci,_,rfl,_,_,rfl,rfl,_,rfl,?_⟩
    rw [StrLaws.found_one,hpr]
    cases hb:pr tx.cps.toList[p+j] with
    | true =>
      have hjn:j < ((ahd tx p).takeWhile pr).length:=by
        refine Nat.lt_of_not_le fun hle => ?_
        have hje:j=((ahd tx p).takeWhile pr).length:=by omega
        obtain ⟨c,h1,h2⟩:=tw_end pr (ahd tx p) (by rw [hl];omega)
        rw [← hje,hat,List.getElem?_eq_getElem hc] at h1
        cases h1
        rw [hb] at h2;cases h2
      refine iteT ⟨fun σ' H' => σ' = [some (.ref r),some (.str x),some (.int p)]∧H'=upd H r (rdr CR dx tx b (p+(j+1))),?_,?_⟩
      · rintro σ' H' ⟨rfl,rfl⟩
        exact ⟨((ahd tx p).takeWhile pr).length - (j+1),by omega,j+1,hjn,rfl,rfl,rfl⟩
      · refine ⟨_,rfl,r,CR,dx,_,_,rfl,upd_same,Z.cR,Z.nPlace,rfl,_,_,rfl,rfl,dx,_,upd_same,(show 3 < 1000 by decide),rfl,?_⟩
        rw [upd_upd]
        rfl
    | false =>
      refine iteF (fin _ ?_ q)
      refine Nat.le_antisymm hj (Nat.le_of_not_lt fun hjn => ?_)
      obtain ⟨c,h1,h2⟩:=tw_at pr (ahd tx p) j hjn
      rw [hat,List.getElem?_eq_getElem hc] at h1
      cases h1
      rw [hb] at h2;cases h2
  · exact iteF (fin _ (by omega) q)
inductive SpTWord (CR CNT:Addr) (vs:List V) (H:Hp) (Q:VK) (E:XK):Prop
  | mk (r dx:Addr) (tx:Str) (b:Bool) (p:Nat) (z0:vs = [.ref r]) (z1:RdIn CR H r dx tx b p) (z2:(∀ x l',pWord (ahd tx p)=some (x,l')→Q (.str (mkS x)) (upd H r (rdr CR dx tx b (p+x.length))))) (z3:(pWord (ahd tx p)=none→∀ H',KeepBut r H H'→E (.ref CNT) none H')):SpTWord CR CNT vs H Q E
noncomputable def spTWord (CR CNT:Addr):Sp:=fun vs H Q E=>SpTWord CR CNT vs H Q E
theorem ok_tword (B:Blt mg) (Z:Top4 K mg CR CNT) (h_take_run:HasM P w K mg base 1 CR "take_run" ["self", "signs"] (spRun CR)) (D:DefM K CR "take_word" "Reader.take_word" s_take_word ["self"]):HasM P w K mg base 2 CR "take_word" ["self"] (spTWord CR CNT):=by
  have oNoTree:=Z.oNoTree
  have cR:=Z.cR
  have g_LETTERS:=Z.g_LETTERS
  have g_MOST_LETTERS:=Z.g_MOST_LETTERS
  refine D.has sc_take_word (fun vs H Q E h => ?_) (fun f cdv A outer s H vs Q E hr h => ?_)
  · obtain ⟨r,dx,tx,b,p,rfl,_⟩:=h;rfl
  obtain ⟨r,dx,tx,b,p,rfl,⟨hr1,hp,hz⟩,q1,q2⟩:=h
  refine ⟨_,(pss_cons (ps_set (i:=1) sc_take_word.nd rfl (Or.inl rfl) (pe_mE h_take_run cR hr (by omega) (passE fun _ _ _ z=>z) (pv 0) (pa_cons (pe_globS g_LETTERS rfl) pa_nil)))
    (pss_cons (ps_if (PW.pt (pw_or (pt_cmpR op_eq (pv 1) pe_str (nomark _)) (pw_or1 (pt_cmpR op_gt (pe_callB call_len_str rfl B.len_ PySem.boot_len (pa_cons (pv 1) pa_nil)) (pe_globI g_MOST_LETTERS rfl) (nomark _))))) (pss_one (ps_raise oNoTree rfl (fun _ _ _ _ _ _ _ I hx q=>flies I hx q) (pa_cons (pe_joined (pj_cons pe_str (pj_cons (pe_fmtI (pe_globI g_MOST_LETTERS rfl)) (pj_cons pe_str pj_nil)))) pa_nil) rfl)) pss_nil)
    (pss_one (ps_ret (pv 1))))),?_⟩
  try dsimp only [cxOf]
  refine ⟨_,rfl,r,dx,_,rfl,hr1,rfl,r,dx,tx,b,p,_,isLet,rfl,⟨hr1,hp,hz⟩,lets_are,?_⟩
  have hl:(ahd tx p).length=tx.length - p:=by unfold ahd;rw [List.length_drop,len_cps]
  have hn:=tw_le isLet (ahd tx p)
  have bad:((ahd tx p).takeWhile isLet = []∨8 < ((ahd tx p).takeWhile isLet).length)→∀ H',KeepBut r H H'→E (.ref CNT) none H':=fun h=>q2 (by unfold pWord;rw [if_pos h])
  have big:(mkS ((ahd tx p).takeWhile isLet)).length≤sizeLine:=by rw [mkS_len];exact Nat.le_trans (by omega:_≤100000) (by decide)
  refine ⟨_,rfl,rfl,_,rfl,iteD (fun h0 => ?_) (fun h0 => ?_)⟩
  · exact iteT ⟨by decide,_,rfl,by decide,_,rfl,by decide,_,rfl,by decide,_,rfl,by decide,fun z=>⟨(show 1≤sizeLine by decide),bad (.inl (mkS_empty h0)) _ KeepBut.put⟩⟩
  · refine ⟨_,rfl,_,rfl,big,_,_,rfl,rfl,_,rfl,iteD (fun h1 => ?_) (fun h1 => ?_)⟩
    · rw [mkS_len] at h1
      exact ⟨by decide,_,rfl,by decide,_,rfl,by decide,_,rfl,by decide,_,rfl,by decide,fun z=>⟨(show 1≤sizeLine by decide),bad (.inr (by omega)) _ KeepBut.put⟩⟩
    · rw [mkS_len] at h1
      refine ⟨_,rfl,q1 _ ((ahd tx p).drop ((ahd tx p).takeWhile isLet).length) ?_⟩
      unfold pWord
      rw [if_neg fun z=>z.elim (mkS_ne h0) (by omega)]
theorem rdcut {t rest:TS} {D:Ends} {σ : St} {H:Hp} (R:St→Hp→Prop) (key:∀ σ' H',R σ' H'→rest D σ' H') (h:∀ {N:St→Hp→Prop},(∀ σ' H',R σ' H'→N σ' H')→t { D with nx:=N } σ H):tSeq t rest D σ H:=h key
theorem ahd_len {tx:Str} {p:Nat}:(ahd tx p).length=tx.length - p:=by unfold ahd;rw [List.length_drop,len_cps]
theorem ahd_drop {tx:Str} {p n:Nat}:(ahd tx p).drop n=ahd tx (p+n):=by unfold ahd;rw [List.drop_drop]
inductive SpNum (CR CNT:Addr) (vs:List V) (H:Hp) (Q:VK) (E:XK):Prop
  | mk (r dx:Addr) (tx:Str) (b:Bool) (p:Nat) (z0:vs = [.ref r]) (z1:RdIn CR H r dx tx b p) (z2:(∀ n l',pNum (ahd tx p)=some (n,l')→∀ a H' p',KeepBut r H H'→RdIn CR H' r dx tx b p'→ahd tx p'=l'→H' a=some (.tup [.str "num",.int n])→Q (.ref a) H')) (z3:(pNum (ahd tx p)=none→∀ H',KeepBut r H H'→E (.ref CNT) none H')):SpNum CR CNT vs H Q E
noncomputable def spNum (CR CNT:Addr):Sp:=fun vs H Q E=>SpNum CR CNT vs H Q E
theorem ok_number4 (B:Blt mg) (Z:Top4 K mg CR CNT) (h_ahead:HasM P w K mg base 1 CR "ahead" ["self"] (spAhead CR)) (h_take_run:HasM P w K mg base 1 CR "take_run" ["self", "signs"] (spRun CR)) (D:DefM K CR "take_number" "Reader.take_number" s_take_number ["self"]) :
    HasM P w K mg base 2 CR "take_number" ["self"] (spNum CR CNT):=by
  have oNoTree:=Z.oNoTree
  have cR:=Z.cR
  have g_FIGURES:=Z.g_FIGURES
  have g_MOST_FIGURES:=Z.g_MOST_FIGURES
  refine D.has sc_take_number (fun vs H Q E h => ?_) (fun f cdv A outer s H vs Q E hr h => ?_)
  · obtain ⟨r,dx,tx,b,p,rfl,_⟩:=h;rfl
  obtain ⟨r,dx,tx,b,p,rfl,⟨hr1,hp,hz⟩,q1,q2⟩:=h
  refine ⟨_,(pss_cons (ps_set (i:=1) sc_take_number.nd rfl (Or.inl rfl) (pe_fld (pv 0) rfl))
    (pss_cons (ps_if (pt_cmpR op_eq (pe_mE0 h_ahead cR hr (by omega) (passE fun _ _ _ z=>z) (pv 0)) pe_str (nomark _)) (pss_one (ps_fldaug (pv 0) pe_int in_add)) pss_nil)
    (pss_cons (ps_set (i:=2) sc_take_number.nd rfl (Or.inl rfl) (pe_mE h_take_run cR hr (by omega) (passE fun _ _ _ z=>z) (pv 0) (pa_cons (pe_globS g_FIGURES rfl) pa_nil)))
    (pss_cons (ps_if (PW.pt (pw_or (pt_cmpR op_eq (pv 2) pe_str (nomark _)) (pw_or1 (pt_cmpR op_gt (pe_callB call_len_str rfl B.len_ PySem.boot_len (pa_cons (pv 2) pa_nil)) (pe_globI g_MOST_FIGURES rfl) (nomark _))))) (pss_one (ps_raise oNoTree rfl (fun _ _ _ _ _ _ _ I hx q=>flies I hx q) (pa_cons (pe_joined (pj_cons pe_str (pj_cons (pe_fmtI (pe_globI g_MOST_FIGURES rfl)) (pj_cons pe_str pj_nil)))) pa_nil) rfl)) pss_nil)
    (pss_cons (ps_set (i:=3) sc_take_number.nd rfl (Or.inl rfl) (pe_slice sl_str (pe_fld (pv 0) rfl) (po_some (pv 1)) (po_some (pe_fld (pv 0) rfl))))
    (pss_cons (ps_if (PW.pt (pw_and (pt_cmpR op_eq (pe_ix ix_str (pv 2) pe_int (fun _ _=>rfl)) pe_str (nomark _)) (pw_and1 (pt_cmpR op_ne (pv 3) pe_str (nomark _))))) (pss_one (ps_raise oNoTree rfl (fun _ _ _ _ _ _ _ I hx q=>flies I hx q) (pa_cons pe_str pa_nil) rfl)) pss_nil)
    (pss_one (ps_ret (pe_tup (pa_cons pe_str (pa_cons (pe_callTy call_int_text rfl B.int_ boot_int_ (pa_cons (pv 3) pa_nil)) pa_nil))))))))))),?_⟩
  try dsimp only [cxOf]
  refine ⟨_,rfl,r,CR,dx,_,_,rfl,hr1,Z.cR,Z.nPlace,rfl,?_⟩
  dsimp only [gName]
  refine rdcut (fun σ' H'=>∃ (p1:Nat) (pre:List Nat), σ' = [some (.ref r),some (.int p),none,none]∧H'=upd H r (rdr CR dx tx b p1)∧p1=p+pre.length∧p1≤tx.length∧ahd tx p=pre ++ ahd tx p1∧(pre = []∧(ahd tx p).head? ≠ some 45∨pre = [45])) ?_ (fun key => ?_)
  · rintro σ' H' ⟨p1,pre,rfl,rfl,hp1,hp1l,hl,hpre⟩
    refine ⟨_,rfl,r,dx,_,rfl,upd_same,rfl,r,dx,tx,b,p1,_,isFig,rfl,⟨upd_same,hp1l,hz⟩,figs_are,?_⟩
    have hn:=tw_le isFig (ahd tx p1)
    rw [ahd_len] at hn
    generalize hF:(ahd tx p1).takeWhile isFig=F at hn
    have hFd:PySem.NumText.AllDigits F:=fun c hc=>by
      rw [← hF] at hc
      have:=tw_all _ _ c hc
      unfold isFig at this
      exact of_decide_eq_true this
    have hcut:(ahd tx p).take (p1+F.length - p)=pre ++ F:=by
      rw [hl,show p1+F.length - p=pre.length+F.length by omega,List.take_append,List.take_of_length_le (by omega),show pre.length+F.length - pre.length=F.length by omega, ← hF,tw_take]
    rw [upd_upd]
    have hN:pNum (ahd tx p)=if F = []∨60 < F.length then none else if F.head? = some 48∧¬ (pre = []∧F = [48]) then none else some (if pre = [] then ((PySem.NumText.digitsVal F:Nat):Int) else -((PySem.NumText.digitsVal F:Nat):Int),ahd tx (p1+F.length)):=by
      rcases hpre with ⟨rfl,hh⟩ | rfl
      · have e:ahd tx p=ahd tx p1:=hl
        unfold pNum
        rw [decide_eq_false hh]
        simp only [Bool.false_eq_true,if_false,e,hF,true_and,if_true,ahd_drop]
      · have e:ahd tx p=45 :: ahd tx p1:=hl
        unfold pNum
        rw [e]
        simp only [List.head?_cons,List.tail_cons,decide_true,if_true,hF,ahd_drop]
        simp
    have big:(mkS F).length≤sizeLine:=by rw [mkS_len];exact Nat.le_trans (by omega:_≤100000) (by decide)
    have bad:(F = []∨60 < F.length)→∀ H',KeepBut r H H'→E (.ref CNT) none H':=fun h=>q2 (by rw [hN,if_pos h])
    dsimp only [gName]
    refine rdcut (fun σ' H' => σ' = [some (.ref r),some (.int p),some (.str (mkS F)),none]∧H'=upd H r (rdr CR dx tx b (p1+F.length))∧F ≠ []∧F.length≤60) ?_ (fun key => ?_)
    · rintro σ' H' ⟨rfl,rfl,hF0,hF60⟩
      refine ⟨_,rfl,r,CR,dx,_,_,rfl,upd_same,Z.cR,Z.nText,rfl,_,rfl,_,rfl,_,rfl,r,CR,dx,_,_,rfl,upd_same,Z.cR,Z.nPlace,rfl,_,rfl,tx,rfl,Nat.le_trans hz (by decide),?_⟩
      rw [slice_cut tx hp]
      have hcut':(tx.cps.toList.drop p).take (p1+F.length - p)=pre ++ F:=hcut
      rw [hcut']
      dsimp only [gName]
      have hlen:(mkS (pre ++ F)).length≤61:=by
        rw [mkS_len,List.length_append]
        rcases hpre with ⟨rfl,_⟩ | rfl
        · simp;omega
        · simp;omega
      have hint:intText? (mkS (pre ++ F))=some (if pre = [] then ((PySem.NumText.digitsVal F:Nat):Int) else -((PySem.NumText.digitsVal F:Nat):Int)):=by
        rcases hpre with ⟨rfl,_⟩ | rfl
        · rw [if_pos rfl]
          exact PySem.intText_digits (x:=mkS ([] ++ F)) hFd hF0 (Nat.le_trans hlen (by decide))
        · rw [if_neg (by simp)]
          exact PySem.intText_neg (x:=mkS ([45] ++ F)) rfl hFd hF0 (Nat.le_trans hlen (by decide))
      refine rdcut (fun σ' H' => σ' = [some (.ref r),some (.int p),some (.str (mkS F)),some (.str (mkS (pre ++ F)))]∧H'=upd H r (rdr CR dx tx b (p1+F.length))∧¬ (F.head? = some 48∧¬ (pre = []∧F = [48]))) ?_ (fun key => ?_)
      · rintro σ' H' ⟨rfl,rfl,hok⟩
        refine ⟨_,rfl,_,_,rfl,hint,Nat.le_trans hlen (by decide),(show 2≤sizeLine by decide),fun a ha => ?_⟩
        refine q1 _ (ahd tx (p1+F.length)) ?_ a _ (p1+F.length) (KeepBut.put.trans (KeepBut.new ha)) ⟨?_,by omega,hz⟩ rfl upd_same
        · rw [hN,if_neg (fun z=>z.elim hF0 (by omega)),if_neg hok]
        · rw [upd_ne (ne_of_none upd_same ha),upd_same]
      · cases hF2:F with
        | nil=>exact absurd hF2 hF0
        | cons c0 F' =>
          rw [← hF2]
          have hat0:atI (mkS F).cps.toList (0:Int)=some c0:=atI_nat (j:=0) (by rw [mkS_cps,hF2];rfl)
          refine ⟨_,rfl,mkS F,0,c0,rfl,rfl,big,hat0,rfl,_,rfl,iteD (fun h0 => ?_) (fun h0 => ?_)⟩
          · have hc0:c0=48:=by
              have:=congrArg (fun z:Str=>z.cps.toList) (V.str.inj h0)
              exact (List.cons.inj this).1
            refine ⟨_,rfl,rfl,_,rfl,iteDN (fun hne => ?_) (fun heq => ?_)⟩
            · refine ⟨(show 1≤sizeLine by decide),q2 ?_ _ KeepBut.put⟩
              have hh:F.head? = some 48∧¬ (pre = []∧F = [48]):=⟨by rw [hF2,hc0];rfl,fun z=>hne (by rw [z.1,z.2];exact congrArg V.str (str_ext rfl))⟩
              rw [hN,if_neg (fun z=>z.elim hF0 (by omega)),if_pos hh]
            · refine key _ _ ⟨rfl,rfl,fun z=>z.2 ?_⟩
              have e:pre ++ F = [48]:=congrArg (fun z:Str=>z.cps.toList) (V.str.inj heq)
              rcases hpre with ⟨rfl,_⟩ | rfl
              · exact ⟨rfl,e⟩
              · simp at e
          · refine iteF (key _ _ ⟨rfl,rfl,fun z=>h0 ?_⟩)
            have e:=z.1
            rw [hF2] at e
            cases e
            exact congrArg V.str (str_ext rfl)
    · refine ⟨_,rfl,rfl,_,rfl,iteD (fun h0 => ?_) (fun h0 => ?_)⟩
      · exact iteT ⟨by decide,_,rfl,by decide,_,rfl,by decide,_,rfl,by decide,_,rfl,by decide,fun z=>⟨(show 1≤sizeLine by decide),bad (.inl (mkS_empty h0)) _ KeepBut.put⟩⟩
      · refine ⟨_,rfl,_,rfl,big,_,_,rfl,rfl,_,rfl,iteD (fun h1 => ?_) (fun h1 => ?_)⟩
        · rw [mkS_len] at h1
          exact ⟨by decide,_,rfl,by decide,_,rfl,by decide,_,rfl,by decide,_,rfl,by decide,fun z=>⟨(show 1≤sizeLine by decide),bad (.inr (by omega)) _ KeepBut.put⟩⟩
        · rw [mkS_len] at h1
          exact key _ _ ⟨rfl,rfl,mkS_ne h0,by omega⟩
  · refine ⟨_,rfl,r,dx,_,rfl,hr1,rfl,r,dx,tx,b,p,rfl,⟨hr1,hp,hz⟩,rfl,_,rfl,iteD (fun h0 => ?_) (fun h0 => ?_)⟩
    · have e:(ahd tx p).take 1 = [45]:=congrArg (fun z:Str=>z.cps.toList) (V.str.inj h0)
      have e2:ahd tx p=45 :: ahd tx (p+1):=by
        rw [← ahd_drop, ← List.take_append_drop 1 (ahd tx p),e]
        simp
      have hpl:p+1≤tx.length:=by
        have:=congrArg List.length e2
        rw [ahd_len,List.length_cons] at this
        omega
      refine ⟨_,rfl,r,CR,dx,_,_,rfl,hr1,Z.cR,Z.nPlace,rfl,_,_,rfl,rfl,dx,_,hr1,(show 3 < 1000 by decide),key _ _ ⟨p+1, [45],rfl,rfl,rfl,hpl,e2,.inr rfl⟩⟩
    · refine key _ _ ⟨p, [],rfl,(upd_id hr1).symm,rfl,hp,rfl,.inl ⟨rfl,fun hh=>h0 ?_⟩⟩
      cases e:ahd tx p with
      | nil=>rw [e] at hh;cases hh
      | cons c l =>
        rw [e] at hh
        cases hh
        exact congrArg V.str (str_ext rfl)
end

end K71
namespace K71
open PySem L2 Sw
section
variable {P:Program} {w:World} {K:PySem.W.Frag} {mg:Str→Option Value} {base:Heap} {CR CNT:Addr}
inductive SpTree (CR CNT:Addr) (k:Nat) (vs:List V) (H:Hp) (Q:VK) (E:XK):Prop
  | mk (r dx:Addr) (tx:Str) (b:Bool) (p:Nat) (z0:vs = [.ref r,.int (31 - (k:Int))]) (z1:RdIn CR H r dx tx b p) (z2:(∀ t l',pTree b k (ahd tx p)=some (t,l')→∀ v H' p',KeepBut r H H'→RdIn CR H' r dx tx b p'→ahd tx p'=l'→IsTr H' t v→Q v H')) (z3:(pTree b k (ahd tx p)=none→∀ H',KeepBut r H H'→E (.ref CNT) none H')):SpTree CR CNT k vs H Q E
noncomputable def spTree (CR CNT:Addr) (k:Nat):Sp:=fun vs H Q E=>SpTree CR CNT k vs H Q E
inductive SpArms (CR CNT:Addr) (k:Nat) (vs:List V) (H:Hp) (Q:VK) (E:XK):Prop
  | mk (r dx:Addr) (tx:Str) (b:Bool) (p:Nat) (z0:vs = [.ref r,.int (31 - (k:Int))]) (z1:RdIn CR H r dx tx b p) (z2:(∀ ts l',pArms (pTree b k) (ahd tx p)=some (ts,l')→∀ a us H' p',KeepBut r H H'→RdIn CR H' r dx tx b p'→ahd tx p'=l'→H' a=some (.tup us)→IsTrs H' ts us→Q (.ref a) H')) (z3:(pArms (pTree b k) (ahd tx p)=none→∀ H',KeepBut r H H'→E (.ref CNT) none H')):SpArms CR CNT k vs H Q E
noncomputable def spArms (CR CNT:Addr) (k:Nat):Sp:=fun vs H Q E=>SpArms CR CNT k vs H Q E
structure ArmS (CR:Addr) (H:Hp) (r dx:Addr) (tx:Str) (b:Bool) (k:Nat) (pa:Addr) (p:Nat) (us:List V) (ts:List T) (p2 n2:Nat) (σ':St) (H':Hp):Prop where
  es : σ' = [some (.ref r),some (.int (31 - (k:Int))),some (.ref pa)]
  kb:KeepBut r H H'
  hl:H' pa=some (.lst us)
  rd:RdIn CR H' r dx tx b p2
  htr:IsTrs H' ts us
  hlen:us.length+(ahd tx p2).length≤100001
  hn2:(ahd tx p2).length < n2
  heq:pArms (pTree b k) (ahd tx p)=(match pMore (pTree b k) n2 (ahd tx p2) with | some (us2,l2)=>if 4 < (ts ++ us2).length then none else some (ts ++ us2,l2) | none=>none)
theorem ok_arms (B:Blt mg) (Z:Top4 K mg CR CNT) {n k:Nat} (hn:1≤n) (h_ahead:HasM P w K mg base 1 CR "ahead" ["self"] (spAhead CR)) (h_take:HasM P w K mg base 1 CR "take" ["self", "wanted"] (spTake CR CNT))
    (h_take_tree:HasM P w K mg base n CR "take_tree" ["self", "deep"] (spTree CR CNT k)) (D:DefM K CR "take_arms" "Reader.take_arms" s_take_arms ["self", "deep"]) :
    HasM P w K mg base (n+1) CR "take_arms" ["self", "deep"] (spArms CR CNT k):=by
  have oNoTree:=Z.oNoTree
  have cR:=Z.cR
  have g_MOST_ARMS:=Z.g_MOST_ARMS
  refine D.has sc_take_arms (fun vs H Q E h => ?_) (fun f cdv A outer s H vs Q E hr h => ?_)
  · obtain ⟨r,dx,tx,b,p,rfl,_⟩:=h;rfl
  obtain ⟨r,dx,tx,b,p,rfl,⟨hr1,hp,hz⟩,q1,q2⟩:=h
  refine ⟨_,(pss_cons (ps_set (i:=2) sc_take_arms.nd rfl (Or.inl rfl) (pe_lst (pa_cons (pe_mE h_take_tree cR hr (by omega) (passE fun _ _ _ z=>z) (pv 0) (pa_cons (pv 1) pa_nil)) pa_nil)))
    (pss_cons (ps_while PassesOwn.leaving (pt_cmpR op_eq (pe_mE0 h_ahead cR hr (by omega) (passE fun _ _ _ z=>z) (pv 0)) pe_str (nomark _))
    (pss_cons (ps_expr (pe_mE h_take cR hr (by omega) (passE fun _ _ _ z=>z) (pv 0) (pa_cons pe_str pa_nil)))
    (pss_one (ps_expr (pe_bm PySem.F.plainAttrs_list PySem.F.slot_list_append PySem.F.type_list_append mt_append (pv 2) (pa_cons (pe_mE h_take_tree cR hr (by omega) (passE fun _ _ _ z=>z) (pv 0) (pa_cons (pv 1) pa_nil)) pa_nil))))))
    (pss_cons (ps_expr (pe_mE h_take cR hr (by omega) (passE fun _ _ _ z=>z) (pv 0) (pa_cons pe_str pa_nil)))
    (pss_cons (ps_if (pt_cmpR op_gt (pe_callB call_len_seq rfl B.len_ PySem.boot_len (pa_cons (pv 2) pa_nil)) (pe_globI g_MOST_ARMS rfl) (nomark _)) (pss_one (ps_raise oNoTree rfl (fun _ _ _ _ _ _ _ I hx q=>flies I hx q) (pa_cons (pe_joined (pj_cons pe_str (pj_cons (pe_fmtI (pe_globI g_MOST_ARMS rfl)) (pj_cons pe_str pj_nil)))) pa_nil) rfl)) pss_nil)
    (pss_one (ps_ret (pe_callTy call_tuple_of rfl B.tuple_ boot_tuple_ (pa_cons (pv 2) pa_nil)))))))),?_⟩
  try dsimp only [cxOf]
  refine ⟨_,rfl,r,dx,_,rfl,hr1,rfl,_,rfl,r,dx,tx,b,p,rfl,⟨hr1,hp,hz⟩,fun t l1 e1 v H1 p1 kb1 rd1 el1 tr1 => ?_,fun e1 H' kb=>q2 (by unfold pArms;rw [e1]) H' kb⟩
  refine ⟨(show 1≤sizeLine by decide),fun pa hpa => ?_⟩
  dsimp only [gName]
  have npr:pa≠r:=fun z=>by rw [z,rd1.1] at hpa;cases hpa
  have hpa0:H pa=none:=by
    cases e:H pa with
    | none=>rfl
    | some o=>have:=kb1 pa o npr e;rw [hpa] at this;cases this
  have big5:(100001:Nat) < sizeLine:=by decide
  refine rdcut (fun σ' H'=>∃ (us:List V) (ts:List T) (p2 n2:Nat),ArmS CR H r dx tx b k pa p us ts p2 n2 σ' H'∧(ahd tx p2).take 1 ≠ [44]) ?_ (fun key => ?_)
  · rintro σ' H' ⟨us,ts,p2,n2,⟨rfl,kb,hl,rd,htr,hlen,hn2,heq⟩,no44⟩
    obtain ⟨n3,rfl⟩:∃ n3,n2=n3+1:=⟨n2 - 1,by omega⟩
    have no2:(ahd tx p2).take 2 ≠ [44,32]:=fun z=>no44 (by obtain ⟨r',e⟩:=take2 z;rw [e];rfl)
    refine ⟨_,rfl,r,dx,_,rfl,rd.1,rfl,r,dx,tx,b,p2, ")",rfl,rd,by decide,by decide +kernel,fun hc => ?_,fun hc=>q2 (by rw [heq,pm_none no2 hc]) H' kb⟩
    have hc2:(ahd tx p2).take 1 = [41]:=hc
    obtain ⟨l3,el3⟩:=take1 hc2
    have el3':ahd tx (p2+1)=l3:=by rw [← ahd_drop,el3];rfl
    have hl3:(ahd tx p2).length=l3.length+1:=by rw [el3];rfl
    have hp3:p2+1≤tx.length:=by
      have:=rd.2.1
      rw [ahd_len] at hl3
      omega
    rw [el3,pm_close] at heq
    dsimp only at heq
    rw [List.append_nil] at heq
    rw [show (")" : Str).length=1 from rfl]
    have kb3:KeepBut r H (upd H' r (rdr CR dx tx b (p2+1))):=kb.trans KeepBut.put
    have hl3':(upd H' r (rdr CR dx tx b (p2+1))) pa=some (.lst us):=by rw [upd_ne npr];exact hl
    have htr3:IsTrs (upd H' r (rdr CR dx tx b (p2+1))) ts us:=trs_keep (keep_put rd.1 trivial) htr
    have rd3:RdIn CR (upd H' r (rdr CR dx tx b (p2+1))) r dx tx b (p2+1):=⟨upd_same,hp3,hz⟩
    generalize upd H' r (rdr CR dx tx b (p2+1))=H3 at kb3 hl3' htr3 rd3 ⊢
    have hts:=trs_len htr3
    refine ⟨_,rfl,pa,us,rfl,.inl (SqL.of hl3'),_,_,rfl,rfl,_,rfl,iteD (fun h4 => ?_) (fun h4 => ?_)⟩
    · exact ⟨by decide,_,rfl,by decide,_,rfl,by decide,_,rfl,by decide,_,rfl,by decide,fun z=>⟨(show 1≤sizeLine by decide),q2 (by rw [heq,if_pos (by omega)]) H3 kb3⟩⟩
    · refine ⟨_,rfl,pa,us,rfl,.inl ⟨SqL.of hl3',fun a ha=>q1 ts l3 (by rw [heq,if_neg (by omega)]) a us _ (p2+1) (kb3.trans (KeepBut.new ha)) ⟨?_,rd3.2⟩ el3' upd_same (trs_same (same_new ha _) htr3)⟩⟩
      rw [upd_ne (ne_of_none rd3.1 ha)];exact rd3.1
  · refine ⟨fun m σ' H'=>∃ (us:List V) (ts:List T) (p2 n2:Nat),m=(ahd tx p2).length∧ArmS CR H r dx tx b k pa p us ts p2 n2 σ' H',⟨_, [v], [t],p1,l1.length+1,rfl,rfl,kb1.trans (KeepBut.new hpa),upd_same,?_,?_,?_,?_,?_⟩,?_⟩
    · exact ⟨by rw [upd_ne (Ne.symm npr)];exact rd1.1,rd1.2⟩
    · rw [IsTrs]
      exact ⟨v, [],rfl,tr_same (same_new hpa _) tr1,by rw [IsTrs]⟩
    · rw [ahd_len];simp;omega
    · rw [el1];omega
    · unfold pArms
      rw [e1,el1]
      dsimp only
      cases pMore (pTree b k) (l1.length+1) l1 with
      | none=>rfl
      | some z =>
        obtain ⟨us2,l2⟩:=z
        dsimp only
        rw [List.singleton_append,List.length_cons]
    rintro m σ' H' ⟨us,ts,p2,n2,rfl,⟨rfl,kb,hl,rd,htr,hlen,hn2,heq⟩⟩
    refine ⟨_,rfl,r,dx,_,rfl,rd.1,rfl,r,dx,tx,b,p2,rfl,rd,rfl,_,rfl,iteD (fun h0 => ?_) (fun h0 => ?_)⟩
    · have h44:(ahd tx p2).take 1 = [44]:=congrArg (fun z:Str=>z.cps.toList) (V.str.inj h0)
      obtain ⟨n3,rfl⟩:∃ n3,n2=n3+1:=⟨n2 - 1,by omega⟩
      refine ⟨fun σ' H'=>∃ (us:List V) (ts:List T) (p3 n2:Nat),(ahd tx p3).length < (ahd tx p2).length∧ArmS CR H r dx tx b k pa p us ts p3 n2 σ' H',?_,?_⟩
      · rintro σ' H' ⟨us',ts',p3,n2',hlt,r1⟩
        exact ⟨_,hlt,us',ts',p3,n2',rfl,r1⟩
      · have no41:(ahd tx p2).take 1 ≠ [41]:=by rw [h44];decide
        refine ⟨_,rfl,r,dx,_,rfl,rd.1,rfl,r,dx,tx,b,p2, ", ",rfl,rd,by decide,by decide +kernel,fun hc => ?_,fun hc=>q2 (by rw [heq,pm_none hc no41]) H' kb⟩
        have hc2:(ahd tx p2).take 2 = [44,32]:=hc
        obtain ⟨l3,el3⟩:=take2 hc2
        have el3':ahd tx (p2+2)=l3:=by rw [← ahd_drop,el3];rfl
        have hl3:(ahd tx p2).length=l3.length+2:=by rw [el3];rfl
        have hp3:p2+2≤tx.length:=by
          have:=rd.2.1
          rw [ahd_len] at hl3
          omega
        rw [el3,pm_comma] at heq
        rw [show (", " : Str).length=2 from rfl]
        have kb3:KeepBut r H (upd H' r (rdr CR dx tx b (p2+2))):=kb.trans KeepBut.put
        have hl3':(upd H' r (rdr CR dx tx b (p2+2))) pa=some (.lst us):=by rw [upd_ne npr];exact hl
        have htr3:IsTrs (upd H' r (rdr CR dx tx b (p2+2))) ts us:=trs_keep (keep_put rd.1 trivial) htr
        have rd3:RdIn CR (upd H' r (rdr CR dx tx b (p2+2))) r dx tx b (p2+2):=⟨upd_same,hp3,hz⟩
        generalize upd H' r (rdr CR dx tx b (p2+2))=H3 at kb3 hl3' htr3 rd3 ⊢
        refine ⟨_,rfl,.inl ⟨rfl,_,SqL.of hl3'⟩,_,rfl,r,dx,_,rfl,rd3.1,rfl,_,rfl,r,dx,tx,b,p2+2,rfl,rd3,fun t4 l4 e4 v4 H4 p4 kb4 rd4 el4 tr4 => ?_,fun e4 H4 kb4=>q2 (by rw [heq, ← el3',e4]) H4 (kb3.trans kb4)⟩
        rw [el3'] at e4
        rw [e4] at heq
        have hl4:H4 pa=some (.lst us):=kb4 pa _ npr hl3'
        have htr4:IsTrs H4 ts us:=trs_keep (kb4.tups rd3.1 trivial) htr3
        have hlen4:=pt_len b k _ _ _ e4
        refine ⟨pa,us,v4,rfl,rfl,hl4,?_,us ++ [v4],ts ++ [t4],p4,n3,?_,rfl,?_,upd_same,?_,?_,?_,?_,?_⟩
        · omega
        · rw [el4];omega
        · refine fun a o na ha => ?_
          rw [upd_ne (fun z=>by rw [z,hpa0] at ha;cases ha)]
          exact kb4 a o na (kb3 a o na ha)
        · exact ⟨by rw [upd_ne (Ne.symm npr)];exact rd4.1,rd4.2⟩
        · exact trs_snoc (trs_keep (keep_put hl4 trivial) htr4) (tr_keep (keep_put hl4 trivial) tr4)
        · rw [List.length_append,List.length_singleton,el4];omega
        · rw [el4];omega
        · rw [el4,heq]
          dsimp only
          cases pMore (pTree b k) n3 l4 with
          | none=>rfl
          | some z =>
            obtain ⟨us2,l2⟩:=z
            dsimp only
            rw [List.append_assoc,List.singleton_append]
    · refine key _ _ ⟨us,ts,p2,n2,⟨rfl,kb,hl,rd,htr,hlen,hn2,heq⟩,fun z=>h0 ?_⟩
      rw [z]
      exact congrArg V.str (str_ext rfl)
end

end K71
namespace K71
open PySem L2 Sw
section
variable {P:Program} {w:World} {K:PySem.W.Frag} {mg:Str→Option Value} {base:Heap} {CR CNT:Addr}
theorem tree_step (B:Blt mg) (Z:Top4 K mg CR CNT) {n k:Nat} {spA:Sp} (hn:2≤n) (hA:∀ k',k=k'+1→spA=spArms CR CNT k') (h_ahead:HasM P w K mg base 1 CR "ahead" ["self"] (spAhead CR)) (h_take:HasM P w K mg base 1 CR "take" ["self", "wanted"] (spTake CR CNT))
    (h_take_word:HasM P w K mg base 2 CR "take_word" ["self"] (spTWord CR CNT)) (h_take_number:HasM P w K mg base 2 CR "take_number" ["self"] (spNum CR CNT)) (h_take_arms:HasM P w K mg base n CR "take_arms" ["self", "deep"] spA)
    (D:DefM K CR "take_tree" "Reader.take_tree" s_take_tree ["self", "deep"]):HasM P w K mg base (n+1) CR "take_tree" ["self", "deep"] (spTree CR CNT k):=by
  have oNoTree:=Z.oNoTree
  have cR:=Z.cR
  have g_MOST_DEEP:=Z.g_MOST_DEEP
  have g_FIGURES:=Z.g_FIGURES
  refine D.has sc_take_tree (fun vs H Q E h => ?_) (fun f cdv A outer s H vs Q E hr h => ?_)
  · obtain ⟨r,dx,tx,b,p,rfl,_⟩:=h;rfl
  obtain ⟨r,dx,tx,b,p,rfl,⟨hr1,hp,hz⟩,q1,q2⟩:=h
  refine ⟨_,(pss_cons (ps_if (pt_cmpR op_gt (pv 1) (pe_globI g_MOST_DEEP rfl) (nomark _)) (pss_one (ps_raise oNoTree rfl (fun _ _ _ _ _ _ _ I hx q=>flies I hx q) (pa_cons (pe_joined (pj_cons pe_str (pj_cons (pe_fmtI (pe_globI g_MOST_DEEP rfl)) (pj_cons pe_str pj_nil)))) pa_nil) rfl)) pss_nil)
    (pss_cons (ps_set (i:=2) sc_take_tree.nd rfl (Or.inl rfl) (pe_mE0 h_ahead cR hr (by omega) (passE fun _ _ _ z=>z) (pv 0)))
    (pss_cons (ps_if (pt_cmpR op_eq (pv 2) pe_str (nomark _)) (pss_one (ps_raise oNoTree rfl (fun _ _ _ _ _ _ _ I hx q=>flies I hx q) (pa_cons pe_str pa_nil) rfl)) pss_nil)
    (pss_cons (ps_if (PW.pt (pw_or (pt_cmpR op_eq (pv 2) pe_str (nomark _)) (pw_or1 (pt_cmpR op_in_str (pv 2) (pe_globS g_FIGURES rfl) (by with_unfolding_all rfl))))) (pss_one (ps_ret (pe_mE0 h_take_number cR hr (by omega) (passE fun _ _ _ z=>z) (pv 0)))) pss_nil)
    (pss_cons (ps_if (PW.pt (pw_and (pt_cmpR op_eq (pv 2) pe_str (nomark _)) (pw_and1 (pt_val (pe_fld (pv 0) rfl))))) (pss_cons (ps_expr (pe_mE h_take cR hr (by omega) (passE fun _ _ _ z=>z) (pv 0) (pa_cons pe_str pa_nil)))
    (pss_one (ps_ret (pe_tup (pa_cons pe_str (pa_cons (pe_mE0 h_take_word cR hr (by omega) (passE fun _ _ _ z=>z) (pv 0)) pa_nil)))))) pss_nil)
    (pss_cons (ps_set (i:=3) sc_take_tree.nd rfl (Or.inl rfl) (pe_mE0 h_take_word cR hr (by omega) (passE fun _ _ _ z=>z) (pv 0)))
    (pss_cons (ps_if (pt_cmpR op_ne (pe_mE0 h_ahead cR hr (by omega) (passE fun _ _ _ z=>z) (pv 0)) pe_str (nomark _)) (pss_one (ps_ret (pe_tup (pa_cons pe_str (pa_cons (pv 3) pa_nil))))) pss_nil)
    (pss_cons (ps_expr (pe_mE h_take cR hr (by omega) (passE fun _ _ _ z=>z) (pv 0) (pa_cons pe_str pa_nil)))
    (pss_one (ps_ret (pe_tup (pa_cons pe_str (pa_cons (pv 3) (pa_cons (pe_mE h_take_arms cR hr (by omega) (passE fun _ _ _ z=>z) (pv 0) (pa_cons (pe_op op_add (pv 1) pe_int) pa_nil)) pa_nil)))))))))))))),?_⟩
  try dsimp only [cxOf]
  refine ⟨_,rfl,_,_,rfl,rfl,_,rfl,iteD (fun h0 => ?_) (fun h0 => ?_)⟩
  · obtain rfl:k=0:=by omega
    exact ⟨by decide,_,rfl,by decide,_,rfl,by decide,_,rfl,by decide,_,rfl,by decide,fun z=>⟨(show 1≤sizeLine by decide),q2 rfl _ KeepBut.refl⟩⟩
  obtain ⟨k',rfl⟩:∃ k',k=k'+1:=⟨k - 1,by omega⟩
  obtain rfl:=hA k' rfl
  refine ⟨_,rfl,r,dx,_,rfl,hr1,rfl,r,dx,tx,b,p,rfl,⟨hr1,hp,hz⟩,?_⟩
  cases hl:ahd tx p with
  | nil =>
    refine ⟨_,rfl,rfl,_,rfl,iteD (fun _ => ?_) (fun z=>absurd (congrArg V.str (str_ext rfl)) z)⟩
    exact ⟨(show 1≤sizeLine by decide),q2 (by rw [hl];rfl) _ KeepBut.refl⟩
  | cons c l0 =>
    rw [hl,pt_cons] at q1 q2
    have t1:(c :: l0).take 1 = [c]:=rfl
    rw [t1]
    have hp1:p+1≤tx.length:=by
      have:=congrArg List.length hl
      rw [ahd_len,List.length_cons] at this
      omega
    have hl1:ahd tx (p+1)=l0:=by rw [← ahd_drop,hl];rfl
    refine ⟨_,rfl,rfl,_,rfl,iteD (fun z=>absurd (mkS_empty z) (by simp)) (fun _ => ?_)⟩
    have num:(c=45∨isFig c=true)→tMeth CR "take_number" (spNum CR CNT) [] E (tVar 0) tNil [some (V.ref r),some (V.int (31 - ((k'+1:Nat):Int))),some (V.str (mkS [c])),none] H Q:=fun hc=>by
      rw [if_pos hc] at q1 q2
      refine ⟨_,rfl,r,dx,_,rfl,hr1,rfl,r,dx,tx,b,p,rfl,⟨hr1,hp,hz⟩,fun n l' e a H' p' kb rd' el tr => ?_,fun e H' kb => ?_⟩
      · rw [hl] at e
        rw [e] at q1
        exact q1 (.num n) l' rfl _ H' p' kb rd' el (by rw [IsTr];exact ⟨a,rfl,tr⟩)
      · rw [hl] at e
        rw [e] at q2
        exact q2 rfl H' kb
    refine ⟨_,rfl,rfl,_,rfl,iteD (fun h45 => ?_) (fun h45 => ?_)⟩
    · have hc:c=45:=(List.cons.inj (congrArg (fun z:Str=>z.cps.toList) (V.str.inj h45))).1
      exact iteT (num (.inl hc))
    refine ⟨_,rfl,_,_,rfl,rfl,_,rfl,?_⟩
    have hf:=StrLaws.found_one ("0123456789" : Str) c
    rw [figs_are] at hf
    rw [show mkS [c]=⟨#[c]⟩ from rfl,hf]
    cases hfig:isFig c with
    | true=>exact iteT (num (.inr hfig))
    | false =>
      have h45':c≠45:=fun z=>h45 (by rw [z];exact congrArg V.str (str_ext rfl))
      rw [if_neg (fun z=>z.elim h45' (by rw [hfig];decide))] at q1 q2
      refine iteF ?_
      rw [show (⟨#[c]⟩:Str)=mkS [c] from rfl]
      have rd:RdIn CR H r dx tx b p:=⟨hr1,hp,hz⟩
      dsimp only [tNext]
      refine rdcut (fun σ' H' => σ' = [some (V.ref r),some (V.int (31 - ((k'+1:Nat):Int))),some (V.str (mkS [c])),none]∧H'=H∧¬ (c=63∧b=true)) ?_ (fun key => ?_)
      · rintro σ' H' ⟨rfl,rfl,hno⟩
        rw [if_neg hno] at q1 q2
        refine ⟨_,rfl,r,dx,_,rfl,hr1,rfl,r,dx,tx,b,p,rfl,rd,fun x l' e => ?_,fun e H' kb => ?_⟩
        · rw [hl] at e
          rw [e] at q1 q2
          dsimp only at q1 q2
          obtain ⟨_,hx2,hx3,hx4,hx5⟩:=pw_is e
          rw [← hl] at hx2 hx3
          rw [ahd_len] at hx3
          rw [ahd_drop] at hx2
          dsimp only [gName]
          have rd3:RdIn CR (upd H' r (rdr CR dx tx b (p+x.length))) r dx tx b (p+x.length):=⟨upd_same,by omega,hz⟩
          have kb3:KeepBut r H' (upd H' r (rdr CR dx tx b (p+x.length))):=KeepBut.put
          generalize upd H' r (rdr CR dx tx b (p+x.length))=H3 at rd3 kb3 ⊢
          refine ⟨_,rfl,r,dx,_,rfl,rd3.1,rfl,r,dx,tx,b,p+x.length,rfl,rd3,rfl,_,rfl,iteDN (fun hne => ?_) (fun heq => ?_)⟩
          · have hq:=pk_name (arms:=pArms (pTree b k')) (x:=x) (l1:=l') (fun z=>hne (by rw [← hx2,z];exact congrArg V.str (str_ext rfl)))
            refine ⟨_,rfl,(show 2≤sizeLine by decide),fun a ha=>q1 (.name (mkS x)) l' hq _ _ (p+x.length) (kb3.trans (KeepBut.new ha)) ⟨?_,rd3.2⟩ hx2.symm ?_⟩
            · rw [upd_ne (ne_of_none rd3.1 ha)];exact rd3.1
            · rw [IsTr];exact ⟨a,rfl,upd_same⟩
          · have h40:(ahd tx (p+x.length)).take 1 = [40]:=congrArg (fun z:Str=>z.cps.toList) (V.str.inj heq)
            obtain ⟨l2,el2⟩:=take1 h40
            rw [← hx2] at el2
            subst el2
            rw [pk_of] at q1 q2
            have hl2:ahd tx (p+x.length+1)=l2:=by rw [← ahd_drop, ← hx2];rfl
            have hp4:p+x.length+1≤tx.length:=by
              have:=congrArg List.length hx2
              rw [ahd_len,List.length_cons] at this
              omega
            refine ⟨_,rfl,r,dx,_,rfl,rd3.1,rfl,r,dx,tx,b,p+x.length, "(",rfl,rd3,by decide,by decide +kernel,fun _ => ?_,fun hc=>absurd h40 hc⟩
            rw [show ("(" : Str).length=1 from rfl]
            have rd4:RdIn CR (upd H3 r (rdr CR dx tx b (p+x.length+1))) r dx tx b (p+x.length+1):=⟨upd_same,hp4,hz⟩
            have kb4:KeepBut r H' (upd H3 r (rdr CR dx tx b (p+x.length+1))):=kb3.trans KeepBut.put
            generalize upd H3 r (rdr CR dx tx b (p+x.length+1))=H4 at rd4 kb4 ⊢
            refine ⟨_,rfl,_,rfl,r,dx,_,rfl,rd4.1,rfl,_,rfl,_,_,rfl,rfl,r,dx,tx,b,p+x.length+1,congrArg (fun z:Int => [V.ref r,V.int z]) (show (31 - ((k'+1:Nat):Int)+1)=31 - (k':Int) by omega),rd4,fun ts l5 e5 a us H5 p5 kb5 rd5 el5 ha htr => ?_,fun e5 H5 kb5 => ?_⟩
            · rw [hl2] at e5
              rw [e5] at q1
              refine ⟨(show 3≤sizeLine by decide),fun a' ha'=>q1 (.of (mkS x) ts) l5 rfl _ _ p5 (kb4.trans (kb5.trans (KeepBut.new ha'))) ⟨?_,rd5.2⟩ el5 ?_⟩
              · rw [upd_ne (ne_of_none rd5.1 ha')];exact rd5.1
              · rw [IsTr]
                exact ⟨a',a,us,rfl,upd_same,same_new ha' _ _ _ ha,trs_same (same_new ha' _) htr⟩
            · rw [hl2] at e5
              rw [e5] at q2
              exact q2 rfl H5 (kb4.trans kb5)
        · rw [hl] at e
          rw [e] at q2
          exact q2 rfl H' kb
      · refine ⟨_,rfl,rfl,_,rfl,iteD (fun h63 => ?_) (fun h63 => ?_)⟩
        · have hc:c=63:=(List.cons.inj (congrArg (fun z:Str=>z.cps.toList) (V.str.inj h63))).1
          refine ⟨_,rfl,r,CR,dx,_,_,rfl,hr1,Z.cR,Z.nHoles,rfl,_,rfl,?_⟩
          cases b with
          | false=>exact iteF (key _ _ ⟨rfl,rfl,fun z=>by cases z.2⟩)
          | true =>
            rw [if_pos ⟨hc,rfl⟩] at q1 q2
            refine iteT ⟨_,rfl,r,dx,_,rfl,hr1,rfl,r,dx,tx,true,p, "?",rfl,rd,by decide,by decide +kernel,fun _ => ?_,fun h=>absurd (by rw [hl,hc];rfl) h⟩
            rw [show ("?" : Str).length=1 from rfl]
            have rd3:RdIn CR (upd H r (rdr CR dx tx true (p+1))) r dx tx true (p+1):=⟨upd_same,hp1,hz⟩
            have kb3:KeepBut r H (upd H r (rdr CR dx tx true (p+1))):=KeepBut.put
            generalize upd H r (rdr CR dx tx true (p+1))=H3 at rd3 kb3 ⊢
            refine ⟨_,rfl,r,dx,_,rfl,rd3.1,rfl,r,dx,tx,true,p+1,rfl,rd3,fun x l' e => ?_,fun e H' kb => ?_⟩
            · rw [hl1] at e
              rw [e] at q1
              obtain ⟨_,hx2,hx3,_,_⟩:=pw_is e
              rw [← hl1] at hx2 hx3
              rw [ahd_len] at hx3
              rw [ahd_drop] at hx2
              refine ⟨(show 2≤sizeLine by decide),fun a ha=>q1 (.any (mkS x)) l' rfl _ _ (p+1+x.length) (kb3.trans (KeepBut.put.trans (KeepBut.new ha))) ⟨?_,by omega,hz⟩ hx2.symm ?_⟩
              · rw [upd_ne (ne_of_none upd_same ha),upd_same]
              · rw [IsTr];exact ⟨a,rfl,upd_same⟩
            · rw [hl1] at e
              rw [e] at q2
              exact q2 rfl H' (kb3.trans kb)
        · refine iteF (key _ _ ⟨rfl,rfl,fun z=>h63 ?_⟩)
          rw [z.1]
          exact congrArg V.str (str_ext rfl)
end

end K71
namespace K71
open PySem L2 Sw
section
variable {P:Program} {w:World} {K:PySem.W.Frag} {mg:Str→Option Value} {base:Heap} {CR CNT:Addr}
theorem ok_tree (B:Blt mg) (Z:Top4 K mg CR CNT) (h_ahead:HasM P w K mg base 1 CR "ahead" ["self"] (spAhead CR)) (h_take:HasM P w K mg base 1 CR "take" ["self", "wanted"] (spTake CR CNT))
    (h_take_word:HasM P w K mg base 2 CR "take_word" ["self"] (spTWord CR CNT)) (h_take_number:HasM P w K mg base 2 CR "take_number" ["self"] (spNum CR CNT)) (DA:DefM K CR "take_arms" "Reader.take_arms" s_take_arms ["self", "deep"])
    (D:DefM K CR "take_tree" "Reader.take_tree" s_take_tree ["self", "deep"]):∀ k,HasM P w K mg base (2 * k+3) CR "take_tree" ["self", "deep"] (spTree CR CNT k)
  | 0=>by
    obtain ⟨f,fd,F,hm,hb⟩:=DA.ex
    have no:HasM P w K mg base 2 CR "take_arms" ["self", "deep"] (fun _ _ _ _=>False):=⟨f,fd,⟨fun _ _ _ _ h=>h.elim,fun _ _ _ _ _ _ _ _ _ _ _ _ _ h=>h.elim⟩,hm,hb⟩
    exact tree_step (k:=0) B Z (Nat.le_refl 2) (fun k' h=>by cases h) h_ahead h_take h_take_word h_take_number no D
  | k+1=>by
    have hA:=ok_arms B Z (n:=2 * k+3) (k:=k) (by omega) h_ahead h_take (ok_tree B Z h_ahead h_take h_take_word h_take_number DA D k) DA
    exact tree_step (k:=k+1) (n:=2 * k+3+1) B Z (by omega) (fun k' h=>by cases h;rfl) h_ahead h_take h_take_word h_take_number hA D
inductive SpWhole (CR CNT:Addr) (vs:List V) (H:Hp) (Q:VK) (E:XK):Prop
  | mk (r dx:Addr) (tx:Str) (b:Bool) (z0:vs = [.ref r]) (z1:RdIn CR H r dx tx b 0) (z2:(∀ t,pTree b 30 tx.cps.toList=some (t, [])→t.parts≤120→∀ v H',KeepBut r H H'→IsTr H' t v→Q v H')) (z3:((∀ t,pTree b 30 tx.cps.toList=some (t, [])→120 < t.parts)→∀ H',KeepBut r H H'→E (.ref CNT) none H')):SpWhole CR CNT vs H Q E
noncomputable def spWhole (CR CNT:Addr):Sp:=fun vs H Q E=>SpWhole CR CNT vs H Q E
theorem ok_whole (Z:Top4 K mg CR CNT) (hdeep:∀ b l t r,pTree b 30 l=some (t,r)→t.depth≤30) (h_ahead:HasM P w K mg base 1 CR "ahead" ["self"] (spAhead CR)) (h_take_tree:HasM P w K mg base 63 CR "take_tree" ["self", "deep"] (spTree CR CNT 30))
    (h_parts:Has P w K mg base 30 "parts" ["tree"] (spParts 30)) (D:Def K mg "read_whole" s_read_whole ["reader"]):HasE P w K mg base 64 "read_whole" ["reader"] (spWhole CR CNT):=by
  have oNoTree:=Z.oNoTree
  have cR:=Z.cR
  have g_MOST_PARTS:=Z.g_MOST_PARTS
  refine D.hasE sc_read_whole (fun vs H Q E h => ?_) (fun f cdv A outer s H vs Q E hr h => ?_)
  · obtain ⟨r,dx,tx,b,rfl,_⟩:=h;rfl
  obtain ⟨r,dx,tx,b,rfl,rd,q1,q2⟩:=h
  refine ⟨_,(pss_cons (ps_set (i:=1) sc_read_whole.nd rfl (Or.inl rfl) (pe_mE h_take_tree cR hr (by omega) (passE fun _ _ _ z=>z) (pv 0) (pa_cons pe_int pa_nil)))
    (pss_cons (ps_if (pt_cmpR op_ne (pe_mE0 h_ahead cR hr (by omega) (passE fun _ _ _ z=>z) (pv 0)) pe_str (nomark _)) (pss_one (ps_raise oNoTree rfl (fun _ _ _ _ _ _ _ I hx q=>flies I hx q) (pa_cons pe_str pa_nil) rfl)) pss_nil)
    (pss_cons (ps_if (pt_cmpR op_gt (pe_callH h_parts hr (by omega) rfl (pa_cons (pv 1) pa_nil)) (pe_globI g_MOST_PARTS rfl) (nomark _)) (pss_one (ps_raise oNoTree rfl (fun _ _ _ _ _ _ _ I hx q=>flies I hx q) (pa_cons (pe_joined (pj_cons pe_str (pj_cons (pe_fmtI (pe_globI g_MOST_PARTS rfl)) (pj_cons pe_str pj_nil)))) pa_nil) rfl)) pss_nil)
    (pss_one (ps_ret (pv 1)))))),?_⟩
  try dsimp only [cxOf]
  have h0:ahd tx 0=tx.cps.toList:=rfl
  refine ⟨_,rfl,r,dx,_,rfl,rd.1,rfl,r,dx,tx,b,0,rfl,rd,fun t l1 e1 v H1 p1 kb1 rd1 el1 tr1 => ?_,fun e1 H' kb=>q2 (fun t e=>by rw [h0,e] at e1;cases e1) H' kb⟩
  rw [h0] at e1
  refine ⟨_,rfl,r,dx,_,rfl,rd1.1,rfl,r,dx,tx,b,p1,rfl,rd1,rfl,_,rfl,iteDN (fun hne => ?_) (fun heq => ?_)⟩
  · refine ⟨(show 1≤sizeLine by decide),q2 (fun t' e => ?_) H1 kb1⟩
    rw [e1] at e
    cases e
    exact absurd (by rw [el1];exact congrArg V.str (str_ext rfl)) hne
  · have hl:l1 = []:=by
      have:=mkS_empty heq
      rw [el1] at this
      cases l1 with
      | nil=>rfl
      | cons c r=>simp at this
    subst hl
    refine ⟨_,rfl,v,t,rfl,tr1,hdeep _ _ _ _ e1,_,_,rfl,rfl,_,rfl,iteD (fun h4 => ?_) (fun h4 => ?_)⟩
    · exact ⟨by decide,_,rfl,by decide,_,rfl,by decide,_,rfl,by decide,_,rfl,by decide,fun z=>⟨(show 1≤sizeLine by decide),q2 (fun t' e=>by rw [e1] at e;cases e;omega) H1 kb1⟩⟩
    · exact ⟨_,rfl,q1 t e1 (by omega) v H1 kb1 tr1⟩
inductive SpRead (CNT:Addr) (b:Bool) (vs:List V) (H:Hp) (Q:VK) (E:XK):Prop
  | mk (tx:Str) (z0:vs = [.str tx]) (z1:tx.length≤100000) (z2:(∀ t,pTree b 30 tx.cps.toList=some (t, [])→t.parts≤120→∀ v H',Same H H'→IsTr H' t v→Q v H')) (z3:((∀ t,pTree b 30 tx.cps.toList=some (t, [])→120 < t.parts)→∀ H',Same H H'→E (.ref CNT) none H')):SpRead CNT b vs H Q E
noncomputable def spRead (CNT:Addr) (b:Bool):Sp:=fun vs H Q E=>SpRead CNT b vs H Q E
theorem same_of_new {H H':Hp} {x dx:Addr} {o1 o2:HO} (hx:H x=none) (hd:H dx=none) (k:KeepBut x (upd (upd H dx o1) x o2) H'):Same H H':=fun a o e=>by
  have n1:a≠x:=fun z=>by rw [z,hx] at e;cases e
  have n2:a≠dx:=fun z=>by rw [z,hd] at e;cases e
  exact k a o n1 (by rw [upd_ne n1,upd_ne n2];exact e)
theorem ok_read (Z:Top4 K mg CR CNT) (h_init_Reader:HasC P w K mg base 1 "Reader" CR ["self", "text", "with_holes"] (spInit CR)) (h_read_whole:HasE P w K mg base 64 "read_whole" ["reader"] (spWhole CR CNT)) (D:Def K mg "read" s_read ["text"]) :
    HasE P w K mg base 65 "read" ["text"] (spRead CNT false):=by
  refine D.hasE sc_read (fun vs H Q E h => ?_) (fun f cdv A outer s H vs Q E hr h => ?_)
  · obtain ⟨tx,rfl,_⟩:=h;rfl
  obtain ⟨tx,rfl,hz,q1,q2⟩:=h
  refine ⟨_,(pss_one (ps_ret (pe_callE h_read_whole hr (by omega) (passE fun _ _ _ z=>z) rfl (pa_cons (pe_makeE h_init_Reader hr (by omega) (passE fun _ _ _ z=>z) rfl (pa_cons (pv 0) (pa_cons pe_bl pa_nil))) pa_nil)))),?_⟩
  try dsimp only [cxOf]
  refine ⟨_,rfl,fun x dx hx hdx hne=>⟨x,dx,tx,false,rfl,upd_same,rfl,?_⟩⟩
  rw [upd_upd]
  exact ⟨x,dx,tx,false,rfl,⟨upd_same,Nat.zero_le _,hz⟩,fun t e hp v H' kb tr=>q1 t e hp v H' (same_of_new hx hdx kb) tr,fun h H' kb=>q2 h H' (same_of_new hx hdx kb)⟩
theorem ok_read_pattern (Z:Top4 K mg CR CNT) (h_init_Reader:HasC P w K mg base 1 "Reader" CR ["self", "text", "with_holes"] (spInit CR)) (h_read_whole:HasE P w K mg base 64 "read_whole" ["reader"] (spWhole CR CNT)) (D:Def K mg "read_pattern" s_read_pattern ["text"]) :
    HasE P w K mg base 65 "read_pattern" ["text"] (spRead CNT true):=by
  refine D.hasE sc_read_pattern (fun vs H Q E h => ?_) (fun f cdv A outer s H vs Q E hr h => ?_)
  · obtain ⟨tx,rfl,_⟩:=h;rfl
  obtain ⟨tx,rfl,hz,q1,q2⟩:=h
  refine ⟨_,(pss_one (ps_ret (pe_callE h_read_whole hr (by omega) (passE fun _ _ _ z=>z) rfl (pa_cons (pe_makeE h_init_Reader hr (by omega) (passE fun _ _ _ z=>z) rfl (pa_cons (pv 0) (pa_cons pe_bl pa_nil))) pa_nil)))),?_⟩
  try dsimp only [cxOf]
  refine ⟨_,rfl,fun x dx hx hdx hne=>⟨x,dx,tx,true,rfl,upd_same,rfl,?_⟩⟩
  rw [upd_upd]
  exact ⟨x,dx,tx,true,rfl,⟨upd_same,Nat.zero_le _,hz⟩,fun t e hp v H' kb tr=>q1 t e hp v H' (same_of_new hx hdx kb) tr,fun h H' kb=>q2 h H' (same_of_new hx hdx kb)⟩
end

end K71
namespace K71
open PySem L2 Sw
section
variable {P:Program} {w:World} {K:PySem.W.Frag} {mg:Str→Option Value} {base:Heap} {CU CNR:Addr}
structure TopU (K:PySem.W.Frag) (mg:Str→Option Value) (CU CNR:Addr):Prop where
  cU:Cls K CU
  nTitle:NoAttr K CU "title"
  nWeight:NoAttr K CU "weight"
  nLeft:NoAttr K CU "left"
  nRight:NoAttr K CU "right"
  nAsks:NoAttr K CU "asks"
  g_LETTERS:∃ t,mg "LETTERS" = some (.str "abcdefghijklmnopqrstuvwxyz" t)
  g_MOST_WEIGHT:∃ t,mg "MOST_WEIGHT" = some (.int 1000000000000 t)
  g_MOST_RULE_PARTS:∃ t,mg "MOST_RULE_PARTS" = some (.int 12 t)
  g_MOST_LEFT_KNOTS:∃ t,mg "MOST_LEFT_KNOTS" = some (.int 3 t)
  g_MOST_ASKS:∃ t,mg "MOST_ASKS" = some (.int 4 t)
  g_MOST_MASK:∃ t,mg "MOST_MASK" = some (.int 7 t)
  g_MOST_LETTERS:∃ t,mg "MOST_LETTERS" = some (.int 8 t)
  oNoRule:Exc K mg "NoRule" CNR
theorem abc_no:∀ c,c < 128→¬ (97≤c∧c≤122)→Builtin.Str.occurrences ("abcdefghijklmnopqrstuvwxyz" : Str) ⟨#[c]⟩ 0 ("abcdefghijklmnopqrstuvwxyz" : Str).length 1 = []:=by decide +kernel
inductive SpIsWord (vs:List V) (H:Hp) (Q:VK):Prop
  | mk (z:Str) (z0:vs = [.str z]) (z1:(∀ c∈z.cps.toList,c < 128)) (z2:z.length≤1000) (z3:∀ b:Bool,(b=true↔IsW z)→Q (.bl b) H):SpIsWord  vs H Q
noncomputable def spIsWord:Sp:=fun vs H Q _=>SpIsWord  vs H Q
inductive IwI (H:Hp) (z:Str) (i:Nat) (σ : St) (H':Hp):Prop
  | mk (o:Option V) (e : σ = [some (.str z),o]) (eh:H'=H) (al:∀ j c,j < i→z.cps.toList[j]? = some c→97≤c∧c≤122)
theorem ok_is_word (B:Blt mg) (Z:TopU K mg CU CNR) (D:Def K mg "is_word" s_is_word ["text"]):Has P w K mg base 1 "is_word" ["text"] spIsWord:=by
  have g_LETTERS:=Z.g_LETTERS
  have g_MOST_LETTERS:=Z.g_MOST_LETTERS
  refine D.has sc_is_word (fun vs H Q E h => ?_) (fun f cdv A outer s H vs Q E hr h => ?_)
  · obtain ⟨z,rfl,_⟩:=h;rfl
  obtain ⟨z,rfl,h128,hlen,q⟩:=h
  refine ⟨_,(pss_cons (ps_if (PW.pt (pw_or (pt_cmpR op_eq (pv 0) pe_str (nomark _)) (pw_or1 (pt_cmpR op_gt (pe_callB call_len_str rfl B.len_ PySem.boot_len (pa_cons (pv 0) pa_nil)) (pe_globI g_MOST_LETTERS rfl) (nomark _))))) (pss_one (ps_ret pe_bl)) pss_nil)
    (pss_cons (ps_for PassesOwn.never rfl (pi_str (pv 0)) (pg_name (i:=1) sc_is_word.nd rfl (Or.inl rfl))
    (pss_one (ps_if (pt_cmpR op_notIn_str (pv 1) (pe_globS g_LETTERS rfl) (by with_unfolding_all rfl)) (pss_one (ps_ret pe_bl)) pss_nil)))
    (pss_one (ps_ret pe_bl)))),?_⟩
  try dsimp only [cxOf]
  have h128':z.cps.all (· < 128)=true:=by
    rw [← Array.all_toList]
    exact List.all_eq_true.mpr fun c hc'=>decide_eq_true (h128 c hc')
  refine rd_if2 (fun b Hc=>Hc=H∧(b=true→¬ IsW z)∧(b=false→1≤z.length∧z.length≤8)) (fun Qc qc=>⟨_,rfl,rfl,_,rfl,iteD (fun e=>qc _ _ ⟨rfl,fun _ w => ?_,fun x=>nomatch x⟩) (fun e=>⟨_,rfl,z,rfl,Nat.le_trans hlen (by decide),_,_,rfl,rfl,_,rfl,qc _ _ ⟨rfl,fun x w => ?_,fun x => ?_⟩⟩)⟩) ?_ ?_
  · have:=V.str.inj e
    rw [this] at w
    exact absurd w.1 (by decide)
  · have:=of_decide_eq_true x
    have:=w.2.1
    omega
  · have:=of_decide_eq_false x
    refine ⟨Nat.pos_of_ne_zero fun h0=>e ?_,by omega⟩
    have:z = "" := str_ext (by
      have:z.cps.toList = []:=List.length_eq_zero_iff.mp (by rw [← len_cps];exact h0)
      rw [this];rfl)
    rw [this]
  · rintro Hc ⟨rfl,hn,_⟩
    exact q false ⟨fun x=>(nomatch x),fun w=>absurd w (hn rfl)⟩
  rintro H ⟨rfl,_,hl⟩
  obtain ⟨l1,l8⟩:=hl rfl
  dsimp only [tNext]
  refine ⟨_,rfl,z,rfl,h128',?_⟩
  refine for_str (IwI H z) (IwI.mk none rfl rfl fun j c hj=>absurd hj (Nat.not_lt_zero _)) ?_ ?_
  · rintro i c σ H' hc' ⟨o,rfl,rfl,al⟩
    dsimp only [gName]
    have hm:=List.mem_of_getElem? hc'
    by_cases hcc:97≤c∧c≤122
    · have e:=abc_occ (c - 97) (by omega)
      rw [show 97+(c - 97)=c by omega] at e
      refine ⟨_,rfl,_,_,rfl,rfl,_,rfl,?_⟩
      rw [e]
      refine iteF (IwI.mk _ rfl rfl fun j d hj hd => ?_)
      by_cases ej:j=i
      · rw [ej,hc'] at hd
        cases hd
        exact hcc
      · exact al j d (by omega) hd
    · refine ⟨_,rfl,_,_,rfl,rfl,_,rfl,?_⟩
      rw [abc_no c (h128 c hm) hcc]
      exact iteT (q false ⟨fun x=>(nomatch x),fun w=>absurd (w.2.2 c hm) hcc⟩)
  · rintro σ H' ⟨o,rfl,rfl,al⟩
    refine q true ⟨fun _=>⟨l1,l8,fun c hc => ?_⟩,fun _=>rfl⟩
    obtain ⟨j,hj⟩:=List.getElem?_of_mem hc
    have hjl:=(List.getElem?_eq_some_iff.mp hj).1
    exact al j c (by rw [len_cps];exact hjl) hj
theorem in_strs {z:Str} {hs:List Str}:inV (.str z) (hs.map V.str)=decide (z∈hs):=by
  unfold inV
  induction hs with
  | nil=>rfl
  | cons x l ih =>
    rw [List.map_cons,List.any_cons,ih]
    have e:eqV (.str x) (.str z)=decide (x=z):=by
      show (x == z)=_
      rw [Bool.eq_iff_iff,beq_iff_eq,decide_eq_true_iff]
    rw [e,Bool.eq_iff_iff,Bool.or_eq_true,decide_eq_true_iff,decide_eq_true_iff,decide_eq_true_iff,List.mem_cons]
    exact ⟨fun h=>h.elim (fun h => .inl h.symm) .inr,fun h=>h.elim (fun h => .inl h.symm) .inr⟩
theorem flat_strs (hs:List Str):(hs.map V.str).all flatV=true:=by
  rw [List.all_eq_true]
  intro y hy
  obtain ⟨z,_,rfl⟩:=List.mem_map.mp hy
  rfl
noncomputable def isOf:T→Bool
  | .of _ _=>true
  | _=>false
noncomputable def PatOk (l r:T):Prop:=isOf l=true∧l.parts≤12∧r.parts≤12∧knF l≤3∧∀ h∈raw r,h∈raw l
theorem mem_note {t:T} {h:Str}:h∈note t []↔h∈raw t:=by unfold note;rw [mem_adds];simp
inductive SpRefP (CNR:Addr) (vs:List V) (H:Hp) (Q:VK) (E:XK):Prop
  | mk (v u:V) (l r:T) (ev:vs = [v,u]) (hv:IsTr H l v) (hu:IsTr H r u) (dl:l.depth≤14) (dr:r.depth≤14) (pl:l.parts≤100) (pr:r.parts≤100) (q1:PatOk l r→∀ H',Same H H'→Q .non H') (q2:¬ PatOk l r→∀ H',Same H H'→E (.ref CNR) none H'):SpRefP CNR vs H Q E
noncomputable def spRefP (CNR:Addr):Sp:=fun vs H Q E=>SpRefP CNR vs H Q E
inductive RpI (H:Hp) (a:V) (u:V) (l:Addr) (lt:T) (hs:List Str) (i:Nat) (σ : St) (H':Hp):Prop
  | mk (o:Option V) (e : σ = [some a,some u,some (.ref l),o]) (eh:H'=H) (al:∀ j h,j < i→hs[j]? = some h→h∈raw lt)
theorem ok_refuse_patterns (B:Blt mg) (Z:TopU K mg CU CNR) (h_parts:Has P w K mg base 14 "parts" ["tree"] (spParts 14)) (h_knots:Has P w K mg base 14 "knots" ["pattern"] (spKnotsT 14)) (h_holes:Has P w K mg base 15 "holes" ["pattern"] (spHoles 15))
    (D:Def K mg "refuse_patterns" s_refuse_patterns ["left", "right"]):HasE P w K mg base 16 "refuse_patterns" ["left", "right"] (spRefP CNR):=by
  have oNoRule:=Z.oNoRule
  have g_MOST_RULE_PARTS:=Z.g_MOST_RULE_PARTS
  have g_MOST_LEFT_KNOTS:=Z.g_MOST_LEFT_KNOTS
  refine D.hasE sc_refuse_patterns (fun vs H Q E h => ?_) (fun f cdv A outer s H vs Q E hr h => ?_)
  · obtain ⟨v,u,l,r,rfl,_⟩:=h;rfl
  obtain ⟨v,u,l,r,rfl,hv,hu,dl,dr,pl,pr,q1,q2⟩:=h
  refine ⟨_,(pss_cons (ps_if (pt_cmpR op_ne (pe_ix ix_tup (pv 0) pe_int (fun _ _=>rfl)) pe_str (nomark _)) (pss_one (ps_raise oNoRule rfl (fun _ _ _ _ _ _ _ I hx q=>flies I hx q) (pa_cons pe_str pa_nil) rfl)) pss_nil)
    (pss_cons (ps_if (PW.pt (pw_or (pt_cmpR op_gt (pe_callH h_parts hr (by omega) rfl (pa_cons (pv 0) pa_nil)) (pe_globI g_MOST_RULE_PARTS rfl) (nomark _)) (pw_or1 (pt_cmpR op_gt (pe_callH h_parts hr (by omega) rfl (pa_cons (pv 1) pa_nil)) (pe_globI g_MOST_RULE_PARTS rfl) (nomark _))))) (pss_one (ps_raise oNoRule rfl (fun _ _ _ _ _ _ _ I hx q=>flies I hx q) (pa_cons (pe_joined (pj_cons pe_str (pj_cons (pe_fmtI (pe_globI g_MOST_RULE_PARTS rfl)) (pj_cons pe_str pj_nil)))) pa_nil) rfl)) pss_nil)
    (pss_cons (ps_if (pt_cmpR op_gt (pe_callH h_knots hr (by omega) rfl (pa_cons (pv 0) pa_nil)) (pe_globI g_MOST_LEFT_KNOTS rfl) (nomark _)) (pss_one (ps_raise oNoRule rfl (fun _ _ _ _ _ _ _ I hx q=>flies I hx q) (pa_cons (pe_joined (pj_cons pe_str (pj_cons (pe_fmtI (pe_globI g_MOST_LEFT_KNOTS rfl)) (pj_cons pe_str pj_nil)))) pa_nil) rfl)) pss_nil)
    (pss_cons (ps_set (i:=2) sc_refuse_patterns.nd rfl (Or.inl rfl) (pe_callH h_holes hr (by omega) rfl (pa_cons (pv 0) pa_nil)))
    (pss_one (ps_for PassesOwn.leaving rfl (pi_list (pe_callH h_holes hr (by omega) rfl (pa_cons (pv 1) pa_nil))) (pg_name (i:=3) sc_refuse_patterns.nd rfl (Or.inl rfl))
    (pss_one (ps_if (pt_cmpR op_notIn_seq (pv 3) (pv 2) (by with_unfolding_all rfl)) (pss_one (ps_raise oNoRule rfl (fun _ _ _ _ _ _ _ I hx q=>flies I hx q) (pa_cons pe_str pa_nil) rfl)) pss_nil)))))))),?_⟩
  try dsimp only [cxOf]
  refine rd_if2 (fun b Hc=>Hc=H∧(b=true↔¬ isOf l=true)) (fun Qc qc => ?_) ?_ ?_
  · cases l with
    | num n =>
      rw [IsTr] at hv
      obtain ⟨a,rfl,h⟩:=hv
      exact ⟨_,rfl,a,_,0,_,rfl,rfl,SqT.of h,atI_nat (j:=0) rfl,rfl,_,rfl,qc _ _ ⟨rfl,⟨fun _ x=>(nomatch x),fun _=>rfl⟩⟩⟩
    | name n =>
      rw [IsTr] at hv
      obtain ⟨a,rfl,h⟩:=hv
      exact ⟨_,rfl,a,_,0,_,rfl,rfl,SqT.of h,atI_nat (j:=0) rfl,rfl,_,rfl,qc _ _ ⟨rfl,⟨fun _ x=>(nomatch x),fun _=>rfl⟩⟩⟩
    | any n =>
      rw [IsTr] at hv
      obtain ⟨a,rfl,h⟩:=hv
      exact ⟨_,rfl,a,_,0,_,rfl,rfl,SqT.of h,atI_nat (j:=0) rfl,rfl,_,rfl,qc _ _ ⟨rfl,⟨fun _ x=>(nomatch x),fun _=>rfl⟩⟩⟩
    | of x ts =>
      rw [IsTr] at hv
      obtain ⟨a,b,vs,rfl,h,_⟩:=hv
      exact ⟨_,rfl,a,_,0,_,rfl,rfl,SqT.of h,atI_nat (j:=0) rfl,rfl,_,rfl,qc _ _ ⟨rfl,⟨fun x=>(nomatch x),fun x=>absurd rfl x⟩⟩⟩
  · rintro Hc ⟨rfl,hn⟩
    exact ⟨(show 1≤sizeLine by decide),q2 (fun p=>hn.mp rfl p.1) _ (Same.refl _)⟩
  rintro H ⟨rfl,hof⟩
  have hof:isOf l=true:=by
    cases e:isOf l with
    | true=>rfl
    | false=>rw [e] at hof;exact absurd (hof.mpr (by decide)) (by decide)
  dsimp only [tNext]
  refine rd_if2 (fun b Hc=>Hc=H∧(b=true↔¬ (l.parts≤12∧r.parts≤12))) (fun Qc qc=>⟨_,rfl,v,l,rfl,hv,dl,_,_,rfl,rfl,_,rfl,iteD (fun e=>qc _ _ ⟨rfl,⟨fun _ x=>by omega,fun _=>rfl⟩⟩) (fun e=>⟨_,rfl,u,r,rfl,hu,dr,_,_,rfl,rfl,_,rfl,qc _ _ ⟨rfl,?_⟩⟩)⟩) ?_ ?_
  · rw [decide_eq_true_iff]
    exact ⟨fun x y=>by omega,fun x=>by omega⟩
  · rintro Hc ⟨rfl,hn⟩
    exact ⟨by decide,_,rfl,by decide,_,rfl,by decide,_,rfl,by decide,_,rfl,by decide,fun zz=>⟨(show 1≤sizeLine by decide),q2 (fun p=>hn.mp rfl ⟨p.2.1,p.2.2.1⟩) _ (Same.refl _)⟩⟩
  rintro H ⟨rfl,hpt⟩
  have hpt:l.parts≤12∧r.parts≤12:=Classical.byContradiction fun c=>nomatch hpt.mpr c
  dsimp only [tNext]
  refine ⟨_,rfl,v,l,rfl,hv,dl,_,_,rfl,rfl,_,rfl,iteD (fun e => ?_) (fun e => ?_)⟩
  · exact ⟨by decide,_,rfl,by decide,_,rfl,by decide,_,rfl,by decide,_,rfl,by decide,fun zz=>⟨(show 1≤sizeLine by decide),q2 (fun p=>by have:=p.2.2.2.1;omega) _ (Same.refl _)⟩⟩
  dsimp only [tNext]
  refine ⟨_,rfl,v,l,rfl,hv,(by omega),(by omega),fun lh H1 s1 hlh => ?_⟩
  dsimp only [gName]
  refine ⟨_,rfl,u,r,rfl,tr_same s1 hu,(by omega),(by omega),fun rh H2 s2 hrh=>⟨rh,rfl,⟨_,SqL.of hrh⟩,?_⟩⟩
  have hlh2:=s2 _ _ hlh
  have g2:=s1.trans s2
  refine for_list (xs:=(note r []).map V.str) (RpI H2 v u lh l (note r [])) (RpI.mk none rfl rfl fun j h hj=>absurd hj (Nat.not_lt_zero _)) ?_ ?_ ?_
  · rintro i σ H' _ ⟨o,rfl,rfl,_⟩
    exact SqL.of hrh
  · rintro i y σ H' hy ⟨o,rfl,rfl,al⟩
    rw [List.getElem?_map] at hy
    obtain ⟨h,hh,rfl⟩:=Option.map_eq_some_iff.mp hy
    dsimp only [gName]
    refine ⟨_,rfl,_,rfl,lh,_,rfl,.inl (SqL.of hlh2),rfl,flat_strs _,_,rfl,?_⟩
    rw [if_pos rfl,in_strs]
    by_cases hm:h∈note l []
    · rw [decide_eq_true hm]
      refine iteF (RpI.mk _ rfl rfl fun j d hj hd => ?_)
      by_cases ej:j=i
      · rw [ej,hh] at hd
        cases hd
        exact mem_note.mp hm
      · exact al j d (by omega) hd
    · rw [decide_eq_false hm]
      exact iteT ⟨(show 1≤sizeLine by decide),q2 (fun p=>hm (mem_note.mpr (p.2.2.2.2 h (mem_note.mp (List.mem_of_getElem? hh))))) _ g2⟩
  · rintro σ H' ⟨o,rfl,rfl,al⟩
    refine q1 ⟨hof,hpt.1,hpt.2,by omega,fun h hh => ?_⟩ _ g2
    obtain ⟨j,hj⟩:=List.getElem?_of_mem (mem_note.mpr hh)
    have hjl:=(List.getElem?_eq_some_iff.mp hj).1
    exact al j h (by rw [List.length_map];exact hjl) hj
end

end K71
namespace K71
open PySem L2 Sw
section
variable {P:Program} {w:World} {K:PySem.W.Frag} {mg:Str→Option Value} {base:Heap} {CU CNR:Addr}
inductive Ask where
  | free (h z:Str)
  | sign (h:Str) (m:Int)
  | num (h:Str)
noncomputable def Ask.hole:Ask→Str
  | .free h _=>h
  | .sign h _=>h
  | .num h=>h
noncomputable def AskAt (H:Hp) (v:V):Ask→Prop
  | .free h z=>∃ a,v = .ref a∧H a=some (.tup [.str "free",.str h,.str z])
  | .sign h m=>∃ a,v = .ref a∧H a=some (.tup [.str "sign",.str h,.int m])
  | .num h=>∃ a,v = .ref a∧H a=some (.tup [.str "number",.str h])
theorem AskAt.keep {H H':Hp} {v:V} {a:Ask} (k:∀ b ys,H b=some (.tup ys)→H' b=some (.tup ys)) (h:AskAt H v a):AskAt H' v a:=by
  cases a with
  | free x z=>obtain ⟨b,e,h⟩:=h;exact ⟨b,e,k _ _ h⟩
  | sign x m=>obtain ⟨b,e,h⟩:=h;exact ⟨b,e,k _ _ h⟩
  | num x=>obtain ⟨b,e,h⟩:=h;exact ⟨b,e,k _ _ h⟩
noncomputable def Asc (z:Str):Prop:=(∀ c∈z.cps.toList,c < 128)∧z.length≤1000
theorem isW_asc {z:Str} (h:IsW z):Asc z:=⟨fun c hc=>by have:=h.2.2 c hc;omega,by have:=h.2.1;omega⟩
noncomputable def AskA:Ask→Prop
  | .free _ z=>Asc z
  | _=>True
noncomputable def AskOk (bs:List Str):Ask→Prop
  | .free h z=>h∈bs∧IsW z
  | .sign h m=>h∈bs∧1≤m∧m≤7
  | .num h=>h∈bs
noncomputable def AsksOk (bs:List Str) (as:List Ask):Prop:=as.length≤4∧∀ a∈as,AskOk bs a
theorem paired_at {α β : Type} {R : α → β → Prop}:∀ {xs:List α} {ys:List β} {i:Nat} {x : α},Paired R xs ys→xs[i]? = some x→∃ y,ys[i]? = some y∧R x y
  | _,_,_,_,.nil,h=>by simp at h
  | _,_,0,_,.cons r _,h=>⟨_,rfl,by simp at h;rw [← h];exact r⟩
  | _,_,i+1,_,.cons _ t,h=>by
    obtain ⟨y,hy,r⟩:=paired_at (i:=i) t (by simpa using h)
    exact ⟨y,by simpa using hy,r⟩
inductive SpRefA (CNR:Addr) (vs:List V) (H:Hp) (Q:VK) (E:XK):Prop
  | mk (A L:Addr) (avs:List V) (as:List Ask) (bs:List Str) (ev:vs = [.ref A,.ref L]) (hA:H A=some (.lst avs)) (hp:Paired (AskAt H) avs as) (ha:∀ a∈as,AskA a) (hL:H L=some (.lst (bs.map V.str))) (few:as.length≤100) (q1:AsksOk bs as→Q .non H) (q2:¬ AsksOk bs as→E (.ref CNR) none H):SpRefA CNR vs H Q E
noncomputable def spRefA (CNR:Addr):Sp:=fun vs H Q E=>SpRefA CNR vs H Q E
inductive RaI (H:Hp) (A L:Addr) (as:List Ask) (bs:List Str) (i:Nat) (σ : St) (H':Hp):Prop
  | mk (o:Option V) (e : σ = [some (.ref A),some (.ref L),o]) (eh:H'=H) (al:∀ j a,j < i→as[j]? = some a→AskOk bs a)
theorem ok_refuse_asks (B:Blt mg) (Z:TopU K mg CU CNR) (h_is_word:Has P w K mg base 1 "is_word" ["text"] spIsWord) (D:Def K mg "refuse_asks" s_refuse_asks ["asks", "bound"]):HasE P w K mg base 2 "refuse_asks" ["asks", "bound"] (spRefA CNR):=by
  have oNoRule:=Z.oNoRule
  have g_MOST_ASKS:=Z.g_MOST_ASKS
  have g_MOST_MASK:=Z.g_MOST_MASK
  refine D.hasE sc_refuse_asks (fun vs H Q E h => ?_) (fun f cdv A outer s H vs Q E hr h => ?_)
  · obtain ⟨A,L,avs,as,bs,rfl,_⟩:=h;rfl
  obtain ⟨A,L,avs,as,bs,rfl,hA,hp,hasc,hL,few,q1,q2⟩:=h
  refine ⟨_,(pss_cons (ps_if (pt_cmpR op_gt (pe_callB call_len_seq rfl B.len_ PySem.boot_len (pa_cons (pv 0) pa_nil)) (pe_globI g_MOST_ASKS rfl) (nomark _)) (pss_one (ps_raise oNoRule rfl (fun _ _ _ _ _ _ _ I hx q=>flies I hx q) (pa_cons (pe_joined (pj_cons pe_str (pj_cons (pe_fmtI (pe_globI g_MOST_ASKS rfl)) (pj_cons pe_str pj_nil)))) pa_nil) rfl)) pss_nil)
    (pss_one (ps_for PassesOwn.leaving rfl (pi_list (pv 0)) (pg_name (i:=2) sc_refuse_asks.nd rfl (Or.inl rfl))
    (pss_cons (ps_if (pt_cmpR op_notIn_seq (pe_ix ix_tup (pv 2) pe_int (fun _ _=>rfl)) (pv 1) (by with_unfolding_all rfl)) (pss_one (ps_raise oNoRule rfl (fun _ _ _ _ _ _ _ I hx q=>flies I hx q) (pa_cons pe_str pa_nil) rfl)) pss_nil)
    (pss_cons (ps_if (PW.pt (pw_and (pt_cmpR op_eq (pe_ix ix_tup (pv 2) pe_int (fun _ _=>rfl)) pe_str (nomark _)) (pw_and1 (pt_not (pt_val (pe_callH h_is_word hr (by omega) rfl (pa_cons (pe_ix ix_tup (pv 2) pe_int (fun _ _=>rfl)) pa_nil))))))) (pss_one (ps_raise oNoRule rfl (fun _ _ _ _ _ _ _ I hx q=>flies I hx q) (pa_cons pe_str pa_nil) rfl)) pss_nil)
    (pss_one (ps_if (PW.pt (pw_and (pt_cmpR op_eq (pe_ix ix_tup (pv 2) pe_int (fun _ _=>rfl)) pe_str (nomark _)) (pw_and1 (PW.pt (pw_or (pt_cmpR op_lt (pe_ix ix_tup (pv 2) pe_int (fun _ _=>rfl)) pe_int (nomark _)) (pw_or1 (pt_cmpR op_gt (pe_ix ix_tup (pv 2) pe_int (fun _ _=>rfl)) (pe_globI g_MOST_MASK rfl) (nomark _)))))))) (pss_one (ps_raise oNoRule rfl (fun _ _ _ _ _ _ _ I hx q=>flies I hx q) (pa_cons (pe_joined (pj_cons pe_str (pj_cons (pe_fmtI (pe_globI g_MOST_MASK rfl)) pj_nil))) pa_nil) rfl)) pss_nil))))))),?_⟩
  try dsimp only [cxOf]
  have hpl:=Paired.length hp
  refine ⟨_,rfl,A,avs,rfl,.inl (SqL.of hA),_,_,rfl,rfl,_,rfl,iteD (fun e => ?_) (fun e => ?_)⟩
  · exact ⟨by decide,_,rfl,by decide,_,rfl,by decide,_,rfl,by decide,_,rfl,by decide,fun zz=>⟨(show 1≤sizeLine by decide),q2 fun p=>by have:=p.1;omega⟩⟩
  have h4:as.length≤4:=by omega
  dsimp only [tNext]
  refine ⟨_,rfl,A,rfl,⟨_,SqL.of hA⟩,?_⟩
  refine for_list (xs:=avs) (RaI H A L as bs) (RaI.mk none rfl rfl fun j a hj=>absurd hj (Nat.not_lt_zero _)) ?_ ?_ ?_
  · rintro i σ H' _ ⟨o,rfl,rfl,_⟩
    exact SqL.of hA
  · rintro i y σ H' hy ⟨o,rfl,rfl,al⟩
    obtain ⟨k,hk,ha⟩:=paired_at hp hy
    have hkm:=List.mem_of_getElem? hk
    have nxt:AskOk bs k→∀ j a,j < i+1→as[j]? = some a→AskOk bs a:=fun ok j a hj hja=>by
      by_cases ej:j=i
      · rw [ej,hk] at hja
        cases hja
        exact ok
      · exact al j a (by omega) hja
    have no:¬ AskOk bs k→E (.ref CNR) none H':=fun n=>q2 fun p=>n (p.2 k hkm)
    dsimp only [gName]
    cases k with
    | free x z =>
      obtain ⟨a,rfl,h⟩:=ha
      refine ⟨_,rfl,a,_,1,_,rfl,rfl,SqT.of h,atI_nat (j:=1) rfl,_,rfl,L,_,rfl,.inl (SqL.of hL),rfl,flat_strs bs,_,rfl,?_⟩
      rw [if_pos rfl,in_strs]
      by_cases hx:x∈bs
      · rw [decide_eq_true hx]
        refine iteF ?_
        dsimp only [tNext]
        obtain ⟨z1,z2⟩:=(show Asc z from hasc _ hkm)
        refine ⟨_,rfl,a,_,0,_,rfl,rfl,SqT.of h,atI_nat (j:=0) rfl,rfl,_,rfl,iteD (fun _ => ?_) (fun z=>absurd rfl z)⟩
        refine ⟨_,rfl,a,_,2,_,rfl,rfl,SqT.of h,atI_nat (j:=2) rfl,z,rfl,z1,z2,fun b hb=>⟨_,rfl,?_⟩⟩
        cases b with
        | false=>exact iteT ⟨(show 1≤sizeLine by decide),no fun p=>nomatch hb.mpr p.2⟩
        | true =>
          refine iteF ?_
          dsimp only [tNext]
          exact ⟨_,rfl,a,_,0,_,rfl,rfl,SqT.of h,atI_nat (j:=0) rfl,rfl,_,rfl,iteD (fun z=>absurd (V.str.inj z) (by decide)) (fun _=>iteF (RaI.mk _ rfl rfl (nxt ⟨hx,hb.mp rfl⟩)))⟩
      · rw [decide_eq_false hx]
        exact iteT ⟨(show 1≤sizeLine by decide),no fun p=>hx p.1⟩
    | sign x m =>
      obtain ⟨a,rfl,h⟩:=ha
      refine ⟨_,rfl,a,_,1,_,rfl,rfl,SqT.of h,atI_nat (j:=1) rfl,_,rfl,L,_,rfl,.inl (SqL.of hL),rfl,flat_strs bs,_,rfl,?_⟩
      rw [if_pos rfl,in_strs]
      by_cases hx:x∈bs
      · rw [decide_eq_true hx]
        refine iteF ?_
        dsimp only [tNext]
        refine ⟨_,rfl,a,_,0,_,rfl,rfl,SqT.of h,atI_nat (j:=0) rfl,rfl,_,rfl,iteD (fun z=>absurd (V.str.inj z) (by decide)) (fun _=>iteF ?_)⟩
        dsimp only [tNext]
        refine ⟨_,rfl,a,_,0,_,rfl,rfl,SqT.of h,atI_nat (j:=0) rfl,rfl,_,rfl,iteD (fun _ => ?_) (fun z=>absurd rfl z)⟩
        refine ⟨_,rfl,a,_,2,_,rfl,rfl,SqT.of h,atI_nat (j:=2) rfl,_,_,rfl,rfl,_,rfl,iteD (fun z=>iteT ?_) (fun z1 => ?_)⟩
        · exact ⟨by decide,_,rfl,by decide,_,rfl,by decide,_,rfl,by decide,fun zz=>⟨(show 1≤sizeLine by decide),no fun p=>by have:=p.2.1;omega⟩⟩
        refine ⟨_,rfl,a,_,2,_,rfl,rfl,SqT.of h,atI_nat (j:=2) rfl,_,_,rfl,rfl,_,rfl,iteD (fun z => ?_) (fun z2=>RaI.mk _ rfl rfl (nxt ⟨hx,by omega,by omega⟩))⟩
        exact ⟨by decide,_,rfl,by decide,_,rfl,by decide,_,rfl,by decide,fun zz=>⟨(show 1≤sizeLine by decide),no fun p=>by have:=p.2.2;omega⟩⟩
      · rw [decide_eq_false hx]
        exact iteT ⟨(show 1≤sizeLine by decide),no fun p=>hx p.1⟩
    | num x =>
      obtain ⟨a,rfl,h⟩:=ha
      refine ⟨_,rfl,a,_,1,_,rfl,rfl,SqT.of h,atI_nat (j:=1) rfl,_,rfl,L,_,rfl,.inl (SqL.of hL),rfl,flat_strs bs,_,rfl,?_⟩
      rw [if_pos rfl,in_strs]
      by_cases hx:x∈bs
      · rw [decide_eq_true hx]
        refine iteF ?_
        dsimp only [tNext]
        refine ⟨_,rfl,a,_,0,_,rfl,rfl,SqT.of h,atI_nat (j:=0) rfl,rfl,_,rfl,iteD (fun z=>absurd (V.str.inj z) (by decide)) (fun _=>iteF ?_)⟩
        dsimp only [tNext]
        exact ⟨_,rfl,a,_,0,_,rfl,rfl,SqT.of h,atI_nat (j:=0) rfl,rfl,_,rfl,iteD (fun z=>absurd (V.str.inj z) (by decide)) (fun _=>iteF (RaI.mk _ rfl rfl (nxt hx)))⟩
      · rw [decide_eq_false hx]
        exact iteT ⟨(show 1≤sizeLine by decide),no fun p=>hx p⟩
  · rintro σ H' ⟨o,rfl,rfl,al⟩
    refine q1 ⟨h4,fun a ha => ?_⟩
    obtain ⟨j,hj⟩:=List.getElem?_of_mem ha
    have hjl:=(List.getElem?_eq_some_iff.mp hj).1
    exact al j a (by omega) hj
noncomputable def RuleOk (z:Str) (wt:Int) (l r:T) (as:List Ask):Prop:=IsW z∧(1≤wt∧wt≤1000000000000)∧PatOk l r∧AsksOk (note l []) as
inductive SpRInit (CU CNR:Addr) (vs:List V) (H:Hp) (Q:VK) (E:XK):Prop
  | mk (o dx A:Addr) (z:Str) (wt:Int) (vl vr:V) (l r:T) (avs:List V) (as:List Ask) (ev:vs = [.ref o,.str z,.int wt,vl,vr,.ref A]) (ho:H o=some (.ins CU dx [])) (hz:Asc z) (hl:IsTr H l vl) (hr:IsTr H r vr) (dl:l.depth≤14) (dr:r.depth≤14) (pl:l.parts≤100) (pr:r.parts≤100)
    (hA:H A=some (.lst avs)) (hp:Paired (AskAt H) avs as) (ha:∀ a∈as,AskA a) (few:as.length≤100)
    (q1:RuleOk z wt l r as→∀ H' A2,(∀ b u,b≠o→H b=some u→H' b=some u)→H A2=none→H' A2=some (.lst avs)→H' o=some (.ins CU dx [("title",.str z),("weight",.int wt),("left",vl),("right",vr),("asks",.ref A2)])→Q .non H')
    (q2:¬ RuleOk z wt l r as→∀ H',Same H H'→E (.ref CNR) none H'):SpRInit CU CNR vs H Q E
noncomputable def spRInit (CU CNR:Addr):Sp:=fun vs H Q E=>SpRInit CU CNR vs H Q E
theorem ok_rinit (B:Blt mg) (Z:TopU K mg CU CNR) (h_is_word:Has P w K mg base 1 "is_word" ["text"] spIsWord) (h_refuse_patterns:HasE P w K mg base 16 "refuse_patterns" ["left", "right"] (spRefP CNR)) (h_refuse_asks:HasE P w K mg base 2 "refuse_asks" ["asks", "bound"] (spRefA CNR)) (h_holes:Has P w K mg base 15 "holes" ["pattern"] (spHoles 15))
    (D:DefC K mg "Rule" CU "Rule.__init__" s_rinit ["self", "title", "weight", "left", "right", "asks"]):HasC P w K mg base 17 "Rule" CU ["self", "title", "weight", "left", "right", "asks"] (spRInit CU CNR):=by
  have oNoRule:=Z.oNoRule
  have g_MOST_WEIGHT:=Z.g_MOST_WEIGHT
  refine D.has sc_rinit (fun vs H Q E h => ?_) (fun f cdv A outer s H vs Q E hr h => ?_)
  · obtain ⟨o,dx,A,z,wt,vl,vr,l,r,avs,as,rfl,_⟩:=h;rfl
  obtain ⟨o,dx,A,z,wt,vl,vr,l,r,avs,as,rfl,ho,hz,hl,hr',dl,dr,pl,pr,hA,hp,hasc,few,q,q2⟩:=h
  refine ⟨_,(pss_cons (ps_if (pt_not (pt_val (pe_callH h_is_word hr (by omega) rfl (pa_cons (pv 1) pa_nil)))) (pss_one (ps_raise oNoRule rfl (fun _ _ _ _ _ _ _ I hx q=>flies I hx q) (pa_cons pe_str pa_nil) rfl)) pss_nil)
    (pss_cons (ps_if (PW.pt (pw_or (pt_cmpR op_lt (pv 2) pe_int (nomark _)) (pw_or1 (pt_cmpR op_gt (pv 2) (pe_globI g_MOST_WEIGHT rfl) (nomark _))))) (pss_one (ps_raise oNoRule rfl (fun _ _ _ _ _ _ _ I hx q=>flies I hx q) (pa_cons (pe_joined (pj_cons pe_str (pj_cons (pe_fmtI (pe_globI g_MOST_WEIGHT rfl)) pj_nil))) pa_nil) rfl)) pss_nil)
    (pss_cons (ps_expr (pe_callE h_refuse_patterns hr (by omega) (passE fun _ _ _ z=>z) rfl (pa_cons (pv 3) (pa_cons (pv 4) pa_nil))))
    (pss_cons (ps_expr (pe_callE h_refuse_asks hr (by omega) (passE fun _ _ _ z=>z) rfl (pa_cons (pv 5) (pa_cons (pe_callH h_holes hr (by omega) rfl (pa_cons (pv 3) pa_nil)) pa_nil))))
    (pss_cons (ps_fld (pv 0) (pv 1) rfl)
    (pss_cons (ps_fld (pv 0) (pv 2) rfl)
    (pss_cons (ps_fld (pv 0) (pv 3) rfl)
    (pss_cons (ps_fld (pv 0) (pv 4) rfl)
    (pss_one (ps_fld (pv 0) (pe_callTy call_list_of rfl B.list_ boot_list_ (pa_cons (pv 5) pa_nil)) rfl)))))))))),?_⟩
  try dsimp only [cxOf]
  refine ⟨_,rfl,z,rfl,hz.1,hz.2,fun b hb=>⟨_,rfl,?_⟩⟩
  cases b with
  | false=>exact iteT ⟨(show 1≤sizeLine by decide),q2 (fun p=>nomatch hb.mpr p.1) _ (Same.refl _)⟩
  | true =>
  have hw:IsW z:=hb.mp rfl
  refine iteF ?_
  dsimp only [tNext]
  refine ⟨_,rfl,_,_,rfl,rfl,_,rfl,iteD (fun e=>iteT ?_) (fun e1=>⟨_,rfl,_,_,rfl,rfl,_,rfl,iteD (fun e => ?_) (fun e2 => ?_)⟩)⟩
  · exact ⟨by decide,_,rfl,by decide,_,rfl,by decide,_,rfl,by decide,fun zz=>⟨(show 1≤sizeLine by decide),q2 (fun p=>by have:=p.2.1.1;omega) _ (Same.refl _)⟩⟩
  · exact ⟨by decide,_,rfl,by decide,_,rfl,by decide,_,rfl,by decide,fun zz=>⟨(show 1≤sizeLine by decide),q2 (fun p=>by have:=p.2.1.2;omega) _ (Same.refl _)⟩⟩
  have w12:1≤wt∧wt≤1000000000000:=⟨by omega,by omega⟩
  dsimp only [tNext]
  refine ⟨_,rfl,_,rfl,SpRefP.mk vl vr l r rfl hl hr' dl dr pl pr (fun pok H1 s1 => ?_) (fun n H' s'=>q2 (fun p=>n p.2.2.1) _ s')⟩
  refine ⟨_,rfl,_,rfl,vl,l,rfl,tr_same s1 hl,(by omega),(by omega),fun lh H2 s2 hlh => ?_⟩
  have g2:=s1.trans s2
  refine SpRefA.mk A lh avs as (note l []) rfl (g2 _ _ hA) (Paired.mapP hp fun _ _ y=>y.keep fun b ys=>g2 _ _) hasc hlh few (fun aok => ?_) (fun n=>q2 (fun p=>n p.2.2.2) _ g2)
  have ho2:=g2 _ _ ho
  have hAo:A≠o:=ne_of hA ho (fun z=>nomatch z)
  have k2:∀ b u,b≠o→H b=some u→H2 b=some u:=fun b u _ h=>g2 _ _ h
  have f2:∀ b,H2 b=none→H b=none:=fun b h=>g2.free h
  refine ⟨_,rfl,_,rfl,o,CU,dx,_,rfl,ho2,Z.cU,Z.nTitle,by decide,?_⟩
  refine ⟨_,rfl,_,rfl,o,CU,dx,_,rfl,upd_same,Z.cU,Z.nWeight,(show 1 < 1000 by decide),?_⟩
  rw [upd_upd]
  refine ⟨_,rfl,_,rfl,o,CU,dx,_,rfl,upd_same,Z.cU,Z.nLeft,(show 2 < 1000 by decide),?_⟩
  rw [upd_upd]
  refine ⟨_,rfl,_,rfl,o,CU,dx,_,rfl,upd_same,Z.cU,Z.nRight,(show 3 < 1000 by decide),?_⟩
  rw [upd_upd]
  refine ⟨_,rfl,A,avs,rfl,.inl (SqL.of (by rw [upd_ne hAo];exact g2 _ _ hA)),fun A2 hA2 => ?_⟩
  have hA2o:A2≠o:=fun e=>by rw [e,upd_same] at hA2;cases hA2
  have hA20:H A2=none:=f2 _ (by rw [upd_ne hA2o] at hA2;exact hA2)
  refine ⟨_,rfl,o,CU,dx, [("title",.str z),("weight",.int wt),("left",vl),("right",vr)],rfl,(by rw [upd_ne (Ne.symm hA2o),upd_same];rfl),Z.cU,Z.nAsks,(show 4 < 1000 by decide),?_⟩
  refine q ⟨hw,w12,pok,aok⟩ _ A2 (fun b u n h => ?_) hA20 ?_ upd_same
  · rw [upd_ne n,upd_ne (ne_of_none h hA20),upd_ne n];exact k2 b u n h
  · rw [upd_ne hA2o];exact upd_same
end

end K71
namespace K71
open PySem L2 Sw
section
variable {P:Program} {w:World} {K:PySem.W.Frag} {mg:Str→Option Value} {base:Heap} {CU CNR:Addr}
theorem atI_ex {xs:List V} {i:Int} (h0:0≤i) (h1:i < xs.length):∃ v,atI xs i=some v∧v∈xs:=by
  have hi:i.toNat < xs.length:=by omega
  have z:atI xs ((i.toNat:Nat):Int)=some xs[i.toNat]:=atI_nat (List.getElem?_eq_getElem hi)
  rw [show ((i.toNat:Nat):Int)=i by omega] at z
  exact ⟨_,z,List.getElem_mem hi⟩
theorem join_eq (ss:List Str):Txt.join ", " ss=Str.join ", " ss:=by
  unfold Txt.join
  rw [StrLaws.glued_eq_join]
theorem sums_le {ss:List Str} {M:Nat} (h:∀ s∈ss,s.length≤M):(Str.join ", " ss).length≤ss.length * (M+2):=by
  have h1:=StrLaws.join_length_le ", " ss
  have h2:∀ ss:List Str,(∀ s∈ss,s.length≤M)→(ss.map (·.length)).sum≤ss.length * M:=fun ss=>by
    induction ss with
    | nil=>intro _;exact Nat.zero_le _
    | cons u ss ih =>
      intro hu
      have z:=ih fun v hv=>hu v (List.mem_cons_of_mem _ hv)
      have zu:=hu u List.mem_cons_self
      rw [List.map_cons,List.sum_cons,List.length_cons,Nat.succ_mul]
      omega
  have h3:=h2 ss h
  have e2:(", " : Str).length=2:=rfl
  rw [e2] at h1
  rw [Nat.mul_add]
  omega
theorem lens_le {M:Nat}:∀ {ss:List Str},(∀ s∈ss,s.length≤M)→(ss.map (·.length)).sum≤ss.length * M
  | [],_=>Nat.zero_le _
  | s :: ss,h=>by
    have z:=lens_le (ss:=ss) fun v hv=>h v (List.mem_cons_of_mem _ hv)
    have zs:=h s List.mem_cons_self
    rw [List.map_cons,List.sum_cons,List.length_cons,Nat.succ_mul]
    omega
noncomputable def masks:List Str := ["-", "0", "-0", "+", "-+", "0+", "-0+"]
noncomputable def maskS (m:Int):Str:=masks.getD (m - 1).toNat ""
noncomputable def askS:Ask→Str
  | .free h z => "free ?" ++ h ++ " " ++ z
  | .sign h m => "sign ?" ++ h ++ " " ++ maskS m
  | .num h => "number ?" ++ h
structure AskG (bs:List Str) (a:Ask):Prop where
  ok:AskOk bs a
  w:IsW a.hole
theorem mask_len (m:Int):(maskS m).length≤3:=by
  unfold maskS
  rw [List.getD_eq_getElem?_getD]
  cases h:masks[(m - 1).toNat]? with
  | none=>exact Nat.zero_le _
  | some z =>
    have:∀ z∈masks,z.length≤3:=by decide +kernel
    exact this z (List.mem_of_getElem? h)
noncomputable def ruleS0 (z:Str) (wt:Int) (l r:T):Str:=z ++ " " ++ Str.ofString (toString wt) ++ ": " ++ l.shown ++ " = " ++ r.shown
noncomputable def ruleS (z:Str) (wt:Int) (l r:T) (as:List Ask):Str:=if 0 < as.length then ruleS0 z wt l r ++ " if " ++ Str.join ", " (as.map askS) else ruleS0 z wt l r
structure RuleG (z:Str) (wt:Int) (l r:T) (as:List Ask):Prop where
  ok:RuleOk z wt l r as
  l_:l.Ok
  r_:r.Ok
  dl:l.depth≤14
  dr:r.depth≤14
  ws:∀ a∈as,IsW a.hole
  hw:∀ h∈raw l,IsW h
structure DueAt (H:Hp) (d:Addr) (z:Str) (wt:Int) (vl vr:V) (l r:T) (AL:Addr) (avs:List V) (as:List Ask):Prop where
  hd:H d=some (.tup [.str z,.int wt,vl,vr,.ref AL])
  hl:IsTr H l vl
  hr:IsTr H r vr
  hA:H AL=some (.lst avs)
  hp:Paired (AskAt H) avs as
theorem asks_same {H H':Hp} {avs:List V} {as:List Ask} (s:Same H H') (h:Paired (AskAt H) avs as):Paired (AskAt H') avs as:=Paired.mapP h fun _ _ z=>z.keep fun b ys=>s _ _
theorem DueAt.same {H H':Hp} {d:Addr} {z:Str} {wt:Int} {vl vr:V} {l r:T} {AL:Addr} {avs:List V} {as:List Ask} (s:Same H H') (h:DueAt H d z wt vl vr l r AL avs as):DueAt H' d z wt vl vr l r AL avs as:=⟨s _ _ h.hd,tr_same s h.hl,tr_same s h.hr,s _ _ h.hA,asks_same s h.hp⟩
theorem shown12 {t:T} (h:t.Ok) (hp:t.parts≤12):t.shown.length≤838:=by
  have:=shown_len t h
  omega
theorem askS_len {bs:List Str} {a:Ask} (h:AskG bs a):(askS a).length≤23:=by
  have h8:=h.w.2.1
  cases a with
  | free x z =>
    have h8':x.length≤8:=h8
    have:=h.ok.2.2.1
    show ("free ?" ++ x ++ " " ++ z:Str).length≤23
    rw [Str.length_append,Str.length_append,Str.length_append]
    show 6+x.length+1+z.length≤23
    omega
  | sign x m =>
    have h8':x.length≤8:=h8
    have:=mask_len m
    show ("sign ?" ++ x ++ " " ++ maskS m:Str).length≤23
    rw [Str.length_append,Str.length_append,Str.length_append]
    show 6+x.length+1+(maskS m).length≤23
    omega
  | num x =>
    have h8':x.length≤8:=h8
    show ("number ?" ++ x:Str).length≤23
    rw [Str.length_append]
    show 8+x.length≤23
    omega
noncomputable def ruleFs (z:Str) (wt:Int) (vl vr:V) (A:Addr):List (Str × V) := [("title",.str z),("weight",.int wt),("left",vl),("right",vr),("asks",.ref A)]
theorem RuleG.askG {z:Str} {wt:Int} {l r:T} {as:List Ask} (g:RuleG z wt l r as) {a:Ask} (h:a∈as):AskG (note l []) a:=⟨g.ok.2.2.2.2 a h,g.ws a h⟩
theorem RuleG.few {z:Str} {wt:Int} {l r:T} {as:List Ask} (g:RuleG z wt l r as):as.length≤4:=g.ok.2.2.2.1
theorem RuleG.pl {z:Str} {wt:Int} {l r:T} {as:List Ask} (g:RuleG z wt l r as):l.parts≤12:=g.ok.2.2.1.2.1
theorem RuleG.pr {z:Str} {wt:Int} {l r:T} {as:List Ask} (g:RuleG z wt l r as):r.parts≤12:=g.ok.2.2.1.2.2.1
theorem strs_of {ys:List V} {ss:List Str} (h:Paired (fun v (s:Str)=>v=V.str s) ys ss):ys=ss.map V.str:=by
  induction h with
  | nil=>rfl
  | cons e _ ih=>rw [e,ih];rfl
end

section
variable {P:Program} {w:World} {K:PySem.W.Frag} {mg:Str→Option Value} {base:Heap} {CU:Addr}
theorem rd_set' {v:V} {i:Nat} {rest:TS} {D:Ends} {σ : St} {H:Hp} (h:rest D (σ.set i (some v)) H):tSeq (tAsg (tC v) (gName i)) rest D σ H:=h
noncomputable def mtx (m:Int):Nat→Str
  | 0 => ""
  | i+1=>if Builtin.bitAnd m (1 * 2 ^ i)≠0 then mtx m i ++ ⟨#[("-0+" : Str).cps.toList.getD i 0]⟩ else mtx m i
theorem mtx_ok {m:Int} (h1:1≤m) (h7:m≤7):mtx m 3=maskS m:=by
  rcases (by omega:m=1∨m=2∨m=3∨m=4∨m=5∨m=6∨m=7) with rfl | rfl | rfl | rfl | rfl | rfl | rfl <;> decide +kernel
theorem mtx_len (m:Int):∀ i,(mtx m i).length≤i
  | 0=>Nat.zero_le _
  | i+1=>by
    have:=mtx_len m i
    rw [mtx]
    split
    · rw [Str.length_append]
      show (mtx m i).length+1≤i+1
      omega
    · omega
inductive SpMask (vs:List V) (H:Hp) (Q:VK):Prop
  | mk (m:Int) (z0:vs = [.int m]) (z1:1≤m) (z2:m≤7) (z3:∀ H',Same H H'→Q (.str (maskS m)) H'):SpMask  vs H Q
noncomputable def spMask:Sp:=fun vs H Q _=>SpMask  vs H Q
inductive MkI (H:Hp) (m:Int) (i:Nat) (σ : St) (H':Hp):Prop
  | mk (x2 x3:Option V) (e : σ = [some (.int m),some (.str (mtx m i)),x2,x3]) (sm:Same H H'):MkI H m i σ H'
theorem ok_show_mask (B:Blt mg) (g_MASK_SIGNS:∃ t,mg "MASK_SIGNS" = some (.str "-0+" t)) (D:Def K mg "show_mask" s_show_mask ["mask"]):Has P w K mg base 1 "show_mask" ["mask"] spMask:=by
  refine D.has sc_show_mask (fun vs H Q E h => ?_) (fun f cdv A outer s H vs Q E hr h => ?_)
  · obtain ⟨m,rfl,_⟩:=h;rfl
  obtain ⟨m,rfl,h1,h7,q⟩:=h
  refine ⟨_,(pss_cons (ps_set (i:=1) sc_show_mask.nd rfl (Or.inl rfl) pe_str)
    (pss_cons (ps_for PassesOwn.never rfl (pi_enumS rfl B.enumerate_ (pa_cons (pe_globS g_MASK_SIGNS rfl) pa_nil)) (pg_tup rfl (pgs_cons (pg_name (i:=2) sc_show_mask.nd rfl (Or.inl rfl)) (pgs_cons (pg_name (i:=3) sc_show_mask.nd rfl (Or.inl rfl)) pgs_nil)))
    (pss_one (ps_if (pt_truth (pe_op op_and (pv 0) (pe_op op_shl pe_int (pv 2))) (fun _=>rfl)) (pss_one (ps_aug (i:=1) sc_show_mask.nd rfl (Or.inl rfl) (pv 3) ip_addS)) pss_nil)))
    (pss_one (ps_ret (pv 1))))),?_⟩
  try dsimp only [cxOf]
  refine rd_set' ?_
  refine ⟨"-0+",rfl,by decide +kernel,?_⟩
  refine for_enumS (MkI H m) (MkI.mk none none rfl (Same.refl _)) ?_ ?_
  · rintro i c p σ H2 hc ⟨x2,x3,rfl,s2⟩ hp
    have hi:i < 3:=(List.getElem?_eq_some_iff.mp hc).1
    have s3:=s2.trans (same_new hp (.tup [.int (i:Int),.str ⟨#[c]⟩]))
    have ec:("-0+" : Str).cps.toList.getD i 0=c:=by rw [List.getD_eq_getElem?_getD,hc];rfl
    refine ⟨p,_,rfl,SqT.of upd_same,rfl,_,_,rfl,_,_,rfl,rfl,?_⟩
    dsimp only [gName]
    have ml:=mtx_len m i
    refine ⟨_,rfl,_,rfl,_,_,rfl,rfl,⟨by omega,by omega,by decide⟩,_,_,rfl,rfl,_,rfl,?_⟩
    rw [Int.toNat_natCast]
    by_cases hb:Builtin.bitAnd m (1 * 2 ^ i)=0
    · have:mtx m (i+1)=mtx m i:=by rw [mtx,if_neg (fun z=>z hb)]
      rw [hb]
      refine iteF (MkI.mk _ _ (by rw [this];rfl) s3)
    · have:mtx m (i+1)=mtx m i ++ ⟨#[c]⟩:=by rw [mtx,if_pos hb,ec]
      rw [bne_iff_ne.mpr hb]
      refine iteT ⟨_,rfl,_,rfl,_,_,rfl,rfl,?_,MkI.mk _ _ (by rw [this];rfl) s3⟩
      exact Nat.le_trans (show (mtx m i).length+1≤1000 by omega) (by decide)
  · rintro σ H2 ⟨x2,x3,rfl,s2⟩
    refine ⟨_,rfl,?_⟩
    rw [show mtx m ("-0+" : Str).length=maskS m from mtx_ok h1 h7]
    exact q _ s2
end

end K71
namespace K71
open PySem L2 Sw
section
variable {P:Program} {w:World} {K:PySem.W.Frag} {mg:Str→Option Value} {base:Heap}
inductive SpAt (K:PySem.W.Frag) (vs:List V) (H:Hp) (Q:VK):Prop
  | mk (a:Addr) (ns:List Int) (k:Int) (z0:vs = [.ref a,.int k]) (z1:SqL K H a (ns.map V.int)) (z2:0≤k) (z3:Q (.int (if k < ns.length then ns.getD k.toNat 0 else 0)) H):SpAt K vs H Q
noncomputable def spAt (K:PySem.W.Frag):Sp:=fun vs H Q _=>SpAt K vs H Q
theorem ok_at (B:Blt mg) (D:Def K mg "_law_at" s_at ["_law_script", "_law_k"]):Has P w K mg base 1 "_law_at" ["_law_script", "_law_k"] (spAt K):=by
  refine D.has sc_at (fun vs H Q E h => ?_) (fun f cdv A outer s H vs Q E hr h => ?_)
  · obtain ⟨a,ns,k,rfl,_⟩:=h;rfl
  obtain ⟨a,ns,k,rfl,hS,h0,q⟩:=h
  refine ⟨_,(pss_cons (ps_if (pt_cmpR op_lt (pv 1) (pe_callB call_len_seq rfl B.len_ PySem.boot_len (pa_cons (pv 0) pa_nil)) (nomark _)) (pss_one (ps_ret (pe_ix ix_list (pv 0) (pv 1) (fun _ _=>rfl)))) pss_nil)
    (pss_one (ps_ret pe_int))),?_⟩
  try dsimp only [cxOf]
  refine ⟨_,rfl,_,rfl,a,_,rfl,.inl hS,k,_,rfl,rfl,_,rfl,?_⟩
  refine iteD (fun c => ?_) (fun c => ?_)
  · rw [List.length_map] at c
    have hk:k.toNat < ns.length:=by omega
    have ek:((k.toNat:Nat):Int)=k:=by omega
    have ha:atI (ns.map V.int) k=some (.int ns[k.toNat]):=by
      have z:atI (ns.map V.int) ((k.toNat:Nat):Int)=some (.int ns[k.toNat]):=atI_nat (by rw [List.getElem?_map,List.getElem?_eq_getElem hk];rfl)
      rw [ek] at z
      exact z
    rw [if_pos c,List.getD_eq_getElem?_getD,List.getElem?_eq_getElem hk] at q
    exact ⟨_,rfl,_,rfl,a,_,k,_,rfl,rfl,hS,ha,q⟩
  · rw [List.length_map] at c
    rw [if_neg c] at q
    exact q
inductive SpDraw (vs:List V) (H:Hp) (Q:VK):Prop
  | mk (c f m:Int) (z0:vs = [.int c,.int f,.int m]) (z1:0≤f) (z2:f < 2 ^ 60) (z3:0 < m) (z4:∀ r:Int,0≤r→r < m→Q (.int r) H):SpDraw  vs H Q
noncomputable def spDraw:Sp:=fun vs H Q _=>SpDraw  vs H Q
theorem ok_draw (D:Def K mg "_law_draw" s_draw ["_law_cell", "_law_factor", "_law_many"]):Has P w K mg base 1 "_law_draw" ["_law_cell", "_law_factor", "_law_many"] spDraw:=by
  refine D.has sc_draw (fun vs H Q E h => ?_) (fun f cdv A outer s H vs Q E hr h => ?_)
  · obtain ⟨c,f,m,rfl,_⟩:=h;rfl
  obtain ⟨c,fc,m,rfl,f0,f1,m0,q⟩:=h
  refine ⟨_,(pss_one (ps_ret (pe_op op_mod (pe_op op_fdiv (pe_op op_mod (pe_op op_mul (pe_op op_add (pe_op op_mod (pv 0) pe_int) pe_int) (pv 1)) pe_int) pe_int) (pv 2)))),?_⟩
  try dsimp only [cxOf]
  have p1:0≤c % 2147483647:=Int.emod_nonneg _ (by decide)
  have p2:c % 2147483647 < 2147483647:=Int.emod_lt_of_pos _ (by decide)
  exact ⟨_,rfl,_,_,rfl,rfl,pos',_,_,rfl,rfl,_,rfl,_,_,rfl,rfl,.inl ⟨by omega,by omega⟩,_,_,rfl,rfl,pos',_,_,rfl,rfl,div',_,rfl,_,_,rfl,rfl,m0,q _ (Int.emod_nonneg _ (by omega)) (Int.emod_lt_of_pos _ m0)⟩
noncomputable def wordX (s v:Int):Str:=timesS (sg (s / 64 % 26)) (s / 8 % (1+s % 8)).toNat ++ sg ((s / 1664+v) % 26) ++ timesS (sg (s / 64 % 26)) (1+s % 8 - 1 - s / 8 % (1+s % 8)).toNat
theorem times_cps (i:Int) (n:Nat):(timesS (sg i) n).cps.toList=List.replicate n (97+i.toNat):=by
  unfold timesS sg
  simp
theorem wordX_cps (s v:Int):(wordX s v).cps.toList=List.replicate (s / 8 % (1+s % 8)).toNat (97+(s / 64 % 26).toNat) ++ [97+((s / 1664+v) % 26).toNat] ++ List.replicate (1+s % 8 - 1 - s / 8 % (1+s % 8)).toNat (97+(s / 64 % 26).toNat):=by
  unfold wordX
  rw [app_cps,app_cps,times_cps,times_cps]
  rfl
theorem wordX_ok (s v:Int):IsW (wordX s v):=by
  have a1:0≤s % 8:=Int.emod_nonneg _ (by decide)
  have a2:s % 8 < 8:=Int.emod_lt_of_pos _ (by decide)
  have b1:0≤s / 64 % 26:=Int.emod_nonneg _ (by decide)
  have b2:s / 64 % 26 < 26:=Int.emod_lt_of_pos _ (by decide)
  have c1:0≤(s / 1664+v) % 26:=Int.emod_nonneg _ (by decide)
  have c2:(s / 1664+v) % 26 < 26:=Int.emod_lt_of_pos _ (by decide)
  have d1:0≤s / 8 % (1+s % 8):=Int.emod_nonneg _ (by omega)
  have d2:s / 8 % (1+s % 8) < 1+s % 8:=Int.emod_lt_of_pos _ (by omega)
  have el:(wordX s v).length=(1+s % 8).toNat:=by
    rw [len_cps,wordX_cps,List.length_append,List.length_append,List.length_replicate,List.length_replicate,List.length_singleton]
    generalize s / 8 % (1+s % 8)=d at d1 d2
    omega
  refine ⟨by rw [el];omega,by rw [el];omega,fun c hc => ?_⟩
  rw [wordX_cps] at hc
  rcases List.mem_append.mp hc with hc | hc
  · rcases List.mem_append.mp hc with hc | hc
    · have:=(List.mem_replicate.mp hc).2
      omega
    · have:=List.mem_singleton.mp hc
      omega
  · have:=(List.mem_replicate.mp hc).2
    omega
theorem wordX_inj {s:Int} {i j:Nat} (hi:i < 26) (hj:j < 26) (h:wordX s i=wordX s j):i=j:=by
  have e:=congrArg (fun z:Str=>z.cps.toList) h
  rw [wordX_cps,wordX_cps] at e
  have e2:=List.append_cancel_left (List.append_cancel_right e)
  have e3:=(List.cons.inj e2).1
  have c1:0≤(s / 1664+i) % 26:=Int.emod_nonneg _ (by decide)
  have c2:0≤(s / 1664+j) % 26:=Int.emod_nonneg _ (by decide)
  omega
noncomputable def seed (ns:List Int):Int:=if (0:Int) < ns.length then ns.getD 0 0 else 0
inductive SpWordX (K:PySem.W.Frag) (vs:List V) (H:Hp) (Q:VK):Prop
  | mk (a:Addr) (ns:List Int) (v:Int) (z0:vs = [.ref a,.int v]) (z1:SqL K H a (ns.map V.int)) (z2:Q (.str (wordX (seed ns) v)) H):SpWordX K vs H Q
noncomputable def spWordX (K:PySem.W.Frag):Sp:=fun vs H Q _=>SpWordX K vs H Q
theorem ok_word (h_at:Has P w K mg base 1 "_law_at" ["_law_script", "_law_k"] (spAt K)) (D:Def K mg "_law_word" s_word ["_law_script", "_law_which"]):Has P w K mg base 2 "_law_word" ["_law_script", "_law_which"] (spWordX K):=by
  refine D.has sc_word (fun vs H Q E h => ?_) (fun f cdv A outer s H vs Q E hr h => ?_)
  · obtain ⟨a,ns,v,rfl,_⟩:=h;rfl
  obtain ⟨a,ns,v,rfl,hS,q⟩:=h
  refine ⟨_,(pss_cons (ps_set (i:=2) sc_word.nd rfl (Or.inl rfl) pe_str)
    (pss_cons (ps_set (i:=3) sc_word.nd rfl (Or.inl rfl) (pe_callH h_at hr (by omega) rfl (pa_cons (pv 0) (pa_cons pe_int pa_nil))))
    (pss_cons (ps_set (i:=4) sc_word.nd rfl (Or.inl rfl) (pe_op op_add pe_int (pe_op op_mod (pv 3) pe_int)))
    (pss_cons (ps_set (i:=5) sc_word.nd rfl (Or.inl rfl) (pe_op op_mod (pe_op op_fdiv (pv 3) pe_int) (pv 4)))
    (pss_cons (ps_set (i:=6) sc_word.nd rfl (Or.inl rfl) (pe_ix ix_str (pv 2) (pe_op op_mod (pe_op op_fdiv (pv 3) pe_int) pe_int) (fun _ _=>rfl)))
    (pss_cons (ps_set (i:=7) sc_word.nd rfl (Or.inl rfl) (pe_ix ix_str (pv 2) (pe_op op_mod (pe_op op_add (pe_op op_fdiv (pv 3) pe_int) (pv 1)) pe_int) (fun _ _=>rfl)))
    (pss_one (ps_ret (pe_op op_add_str (pe_op op_add_str (pe_op op_mul_str0 (pv 6) (pv 5)) (pv 7)) (pe_op op_mul_str0 (pv 6) (pe_op op_sub (pe_op op_sub (pv 4) pe_int) (pv 5)))))))))))),?_⟩
  try dsimp only [cxOf]
  refine rd_set' ?_
  refine ⟨_,rfl,a,ns,0,rfl,hS,Int.le_refl _,?_⟩
  show tSeq _ _ _ _ _
  have es:(if (0:Int) < ns.length then ns.getD (0:Int).toNat 0 else 0)=seed ns:=rfl
  rw [es]
  generalize seed ns=sd at q
  have a1:0≤sd % 8:=Int.emod_nonneg _ (by decide)
  have a2:sd % 8 < 8:=Int.emod_lt_of_pos _ (by decide)
  have b1:0≤sd / 64 % 26:=Int.emod_nonneg _ (by decide)
  have b2:sd / 64 % 26 < 26:=Int.emod_lt_of_pos _ (by decide)
  have c1:0≤(sd / 1664+v) % 26:=Int.emod_nonneg _ (by decide)
  have c2:(sd / 1664+v) % 26 < 26:=Int.emod_lt_of_pos _ (by decide)
  have d1:0≤sd / 8 % (1+sd % 8):=Int.emod_nonneg _ (by omega)
  have d2:sd / 8 % (1+sd % 8) < 1+sd % 8:=Int.emod_lt_of_pos _ (by omega)
  refine ⟨_,rfl,_,_,rfl,rfl,pos',_,_,rfl,rfl,?_⟩
  refine ⟨_,rfl,_,_,rfl,rfl,div',_,rfl,_,_,rfl,rfl,by omega,?_⟩
  refine ⟨_,rfl,_,rfl,_,_,rfl,rfl,div',_,_,rfl,rfl,pos',_,_,_,rfl,rfl,by decide,abc_at b1 b2,?_⟩
  refine ⟨_,rfl,_,rfl,_,_,rfl,rfl,div',_,rfl,_,_,rfl,rfl,_,_,rfl,rfl,pos',_,_,_,rfl,rfl,by decide,abc_at c1 c2,?_⟩
  have t1:(timesS (sg (sd / 64 % 26)) (sd / 8 % (1+sd % 8)).toNat).length≤8:=by rw [len_cps,times_cps,List.length_replicate];omega
  have t2:(timesS (sg (sd / 64 % 26)) (1+sd % 8 - 1 - sd / 8 % (1+sd % 8)).toNat).length≤8:=by rw [len_cps,times_cps,List.length_replicate];omega
  refine ⟨_,rfl,_,rfl,_,_,rfl,rfl,by omega,by omega,by show (1:Nat)≤1000;decide,_,rfl,_,_,rfl,rfl,?_,_,rfl,_,rfl,_,_,rfl,rfl,_,rfl,_,_,rfl,rfl,_,_,rfl,rfl,by omega,by omega,by show (1:Nat)≤1000;decide,_,_,rfl,rfl,?_,q⟩
  · exact Nat.le_trans (show (timesS (sg (sd / 64 % 26)) (sd / 8 % (1+sd % 8)).toNat).length+1≤1000 by omega) (by decide)
  · rw [Str.length_append]
    exact Nat.le_trans (show (timesS (sg (sd / 64 % 26)) (sd / 8 % (1+sd % 8)).toNat).length+1+(timesS (sg (sd / 64 % 26)) (1+sd % 8 - 1 - sd / 8 % (1+sd % 8)).toNat).length≤1000 by omega) (by decide)
end

end K71
namespace K71
open PySem L2 Sw
section
variable {P:Program} {w:World} {K:PySem.W.Frag} {mg:Str→Option Value} {base:Heap}
structure TreeG (n:Nat) (t:T):Prop where
  ok:t.Ok
  parts:t.parts≤n
  no63:63 ∉ t.shown.cps.toList
theorem part_in:∀ {ts:List T} {t:T},t∈ts→t.parts≤T.partss ts
  | u :: ts,t,h=>by
    rw [T.partss]
    rcases List.mem_cons.mp h with rfl | h
    · omega
    · have:=part_in h;omega
theorem depth_parts:∀ (k:Nat) (t:T),t.depth≤k→t.depth≤t.parts
  | 0,t,h=>by have:=depth_pos t;omega
  | k+1,.num n,_=>by rw [T.depth,T.parts];exact Nat.le_refl _
  | k+1,.name n,_=>by rw [T.depth,T.parts];exact Nat.le_refl _
  | k+1,.any n,_=>by rw [T.depth,T.parts];exact Nat.le_refl _
  | k+1,.of x ts,h=>by
    rw [T.depth] at h
    rw [T.depth,T.parts]
    have:T.deepest ts≤T.partss ts:=deepest_is fun t ht=>by
      have h1:=depth_parts k t (by have:=deepest_le ht;omega)
      have h2:=part_in ht
      omega
    omega
theorem TreeG.dep {n:Nat} {t:T} (h:TreeG n t):t.depth≤n:=by
  have:=depth_parts t.depth t (Nat.le_refl _)
  have:=h.parts
  omega
theorem no63_of {x:Str} {ts:List T} (hx:IsW x) (h:∀ t∈ts,63 ∉ t.shown.cps.toList) (h1:1≤ts.length):63 ∉ (T.of x ts).shown.cps.toList:=by
  have more_no:∀ ts:List T,(∀ t∈ts,63 ∉ t.shown.cps.toList)→63 ∉ more ts:=fun ts=>by
    induction ts with
    | nil=>intro _ z;cases z
    | cons t ts ih =>
      intro h z
      rw [more] at z
      rcases List.mem_cons.mp z with z | z
      · cases z
      rcases List.mem_cons.mp z with z | z
      · cases z
      rcases List.mem_append.mp z with z | z
      · exact h t List.mem_cons_self z
      · exact ih (fun u hu=>h u (List.mem_cons_of_mem _ hu)) z
  cases ts with
  | nil=>exact absurd h1 (by decide)
  | cons t ts =>
    rw [shown_of]
    intro z
    rcases List.mem_append.mp z with z | z
    · exact word_not hx (by decide) z
    rcases List.mem_cons.mp z with z | z
    · cases z
    rcases List.mem_append.mp z with z | z
    · exact h t List.mem_cons_self z
    rcases List.mem_append.mp z with z | z
    · exact more_no ts (fun u hu=>h u (List.mem_cons_of_mem _ hu)) z
    · cases List.mem_singleton.mp z
theorem tree_num {n:Int} (h1 : -(10 ^ 60) < n) (h2:n < 10 ^ 60):TreeG 1 (.num n):=⟨by rw [T.Ok];exact ⟨h1,h2⟩,by rw [T.parts];exact Nat.le_refl _,fun z=>by rw [T.shown] at z;have:=num_signs n 63 z;omega⟩
theorem tree_name {x:Str} (h:IsW x):TreeG 1 (.name x):=⟨by rw [T.Ok];exact h,by rw [T.parts];exact Nat.le_refl _,by rw [T.shown];exact word_not h (by decide)⟩
inductive SpLeafT (K:PySem.W.Frag) (vs:List V) (H:Hp) (Q:VK):Prop
  | mk (a:Addr) (ns:List Int) (c:Int) (ev:vs = [.ref a,.int c]) (hS:SqL K H a (ns.map V.int)) (q:∀ v t H',Same H H'→IsTr H' t v→TreeG 1 t→Q v H'):SpLeafT K vs H Q
noncomputable def spLeafT (K:PySem.W.Frag):Sp:=fun vs H Q _=>SpLeafT K vs H Q
theorem ok_leaf (h_draw:Has P w K mg base 1 "_law_draw" ["_law_cell", "_law_factor", "_law_many"] spDraw) (h_word:Has P w K mg base 2 "_law_word" ["_law_script", "_law_which"] (spWordX K)) (D:Def K mg "_law_leaf" s_leaf ["_law_script", "_law_cell"]):Has P w K mg base 3 "_law_leaf" ["_law_script", "_law_cell"] (spLeafT K):=by
  refine D.has sc_leaf (fun vs H Q E h => ?_) (fun f cdv A outer s H vs Q E hr h => ?_)
  · obtain ⟨a,ns,c,rfl,_⟩:=h;rfl
  obtain ⟨a,ns,c,rfl,hS,q⟩:=h
  refine ⟨_,(pss_cons (ps_set (i:=2) sc_leaf.nd rfl (Or.inl rfl) (pe_callH h_draw hr (by omega) rfl (pa_cons (pv 1) (pa_cons pe_int (pa_cons pe_int pa_nil)))))
    (pss_cons (ps_if (pt_cmpR op_eq (pv 2) pe_int (nomark _)) (pss_one (ps_ret (pe_tup (pa_cons pe_str (pa_cons (pe_op op_sub (pe_op op_mod (pv 1) (pe_op op_sub (pe_op op_mul pe_int (pe_op op_pow pe_int pe_int)) pe_int)) (pe_op op_sub (pe_op op_pow pe_int pe_int) pe_int)) pa_nil))))) pss_nil)
    (pss_cons (ps_if (pt_cmpR op_eq (pv 2) pe_int (nomark _)) (pss_one (ps_ret (pe_tup (pa_cons pe_str (pa_cons (pe_op op_sub (pe_callH h_draw hr (by omega) rfl (pa_cons (pv 1) (pa_cons pe_int (pa_cons pe_int pa_nil)))) pe_int) pa_nil))))) pss_nil)
    (pss_one (ps_ret (pe_tup (pa_cons pe_str (pa_cons (pe_callH h_word hr (by omega) rfl (pa_cons (pv 0) (pa_cons (pe_callH h_draw hr (by omega) rfl (pa_cons (pv 1) (pa_cons pe_int (pa_cons pe_int pa_nil)))) pa_nil))) pa_nil)))))))),?_⟩
  try dsimp only [cxOf]
  refine ⟨_,rfl,c,_,_,rfl,by decide,by decide,by decide,fun r r0 r1 => ?_⟩
  dsimp only [gName]
  refine ⟨_,rfl,rfl,_,rfl,iteD (fun _ => ?_) (fun _ => ?_)⟩
  · have e60:(2:Int) * 10 ^ (60:Int).toNat - 1=2 * (10 ^ 60 - 1)+1:=by decide
    have p0:=Int.emod_nonneg c (show (2:Int) * 10 ^ (60:Int).toNat - 1≠0 by decide)
    have p1:=Int.emod_lt_of_pos c (show (0:Int) < 2 * 10 ^ (60:Int).toNat - 1 by decide)
    refine ⟨_,rfl,10,60,rfl,rfl,⟨by decide,by decide,by decide⟩,_,_,rfl,rfl,.inl ⟨by decide,by decide⟩,_,_,rfl,rfl,_,_,rfl,rfl,(by decide:(0:Int) < 2 * 10 ^ (60:Int).toNat - 1),10,60,rfl,rfl,⟨by decide,by decide,by decide⟩,_,_,rfl,rfl,_,_,rfl,rfl,(show 2≤sizeLine by decide),fun p hp => ?_⟩
    have e1:(10:Int) ^ (60:Int).toNat=10 ^ 60:=rfl
    rw [e1] at p0 p1
    refine q _ (.num _) _ (same_new hp _) (by rw [IsTr];exact ⟨p,rfl,upd_same⟩) (tree_num ?_ ?_)
    · rw [e1];omega
    · rw [e1];omega
  refine ⟨_,rfl,rfl,_,rfl,iteD (fun _ => ?_) (fun _ => ?_)⟩
  · refine ⟨_,rfl,c,_,_,rfl,by decide,by decide,by decide,fun u u0 u1=>⟨_,_,rfl,rfl,(show 2≤sizeLine by decide),fun p hp => ?_⟩⟩
    exact q _ (.num _) _ (same_new hp _) (by rw [IsTr];exact ⟨p,rfl,upd_same⟩) (tree_num (by omega) (by omega))
  · refine ⟨_,rfl,_,rfl,c,_,_,rfl,by decide,by decide,by decide,fun u u0 u1=>⟨a,ns,u,rfl,hS,(show 2≤sizeLine by decide),fun p hp => ?_⟩⟩
    exact q _ (.name _) _ (same_new hp _) (by rw [IsTr];exact ⟨p,rfl,upd_same⟩) (tree_name (wordX_ok _ _))
inductive SpKnotT (K:PySem.W.Frag) (vs:List V) (H:Hp) (Q:VK):Prop
  | mk (a b:Addr) (ns:List Int) (c:Int) (us:List V) (ts:List T) (ev:vs = [.ref a,.int c,.ref b]) (hS:SqL K H a (ns.map V.int)) (hb:H b=some (.tup us)) (ht:IsTrs H ts us) (q:∀ v x H',Same H H'→IsTr H' (.of x ts) v→IsW x→Q v H'):SpKnotT K vs H Q
noncomputable def spKnotT (K:PySem.W.Frag):Sp:=fun vs H Q _=>SpKnotT K vs H Q
theorem words5:∀ z∈(["plus", "times", "plus", "times", "bind"]:List Str),IsW z:=by
  show ∀ z∈(["plus", "times", "plus", "times", "bind"]:List Str),1≤z.length∧z.length≤8∧∀ c∈z.cps.toList,97≤c∧c≤122
  decide +kernel
theorem isW_neg:IsW "neg" := by
  show 1≤("neg" : Str).length∧("neg" : Str).length≤8∧∀ c∈("neg" : Str).cps.toList,97≤c∧c≤122
  decide +kernel
theorem ok_knot (B:Blt mg) (h_draw:Has P w K mg base 1 "_law_draw" ["_law_cell", "_law_factor", "_law_many"] spDraw) (h_word:Has P w K mg base 2 "_law_word" ["_law_script", "_law_which"] (spWordX K)) (D:Def K mg "_law_knot" s_knot ["_law_script", "_law_cell", "_law_arms"]):Has P w K mg base 3 "_law_knot" ["_law_script", "_law_cell", "_law_arms"] (spKnotT K):=by
  refine D.has sc_knot (fun vs H Q E h => ?_) (fun f cdv A outer s H vs Q E hr h => ?_)
  · obtain ⟨a,b,ns,c,us,ts,rfl,_⟩:=h;rfl
  obtain ⟨a,b,ns,c,us,ts,rfl,hS,hb,ht,q⟩:=h
  refine ⟨_,(pss_cons (ps_set (i:=3) sc_knot.nd rfl (Or.inl rfl) (pe_callH h_draw hr (by omega) rfl (pa_cons (pv 1) (pa_cons pe_int (pa_cons pe_int pa_nil)))))
    (pss_cons (ps_if (PW.pt (pw_and (pt_cmpR op_eq (pe_callB call_len_seq rfl B.len_ PySem.boot_len (pa_cons (pv 2) pa_nil)) pe_int (nomark _)) (pw_and1 (pt_cmpR op_lt (pv 3) pe_int (nomark _))))) (pss_one (ps_ret (pe_tup (pa_cons pe_str (pa_cons pe_str (pa_cons (pv 2) pa_nil)))))) pss_nil)
    (pss_cons (ps_if (PW.pt (pw_and (pt_cmpR op_eq (pe_callB call_len_seq rfl B.len_ PySem.boot_len (pa_cons (pv 2) pa_nil)) pe_int (nomark _)) (pw_and1 (pt_cmpR op_lt (pv 3) pe_int (nomark _))))) (pss_one (ps_ret (pe_tup (pa_cons pe_str (pa_cons (pe_ix ix_tup (pe_tup (pa_strsB (L := ["plus", "times", "plus", "times", "bind"]) (by decide +kernel))) (pv 3) (fun _ _=>rfl)) (pa_cons (pv 2) pa_nil)))))) pss_nil)
    (pss_one (ps_ret (pe_tup (pa_cons pe_str (pa_cons (pe_callH h_word hr (by omega) rfl (pa_cons (pv 0) (pa_cons (pe_op op_mod (pv 3) pe_int) pa_nil))) (pa_cons (pv 2) pa_nil))))))))),?_⟩
  try dsimp only [cxOf]
  have fin:∀ (x:Str) (H1:Hp) (p:Addr),Same H H1→H1 p=none→IsW x→Q (.ref p) (upd H1 p (.tup [.str "of",.str x,.ref b])):=fun x H1 p s1 hp hx=>by
    have g:=s1.trans (same_new hp (.tup [.str "of",.str x,.ref b]))
    refine q _ x _ g ?_ hx
    rw [IsTr]
    exact ⟨p,b,us,rfl,upd_same,g _ _ hb,trs_same g ht⟩
  refine ⟨_,rfl,c,_,_,rfl,by decide,by decide,by decide,fun r r0 r1 => ?_⟩
  dsimp only [gName]
  refine rd_if2 (fun _ Hc=>Hc=H) (fun Qc qc=>⟨_,rfl,b,_,rfl,.inr (SqT.of hb),rfl,_,rfl,iteD (fun _=>⟨_,rfl,_,_,rfl,rfl,_,rfl,qc _ _ rfl⟩) (fun _=>qc _ _ rfl)⟩) (fun Hc h => ?_) (fun Hc h => ?_)
  · subst h
    exact ⟨_,rfl,(show 3≤sizeLine by decide),fun p hp=>fin _ _ p (Same.refl _) hp isW_neg⟩
  subst h
  dsimp only [tNext]
  refine rd_if2 (fun bb H1=>H1=Hc∧(bb=true→r < 5)) (fun Qc qc=>⟨_,rfl,b,_,rfl,.inr (SqT.of hb),rfl,_,rfl,iteD (fun _=>⟨_,rfl,_,_,rfl,rfl,_,rfl,qc _ _ ⟨rfl,fun z=>of_decide_eq_true z⟩⟩) (fun _=>qc _ _ ⟨rfl,fun z=>nomatch z⟩)⟩) (fun H1 h => ?_) (fun H1 h => ?_)
  · obtain ⟨rfl,h5⟩:=h
    obtain ⟨v,hv,hvm⟩:=atI_ex (xs:=(["plus", "times", "plus", "times", "bind"]:List Str).map V.str) r0 (h5 rfl)
    obtain ⟨z,hz,rfl⟩:=List.mem_map.mp hvm
    refine ⟨(show 5≤sizeLine by decide),fun l hl=>⟨_,rfl,l,_,_,_,rfl,rfl,SqT.of upd_same,hv,_,rfl,(show 3≤sizeLine by decide),fun p hp=>fin z _ p (same_new hl _) hp (words5 z hz)⟩⟩
  obtain ⟨rfl, -⟩:=h
  dsimp only [tNext]
  exact ⟨_,rfl,_,rfl,_,_,rfl,rfl,pos',a,ns,_,rfl,hS,_,rfl,(show 3≤sizeLine by decide),fun p hp=>fin _ _ p (Same.refl _) hp (wordX_ok _ _)⟩
end

end K71
namespace K71
open PySem L2 Sw
section
variable {P:Program} {w:World} {K:PySem.W.Frag} {mg:Str→Option Value} {base:Heap}
structure SideG (y:Str) (l r:T):Prop where
  pat:PatOk l r
  l_:l.Ok
  r_:r.Ok
  dl:l.depth≤14
  dr:r.depth≤14
  hw:∀ h∈raw l,IsW h
  first:∃ x t ts,l = .of x (t :: ts)∧(t = .any y∨∃ z,t = .name z)
theorem trs_nil {H:Hp}:IsTrs H [] []:=by rw [IsTrs]
theorem trs_cons {H:Hp} {t:T} {ts:List T} {v:V} {vs:List V} (h:IsTr H t v) (hs:IsTrs H ts vs):IsTrs H (t :: ts) (v :: vs):=by rw [IsTrs];exact ⟨_,_,rfl,h,hs⟩
theorem mk_of {H:Hp} {us:List V} {ts:List T} {x:Str} {b p:Addr} (hb:H b=none) (ht:IsTrs H ts us) (hp:(upd H b (.tup us)) p=none):Same H (upd (upd H b (.tup us)) p (.tup [.str "of",.str x,.ref b]))∧IsTr (upd (upd H b (.tup us)) p (.tup [.str "of",.str x,.ref b])) (.of x ts) (.ref p):=by
  have g1:=same_new hb (.tup us)
  have g2:=same_new hp (.tup [.str "of",.str x,.ref b])
  refine ⟨g1.trans g2,?_⟩
  rw [IsTr]
  exact ⟨p,b,us,rfl,upd_same,g2 _ _ upd_same,trs_same (g1.trans g2) ht⟩
theorem w_plus:IsW "plus" := words5 _ (by decide +kernel)
theorem w_times:IsW "times" := words5 _ (by decide +kernel)
theorem side_ab {ya yb x z:Str} (ha:IsW ya) (hb:IsW yb) (hx:IsW x) (hz:IsW z):SideG ya (.of x [.any ya,.any yb]) (.of z [.any yb,.any ya]):=by
  refine ⟨⟨rfl,?_,?_,?_,?_⟩,?_,?_,?_,?_,?_,_,_,_,rfl,.inl rfl⟩ <;> simp [T.parts,T.partss,T.depth,T.deepest,T.Ok,T.Oks,knF,knFs,raw,raws,ha,hb,hx,hz]
theorem side_a {ya x z:Str} (ha:IsW ya) (hx:IsW x) (hz:IsW z):SideG ya (.of x [.any ya]) (.of z [.any ya]):=by
  refine ⟨⟨rfl,?_,?_,?_,?_⟩,?_,?_,?_,?_,?_,_,_,_,rfl,.inl rfl⟩ <;> simp [T.parts,T.partss,T.depth,T.deepest,T.Ok,T.Oks,knF,knFs,raw,raws,ha,hx,hz]
theorem side_a0 {ya x:Str} (ha:IsW ya) (hx:IsW x):SideG ya (.of x [.any ya]) (.any ya):=by
  refine ⟨⟨rfl,?_,?_,?_,?_⟩,?_,?_,?_,?_,?_,_,_,_,rfl,.inl rfl⟩ <;> simp [T.parts,T.partss,T.depth,T.deepest,T.Ok,T.Oks,knF,knFs,raw,raws,ha,hx]
theorem side_an {ya x:Str} {n:Int} (ha:IsW ya) (hx:IsW x) (h1 : -(10 ^ 60) < n) (h2:n < 10 ^ 60):SideG ya (.of x [.any ya]) (.num n):=by
  refine ⟨⟨rfl,?_,?_,?_,?_⟩,?_,by rw [T.Ok];exact ⟨h1,h2⟩,?_,?_,?_,_,_,_,rfl,.inl rfl⟩ <;> simp [T.parts,T.partss,T.depth,T.deepest,T.Ok,T.Oks,knF,knFs,raw,raws,ha,hx]
theorem side_nn {ya x y:Str} (hx:IsW x) (hy:IsW y):SideG ya (.of x [.name y]) (.of "plus" [.name y,.num 1]):=by
  refine ⟨⟨rfl,?_,?_,?_,?_⟩,?_,?_,?_,?_,?_,_,_,_,rfl,.inr ⟨_,rfl⟩⟩ <;> simp [T.parts,T.partss,T.depth,T.deepest,T.Ok,T.Oks,knF,knFs,raw,raws,hx,hy,w_plus]
theorem side_abc {ya yb yc:Str} (ha:IsW ya) (hb:IsW yb) (hc:IsW yc):SideG ya (.of "times" [.any ya,.of "plus" [.any yb,.any yc]]) (.of "plus" [.of "times" [.any ya,.any yb],.of "times" [.any ya,.any yc]]):=by
  refine ⟨⟨rfl,?_,?_,?_,?_⟩,?_,?_,?_,?_,?_,_,_,_,rfl,.inl rfl⟩ <;> simp [T.parts,T.partss,T.depth,T.deepest,T.Ok,T.Oks,knF,knFs,raw,raws,ha,hb,hc,w_plus,w_times]
theorem side_awb {ya yb x:Str} (ha:IsW ya) (hb:IsW yb) (hx:IsW x):SideG ya (.of "plus" [.any ya,.of x [.any yb]]) (.of "plus" [.any yb,.any ya]):=by
  refine ⟨⟨rfl,?_,?_,?_,?_⟩,?_,?_,?_,?_,?_,_,_,_,rfl,.inl rfl⟩ <;> simp [T.parts,T.partss,T.depth,T.deepest,T.Ok,T.Oks,knF,knFs,raw,raws,ha,hb,hx,w_plus]
theorem side_bna {ya yb x y:Str} (ha:IsW ya) (hb:IsW yb) (hx:IsW x) (hy:IsW y):SideG ya (.of x [.any ya,.any yb]) (.of x [.any yb,.name y,.any ya]):=by
  refine ⟨⟨rfl,?_,?_,?_,?_⟩,?_,?_,?_,?_,?_,_,_,_,rfl,.inl rfl⟩ <;> simp [T.parts,T.partss,T.depth,T.deepest,T.Ok,T.Oks,knF,knFs,raw,raws,ha,hb,hx,hy]
inductive SpSides (K:PySem.W.Frag) (vs:List V) (H:Hp) (Q:VK):Prop
  | mk (a:Addr) (ns:List Int) (c:Int) (ev:vs = [.ref a,.int c]) (hS:SqL K H a (ns.map V.int)) (q:∀ p vl vr l r H',Same H H'→H' p=some (.tup [vl,vr])→IsTr H' l vl→IsTr H' r vr→SideG (wordX (seed ns) 20) l r→Q (.ref p) H'):SpSides K vs H Q
noncomputable def spSides (K:PySem.W.Frag):Sp:=fun vs H Q _=>SpSides K vs H Q
theorem ok_sides (h_draw:Has P w K mg base 1 "_law_draw" ["_law_cell", "_law_factor", "_law_many"] spDraw) (h_word:Has P w K mg base 2 "_law_word" ["_law_script", "_law_which"] (spWordX K)) (D:Def K mg "_law_sides" s_sides ["_law_script", "_law_cell"]):Has P w K mg base 3 "_law_sides" ["_law_script", "_law_cell"] (spSides K):=by
  refine D.has sc_sides (fun vs H Q E h => ?_) (fun f cdv A outer s H vs Q E hr h => ?_)
  · obtain ⟨a,ns,c,rfl,_⟩:=h;rfl
  obtain ⟨a,ns,c,rfl,hS,q⟩:=h
  refine ⟨_,(pss_cons (ps_set (i:=2) sc_sides.nd rfl (Or.inl rfl) (pe_tup (pa_cons pe_str (pa_cons (pe_callH h_word hr (by omega) rfl (pa_cons (pv 0) (pa_cons pe_int pa_nil))) pa_nil))))
    (pss_cons (ps_set (i:=3) sc_sides.nd rfl (Or.inl rfl) (pe_tup (pa_cons pe_str (pa_cons (pe_callH h_word hr (by omega) rfl (pa_cons (pv 0) (pa_cons pe_int pa_nil))) pa_nil))))
    (pss_cons (ps_set (i:=4) sc_sides.nd rfl (Or.inl rfl) (pe_tup (pa_cons pe_str (pa_cons (pe_callH h_word hr (by omega) rfl (pa_cons (pv 0) (pa_cons pe_int pa_nil))) pa_nil))))
    (pss_cons (ps_set (i:=5) sc_sides.nd rfl (Or.inl rfl) (pe_callH h_word hr (by omega) rfl (pa_cons (pv 0) (pa_cons (pe_callH h_draw hr (by omega) rfl (pa_cons (pv 1) (pa_cons pe_int (pa_cons pe_int pa_nil)))) pa_nil))))
    (pss_cons (ps_set (i:=6) sc_sides.nd rfl (Or.inl rfl) (pe_callH h_draw hr (by omega) rfl (pa_cons (pv 1) (pa_cons pe_int (pa_cons pe_int pa_nil)))))
    (pss_cons (ps_if (pt_cmpR op_eq (pv 6) pe_int (nomark _)) (pss_cons (ps_set (i:=7) sc_sides.nd rfl (Or.inl rfl) (pe_tup (pa_cons pe_str (pa_cons (pe_callH h_word hr (by omega) rfl (pa_cons (pv 0) (pa_cons (pe_callH h_draw hr (by omega) rfl (pa_cons (pv 1) (pa_cons pe_int (pa_cons pe_int pa_nil)))) pa_nil))) pa_nil))))
    (pss_one (ps_ret (pe_tup (pa_cons (pe_tup (pa_cons pe_str (pa_cons (pv 5) (pa_cons (pe_tup (pa_cons (pv 7) pa_nil)) pa_nil)))) (pa_cons (pe_tup (pa_cons pe_str (pa_cons pe_str (pa_cons (pe_tup (pa_cons (pv 7) (pa_cons (pe_tup (pa_cons pe_str (pa_cons pe_int pa_nil))) pa_nil))) pa_nil)))) pa_nil)))))) pss_nil)
    (pss_cons (ps_if (pt_cmpR op_eq (pv 6) pe_int (nomark _)) (pss_one (ps_ret (pe_tup (pa_cons (pe_tup (pa_cons pe_str (pa_cons pe_str (pa_cons (pe_tup (pa_cons (pv 2) (pa_cons (pv 3) pa_nil))) pa_nil)))) (pa_cons (pe_tup (pa_cons pe_str (pa_cons pe_str (pa_cons (pe_tup (pa_cons (pv 3) (pa_cons (pv 2) pa_nil))) pa_nil)))) pa_nil))))) pss_nil)
    (pss_cons (ps_if (pt_cmpR op_eq (pv 6) pe_int (nomark _)) (pss_one (ps_ret (pe_tup (pa_cons (pe_tup (pa_cons pe_str (pa_cons pe_str (pa_cons (pe_tup (pa_cons (pv 2) pa_nil)) pa_nil)))) (pa_cons (pe_tup (pa_cons pe_str (pa_cons (pv 5) (pa_cons (pe_tup (pa_cons (pv 2) pa_nil)) pa_nil)))) pa_nil))))) pss_nil)
    (pss_cons (ps_if (pt_cmpR op_eq (pv 6) pe_int (nomark _)) (pss_one (ps_ret (pe_tup (pa_cons (pe_tup (pa_cons pe_str (pa_cons pe_str (pa_cons (pe_tup (pa_cons (pv 2) (pa_cons (pv 3) pa_nil))) pa_nil)))) (pa_cons (pe_tup (pa_cons pe_str (pa_cons pe_str (pa_cons (pe_tup (pa_cons (pv 3) (pa_cons (pv 2) pa_nil))) pa_nil)))) pa_nil))))) pss_nil)
    (pss_cons (ps_if (pt_cmpR op_eq (pv 6) pe_int (nomark _)) (pss_one (ps_ret (pe_tup (pa_cons (pe_tup (pa_cons pe_str (pa_cons pe_str (pa_cons (pe_tup (pa_cons (pv 2) (pa_cons (pe_tup (pa_cons pe_str (pa_cons pe_str (pa_cons (pe_tup (pa_cons (pv 3) (pa_cons (pv 4) pa_nil))) pa_nil)))) pa_nil))) pa_nil)))) (pa_cons (pe_tup (pa_cons pe_str (pa_cons pe_str (pa_cons (pe_tup (pa_cons (pe_tup (pa_cons pe_str (pa_cons pe_str (pa_cons (pe_tup (pa_cons (pv 2) (pa_cons (pv 3) pa_nil))) pa_nil)))) (pa_cons (pe_tup (pa_cons pe_str (pa_cons pe_str (pa_cons (pe_tup (pa_cons (pv 2) (pa_cons (pv 4) pa_nil))) pa_nil)))) pa_nil))) pa_nil)))) pa_nil))))) pss_nil)
    (pss_cons (ps_if (pt_cmpR op_eq (pv 6) pe_int (nomark _)) (pss_one (ps_ret (pe_tup (pa_cons (pe_tup (pa_cons pe_str (pa_cons (pv 5) (pa_cons (pe_tup (pa_cons (pv 2) pa_nil)) pa_nil)))) (pa_cons (pv 2) pa_nil))))) pss_nil)
    (pss_cons (ps_if (pt_cmpR op_eq (pv 6) pe_int (nomark _)) (pss_one (ps_ret (pe_tup (pa_cons (pe_tup (pa_cons pe_str (pa_cons pe_str (pa_cons (pe_tup (pa_cons (pv 2) (pa_cons (pe_tup (pa_cons pe_str (pa_cons (pv 5) (pa_cons (pe_tup (pa_cons (pv 3) pa_nil)) pa_nil)))) pa_nil))) pa_nil)))) (pa_cons (pe_tup (pa_cons pe_str (pa_cons pe_str (pa_cons (pe_tup (pa_cons (pv 3) (pa_cons (pv 2) pa_nil))) pa_nil)))) pa_nil))))) pss_nil)
    (pss_cons (ps_if (pt_cmpR op_eq (pv 6) pe_int (nomark _)) (pss_one (ps_ret (pe_tup (pa_cons (pe_tup (pa_cons pe_str (pa_cons (pv 5) (pa_cons (pe_tup (pa_cons (pv 2) pa_nil)) pa_nil)))) (pa_cons (pe_tup (pa_cons pe_str (pa_cons (pe_op op_sub (pe_callH h_draw hr (by omega) rfl (pa_cons (pv 1) (pa_cons pe_int (pa_cons pe_int pa_nil)))) pe_int) pa_nil))) pa_nil))))) pss_nil)
    (pss_one (ps_ret (pe_tup (pa_cons (pe_tup (pa_cons pe_str (pa_cons (pv 5) (pa_cons (pe_tup (pa_cons (pv 2) (pa_cons (pv 3) pa_nil))) pa_nil)))) (pa_cons (pe_tup (pa_cons pe_str (pa_cons (pv 5) (pa_cons (pe_tup (pa_cons (pv 3) (pa_cons (pe_tup (pa_cons pe_str (pa_cons (pe_callH h_word hr (by omega) rfl (pa_cons (pv 0) (pa_cons pe_int pa_nil))) pa_nil))) (pa_cons (pv 2) pa_nil)))) pa_nil)))) pa_nil)))))))))))))))))),?_⟩
  try dsimp only [cxOf]
  have fin:∀ (l r:T) (vl vr:V) (H5:Hp),Same H H5→IsTr H5 l vl→IsTr H5 r vr→SideG (wordX (seed ns) 20) l r→∀ p,H5 p=none→Q (.ref p) (upd H5 p (.tup [vl,vr])):=fun l r vl vr H5 s5 hl hr' g p hp =>
    q p vl vr l r _ (s5.trans (same_new hp _)) upd_same (tr_same (same_new hp _) hl) (tr_same (same_new hp _) hr') g
  have wa:=wordX_ok (seed ns) 20
  have wb:=wordX_ok (seed ns) 21
  have wc:=wordX_ok (seed ns) 22
  refine ⟨_,rfl,a,ns,20,rfl,hS,(show 2≤sizeLine by decide),fun pa ha => ?_⟩
  dsimp only [gName]
  have s1:=same_new ha (.tup [.str "any",.str (wordX (seed ns) 20)])
  have ta:IsTr (upd H pa (.tup [.str "any",.str (wordX (seed ns) 20)])) (.any (wordX (seed ns) 20)) (.ref pa):=by rw [IsTr];exact ⟨pa,rfl,upd_same⟩
  generalize upd H pa (.tup [.str "any",.str (wordX (seed ns) 20)])=H1 at s1 ta ⊢
  refine ⟨_,rfl,a,ns,21,rfl,s1.seq hS,(show 2≤sizeLine by decide),fun pb hb => ?_⟩
  dsimp only [gName]
  have s2:=same_new hb (.tup [.str "any",.str (wordX (seed ns) 21)])
  have tb:IsTr (upd H1 pb (.tup [.str "any",.str (wordX (seed ns) 21)])) (.any (wordX (seed ns) 21)) (.ref pb):=by rw [IsTr];exact ⟨pb,rfl,upd_same⟩
  generalize upd H1 pb (.tup [.str "any",.str (wordX (seed ns) 21)])=H2 at s2 tb ⊢
  refine ⟨_,rfl,a,ns,22,rfl,(s1.trans s2).seq hS,(show 2≤sizeLine by decide),fun pc hc => ?_⟩
  dsimp only [gName]
  have s3:=same_new hc (.tup [.str "any",.str (wordX (seed ns) 22)])
  have tc:IsTr (upd H2 pc (.tup [.str "any",.str (wordX (seed ns) 22)])) (.any (wordX (seed ns) 22)) (.ref pc):=by rw [IsTr];exact ⟨pc,rfl,upd_same⟩
  generalize upd H2 pc (.tup [.str "any",.str (wordX (seed ns) 22)])=H3 at s3 tc ⊢
  have g3:=s1.trans (s2.trans s3)
  have ta3:=tr_same (s2.trans s3) ta
  have tb3:=tr_same s3 tb
  have ta':∀ {H5:Hp},Same H3 H5→IsTr H5 (.any (wordX (seed ns) 20)) (.ref pa):=fun s=>tr_same s ta3
  have tb':∀ {H5:Hp},Same H3 H5→IsTr H5 (.any (wordX (seed ns) 21)) (.ref pb):=fun s=>tr_same s tb3
  have tc':∀ {H5:Hp},Same H3 H5→IsTr H5 (.any (wordX (seed ns) 22)) (.ref pc):=fun s=>tr_same s tc
  refine ⟨_,rfl,_,rfl,c,_,_,rfl,by decide,by decide,by decide,fun u u0 u1=>⟨a,ns,u,rfl,g3.seq hS,?_⟩⟩
  have wx:=wordX_ok (seed ns) u
  generalize wordX (seed ns) u=x at wx
  dsimp only [gName]
  refine ⟨_,rfl,c,_,_,rfl,by decide,by decide,by decide,fun k k0 k1 => ?_⟩
  dsimp only [gName]
  -- 8
  refine ⟨_,rfl,rfl,_,rfl,iteD (fun _ => ?_) (fun _ => ?_)⟩
  · refine ⟨_,rfl,_,rfl,c,_,_,rfl,by decide,by decide,by decide,fun u2 _ _=>⟨a,ns,u2,rfl,g3.seq hS,(show 2≤sizeLine by decide),fun pn hn => ?_⟩⟩
    have wy:=wordX_ok (seed ns) u2
    generalize wordX (seed ns) u2=y at wy hn ⊢
    dsimp only [gName]
    have s4:=same_new hn (.tup [.str "name",.str y])
    have tn:IsTr (upd H3 pn (.tup [.str "name",.str y])) (.name y) (.ref pn):=by rw [IsTr];exact ⟨pn,rfl,upd_same⟩
    refine ⟨_,rfl,_,rfl,(show 1≤sizeLine by decide),fun b1 hb1=>⟨(show 3≤sizeLine by decide),fun p1 hp1=>⟨_,rfl,(show 2≤sizeLine by decide),fun n1 hn1=>⟨(show 2≤sizeLine by decide),fun b2 hb2=>⟨(show 3≤sizeLine by decide),fun p2 hp2=>⟨(show 2≤sizeLine by decide),fun p hp => ?_⟩⟩⟩⟩⟩⟩
    obtain ⟨m1,t1⟩:=mk_of (x:=x) hb1 (trs_cons tn trs_nil) hp1
    have m2:=same_new hn1 (.tup [.str "num",.int 1])
    obtain ⟨m3,t3⟩:=mk_of (x := "plus") (ts := [.name y,.num 1]) hb2 (trs_cons (tr_same (m1.trans m2) tn) (trs_cons (by rw [IsTr];exact ⟨n1,rfl,upd_same⟩) trs_nil)) hp2
    exact fin _ _ _ _ _ (g3.trans (s4.trans (m1.trans (m2.trans m3)))) (tr_same (m2.trans m3) t1) t3 (side_nn wx wy) p hp
  -- 0
  refine ⟨_,rfl,rfl,_,rfl,iteD (fun _ => ?_) (fun _ => ?_)⟩
  · refine ⟨_,rfl,_,rfl,(show 2≤sizeLine by decide),fun b1 hb1=>⟨(show 3≤sizeLine by decide),fun p1 hp1=>⟨_,rfl,_,rfl,(show 2≤sizeLine by decide),fun b2 hb2=>⟨(show 3≤sizeLine by decide),fun p2 hp2=>⟨(show 2≤sizeLine by decide),fun p hp => ?_⟩⟩⟩⟩⟩
    obtain ⟨m1,t1⟩:=mk_of (x := "plus") hb1 (trs_cons (ta' (Same.refl _)) (trs_cons (tb' (Same.refl _)) trs_nil)) hp1
    obtain ⟨m3,t3⟩:=mk_of (x := "plus") hb2 (trs_cons (tb' m1) (trs_cons (ta' m1) trs_nil)) hp2
    exact fin _ _ _ _ _ (g3.trans (m1.trans m3)) (tr_same m3 t1) t3 (side_ab wa wb w_plus w_plus) p hp
  -- 1
  refine ⟨_,rfl,rfl,_,rfl,iteD (fun _ => ?_) (fun _ => ?_)⟩
  · refine ⟨_,rfl,(show 1≤sizeLine by decide),fun b1 hb1=>⟨(show 3≤sizeLine by decide),fun p1 hp1=>⟨_,rfl,_,rfl,(show 1≤sizeLine by decide),fun b2 hb2=>⟨(show 3≤sizeLine by decide),fun p2 hp2=>⟨(show 2≤sizeLine by decide),fun p hp => ?_⟩⟩⟩⟩⟩
    obtain ⟨m1,t1⟩:=mk_of (x := "neg") hb1 (trs_cons (ta' (Same.refl _)) trs_nil) hp1
    obtain ⟨m3,t3⟩:=mk_of (x:=x) hb2 (trs_cons (ta' m1) trs_nil) hp2
    exact fin _ _ _ _ _ (g3.trans (m1.trans m3)) (tr_same m3 t1) t3 (side_a wa isW_neg wx) p hp
  -- 2
  refine ⟨_,rfl,rfl,_,rfl,iteD (fun _ => ?_) (fun _ => ?_)⟩
  · refine ⟨_,rfl,_,rfl,(show 2≤sizeLine by decide),fun b1 hb1=>⟨(show 3≤sizeLine by decide),fun p1 hp1=>⟨_,rfl,_,rfl,(show 2≤sizeLine by decide),fun b2 hb2=>⟨(show 3≤sizeLine by decide),fun p2 hp2=>⟨(show 2≤sizeLine by decide),fun p hp => ?_⟩⟩⟩⟩⟩
    obtain ⟨m1,t1⟩:=mk_of (x := "times") hb1 (trs_cons (ta' (Same.refl _)) (trs_cons (tb' (Same.refl _)) trs_nil)) hp1
    obtain ⟨m3,t3⟩:=mk_of (x := "times") hb2 (trs_cons (tb' m1) (trs_cons (ta' m1) trs_nil)) hp2
    exact fin _ _ _ _ _ (g3.trans (m1.trans m3)) (tr_same m3 t1) t3 (side_ab wa wb w_times w_times) p hp
  -- 3
  refine ⟨_,rfl,rfl,_,rfl,iteD (fun _ => ?_) (fun _ => ?_)⟩
  · refine ⟨_,rfl,_,rfl,_,rfl,(show 2≤sizeLine by decide),fun b1 hb1=>⟨(show 3≤sizeLine by decide),fun p1 hp1=>⟨(show 2≤sizeLine by decide),fun b2 hb2=>⟨(show 3≤sizeLine by decide),fun p2 hp2=>⟨_,rfl,_,rfl,(show 2≤sizeLine by decide),fun b3 hb3=>⟨(show 3≤sizeLine by decide),fun p3 hp3=>⟨_,rfl,_,rfl,(show 2≤sizeLine by decide),fun b4 hb4=>⟨(show 3≤sizeLine by decide),fun p4 hp4=>⟨(show 2≤sizeLine by decide),fun b5 hb5=>⟨(show 3≤sizeLine by decide),fun p5 hp5=>⟨(show 2≤sizeLine by decide),fun p hp => ?_⟩⟩⟩⟩⟩⟩⟩⟩⟩⟩⟩
    obtain ⟨m1,t1⟩:=mk_of (x := "plus") hb1 (trs_cons (tb' (Same.refl _)) (trs_cons (tc' (Same.refl _)) trs_nil)) hp1
    obtain ⟨m2,t2⟩:=mk_of (x := "times") hb2 (trs_cons (ta' m1) (trs_cons t1 trs_nil)) hp2
    have n2:=m1.trans m2
    obtain ⟨m3,t3⟩:=mk_of (x := "times") hb3 (trs_cons (ta' n2) (trs_cons (tb' n2) trs_nil)) hp3
    have n3:=n2.trans m3
    obtain ⟨m4,t4⟩:=mk_of (x := "times") hb4 (trs_cons (ta' n3) (trs_cons (tc' n3) trs_nil)) hp4
    obtain ⟨m5,t5⟩:=mk_of (x := "plus") hb5 (trs_cons (tr_same m4 t3) (trs_cons t4 trs_nil)) hp5
    exact fin _ _ _ _ _ (g3.trans (n3.trans (m4.trans m5))) (tr_same (m3.trans (m4.trans m5)) t2) t5 (side_abc wa wb wc) p hp
  -- 4
  refine ⟨_,rfl,rfl,_,rfl,iteD (fun _ => ?_) (fun _ => ?_)⟩
  · refine ⟨_,rfl,_,rfl,(show 1≤sizeLine by decide),fun b1 hb1=>⟨(show 3≤sizeLine by decide),fun p1 hp1=>⟨_,rfl,(show 2≤sizeLine by decide),fun p hp => ?_⟩⟩⟩
    obtain ⟨m1,t1⟩:=mk_of (x:=x) hb1 (trs_cons (ta' (Same.refl _)) trs_nil) hp1
    exact fin _ _ _ _ _ (g3.trans m1) t1 (ta' m1) (side_a0 wa wx) p hp
  -- 5
  refine ⟨_,rfl,rfl,_,rfl,iteD (fun _ => ?_) (fun _ => ?_)⟩
  · refine ⟨_,rfl,_,rfl,_,rfl,(show 1≤sizeLine by decide),fun b1 hb1=>⟨(show 3≤sizeLine by decide),fun p1 hp1=>⟨(show 2≤sizeLine by decide),fun b2 hb2=>⟨(show 3≤sizeLine by decide),fun p2 hp2=>⟨_,rfl,_,rfl,(show 2≤sizeLine by decide),fun b3 hb3=>⟨(show 3≤sizeLine by decide),fun p3 hp3=>⟨(show 2≤sizeLine by decide),fun p hp => ?_⟩⟩⟩⟩⟩⟩⟩
    obtain ⟨m1,t1⟩:=mk_of (x:=x) hb1 (trs_cons (tb' (Same.refl _)) trs_nil) hp1
    obtain ⟨m2,t2⟩:=mk_of (x := "plus") hb2 (trs_cons (ta' m1) (trs_cons t1 trs_nil)) hp2
    have n2:=m1.trans m2
    obtain ⟨m3,t3⟩:=mk_of (x := "plus") hb3 (trs_cons (tb' n2) (trs_cons (ta' n2) trs_nil)) hp3
    exact fin _ _ _ _ _ (g3.trans (n2.trans m3)) (tr_same m3 t2) t3 (side_awb wa wb wx) p hp
  -- 6
  refine ⟨_,rfl,rfl,_,rfl,iteD (fun _ => ?_) (fun _ => ?_)⟩
  · refine ⟨_,rfl,_,rfl,(show 1≤sizeLine by decide),fun b1 hb1=>⟨(show 3≤sizeLine by decide),fun p1 hp1=>⟨_,rfl,c,_,_,rfl,by decide,by decide,by decide,fun u2 v0 v1=>⟨_,_,rfl,rfl,(show 2≤sizeLine by decide),fun n1 hn1=>⟨(show 2≤sizeLine by decide),fun p hp => ?_⟩⟩⟩⟩⟩
    obtain ⟨m1,t1⟩:=mk_of (x:=x) hb1 (trs_cons (ta' (Same.refl _)) trs_nil) hp1
    have m2:=same_new hn1 (.tup [.str "num",.int (u2 - 2)])
    exact fin _ _ _ _ _ (g3.trans (m1.trans m2)) (tr_same m2 t1) (by rw [IsTr];exact ⟨n1,rfl,upd_same⟩) (side_an wa wx (by omega) (by omega)) p hp
  -- else
  refine ⟨_,rfl,_,rfl,_,rfl,(show 2≤sizeLine by decide),fun b1 hb1=>⟨(show 3≤sizeLine by decide),fun p1 hp1=>⟨_,rfl,_,rfl,_,rfl,a,ns,1,rfl,?_,(show 2≤sizeLine by decide),fun n1 hn1=>⟨_,rfl,(show 3≤sizeLine by decide),fun b2 hb2=>⟨(show 3≤sizeLine by decide),fun p2 hp2=>⟨(show 2≤sizeLine by decide),fun p hp => ?_⟩⟩⟩⟩⟩⟩
  · exact (g3.trans ((same_new hb1 _).trans (same_new hp1 _))).seq hS
  obtain ⟨m1,t1⟩:=mk_of (x:=x) hb1 (trs_cons (ta' (Same.refl _)) (trs_cons (tb' (Same.refl _)) trs_nil)) hp1
  have m2:=same_new hn1 (.tup [.str "name",.str (wordX (seed ns) 1)])
  have n2:=m1.trans m2
  obtain ⟨m3,t3⟩:=mk_of (x:=x) (ts := [.any (wordX (seed ns) 21),.name (wordX (seed ns) 1),.any (wordX (seed ns) 20)]) hb2 (trs_cons (tb' n2) (trs_cons (by rw [IsTr];exact ⟨n1,rfl,upd_same⟩) (trs_cons (ta' n2) trs_nil))) hp2
  exact fin _ _ _ _ _ (g3.trans (n2.trans m3)) (tr_same (m2.trans m3) t1) t3 (side_bna wa wb wx (wordX_ok _ _)) p hp
end

end K71
namespace K71
open PySem L2 Sw
section
variable {P:Program} {w:World} {K:PySem.W.Frag} {mg:Str→Option Value} {base:Heap}
noncomputable def AskV:Ask→Prop
  | .free _ z=>IsW z
  | .sign _ m=>1≤m∧m≤7
  | .num _=>True
inductive SpAsksT (K:PySem.W.Frag) (vs:List V) (H:Hp) (Q:VK):Prop
  | mk (a:Addr) (ns:List Int) (c:Int) (ev:vs = [.ref a,.int c]) (hS:SqL K H a (ns.map V.int)) (q:∀ A avs as H',Same H H'→H A=none→H' A=some (.lst avs)→Paired (AskAt H') avs as→(∀ k∈as,k.hole=wordX (seed ns) 20∧AskV k)→as.length≤3→Q (.ref A) H'):SpAsksT K vs H Q
noncomputable def spAsksT (K:PySem.W.Frag):Sp:=fun vs H Q _=>SpAsksT K vs H Q
inductive AqI (H:Hp) (A:Addr) (y:Str) (st:St) (n:Nat) (σ : St) (H':Hp):Prop
  | mk (avs:List V) (as:List Ask) (e : σ = st) (sm:Same H H') (hA:H' A=some (.lst avs)) (hp:Paired (AskAt H') avs as) (ok:∀ k∈as,k.hole=y∧AskV k) (len:as.length≤n):AqI H A y st n σ H'
theorem aq_more {H H' H'':Hp} {A:Addr} {y:Str} {st:St} {n:Nat} {avs:List V} {as:List Ask} {v:V} {k:Ask} (hA0:H A=none) (sm:Same H H') (hA:H' A=some (.lst avs)) (hp:Paired (AskAt H') avs as) (ok:∀ k∈as,k.hole=y∧AskV k) (len:as.length≤n) (s2:Same H' H'') (hv:AskAt H'' v k) (hk:k.hole=y∧AskV k):AqI H A y st (n+1) st (upd H'' A (.lst (avs ++ [v]))):=by
  have hA2:=s2 _ _ hA
  have kp:=keep_put (o' := .lst (avs ++ [v])) hA2 trivial
  refine AqI.mk (avs ++ [v]) (as ++ [k]) rfl ((sm.trans s2).put hA0) upd_same (Paired.snoc (Paired.mapP hp fun _ _ z=>(z.keep fun b ys=>s2 _ _).keep kp) (hv.keep kp)) (fun u hu => ?_) (by rw [List.length_append];exact Nat.succ_le_succ len)
  rcases List.mem_append.mp hu with z | z
  · exact ok u z
  · rw [List.mem_singleton.mp z];exact hk
theorem ok_asks (B:Blt mg) (h_draw:Has P w K mg base 1 "_law_draw" ["_law_cell", "_law_factor", "_law_many"] spDraw) (h_word:Has P w K mg base 2 "_law_word" ["_law_script", "_law_which"] (spWordX K)) (D:Def K mg "_law_asks" s_asks ["_law_script", "_law_cell"]):Has P w K mg base 3 "_law_asks" ["_law_script", "_law_cell"] (spAsksT K):=by
  refine D.has sc_asks (fun vs H Q E h => ?_) (fun f cdv A outer s H vs Q E hr h => ?_)
  · obtain ⟨a,ns,c,rfl,_⟩:=h;rfl
  obtain ⟨a,ns,c,rfl,hS,q⟩:=h
  refine ⟨_,(pss_cons (ps_set (i:=2) sc_asks.nd rfl (Or.inl rfl) (pe_callH h_word hr (by omega) rfl (pa_cons (pv 0) (pa_cons pe_int pa_nil))))
    (pss_cons (ps_set (i:=3) sc_asks.nd rfl (Or.inl rfl) (pe_callH h_draw hr (by omega) rfl (pa_cons (pv 1) (pa_cons pe_int (pa_cons pe_int pa_nil)))))
    (pss_cons (ps_set (i:=4) sc_asks.nd rfl (Or.inl rfl) (pe_lst pa_nil))
    (pss_cons (ps_if (PW.pt (pw_and (pt_cmpR op_eq (pe_op op_mod (pv 3) pe_int) pe_int (nomark _)) (pw_and1 (pt_cmpR op_lt (pv 3) pe_int (nomark _))))) (pss_one (ps_expr (pe_bm PySem.F.plainAttrs_list PySem.F.slot_list_append PySem.F.type_list_append mt_append (pv 4) (pa_cons (pe_tup (pa_cons pe_str (pa_cons (pv 2) (pa_cons (pe_callH h_word hr (by omega) rfl (pa_cons (pv 0) (pa_cons (pe_callH h_draw hr (by omega) rfl (pa_cons (pv 1) (pa_cons pe_int (pa_cons pe_int pa_nil)))) pa_nil))) pa_nil)))) pa_nil)))) pss_nil)
    (pss_cons (ps_if (PW.pt (pw_or (pt_cmpR op_eq (pv 3) pe_int (nomark _)) (pw_or (pt_cmpR op_eq (pv 3) pe_int (nomark _)) (pw_or1 (pt_cmpR op_eq (pv 3) pe_int (nomark _)))))) (pss_one (ps_expr (pe_bm PySem.F.plainAttrs_list PySem.F.slot_list_append PySem.F.type_list_append mt_append (pv 4) (pa_cons (pe_tup (pa_cons pe_str (pa_cons (pv 2) (pa_cons (pe_op op_add pe_int (pe_callH h_draw hr (by omega) rfl (pa_cons (pv 1) (pa_cons pe_int (pa_cons pe_int pa_nil))))) pa_nil)))) pa_nil)))) pss_nil)
    (pss_cons (ps_if (pt_cmpR op_eq (pv 3) pe_int (nomark _)) (pss_one (ps_expr (pe_bm PySem.F.plainAttrs_list PySem.F.slot_list_append PySem.F.type_list_append mt_append (pv 4) (pa_cons (pe_tup (pa_cons pe_str (pa_cons (pv 2) pa_nil))) pa_nil)))) pss_nil)
    (pss_one (ps_ret (pv 4))))))))),?_⟩
  try dsimp only [cxOf]
  refine ⟨_,rfl,a,ns,20,rfl,hS,?_⟩
  have wy:=wordX_ok (seed ns) 20
  generalize wordX (seed ns) 20=y at wy q ⊢
  dsimp only [gName]
  refine ⟨_,rfl,c,_,_,rfl,by decide,by decide,by decide,fun k k0 k1 => ?_⟩
  dsimp only [gName]
  refine ⟨Nat.zero_le _,fun A1 hA0 => ?_⟩
  dsimp only [gName]
  have s1:=same_new hA0 (.lst [])
  have hA1:=upd_same (H:=H) (a:=A1) (o := .lst [])
  generalize upd H A1 (.lst [])=H1 at s1 hA1 ⊢
  refine rd_cut (AqI H A1 y [some (.ref a),some (.int c),some (.str y),some (.int k),some (.ref A1)] 1) ?_ (fun key => ?_)
  rotate_left
  · have no:AqI H A1 y [some (.ref a),some (.int c),some (.str y),some (.int k),some (.ref A1)] 1 [some (.ref a),some (.int c),some (.str y),some (.int k),some (.ref A1)] H1:=AqI.mk [] [] rfl s1 hA1 .nil (fun u hu=>nomatch hu) (Nat.zero_le _)
    refine rd_if2 (fun _ Hc=>Hc=H1) (fun Qc qc=>⟨_,rfl,_,_,rfl,rfl,pos',rfl,_,rfl,iteD (fun _=>⟨_,rfl,_,_,rfl,rfl,_,rfl,qc _ _ rfl⟩) (fun _=>qc _ _ rfl)⟩) (fun Hc h => ?_) (fun Hc h=>by subst h;exact key _ _ no)
    subst h
    refine ⟨_,rfl,.inl ⟨rfl,_,SqL.of hA1⟩,_,rfl,_,rfl,_,rfl,c,_,_,rfl,by decide,by decide,by decide,fun u _ _=>⟨a,ns,u,rfl,s1.seq hS,(show 3≤sizeLine by decide),fun p hp => ?_⟩⟩
    have g:=same_new hp (.tup [.str "free",.str y,.str (wordX (seed ns) u)])
    exact ⟨A1, [],.ref p,rfl,rfl,g _ _ hA1,(by decide),key _ _ (aq_more (n:=0) (k := .free y (wordX (seed ns) u)) hA0 s1 hA1 .nil (fun u hu=>nomatch hu) (Nat.le_refl _) g ⟨p,rfl,upd_same⟩ ⟨rfl,wordX_ok _ _⟩)⟩
  rintro σ' H2 ⟨avs,as,rfl,s2,hA2,hp2,ok2,l2⟩
  have hal2:=Paired.length hp2
  refine rd_cut (AqI H A1 y [some (.ref a),some (.int c),some (.str y),some (.int k),some (.ref A1)] 2) ?_ (fun key => ?_)
  rotate_left
  · refine rd_if2 (fun _ Hc=>Hc=H2) (fun Qc qc=>⟨_,rfl,rfl,_,rfl,iteD (fun _=>qc _ _ rfl) (fun _=>⟨_,rfl,rfl,_,rfl,iteD (fun _=>qc _ _ rfl) (fun _=>⟨_,rfl,rfl,_,rfl,qc _ _ rfl⟩)⟩)⟩) (fun Hc h => ?_) (fun Hc h=>by subst h;exact key _ _ (AqI.mk avs as rfl s2 hA2 hp2 ok2 (by omega)))
    subst h
    refine ⟨_,rfl,.inl ⟨rfl,_,SqL.of hA2⟩,_,rfl,_,rfl,c,_,_,rfl,by decide,by decide,by decide,fun u u0 u1=>⟨_,_,rfl,rfl,(show 3≤sizeLine by decide),fun p hp => ?_⟩⟩
    have g:=same_new hp (.tup [.str "sign",.str y,.int (1+u)])
    exact ⟨A1,avs,.ref p,rfl,rfl,g _ _ hA2,small1000 (by omega),key _ _ (aq_more (n:=1) (k := .sign y (1+u)) hA0 s2 hA2 hp2 ok2 l2 g ⟨p,rfl,upd_same⟩ ⟨rfl,by omega,by omega⟩)⟩
  clear hal2 l2 ok2 hp2 hA2 s2
  rintro σ' H3 ⟨avs,as,rfl,s3,hA3,hp3,ok3,l3⟩
  have hal3:=Paired.length hp3
  refine rd_cut (AqI H A1 y [some (.ref a),some (.int c),some (.str y),some (.int k),some (.ref A1)] 3) ?_ (fun key => ?_)
  rotate_left
  · refine ⟨_,rfl,rfl,_,rfl,iteD (fun _ => ?_) (fun _=>key _ _ (AqI.mk avs as rfl s3 hA3 hp3 ok3 (by omega)))⟩
    refine ⟨_,rfl,.inl ⟨rfl,_,SqL.of hA3⟩,_,rfl,(show 2≤sizeLine by decide),fun p hp => ?_⟩
    have g:=same_new hp (.tup [.str "number",.str y])
    exact ⟨A1,avs,.ref p,rfl,rfl,g _ _ hA3,small1000 (by omega),key _ _ (aq_more (n:=2) (k := .num y) hA0 s3 hA3 hp3 ok3 l3 g ⟨p,rfl,upd_same⟩ ⟨rfl,trivial⟩)⟩
  rintro σ' H4 ⟨avs,as,rfl,s4,hA4,hp4,ok4,l4⟩
  exact ⟨_,rfl,q A1 avs as H4 s4 hA0 hA4 hp4 ok4 l4⟩
end

end K71
namespace K71
open PySem L2 Sw
section
variable {P:Program} {w:World} {K:PySem.W.Frag} {mg:Str→Option Value} {base:Heap}
inductive SpRuleT (K:PySem.W.Frag) (vs:List V) (H:Hp) (Q:VK):Prop
  | mk (a:Addr) (ns:List Int) (c v:Int) (ev:vs = [.ref a,.int c,.int v]) (hS:SqL K H a (ns.map V.int)) (q:∀ d wt vl vr l r AL avs as H',Same H H'→H AL=none→DueAt H' d (wordX (seed ns) v) wt vl vr l r AL avs as→RuleG (wordX (seed ns) v) wt l r as→Q (.ref d) H'):SpRuleT K vs H Q
noncomputable def spRuleT (K:PySem.W.Frag):Sp:=fun vs H Q _=>SpRuleT K vs H Q
theorem rule_ok {y z:Str} {wt:Int} {l r:T} {as:List Ask} (g:SideG y l r) (hz:IsW z) (w1:1≤wt) (w2:wt≤1000000000000) (few:as.length≤3) (ok:∀ k∈as,k.hole=y∧AskV k) (hy:IsW y) (hin:as = []∨y∈raw l):RuleG z wt l r as:=by
  have hmem:∀ k∈as,k.hole∈note l []:=fun k hk=>by
    rcases hin with rfl | h
    · cases hk
    · rw [(ok k hk).1];exact mem_note.mpr h
  refine ⟨⟨hz,⟨w1,w2⟩,g.pat,by omega,fun k hk => ?_⟩,g.l_,g.r_,g.dl,g.dr,fun k hk=>by rw [(ok k hk).1];exact hy,g.hw⟩
  have h1:=hmem k hk
  have h2:=(ok k hk).2
  cases k with
  | free x u=>exact ⟨h1,h2⟩
  | sign x m=>exact ⟨h1,h2⟩
  | num x=>exact h1
inductive RuC (H:Hp) (pre:V→St) (y:Str) (l:T) (σ : St) (H':Hp):Prop
  | mk (A:Addr) (avs:List V) (as:List Ask) (e : σ = pre (.ref A)) (sm:Same H H') (fr:H A=none) (hA:H' A=some (.lst avs)) (hp:Paired (AskAt H') avs as) (ok:∀ k∈as,k.hole=y∧AskV k) (len:as.length≤3) (hin:as = []∨y∈raw l):RuC H pre y l σ H'
theorem ok_rule (B:Blt mg) (h_word:Has P w K mg base 2 "_law_word" ["_law_script", "_law_which"] (spWordX K)) (h_sides:Has P w K mg base 3 "_law_sides" ["_law_script", "_law_cell"] (spSides K)) (h_asks:Has P w K mg base 3 "_law_asks" ["_law_script", "_law_cell"] (spAsksT K)) (D:Def K mg "_law_rule" s_rule ["_law_script", "_law_cell", "_law_which"]):Has P w K mg base 4 "_law_rule" ["_law_script", "_law_cell", "_law_which"] (spRuleT K):=by
  refine D.has sc_rule (fun vs H Q E h => ?_) (fun f cdv A outer s H vs Q E hr h => ?_)
  · obtain ⟨a,ns,c,v,rfl,_⟩:=h;rfl
  obtain ⟨a,ns,c,v,rfl,hS,q⟩:=h
  refine ⟨_,(pss_cons (ps_set (i:=3) sc_rule.nd rfl (Or.inl rfl) (pe_callH h_sides hr (by omega) rfl (pa_cons (pv 0) (pa_cons (pv 1) pa_nil))))
    (pss_cons (ps_set (i:=4) sc_rule.nd rfl (Or.inl rfl) (pe_callH h_asks hr (by omega) rfl (pa_cons (pv 0) (pa_cons (pv 1) pa_nil))))
    (pss_cons (ps_if (pt_cmpR op_eq (pe_ix ix_tup (pe_ix ix_tup (pe_ix ix_tup (pe_ix ix_tup (pv 3) pe_int (fun _ _=>rfl)) pe_int (fun _ _=>rfl)) pe_int (fun _ _=>rfl)) pe_int (fun _ _=>rfl)) pe_str (nomark _)) (pss_one (ps_set (i:=4) sc_rule.nd rfl (Or.inl rfl) (pe_lst pa_nil))) pss_nil)
    (pss_one (ps_ret (pe_tup (pa_cons (pe_callH h_word hr (by omega) rfl (pa_cons (pv 0) (pa_cons (pv 2) pa_nil))) (pa_cons (pe_op op_add pe_int (pe_op op_mod (pv 1) (pe_op op_pow pe_int pe_int))) (pa_cons (pe_ix ix_tup (pv 3) pe_int (fun _ _=>rfl)) (pa_cons (pe_ix ix_tup (pv 3) pe_int (fun _ _=>rfl)) (pa_cons (pv 4) pa_nil))))))))))),?_⟩
  try dsimp only [cxOf]
  refine ⟨_,rfl,_,rfl,SpSides.mk a ns c rfl hS fun p vl vr l r H1 s1 hp hl hr' g => ?_⟩
  dsimp only [gName]
  refine ⟨_,rfl,_,rfl,SpAsksT.mk a ns c rfl (s1.seq hS) fun A1 avs as H2 s2 frA hA hpa ok few => ?_⟩
  dsimp only [gName]
  have hp2:=s2 _ _ hp
  have hl2:=tr_same s2 hl
  have hl0:=hl
  have wy:=wordX_ok (seed ns) 20
  generalize wordX (seed ns) 20=y at g ok wy
  refine rd_cut (RuC H1 (fun u => [some (.ref a),some (.int c),some (.int v),some (.ref p),some u]) y l) ?_ (fun key => ?_)
  rotate_left
  · obtain ⟨x,t,ts,el,et⟩:=g.first
    rw [el,IsTr] at hl2
    obtain ⟨al,bl,us,rfl,h1,h2,h3⟩:=hl2
    rw [IsTrs] at h3
    obtain ⟨v0,us',rfl,h4,_⟩:=h3
    rcases et with rfl | ⟨z,rfl⟩
    · rw [IsTr] at h4
      obtain ⟨a0,rfl,h5⟩:=h4
      refine ⟨_,rfl,p,_,0,_,rfl,rfl,SqT.of hp2,atI_nat (j:=0) rfl,al,_,2,_,rfl,rfl,SqT.of h1,atI_nat (j:=2) rfl,bl,_,0,_,rfl,rfl,SqT.of h2,atI_nat (j:=0) rfl,a0,_,0,_,rfl,rfl,SqT.of h5,atI_nat (j:=0) rfl,rfl,_,rfl,iteD (fun z=>absurd (V.str.inj z) (by decide)) (fun _ => ?_)⟩
      exact key _ _ (RuC.mk A1 avs as rfl s2 frA hA hpa ok few (.inr (by rw [el,raw,raws,raw];exact List.mem_append_left _ List.mem_cons_self)))
    · rw [IsTr] at h4
      obtain ⟨a0,rfl,h5⟩:=h4
      refine ⟨_,rfl,p,_,0,_,rfl,rfl,SqT.of hp2,atI_nat (j:=0) rfl,al,_,2,_,rfl,rfl,SqT.of h1,atI_nat (j:=2) rfl,bl,_,0,_,rfl,rfl,SqT.of h2,atI_nat (j:=0) rfl,a0,_,0,_,rfl,rfl,SqT.of h5,atI_nat (j:=0) rfl,rfl,_,rfl,iteD (fun _ => ?_) (fun z=>absurd rfl z)⟩
      refine ⟨Nat.zero_le _,fun A2 hA2=>key _ _ (RuC.mk A2 [] [] rfl (s2.trans (same_new hA2 _)) (s2.free hA2) upd_same .nil (fun k hk=>nomatch hk) (Nat.zero_le _) (.inl rfl))⟩
  rintro σ' H3 ⟨A3,avs3,as3,rfl,s3,fr3,hA3,hp3,ok3,few3,hin⟩
  have hpp:=s3 _ _ hp
  have y0:=Int.emod_nonneg c (show (10:Int) ^ (12:Int).toNat≠0 by decide)
  have y1:=Int.emod_lt_of_pos c (show (0:Int) < 10 ^ (12:Int).toNat by decide)
  refine ⟨_,rfl,_,rfl,a,ns,v,rfl,(s1.trans s3).seq hS,_,rfl,10,12,rfl,rfl,⟨by decide,by decide,by decide⟩,_,_,rfl,rfl,(by decide:(0:Int) < 10 ^ (12:Int).toNat),_,_,rfl,rfl,_,rfl,p,_,0,_,rfl,rfl,SqT.of hpp,atI_nat (j:=0) rfl,_,rfl,p,_,1,_,rfl,rfl,SqT.of hpp,atI_nat (j:=1) rfl,_,rfl,(show 5≤sizeLine by decide),fun d hd => ?_⟩
  have eb:(10:Int) ^ (12:Int).toNat=1000000000000:=by decide
  rw [eb] at y0 y1 ⊢
  have g4:=same_new hd (.tup [.str (wordX (seed ns) v),.int (1+c % 1000000000000),vl,vr,.ref A3])
  exact q d _ vl vr l r A3 avs3 as3 _ (s1.trans (s3.trans g4)) (s1.free fr3) ⟨upd_same,tr_same (s3.trans g4) hl0,tr_same (s3.trans g4) hr',g4 _ _ hA3,asks_same g4 hp3⟩ (rule_ok g (wordX_ok _ _) (by omega) (by omega) few3 ok3 wy hin)
end

end K71
namespace K71
open PySem L2 Sw
section
variable {P:Program} {w:World} {K:PySem.W.Frag} {mg:Str→Option Value} {base:Heap}
noncomputable def pw2 (i:Nat):Int:=([1,2,4]:List Int).getD i 1
theorem pw2_at:∀ i:Nat,i < 3→atI [V.int 1,V.int 2,V.int 4] (0+(i:Int))=some (.int (pw2 i)):=fun i hi=>by
  rcases (show i=0∨i=1∨i=2 by omega) with rfl | rfl | rfl <;> rfl
theorem pw2_pos (i:Nat):0 < pw2 i∧pw2 i < 1073741824:=by
  rcases (show i=0∨i=1∨i=2∨3≤i by omega) with rfl | rfl | rfl | h
  · decide
  · decide
  · decide
  · unfold pw2
    rw [List.getD_eq_getElem?_getD,List.getElem?_eq_none (by simpa using h)]
    decide
noncomputable def mt2 (m:Int):Nat→Str
  | 0 => ""
  | i+1=>if m / pw2 i % 2=1 then mt2 m i ++ ⟨#[("-0+" : Str).cps.toList.getD i 0]⟩ else mt2 m i
theorem mt2_ok {m:Int} (h1:1≤m) (h7:m≤7):mt2 m 3=maskS m:=by
  rcases (by omega:m=1∨m=2∨m=3∨m=4∨m=5∨m=6∨m=7) with rfl | rfl | rfl | rfl | rfl | rfl | rfl <;> decide +kernel
theorem mt2_len (m:Int):∀ i,(mt2 m i).length≤i
  | 0=>Nat.zero_le _
  | i+1=>by
    have:=mt2_len m i
    rw [mt2]
    split
    · rw [Str.length_append]
      show (mt2 m i).length+1≤i+1
      omega
    · omega
theorem app_assoc (a b c:Str):a ++ b ++ c=a ++ (b ++ c):=by
  refine str_ext ?_
  simp only [app_cps,List.append_assoc]
theorem app_nil (a:Str):a ++ ("" : Str)=a:=by
  refine str_ext ?_
  rw [app_cps]
  exact List.append_nil _
inductive SpAskText (vs:List V) (H:Hp) (Q:VK):Prop
  | mk (v:V) (a:Ask) (bs:List Str) (ev:vs = [v]) (hv:AskAt H v a) (ok:AskG bs a) (q:∀ H',Same H H'→Q (.str (askS a)) H'):SpAskText vs H Q
noncomputable def spAskText:Sp:=fun vs H Q _=>SpAskText vs H Q
inductive AtI (H:Hp) (v:V) (b:Str) (m:Int) (i:Nat) (σ : St) (H':Hp):Prop
  | mk (x2:Option V) (e : σ = [some v,some (.str (b ++ mt2 m i)),x2]) (sm:Same H H'):AtI H v b m i σ H'
theorem ok_ask_text (B:Blt mg) (D:Def K mg "_law_ask_text" s_ask_text ["_law_ask"]):Has P w K mg base 1 "_law_ask_text" ["_law_ask"] spAskText:=by
  refine D.has sc_ask_text (fun vs H Q E h => ?_) (fun f cdv A outer s H vs Q E hr h => ?_)
  · obtain ⟨v,a,bs,rfl,_⟩:=h;rfl
  obtain ⟨v,a,bs,rfl,hv,ok,q⟩:=h
  refine ⟨_,(pss_cons (ps_set (i:=1) sc_ask_text.nd rfl (Or.inl rfl) (pe_op op_add_str (pe_op op_add_str (pe_ix ix_tup (pv 0) pe_int (fun _ _=>rfl)) pe_str) (pe_ix ix_tup (pv 0) pe_int (fun _ _=>rfl))))
    (pss_cons (ps_if (pt_cmpR op_eq (pe_ix ix_tup (pv 0) pe_int (fun _ _=>rfl)) pe_str (nomark _)) (pss_one (ps_set (i:=1) sc_ask_text.nd rfl (Or.inl rfl) (pe_op op_add_str (pe_op op_add_str (pv 1) pe_str) (pe_ix ix_tup (pv 0) pe_int (fun _ _=>rfl))))) pss_nil)
    (pss_cons (ps_if (pt_cmpR op_eq (pe_ix ix_tup (pv 0) pe_int (fun _ _=>rfl)) pe_str (nomark _)) (pss_cons (ps_set (i:=1) sc_ask_text.nd rfl (Or.inl rfl) (pe_op op_add_str (pv 1) pe_str))
    (pss_one (ps_for PassesOwn.never rfl (pi_range1 rfl B.range_ (pa_cons pe_int pa_nil)) (pg_name (i:=2) sc_ask_text.nd rfl (Or.inl rfl))
    (pss_one (ps_if (pt_cmpR op_eq (pe_op op_mod (pe_op op_fdiv (pe_ix ix_tup (pv 0) pe_int (fun _ _=>rfl)) (pe_ix ix_tup (pe_tup (pa_cons pe_int (pa_cons pe_int (pa_cons pe_int pa_nil)))) (pv 2) (fun _ _=>rfl))) pe_int) pe_int (nomark _)) (pss_one (ps_set (i:=1) sc_ask_text.nd rfl (Or.inl rfl) (pe_op op_add_str (pv 1) (pe_ix ix_str pe_str (pv 2) (fun _ _=>rfl))))) pss_nil))))) pss_nil)
    (pss_one (ps_ret (pv 1)))))),?_⟩
  try dsimp only [cxOf]
  have big:(1000:Nat)≤sizeLine:=by decide
  have w8:=ok.w.2.1
  cases a with
  | free h z =>
    obtain ⟨a,rfl,ha⟩:=hv
    have h8:h.length≤8:=w8
    have z8:=ok.ok.2.2.1
    refine ⟨_,rfl,a,_,0,_,rfl,rfl,SqT.of ha,atI_nat (j:=0) rfl,_,_,rfl,rfl,?_,_,rfl,a,_,1,_,rfl,rfl,SqT.of ha,atI_nat (j:=1) rfl,_,_,rfl,rfl,?_,?_⟩
    · show 4+2≤sizeLine;omega
    · rw [Str.length_append];show 4+2+h.length≤sizeLine;omega
    dsimp only [gName]
    refine rd_cut (fun σ H' => σ = [some (.ref a),some (.str ("free" ++ " ?" ++ h ++ " " ++ z)),none]∧H'=H) ?_ (fun key => ?_)
    rotate_left
    · refine ⟨_,rfl,a,_,0,_,rfl,rfl,SqT.of ha,atI_nat (j:=0) rfl,rfl,_,rfl,iteD (fun _ => ?_) (fun z=>absurd rfl z)⟩
      refine ⟨_,rfl,_,_,rfl,rfl,?_,_,rfl,a,_,2,_,rfl,rfl,SqT.of ha,atI_nat (j:=2) rfl,_,_,rfl,rfl,?_,key _ _ ⟨rfl,rfl⟩⟩
      · rw [Str.length_append,Str.length_append];show 4+2+h.length+1≤sizeLine;omega
      · rw [Str.length_append,Str.length_append,Str.length_append];show 4+2+h.length+1+z.length≤sizeLine;omega
    rintro σ H' ⟨rfl,rfl⟩
    refine ⟨_,rfl,a,_,0,_,rfl,rfl,SqT.of ha,atI_nat (j:=0) rfl,rfl,_,rfl,iteD (fun z=>absurd (V.str.inj z) (by decide)) (fun _=>⟨_,rfl,q _ (Same.refl _)⟩)⟩
  | sign h k =>
    obtain ⟨a,rfl,ha⟩:=hv
    have h8:h.length≤8:=w8
    refine ⟨_,rfl,a,_,0,_,rfl,rfl,SqT.of ha,atI_nat (j:=0) rfl,_,_,rfl,rfl,?_,_,rfl,a,_,1,_,rfl,rfl,SqT.of ha,atI_nat (j:=1) rfl,_,_,rfl,rfl,?_,?_⟩
    · show 4+2≤sizeLine;omega
    · rw [Str.length_append];show 4+2+h.length≤sizeLine;omega
    dsimp only [gName]
    refine ⟨_,rfl,a,_,0,_,rfl,rfl,SqT.of ha,atI_nat (j:=0) rfl,rfl,_,rfl,iteD (fun z=>absurd (V.str.inj z) (by decide)) (fun _ => ?_)⟩
    dsimp only [tNext]
    refine rd_cut (AtI H (.ref a) ("sign" ++ " ?" ++ h ++ " ") k 3) ?_ (fun key => ?_)
    rotate_left
    · refine ⟨_,rfl,a,_,0,_,rfl,rfl,SqT.of ha,atI_nat (j:=0) rfl,rfl,_,rfl,iteD (fun _ => ?_) (fun z=>absurd rfl z)⟩
      refine ⟨_,rfl,_,_,rfl,rfl,?_,?_⟩
      · rw [Str.length_append,Str.length_append];show 4+2+h.length+1≤sizeLine;omega
      dsimp only [gName]
      have lb:("sign" ++ " ?" ++ h ++ " " : Str).length≤20:=by
        rw [Str.length_append,Str.length_append,Str.length_append];show 4+2+h.length+1≤20;omega
      have e0:("sign" ++ " ?" ++ h ++ " " : Str) = "sign" ++ " ?" ++ h ++ " " ++ mt2 k 0:=(app_nil _).symm
      generalize ("sign" ++ " ?" ++ h ++ " " : Str)=b at lb e0 key ⊢
      refine ⟨3,rfl,by decide,by decide,?_⟩
      refine for_range (lo:=0) (n:=3) (AtI H (.ref a) b k) (AtI.mk none (by rw [← e0];rfl) (Same.refl _)) ?_ (fun σ H' h=>key _ _ h)
      rintro i σ H' hi ⟨x2,rfl,s1⟩
      dsimp only [gName]
      have ml:=mt2_len k i
      refine ⟨_,rfl,a,_,2,_,rfl,rfl,SqT.of (s1 _ _ ha),atI_nat (j:=2) rfl,(show 3≤sizeLine by decide),fun l hl=>⟨_,rfl,l,_,_,_,rfl,rfl,SqT.of upd_same,pw2_at i hi,_,_,rfl,rfl,pw2_pos i,_,_,rfl,rfl,pos',rfl,_,rfl,iteD (fun c => ?_) (fun c => ?_)⟩⟩
      · have s2:=s1.trans (same_new hl (.tup [.int 1,.int 2,.int 4]))
        have hc:("-0+" : Str).cps.toList[i]? = some (("-0+" : Str).cps.toList.getD i 0):=by
          rcases (show i=0∨i=1∨i=2 by omega) with rfl | rfl | rfl <;> rfl
        refine ⟨_,rfl,_,rfl,_,_,_,rfl,rfl,by decide,by rw [show (0:Int)+(i:Int)=((i:Nat):Int) by omega];exact atI_nat hc,_,_,rfl,rfl,?_,AtI.mk (some (.int (0+(i:Int)))) ?_ s2⟩
        · rw [Str.length_append];show b.length+(mt2 k i).length+1≤sizeLine;omega
        · rw [mt2,if_pos (V.int.inj c), ← app_assoc]
          rfl
      · refine AtI.mk (some (.int (0+(i:Int)))) ?_ (s1.trans (same_new hl _))
        rw [mt2,if_neg (fun z=>c (by rw [z]))]
        rfl
    rintro σ H' ⟨x2,rfl,s1⟩
    rw [mt2_ok ok.ok.2.1 ok.ok.2.2]
    exact ⟨_,rfl,q _ s1⟩
  | num h =>
    obtain ⟨a,rfl,ha⟩:=hv
    have h8:h.length≤8:=w8
    refine ⟨_,rfl,a,_,0,_,rfl,rfl,SqT.of ha,atI_nat (j:=0) rfl,_,_,rfl,rfl,?_,_,rfl,a,_,1,_,rfl,rfl,SqT.of ha,atI_nat (j:=1) rfl,_,_,rfl,rfl,?_,?_⟩
    · show 6+2≤sizeLine;omega
    · rw [Str.length_append];show 6+2+h.length≤sizeLine;omega
    dsimp only [gName]
    refine ⟨_,rfl,a,_,0,_,rfl,rfl,SqT.of ha,atI_nat (j:=0) rfl,rfl,_,rfl,iteD (fun z=>absurd (V.str.inj z) (by decide)) (fun _ => ?_)⟩
    refine ⟨_,rfl,a,_,0,_,rfl,rfl,SqT.of ha,atI_nat (j:=0) rfl,rfl,_,rfl,iteD (fun z=>absurd (V.str.inj z) (by decide)) (fun _=>⟨_,rfl,q _ (Same.refl _)⟩)⟩
end

end K71
namespace K71
open PySem L2 Sw
section
variable {P:Program} {w:World} {K:PySem.W.Frag} {mg:Str→Option Value} {base:Heap}
theorem parts_mem:∀ {ts:List T} {t:T},t∈ts→t.parts≤T.partss ts:=part_in
noncomputable def spShown (n:Nat):Sp:=fun vs H Q _=>∃ v t,vs = [v]∧IsTr H t v∧t.Ok∧t.depth≤n∧t.parts≤10000∧∀ H',Same H H'→Q (.str t.shown) H'
theorem ok_shown (B:Blt mg) (D:Def K mg "_law_shown" s_shown ["_law_tree"]):∀ n,Has P w K mg base n "_law_shown" ["_law_tree"] (spShown n)
  | 0=>by
    obtain ⟨fa,fd,F,hm,hb⟩:=D.ex
    have no:∀ vs H Q E, ¬ spShown 0 vs H Q E:=fun vs H Q E h=>by
      obtain ⟨v,t,_,_,_,z,_⟩:=h
      have:=depth_pos t
      omega
    exact ⟨fa,fd,⟨fun vs H Q E h=>absurd h (no vs H Q E),fun A outer s H args us vs Q E _ _ _ _ h=>absurd h (no vs H Q E)⟩,hm,F.kp,hb⟩
  | n+1=>by
    have h_shown:=ok_shown B D n
    refine D.has sc_shown (fun vs H Q E h => ?_) (fun f cdv A outer s H vs Q E hr h => ?_)
    · obtain ⟨v,t,rfl,_⟩:=h;rfl
    obtain ⟨v,t,rfl,hT,hok,hd,hp,q⟩:=h
    have hsl:=shown_len t hok
    have big:(1000000:Nat)≤sizeLine:=by decide
    refine ⟨_,(pss_cons (ps_if (pt_cmpR op_eq (pe_ix ix_tup (pv 0) pe_int (fun _ _=>rfl)) pe_str (nomark _)) (pss_one (ps_ret (pe_callTy call_str_int rfl B.str_ boot_str_ (pa_cons (pe_ix ix_tup (pv 0) pe_int (fun _ _=>rfl)) pa_nil)))) pss_nil)
    (pss_cons (ps_if (pt_cmpR op_eq (pe_ix ix_tup (pv 0) pe_int (fun _ _=>rfl)) pe_str (nomark _)) (pss_one (ps_ret (pe_ix ix_tup (pv 0) pe_int (fun _ _=>rfl)))) pss_nil)
    (pss_cons (ps_if (pt_cmpR op_eq (pe_ix ix_tup (pv 0) pe_int (fun _ _=>rfl)) pe_str (nomark _)) (pss_one (ps_ret (pe_op op_add_str pe_str (pe_ix ix_tup (pv 0) pe_int (fun _ _=>rfl))))) pss_nil)
    (pss_one (ps_ret (pe_op op_add_str (pe_op op_add_str (pe_op op_add_str (pe_ix ix_tup (pv 0) pe_int (fun _ _=>rfl)) pe_str) (pe_bm PySem.F.plainAttrs_str PySem.F.slot_str_join PySem.F.type_str_join mt_join pe_str (pa_cons (pe_comp (te:=(tCall _ _ _ (tCons _ tNil))) (own := ["_law_arm"]) (caps := []) (comp_scope (defScope s_shown) ["_law_tree"] rfl rfl rfl (by decide +kernel)) (pi_tup (pe_ix ix_tup (pv 0) pe_int (fun _ _=>rfl))) rfl (fun _ _ _=>pg_name (i:=0) (show (["_law_arm"]:List Str).Nodup by decide +kernel) rfl (Or.inl rfl)) (fun _ _ _=>(pe_callH h_shown hr (by omega) rfl (pa_cons (pv 0) pa_nil)))) pa_nil))) pe_str)))))),?_⟩
    try dsimp only [cxOf]
    cases t with
    | num k =>
      rw [IsTr] at hT
      rw [T.Ok] at hok
      rw [T.shown] at q
      obtain ⟨a,rfl,h⟩:=hT
      refine ⟨_,rfl,a,_,0,_,rfl,rfl,SqT.of h,atI_nat (j:=0) rfl,rfl,_,rfl,iteD (fun _ => ?_) (fun z=>absurd rfl z)⟩
      exact ⟨_,rfl,a,_,1,_,rfl,rfl,SqT.of h,atI_nat (j:=1) rfl,k,rfl,num_log hok.1 hok.2,q _ (Same.refl _)⟩
    | name x =>
      rw [IsTr] at hT
      rw [T.shown] at q
      obtain ⟨a,rfl,h⟩:=hT
      refine ⟨_,rfl,a,_,0,_,rfl,rfl,SqT.of h,atI_nat (j:=0) rfl,rfl,_,rfl,iteD (fun z=>absurd (V.str.inj z) (by decide)) (fun _ => ?_)⟩
      refine ⟨_,rfl,a,_,0,_,rfl,rfl,SqT.of h,atI_nat (j:=0) rfl,rfl,_,rfl,iteD (fun _ => ?_) (fun z=>absurd rfl z)⟩
      exact ⟨_,rfl,a,_,1,_,rfl,rfl,SqT.of h,atI_nat (j:=1) rfl,q _ (Same.refl _)⟩
    | any x =>
      rw [IsTr] at hT
      rw [T.Ok] at hok
      rw [T.shown] at q
      obtain ⟨a,rfl,h⟩:=hT
      refine ⟨_,rfl,a,_,0,_,rfl,rfl,SqT.of h,atI_nat (j:=0) rfl,rfl,_,rfl,iteD (fun z=>absurd (V.str.inj z) (by decide)) (fun _ => ?_)⟩
      refine ⟨_,rfl,a,_,0,_,rfl,rfl,SqT.of h,atI_nat (j:=0) rfl,rfl,_,rfl,iteD (fun z=>absurd (V.str.inj z) (by decide)) (fun _ => ?_)⟩
      refine ⟨_,rfl,a,_,0,_,rfl,rfl,SqT.of h,atI_nat (j:=0) rfl,rfl,_,rfl,iteD (fun _ => ?_) (fun z=>absurd rfl z)⟩
      have hz:("?" : Str).length+x.length≤sizeLine:=by
        have:=hok.2.1
        have e1:("?" : Str).length=1:=rfl
        omega
      exact ⟨_,rfl,a,_,1,_,rfl,rfl,SqT.of h,atI_nat (j:=1) rfl,_,_,rfl,rfl,hz,q _ (Same.refl _)⟩
    | of x ts =>
      rw [IsTr] at hT
      rw [T.Ok] at hok
      rw [T.depth] at hd
      rw [T.parts] at hp
      rw [T.shown] at q
      obtain ⟨a,b,vs,rfl,h,hb,hTs⟩:=hT
      obtain ⟨hx,hl1,hl4,hoks⟩:=hok
      have hlen:=trs_len hTs
      have hln:=showns_len ts hoks
      have hxl:=hx.2.1
      have hjl:=StrLaws.join_length_le ", " (T.showns ts)
      have e2:(", " : Str).length=2:=rfl
      have e1:("(" : Str).length=1:=rfl
      have e1':(")" : Str).length=1:=rfl
      rw [e2] at hjl
      have ej:Txt.join ", " (T.showns ts)=Str.join ", " (T.showns ts):=join_eq _
      refine ⟨_,rfl,a,_,0,_,rfl,rfl,SqT.of h,atI_nat (j:=0) rfl,rfl,_,rfl,iteD (fun z=>absurd (V.str.inj z) (by decide)) (fun _ => ?_)⟩
      refine ⟨_,rfl,a,_,0,_,rfl,rfl,SqT.of h,atI_nat (j:=0) rfl,rfl,_,rfl,iteD (fun z=>absurd (V.str.inj z) (by decide)) (fun _ => ?_)⟩
      refine ⟨_,rfl,a,_,0,_,rfl,rfl,SqT.of h,atI_nat (j:=0) rfl,rfl,_,rfl,iteD (fun z=>absurd (V.str.inj z) (by decide)) (fun _ => ?_)⟩
      refine ⟨_,rfl,a,_,1,_,rfl,rfl,SqT.of h,atI_nat (j:=1) rfl,_,_,rfl,rfl,?_,rfl,_,rfl,a,_,2,_,rfl,rfl,SqT.of h,atI_nat (j:=2) rfl,b,rfl,⟨vs,SqT.of hb⟩,?_⟩
      · rw [e1];omega
      refine comp_tupS (ys:=(T.showns ts).map V.str) (SqT.of hb) (by omega) (by rw [List.length_map,showns_map,List.length_map,hlen]) (fun i y z hy hz H' sm Q' q' => ?_) (fun D2 H3 hD2 s3 hDl => ?_)
      · obtain ⟨ti,hti,hTi⟩:=trs_at hTs hy
        have hmem:ti∈ts:=List.mem_of_getElem? hti
        have d1:=deepest_le hmem
        have p1:=parts_mem hmem
        rw [List.getElem?_map,showns_map,List.getElem?_map,hti] at hz
        cases hz
        exact ⟨_,rfl,y,ti,rfl,tr_same sm hTi,oks_all.mp hoks ti hmem,by omega,by omega,fun H3 s3=>q' _ s3⟩
      refine ⟨", ",D2,T.showns ts,rfl,rfl,SqL.of hDl,by rw [e2];omega,_,_,rfl,rfl,?_,_,_,rfl,rfl,?_,?_⟩
      · rw [ej,Str.length_append,e1];omega
      · rw [ej,Str.length_append,Str.length_append,e1,e1'];omega
      · rw [ej]
        exact q _ s3
inductive SpRuleText (vs:List V) (H:Hp) (Q:VK):Prop
  | mk (d AL:Addr) (z:Str) (wt:Int) (vl vr:V) (l r:T) (avs:List V) (as:List Ask) (ev:vs = [.ref d]) (due:DueAt H d z wt vl vr l r AL avs as) (g:RuleG z wt l r as) (q:∀ H',Same H H'→Q (.str (ruleS z wt l r as)) H'):SpRuleText vs H Q
noncomputable def spRuleText:Sp:=fun vs H Q _=>SpRuleText vs H Q
noncomputable def dA:Ask→L2.D
  | .free h z => .tup [.str "free",.str h,.str z]
  | .sign h m => .tup [.str "sign",.str h,.int m]
  | .num h => .tup [.str "number",.str h]
mutual
noncomputable def dT:T→L2.D
  | .num n => .tup [.str "num",.int n]
  | .name x => .tup [.str "name",.str x]
  | .any x => .tup [.str "any",.str x]
  | .of x ts => .tup [.str "of",.str x,.tup (dTs ts)]
noncomputable def dTs:List T→List L2.D
  | [] => []
  | t :: ts=>dT t :: dTs ts
end
theorem den_ask {H:Hp} {v:V} {a:Ask} (h:AskAt H v a):Den H (dA a) v:=by
  cases a with
  | free x z =>
    obtain ⟨p,rfl,hp⟩:=h
    rw [dA,Den]
    refine ⟨p,_,rfl,hp,?_⟩
    simp only [Dens,Den]
    exact ⟨_,_,rfl,rfl,_,_,rfl,rfl,_,_,rfl,rfl,rfl⟩
  | sign x m =>
    obtain ⟨p,rfl,hp⟩:=h
    rw [dA,Den]
    refine ⟨p,_,rfl,hp,?_⟩
    simp only [Dens,Den]
    exact ⟨_,_,rfl,rfl,_,_,rfl,rfl,_,_,rfl,.inl rfl,rfl⟩
  | num x =>
    obtain ⟨p,rfl,hp⟩:=h
    rw [dA,Den]
    refine ⟨p,_,rfl,hp,?_⟩
    simp only [Dens,Den]
    exact ⟨_,_,rfl,rfl,_,_,rfl,rfl,rfl⟩
theorem dens_asks {H:Hp} {avs:List V} {as:List Ask} (h:Paired (AskAt H) avs as):Dens H (as.map dA) avs:=by
  induction h with
  | nil=>rw [List.map_nil,Dens]
  | cons e _ ih=>rw [List.map_cons,Dens];exact ⟨_,_,rfl,den_ask e,ih⟩
mutual
theorem den_tr {H:Hp}:∀ {t:T} {v:V},IsTr H t v→Den H (dT t) v
  | .num n,v,h=>by
    rw [IsTr] at h
    obtain ⟨a,rfl,h⟩:=h
    rw [dT,Den]
    refine ⟨a,_,rfl,h,?_⟩
    simp only [Dens,Den]
    exact ⟨_,_,rfl,rfl,_,_,rfl,.inl rfl,rfl⟩
  | .name n,v,h=>by
    rw [IsTr] at h
    obtain ⟨a,rfl,h⟩:=h
    rw [dT,Den]
    refine ⟨a,_,rfl,h,?_⟩
    simp only [Dens,Den]
    exact ⟨_,_,rfl,rfl,_,_,rfl,rfl,rfl⟩
  | .any n,v,h=>by
    rw [IsTr] at h
    obtain ⟨a,rfl,h⟩:=h
    rw [dT,Den]
    refine ⟨a,_,rfl,h,?_⟩
    simp only [Dens,Den]
    exact ⟨_,_,rfl,rfl,_,_,rfl,rfl,rfl⟩
  | .of x ts,v,h=>by
    rw [IsTr] at h
    obtain ⟨a,b,us,rfl,h,hb,hT⟩:=h
    rw [dT,Den]
    refine ⟨a,_,rfl,h,?_⟩
    have z:=dens_tr hT
    simp only [Dens,Den]
    exact ⟨_,_,rfl,rfl,_,_,rfl,rfl,_,_,rfl,⟨b,us,rfl,hb,z⟩,rfl⟩
theorem dens_tr {H:Hp}:∀ {ts:List T} {vs:List V},IsTrs H ts vs→Dens H (dTs ts) vs
  | [],vs,h=>by rw [IsTrs] at h;rw [dTs,Dens];exact h
  | t :: ts,vs,h=>by
    rw [IsTrs] at h
    obtain ⟨u,us,rfl,h1,h2⟩:=h
    rw [dTs,Dens]
    exact ⟨u,us,rfl,den_tr h1,dens_tr h2⟩
end
mutual
theorem deep_tr:∀ t:T,(dT t).deep≤2 * t.depth
  | .num n=>by rw [dT,T.depth];simp [D.deep,D.deeps]
  | .name n=>by rw [dT,T.depth];simp [D.deep,D.deeps]
  | .any n=>by rw [dT,T.depth];simp [D.deep,D.deeps]
  | .of x ts=>by
    have:=deeps_tr ts
    rw [dT,T.depth]
    simp only [D.deep,D.deeps]
    omega
theorem deeps_tr:∀ ts:List T,D.deeps (dTs ts)≤2 * T.deepest ts
  | []=>by rw [dTs,D.deeps];exact Nat.zero_le _
  | t :: ts=>by
    have:=deep_tr t
    have:=deeps_tr ts
    rw [dTs,D.deeps,T.deepest]
    omega
end
theorem deep_asks:∀ as:List Ask,D.deeps (as.map dA)≤1
  | []=>by rw [List.map_nil,D.deeps];decide
  | a :: as=>by
    have:=deep_asks as
    rw [List.map_cons,D.deeps]
    have:(dA a).deep≤1:=by cases a <;> simp [dA,D.deep,D.deeps]
    omega
theorem ok_rule_text (B:Blt mg) (h_shown:Has P w K mg base 14 "_law_shown" ["_law_tree"] (spShown 14)) (h_ask_text:Has P w K mg base 1 "_law_ask_text" ["_law_ask"] spAskText) (D:Def K mg "_law_rule_text" s_rule_text ["_law_rule_here"]):Has P w K mg base 15 "_law_rule_text" ["_law_rule_here"] spRuleText:=by
  refine D.has sc_rule_text (fun vs H Q E h => ?_) (fun f cdv A outer s H vs Q E hr h => ?_)
  · obtain ⟨d,AL,z,wt,vl,vr,l,r,avs,as,rfl,_⟩:=h;rfl
  obtain ⟨d,AL,z,wt,vl,vr,l,r,avs,as,rfl,due,g,q⟩:=h
  refine ⟨_,(pss_cons (ps_set (i:=1) sc_rule_text.nd rfl (Or.inl rfl) (pe_op op_add_str (pe_op op_add_str (pe_callH h_shown hr (by omega) rfl (pa_cons (pe_ix ix_tup (pv 0) pe_int (fun _ _=>rfl)) pa_nil)) pe_str) (pe_callH h_shown hr (by omega) rfl (pa_cons (pe_ix ix_tup (pv 0) pe_int (fun _ _=>rfl)) pa_nil))))
    (pss_cons (ps_set (i:=2) sc_rule_text.nd rfl (Or.inl rfl) (pe_op op_add_str (pe_op op_add_str (pe_op op_add_str (pe_op op_add_str (pe_ix ix_tup (pv 0) pe_int (fun _ _=>rfl)) pe_str) (pe_callTy call_str_int rfl B.str_ boot_str_ (pa_cons (pe_ix ix_tup (pv 0) pe_int (fun _ _=>rfl)) pa_nil))) pe_str) (pv 1)))
    (pss_cons (ps_if (pt_cmpR (op_neD (un101 hr)) (pe_ix ix_tup (pv 0) pe_int (fun _ _=>rfl)) (pe_lst pa_nil) (nomark _)) (pss_one (ps_set (i:=2) sc_rule_text.nd rfl (Or.inl rfl) (pe_op op_add_str (pe_op op_add_str (pv 2) pe_str) (pe_bm PySem.F.plainAttrs_str PySem.F.slot_str_join PySem.F.type_str_join mt_join pe_str (pa_cons (pe_comp (te:=(tCall _ _ _ (tCons _ tNil))) (own := ["_law_ask"]) (caps := []) (comp_scope (defScope s_rule_text) ["_law_rule_here", "_law_sides_here", "_law_told"] rfl rfl rfl (by decide +kernel)) (pi_list (pe_ix ix_tup (pv 0) pe_int (fun _ _=>rfl))) rfl (fun _ _ _=>pg_name (i:=0) (show (["_law_ask"]:List Str).Nodup by decide +kernel) rfl (Or.inl rfl)) (fun _ _ _=>(pe_callH h_ask_text hr (by omega) rfl (pa_cons (pv 0) pa_nil)))) pa_nil))))) pss_nil)
    (pss_one (ps_ret (pv 2)))))),?_⟩
  try dsimp only [cxOf]
  have nl:=num_len (n:=wt) (by have:=g.ok.2.1.1;omega) (by have:=g.ok.2.1.2;omega)
  have ng:=num_log (n:=wt) (by have:=g.ok.2.1.1;omega) (by have:=g.ok.2.1.2;omega)
  have z8:=g.ok.1.2.1
  have pl:=g.pl
  have pr:=g.pr
  have lL:=shown12 g.l_ pl
  have lR:=shown12 g.r_ pr
  have few:=g.few
  have hd:=due.hd
  have hal:=Paired.length due.hp
  have big:(10000000:Nat)≤sizeLine:=by decide
  have e1:(" " : Str).length=1:=rfl
  have e2:(": " : Str).length=2:=rfl
  have e3:(" = " : Str).length=3:=rfl
  have e4:(" if " : Str).length=4:=rfl
  have e5:(", " : Str).length=2:=rfl
  refine ⟨_,rfl,d,_,2,_,rfl,rfl,SqT.of hd,atI_nat (j:=2) rfl,vl,l,rfl,due.hl,g.l_,g.dl,by omega,fun H1 s1=>⟨_,_,rfl,rfl,?_,_,rfl,d,_,3,_,rfl,rfl,SqT.of (s1 _ _ hd),atI_nat (j:=3) rfl,vr,r,rfl,tr_same s1 due.hr,g.r_,g.dr,by omega,fun H2 s2=>⟨_,_,rfl,rfl,?_,?_⟩⟩⟩
  · rw [e3];omega
  · rw [Str.length_append,e3];omega
  dsimp only [gName]
  have g2:=s1.trans s2
  have due2:=due.same g2
  have hd2:=due2.hd
  have lw:(Str.ofString (toString wt)).length≤1000:=by omega
  have ls:(l.shown ++ " = " ++ r.shown:Str).length≤2000:=by rw [Str.length_append,Str.length_append,e3];omega
  refine ⟨_,rfl,d,_,0,_,rfl,rfl,SqT.of hd2,atI_nat (j:=0) rfl,_,_,rfl,rfl,?_,_,rfl,d,_,1,_,rfl,rfl,SqT.of hd2,atI_nat (j:=1) rfl,wt,rfl,ng,_,_,rfl,rfl,?_,_,_,rfl,rfl,?_,_,rfl,_,_,rfl,rfl,?_,?_⟩
  · rw [e1];omega
  · rw [Str.length_append,e1];show z.length+1+(Str.ofString (toString wt)).length≤_;omega
  · rw [Str.length_append,Str.length_append,e1,e2];show z.length+1+(Str.ofString (toString wt)).length+2≤_;omega
  · rw [Str.length_append,Str.length_append,Str.length_append,e1,e2];show z.length+1+(Str.ofString (toString wt)).length+2+_≤_;omega
  have es:z ++ " " ++ Str.ofString (toString wt) ++ ": " ++ (l.shown ++ " = " ++ r.shown)=ruleS0 z wt l r:=by
    unfold ruleS0
    refine str_ext ?_
    simp only [app_cps,List.append_assoc]
  have l0:(ruleS0 z wt l r).length≤5000:=by
    rw [← es,Str.length_append,Str.length_append,Str.length_append,Str.length_append,e1,e2]
    omega
  rw [es]
  dsimp only [gName]
  refine rd_if2 (fun b Hc=>Same H2 Hc∧b = !avs.isEmpty) (fun Qc qc => ?_) (fun Hc h => ?_) (fun Hc h => ?_)
  · refine ⟨_,rfl,d,_,4,_,rfl,rfl,SqT.of hd2,atI_nat (j:=4) rfl,Nat.zero_le _,fun N hN => ?_⟩
    have s3:=same_new hN (.lst [])
    refine ⟨as.map dA, [],.inr ⟨?_,?_⟩,Nat.le_trans (deep_asks as) (by decide),_,rfl,qc _ _ ⟨s3,?_⟩⟩
    · rw [Den];exact ⟨AL,avs,rfl,s3 _ _ due2.hA,dens_asks (asks_same s3 due2.hp)⟩
    · rw [Den];exact ⟨N, [],rfl,upd_same,by rw [Dens]⟩
    · cases avs with
      | nil =>
        have:as = []:=List.eq_nil_of_length_eq_zero (by simpa using hal.symm)
        rw [this]
        simp
      | cons v l =>
        have:as.map dA ≠ []:=fun z=>by
          have:=congrArg List.length z
          rw [List.length_map, ← hal] at this
          simp at this
        rw [decide_eq_false this]
        rfl
  · obtain ⟨s3,he⟩:=h
    have g3:=g2.trans s3
    have due3:=due.same g3
    have hne:0 < as.length:=by
      cases avs with
      | nil=>cases he
      | cons v l=>rw [List.length_cons] at hal;omega
    have hzs:∀ s∈as.map askS,s.length≤23:=fun s hs=>by
      obtain ⟨k,hk,rfl⟩:=List.mem_map.mp hs
      exact askS_len (g.askG hk)
    have hjl:=sums_le hzs
    have hll:=lens_le hzs
    rw [List.length_map] at hjl hll
    refine ⟨_,rfl,_,_,rfl,rfl,?_,rfl,_,rfl,d,_,4,_,rfl,rfl,SqT.of due3.hd,atI_nat (j:=4) rfl,AL,rfl,⟨avs,SqL.of due3.hA⟩,?_⟩
    · show (ruleS0 z wt l r).length+4≤sizeLine;omega
    refine comp_listP (R:=fun _ v (s:Str)=>v=V.str s) (bs:=as.map askS) (fun _ _ _ _ _ h=>h) (SqL.of due3.hA) (by omega) (by rw [List.length_map];omega) (fun i x y hx hy H'' sm'' Q' q' => ?_) (fun D2 H3 ys hD2 s4 hDl hys => ?_)
    · obtain ⟨k,hk,hak⟩:=paired_at (asks_same sm'' due3.hp) hx
      rw [List.getElem?_map,hk] at hy
      cases hy
      exact ⟨_,rfl,SpAskText.mk x k (note l []) rfl hak (g.askG (List.mem_of_getElem? hk)) fun H4 s4=>q' _ _ s4 rfl⟩
    rw [strs_of hys] at hDl
    have ej:=join_eq (as.map askS)
    refine ⟨", ",D2,as.map askS,rfl,rfl,SqL.of hDl,?_,_,_,rfl,rfl,?_,_,rfl,?_⟩
    · rw [List.length_map,e5];omega
    · rw [ej,Str.length_append,e4];show (ruleS0 z wt l r).length+4+_≤sizeLine;omega
    · have e:=q _ (g3.trans s4)
      unfold ruleS at e
      rw [if_pos hne, ← ej] at e
      exact e
  · obtain ⟨s3,he⟩:=h
    refine ⟨_,rfl,?_⟩
    have e:=q _ (g2.trans s3)
    unfold ruleS at e
    rw [if_neg (by
      cases avs with
      | nil=>simp at hal;omega
      | cons v l=>cases he)] at e
    exact e
end

end K71
namespace K71
open PySem L2 Sw
section
variable {P:Program} {w:World} {K:PySem.W.Frag} {mg:Str→Option Value} {base:Heap}
theorem tr_keepR:∀ (H H':Hp) (v:V) (t:T),(∀ c ys,H c=some (.tup ys)→H' c=some (.tup ys))→IsTr H t v→IsTr H' t v:=fun _ _ _ _ k h=>tr_keep k h
inductive TRow (H:Hp) (v:V) (t:T):Prop
  | mk (p:Addr) (u:V) (e:v = .ref p) (hp:H p=some (.tup [u,.int (t.parts:Int)])) (ht:IsTr H t u) (g:TreeG 12 t):TRow H v t
theorem TRow.keep {H H':Hp} {v:V} {t:T} (k:∀ c ys,H c=some (.tup ys)→H' c=some (.tup ys)) (h:TRow H v t):TRow H' v t:=by
  obtain ⟨p,u,e,hp,ht,g⟩:=h
  exact ⟨p,u,e,k _ _ hp,tr_keep k ht,g⟩
theorem trow_same {H H':Hp} {vs:List V} {ts:List T} (s:Same H H') (h:Paired (TRow H) vs ts):Paired (TRow H') vs ts:=Paired.mapP h fun _ _ z=>z.keep fun c ys=>s _ _
theorem pick_ex {α β γ : Type} {R : α → β → Prop} {ys:List α} {us:List γ} (h:Paired (fun v _=>∃ t,R v t) ys us):∃ ts,Paired R ys ts:=by
  induction h with
  | nil=>exact ⟨[],.nil⟩
  | cons e _ ih =>
    obtain ⟨t,ht⟩:=e
    obtain ⟨ts,hts⟩:=ih
    exact ⟨t :: ts,.cons ht hts⟩
theorem comp_rangeP {β : Type} {R:Hp→V → β → Prop} {n:Nat} {lo:Int} {g:Nat → β} {te:TE} {σ : St} {caps:List (Str × Nat)} {H:Hp} {Q:VK} (kp:∀ (H H':Hp) v b,(∀ c ys,H c=some (.tup ys)→H' c=some (.tup ys))→R H v b→R H' v b) (hz:n≤1000)
    (hel:∀ (i:Nat),i < n→∀ H',Same H H'→∀ Q':VK,(∀ y H'',Same H' H''→R H'' y (g i)→Q' y H'')→te (some (.int (lo+i)) :: capt σ caps) H' Q')
    (hq:∀ D H' ys,H D=none→Same H H'→H' D=some (.lst ys)→Paired (R H') ys ((List.range n).map g)→Q (.ref D) H') :
    CompBody (Itr lo n) (gName 0) te (List.replicate 1 none ++ capt σ caps) H Q:=by
  intro D hD
  refine ⟨fun i m τ zs H'=>m=n - i∧i≤n∧(∃ o, τ = o :: capt σ caps)∧Paired (R H') zs ((List.range i).map g)∧Same H H'∧H' D=some (.lst zs),⟨n,by simp,Nat.zero_le _,⟨none,rfl⟩,.nil,same_new hD _,upd_same⟩,?_⟩
  rintro i m τ zs H' ⟨rfl,hi,⟨o,rfl⟩,hzs,sm,hDl⟩
  refine ⟨hDl,?_⟩
  have hlz:=Paired.length hzs
  rw [List.length_map,List.length_range] at hlz
  by_cases hlt:i < n
  · refine .inr ⟨hlt,small1000 (by omega),fun x H'' y => ?_⟩
    obtain ⟨e,y⟩:=y
    subst e y
    show te (some (.int (lo+i)) :: capt σ caps) _ _
    refine hel i hlt _ sm _ (fun v H2 s2 hv => ?_)
    have hD2:=s2 _ _ hDl
    have k2:∀ b ys,H2 b=some (.tup ys)→(upd H2 D (.lst (zs ++ [v]))) b=some (.tup ys):=fun b ys e=>by rw [upd_ne (ne_of e hD2 (fun z=>nomatch z))];exact e
    refine ⟨hD2,n - (i+1),by omega,rfl,hlt,⟨_,rfl⟩,?_,(sm.trans s2).put hD,upd_same⟩
    rw [List.range_succ,List.map_append]
    exact Paired.snoc (Paired.mapP hzs fun v b r=>kp _ _ v b k2 (kp _ _ v b (fun c ys=>s2 _ _) r)) (kp _ _ _ _ k2 hv)
  · have e:i=n:=by omega
    subst e
    exact .inl ⟨Nat.le_refl _,hq D H' zs hD sm hDl hzs⟩
theorem cut_ints (ns:List Int) (lo hi:Option Int):∃ ms:List Int,cutV (ns.map V.int) lo hi=ms.map V.int∧ms.length≤ns.length:=by
  refine ⟨(ns.drop (HT.sIx (ns.map V.int).length 0 lo)).take (HT.sIx (ns.map V.int).length (ns.map V.int).length hi - HT.sIx (ns.map V.int).length 0 lo),?_,?_⟩
  · unfold cutV
    rw [List.map_take,List.map_drop]
  · rw [List.length_take,List.length_drop];omega
noncomputable def half (ns:List Int) (b:Int) (k:Int):Option V:=if k % 2=b then some (.int (ns.getD k.toNat 0)) else none
theorem half_ints (ns:List Int) (b:Int) (n:Nat):∃ ms:List Int,((List.range n).filterMap fun i:Nat=>half ns b (0+i))=ms.map V.int∧ms.length≤n:=by
  induction n with
  | zero=>exact ⟨[],rfl,Nat.le_refl _⟩
  | succ n ih =>
    obtain ⟨ms,e,l⟩:=ih
    rw [List.range_succ,List.filterMap_append,e,List.filterMap_cons,List.filterMap_nil]
    unfold half
    split
    · split at *
      · rename_i h1 h2
        exact ⟨ms,by simp,by omega⟩
      · exact ⟨ms,by simp,by omega⟩
    · rename_i v h
      split at h
      · cases h
        exact ⟨ms ++ [ns.getD ((0:Int)+(n:Int)).toNat 0],by rw [List.map_append];rfl,by rw [List.length_append];exact Nat.succ_le_succ l⟩
      · cases h
theorem half_test (ns:List Int) (b:Int) (i:Nat):(half ns b (0+(i:Int))).isSome=decide (V.int (((0:Int)+(i:Int)) % 2)=V.int b):=by
  unfold half
  by_cases c:((0:Int)+(i:Int)) % 2=b
  · rw [if_pos c,c]
    simp
  · rw [if_neg c]
    exact (decide_eq_false fun z=>c (V.int.inj z)).symm
theorem half_at {ns:List Int} {b:Int} {i:Nat} {v:V} (hi:i < ns.length) (h:half ns b (0+(i:Int))=some v):True∧atI (ns.map V.int) (0+(i:Int))=some v:=by
  unfold half at h
  split at h
  · cases h
    have e:(0:Int)+(i:Int)=((i:Nat):Int):=by omega
    rw [e,Int.toNat_natCast]
    exact ⟨trivial,atI_nat (by rw [List.getElem?_map,List.getD_eq_getElem?_getD,List.getElem?_eq_getElem hi];rfl)⟩
  · cases h
theorem parts_pos (t:T):1≤t.parts:=by
  cases t with
  | num n=>rw [T.parts];decide
  | name n=>rw [T.parts];decide
  | any n=>rw [T.parts];decide
  | of x ts=>rw [T.parts];omega
theorem sizes8:∀ z∈([1,1,2,2,2,2,3,4]:List Int),1≤z∧z≤4:=by decide
theorem ints_of {ys:List V} {ss:List Int} (h:Paired (fun v (s:Int)=>v=V.int s) ys ss):ys=ss.map V.int:=by
  induction h with
  | nil=>rfl
  | cons e _ ih=>rw [e,ih];rfl
theorem sum_parts:∀ us:List T,(us.map fun t=>(t.parts:Int)).sum=(T.partss us:Int)
  | []=>by rw [T.partss];rfl
  | t :: us=>by rw [List.map_cons,List.sum_cons,sum_parts us,T.partss];omega
theorem trs_paired {H:Hp} {vs:List V} {ts:List T} (h:Paired (fun v t=>IsTr H t v) vs ts):IsTrs H ts vs:=by
  induction h with
  | nil=>rw [IsTrs]
  | cons e _ ih=>rw [IsTrs];exact ⟨_,_,rfl,e,ih⟩
theorem paired_at' {α β : Type} {R : α → β → Prop} {xs:List α} {ys:List β} (h:Paired R xs ys):∀ {i:Nat} {y : β},ys[i]? = some y→∃ x,xs[i]? = some x∧R x y:=by
  induction h with
  | nil=>intro i y e;cases e
  | cons h _ ih =>
    intro i y e
    cases i with
    | zero=>cases e;exact ⟨_,rfl,h⟩
    | succ i=>exact ih e
theorem TRow.g {H:Hp} {v:V} {t:T} (h:TRow H v t):TreeG 12 t:=by
  obtain ⟨p,u,e,hp,ht,g⟩:=h
  exact g
inductive SpTrees (K:PySem.W.Frag) (vs:List V) (H:Hp) (Q:VK):Prop
  | mk (a:Addr) (ns:List Int) (ev:vs = [.ref a,.int 12]) (hS:SqL K H a (ns.map V.int)) (h63:ns.length≤63) (q:∀ A us ts H',Same H H'→H' A=some (.lst us)→Paired (fun v t=>IsTr H' t v) us ts→(∀ t∈ts,TreeG 12 t)→us.length≤63→Q (.ref A) H'):SpTrees K vs H Q
noncomputable def spTrees (K:PySem.W.Frag):Sp:=fun vs H Q _=>SpTrees K vs H Q
inductive TrI (H:Hp) (a R:Addr) (i:Nat) (σ : St) (H':Hp):Prop
  | mk (x3 x4 x5 x6:Option V) (rvs:List V) (ts:List T) (e : σ = [some (.ref a),some (.int 12),some (.ref R),x3,x4,x5,x6]) (sm:Same H H') (hR:H' R=some (.lst rvs)) (hp:Paired (TRow H') rvs ts) (len:rvs.length≤i):TrI H a R i σ H'
theorem tri_more {H H' H'':Hp} {a R:Addr} {i:Nat} {σ : St} {x3 x4 x5 x6:Option V} {rvs:List V} {ts:List T} {v:V} {t:T} (hR0:H R=none) (e : σ = [some (.ref a),some (.int 12),some (.ref R),x3,x4,x5,x6]) (sm:Same H H') (hR:H' R=some (.lst rvs)) (hp:Paired (TRow H') rvs ts) (len:rvs.length≤i) (s2:Same H' H'') (hv:TRow H'' v t):TrI H a R (i+1) σ (upd H'' R (.lst (rvs ++ [v]))):=by
  have hR2:=s2 _ _ hR
  have kp:=keep_put (o' := .lst (rvs ++ [v])) hR2 trivial
  exact TrI.mk x3 x4 x5 x6 (rvs ++ [v]) (ts ++ [t]) e ((sm.trans s2).put hR0) upd_same (Paired.snoc (Paired.mapP (trow_same s2 hp) fun _ _ z=>z.keep kp) (hv.keep kp)) (by rw [List.length_append];exact Nat.succ_le_succ len)
theorem ok_trees (B:Blt mg) (h_draw:Has P w K mg base 1 "_law_draw" ["_law_cell", "_law_factor", "_law_many"] spDraw) (h_leaf:Has P w K mg base 3 "_law_leaf" ["_law_script", "_law_cell"] (spLeafT K)) (h_knot:Has P w K mg base 3 "_law_knot" ["_law_script", "_law_cell", "_law_arms"] (spKnotT K)) (D:Def K mg "_law_trees" s_trees ["_law_script", "_law_most"]):Has P w K mg base 4 "_law_trees" ["_law_script", "_law_most"] (spTrees K):=by
  refine D.has sc_trees (fun vs H Q E h => ?_) (fun f cdv A outer s H vs Q E hr h => ?_)
  · obtain ⟨a,ns,rfl,_⟩:=h;rfl
  obtain ⟨a,ns,rfl,hS,h63,q⟩:=h
  refine ⟨_,(pss_cons (ps_set (i:=2) sc_trees.nd rfl (Or.inr rfl) (pe_lst pa_nil))
    (pss_cons (ps_for PassesOwn.never rfl (pi_list (pe_slice sl_list (pe_compI (te:=(tOp (rIxL K) _ _)) (ct:=(tTest (tOp _ (tOp _ _ _) _))) (own := ["_law_k"]) (caps := [("_law_script",0)]) (comp_scope (defScope s_trees) ["_law_script", "_law_most", "_law_rows", "_law_cell", "_law_size", "_law_arms", "_law_many"] rfl rfl rfl (by decide +kernel)) (pi_range1 rfl B.range_ (pa_cons (pe_callB call_len_seq rfl B.len_ PySem.boot_len (pa_cons (pv 0) pa_nil)) pa_nil)) rfl (fun _ _ _=>pg_name (i:=0) (show (["_law_k", "_law_script"]:List Str).Nodup by decide +kernel) rfl (Or.inl rfl)) (fun _ _ _=>(pt_cmpR op_eq (pe_op op_mod (pv 0) pe_int) pe_int (nomark _))) (fun _ _ _=>(pe_ix ix_list (pv 1) (pv 0) (fun _ _=>rfl)))) po_none (po_some pe_int))) (pg_name (i:=3) sc_trees.nd rfl (Or.inr rfl))
    (pss_one (ps_if (PW.pt (pw_or (pt_cmpR (op_eqNil hr.units0) (pv 2) (pe_lst pa_nil) (nomark _)) (pw_or1 (pt_cmpR op_lt (pe_callH h_draw hr (by omega) rfl (pa_cons (pv 3) (pa_cons pe_int (pa_cons pe_int pa_nil)))) pe_int (nomark _))))) (pss_one (ps_expr (pe_bm PySem.F.plainAttrs_list PySem.F.slot_list_append PySem.F.type_list_append mt_append (pv 2) (pa_cons (pe_tup (pa_cons (pe_callH h_leaf hr (by omega) rfl (pa_cons (pv 0) (pa_cons (pv 3) pa_nil))) (pa_cons pe_int pa_nil))) pa_nil)))) (pss_cons (ps_set (i:=4) sc_trees.nd rfl (Or.inl rfl) (pe_ix ix_tup (pe_tup (pa_cons pe_int (pa_cons pe_int (pa_cons pe_int (pa_cons pe_int (pa_cons pe_int (pa_cons pe_int (pa_cons pe_int (pa_cons pe_int pa_nil))))))))) (pe_callH h_draw hr (by omega) rfl (pa_cons (pv 3) (pa_cons pe_int (pa_cons pe_int pa_nil)))) (fun _ _=>rfl)))
    (pss_cons (ps_setComp (i:=5) sc_trees.nd rfl rfl (te:=(tOp (rIxL K) _ (tCall _ _ _ (tCons _ (tCons (tOp _ (tOp _ _ _) _) (tCons (tCB (fun xs H Q=>J_len K xs H Q) (tCons _ tNil)) tNil)))))) (own := ["_law_j"]) (caps := [("_law_rows",2),("_law_cell",3)]) (comp_scope (defScope s_trees) ["_law_script", "_law_most", "_law_rows", "_law_cell", "_law_size", "_law_arms", "_law_many"] rfl rfl rfl (by decide +kernel)) (pi_range1 rfl B.range_ (pa_cons (pv 4) pa_nil)) rfl (fun _ _ _=>pg_name (i:=0) (show (["_law_j", "_law_rows", "_law_cell"]:List Str).Nodup by decide +kernel) rfl (Or.inl rfl)) (fun _ _ _=>(pe_ix ix_list (pv 1) (pe_callH h_draw hr (by omega) rfl (pa_cons (pv 2) (pa_cons (pe_op op_mul (pe_op op_add (pv 0) pe_int) pe_int) (pa_cons (pe_callB call_len_seq rfl B.len_ PySem.boot_len (pa_cons (pv 1) pa_nil)) pa_nil)))) (fun _ _=>rfl))) rfl)
    (pss_cons (ps_set (i:=6) sc_trees.nd rfl (Or.inl rfl) (pe_op op_add pe_int (pe_callB (call_sumL rfl) rfl B.sum_ boot_sum_ (pa_cons (pe_comp (te:=(tOp (rIxT K) _ _)) (own := ["_law_arm"]) (caps := []) (comp_scope (defScope s_trees) ["_law_script", "_law_most", "_law_rows", "_law_cell", "_law_size", "_law_arms", "_law_many"] rfl rfl rfl (by decide +kernel)) (pi_list (pv 5)) rfl (fun _ _ _=>pg_name (i:=0) (show (["_law_arm"]:List Str).Nodup by decide +kernel) rfl (Or.inl rfl)) (fun _ _ _=>(pe_ix ix_tup (pv 0) pe_int (fun _ _=>rfl)))) pa_nil))))
    (pss_one (ps_if (pt_cmpR op_le (pv 6) (pv 1) (nomark _)) (pss_one (ps_expr (pe_bm PySem.F.plainAttrs_list PySem.F.slot_list_append PySem.F.type_list_append mt_append (pv 2) (pa_cons (pe_tup (pa_cons (pe_callH h_knot hr (by omega) rfl (pa_cons (pv 0) (pa_cons (pv 3) (pa_cons (pe_callTy call_tuple_of rfl B.tuple_ boot_tuple_ (pa_cons (pe_comp (te:=(tOp (rIxT K) _ _)) (own := ["_law_arm"]) (caps := []) (comp_scope (defScope s_trees) ["_law_script", "_law_most", "_law_rows", "_law_cell", "_law_size", "_law_arms", "_law_many"] rfl rfl rfl (by decide +kernel)) (pi_list (pv 5)) rfl (fun _ _ _=>pg_name (i:=0) (show (["_law_arm"]:List Str).Nodup by decide +kernel) rfl (Or.inl rfl)) (fun _ _ _=>(pe_ix ix_tup (pv 0) pe_int (fun _ _=>rfl)))) pa_nil)) pa_nil)))) (pa_cons (pv 6) pa_nil))) pa_nil)))) pss_nil))))))))
    (pss_one (ps_ret (pe_comp (te:=(tOp (rIxT K) _ _)) (own := ["_law_row_here"]) (caps := []) (comp_scope (defScope s_trees) ["_law_script", "_law_most", "_law_rows", "_law_cell", "_law_size", "_law_arms", "_law_many"] rfl rfl rfl (by decide +kernel)) (pi_list (pv 2)) rfl (fun _ _ _=>pg_name (i:=0) (show (["_law_row_here"]:List Str).Nodup by decide +kernel) rfl (Or.inl rfl)) (fun _ _ _=>(pe_ix ix_tup (pv 0) pe_int (fun _ _=>rfl)))))))),?_⟩
  try dsimp only [cxOf]
  refine ⟨Nat.zero_le _,fun R hR0 => ?_⟩
  dsimp only [gName]
  have s1:=same_new hR0 (.lst [])
  have hR1:=upd_same (H:=H) (a:=R) (o := .lst [])
  generalize upd H R (.lst [])=H1 at s1 hR1 ⊢
  have hl:(ns.map V.int).length=ns.length:=List.length_map ..
  refine ⟨_,rfl,a,_,rfl,.inl (s1.seq hS),_,rfl,by omega,by omega,?_⟩
  rw [Int.toNat_natCast,hl]
  refine compI_rangeS (half ns 1) (by omega) (fun i hi H' sm R' k' => ?_) (fun i v hi hv H' sm Q' q' => ?_) (fun D2 H2 hD2 s2 hDl => ?_)
  · refine ⟨_,rfl,_,_,rfl,rfl,pos',rfl,_,rfl,?_⟩
    rw [← half_test ns]
    exact k' _ (Same.refl _)
  · obtain ⟨hv,ha⟩:=half_at hi hv
    exact ⟨_,rfl,_,rfl,a,_,_,_,rfl,rfl,(s1.trans sm).seq hS,ha,q' _ (Same.refl _)⟩
  obtain ⟨ms,em,lm⟩:=half_ints ns 1 ns.length
  rw [em] at hDl
  refine ⟨_,rfl,D2,_,rfl,SqL.of hDl,fun C hC => ?_⟩
  obtain ⟨cs,ec,lc⟩:=cut_ints ms none (some 32)
  rw [ec]
  have s3:=same_new hC (.lst (cs.map V.int))
  have hC3:=upd_same (H:=H2) (a:=C) (o := .lst (cs.map V.int))
  have hR3:=s3 _ _ (s2 _ _ hR1)
  generalize upd H2 C (.lst (cs.map V.int))=H3 at s3 hC3 hR3 ⊢
  have g3:=s1.trans (s2.trans s3)
  have hC0:C≠R:=fun e=>by rw [e] at hC;rw [s2 _ _ hR1] at hC;cases hC
  have hCl:(cs.map V.int).length=cs.length:=List.length_map ..
  refine ⟨C,rfl,⟨_,SqL.of hC3⟩,?_⟩
  refine for_list (xs:=cs.map V.int) (fun i σ H'=>TrI H a R i σ H'∧H' C=some (.lst (cs.map V.int))) ⟨TrI.mk none none none none [] [] rfl g3 hR3 .nil (Nat.le_refl _),hC3⟩ (fun i σ H' _ h=>SqL.of h.2) ?_ ?_
  · rintro i x σ H' hx ⟨⟨x3,x4,x5,x6,rvs,ts,rfl,sm,hR,hp,len⟩,hCc⟩
    have hi:i < cs.length:=by have:=(List.getElem?_eq_some_iff.mp hx).1;omega
    obtain ⟨c,hc,rfl⟩:∃ c,cs[i]? = some c∧x = .int c:=by
      rw [List.getElem?_map] at hx
      cases e:cs[i]? with
      | none=>rw [e] at hx;cases hx
      | some c=>rw [e] at hx;cases hx;exact ⟨c,rfl,rfl⟩
    dsimp only [gName]
    have hal:=Paired.length hp
    refine rd_if2 (fun b Hc=>Same H' Hc∧(b=false→rvs ≠ [])) (fun Qc qc => ?_) (fun Hc h => ?_) (fun Hc h => ?_)
    · refine ⟨_,rfl,Nat.zero_le _,fun N hN => ?_⟩
      have s4:=same_new hN (.lst [])
      refine ⟨R,N,rvs,rfl,rfl,s4 _ _ hR,upd_same,_,rfl,?_⟩
      cases hrv:rvs with
      | nil=>exact iteT (qc _ _ ⟨s4,fun z=>nomatch z⟩)
      | cons v l=>exact iteF ⟨_,rfl,c,_,_,rfl,by decide,by decide,by decide,fun u u0 u1=>⟨_,_,rfl,rfl,_,rfl,qc _ _ ⟨s4,fun _ z=>by rw [hrv] at z;cases z⟩⟩⟩
    · obtain ⟨s4, -⟩:=h
      have hR4:=s4 _ _ hR
      refine ⟨_,rfl,.inl ⟨rfl,_,SqL.of hR4⟩,_,rfl,_,rfl,SpLeafT.mk a ns c rfl ((sm.trans s4).seq hS) fun v t H5 s5 ht g=>⟨(show 2≤sizeLine by decide),fun p hp' => ?_⟩⟩
      have s6:=same_new hp' (.tup [v,.int 1])
      have p1:t.parts=1:=Nat.le_antisymm g.parts (parts_pos t)
      refine ⟨R,rvs,.ref p,rfl,rfl,s6 _ _ (s5 _ _ hR4),small1000 (by omega),tri_more hR0 rfl sm hR hp len (s4.trans (s5.trans s6)) (t:=t) ⟨p,v,rfl,by rw [p1];exact upd_same,tr_same s6 ht,⟨g.ok,by omega,g.no63⟩⟩,?_⟩
      rw [upd_ne hC0]
      exact s6 _ _ (s5 _ _ (s4 _ _ hCc))
    · obtain ⟨s4,hne⟩:=h
      have hne:=hne rfl
      have hR4:=s4 _ _ hR
      have hlen:0 < rvs.length:=List.length_pos_iff.mpr hne
      refine ⟨(show 8≤sizeLine by decide),fun L hL=>⟨_,rfl,c,_,_,rfl,by decide,by decide,by decide,fun u u0 u1 => ?_⟩⟩
      obtain ⟨v,hv,hvm⟩:=atI_ex (xs:=([1,1,2,2,2,2,3,4]:List Int).map V.int) u0 u1
      obtain ⟨z,hz,rfl⟩:=List.mem_map.mp hvm
      have z14:1≤z∧z≤4:=sizes8 z hz
      have s5:=s4.trans (same_new hL (.tup (([1,1,2,2,2,2,3,4]:List Int).map V.int)))
      refine ⟨L,_,_,_,rfl,rfl,SqT.of upd_same,hv,?_⟩
      have e5:(upd Hc L (.tup (([1,1,2,2,2,2,3,4]:List Int).map V.int))) R=some (.lst rvs):=s5 _ _ hR
      show tSeq _ _ _ _ (upd Hc L (.tup (([1,1,2,2,2,2,3,4]:List Int).map V.int)))
      generalize upd Hc L (.tup (([1,1,2,2,2,2,3,4]:List Int).map V.int))=H5 at s5 e5 ⊢
      have hp5:=trow_same s5 hp
      refine ⟨_,rfl,_,rfl,by omega,by omega,?_⟩
      refine comp_rangeP (R:=fun H v (_:Unit)=>∃ t,TRow H v t) (g:=fun _=>()) (fun H H' v b k h=>h.imp fun t ht=>ht.keep k) (by omega) (fun j hj H6 s6 Q' q' => ?_) (fun A6 H6 ys hA6 s6 hAl hys => ?_)
      · refine ⟨_,rfl,_,rfl,_,rfl,_,_,rfl,rfl,_,_,rfl,rfl,.inl ⟨by omega,by omega⟩,_,rfl,R,_,rfl,.inl (SqL.of (s6 _ _ e5)),c,_,_,rfl,by omega,by omega,by omega,fun r r0 r1 => ?_⟩
        obtain ⟨y,hy,hym⟩:=atI_ex (xs:=rvs) r0 r1
        obtain ⟨k,hk,hky⟩:=List.getElem_of_mem hym
        obtain ⟨t,ht,hT⟩:=paired_at (trow_same s6 hp5) (show rvs[k]? = some y by rw [List.getElem?_eq_getElem hk,hky])
        exact ⟨R,rvs,r,y,rfl,rfl,SqL.of (s6 _ _ e5),hy,q' _ _ (Same.refl _) ⟨t,hT⟩⟩
      have hyl:=Paired.length hys
      rw [List.length_map,List.length_range] at hyl
      obtain ⟨us,hus⟩:=pick_ex hys
      have hul:=Paired.length hus
      have e6:=s6 _ _ e5
      refine ⟨_,rfl,A6,rfl,⟨ys,SqL.of hAl⟩,?_⟩
      refine comp_listP (R:=fun _ v (n:Int)=>v=V.int n) (bs:=us.map fun t=>(t.parts:Int)) (fun _ _ _ _ _ h=>h) (SqL.of hAl) (by omega) (by rw [List.length_map];omega) (fun j x y hx hy H7 s7 Q' q' => ?_) (fun A7 H7 zs hA7 s7 hA7l hzs => ?_)
      · obtain ⟨t,ht,hT⟩:=paired_at (trow_same s7 hus) hx
        rw [List.getElem?_map,ht] at hy
        cases hy
        obtain ⟨p,u,rfl,hp',_⟩:=hT
        exact ⟨_,rfl,p,_,1,_,rfl,rfl,SqT.of hp',atI_nat (j:=1) rfl,q' _ _ (Same.refl _) rfl⟩
      rw [ints_of hzs] at hA7l
      refine ⟨A7,_,rfl,SqL.of hA7l,_,_,rfl,rfl,?_⟩
      rw [sum_parts]
      have hAl7:=s7 _ _ hAl
      have hus7:=trow_same s7 hus
      have e7:=s7 _ _ e6
      have g7:=s5.trans (s6.trans s7)
      show tSeq _ _ _ _ _
      refine ⟨_,rfl,_,rfl,_,_,rfl,rfl,_,rfl,iteD (fun cm => ?_) (fun _ => ?_)⟩
      · refine ⟨_,rfl,.inl ⟨rfl,_,SqL.of e7⟩,_,rfl,_,rfl,_,rfl,A6,rfl,⟨ys,SqL.of hAl7⟩,?_⟩
        refine comp_listP (R:=fun H v t=>IsTr H t v) (bs:=us) (fun H H' v t=>tr_keepR H H' v t) (SqL.of hAl7) (by omega) (by omega) (fun j x y hx hy H8 s8 Q' q' => ?_) (fun A8 H8 ws hA8 s8 hA8l hws => ?_)
        · obtain ⟨t,ht,hT⟩:=paired_at (trow_same s8 hus7) hx
          rw [ht] at hy
          cases hy
          obtain ⟨p,u,rfl,hp',hu',_⟩:=hT
          exact ⟨_,rfl,p,_,0,_,rfl,rfl,SqT.of hp',atI_nat (j:=0) rfl,q' _ _ (Same.refl _) hu'⟩
        refine ⟨A8,ws,rfl,.inl ⟨SqL.of hA8l,fun T9 hT9 => ?_⟩⟩
        have s9:=same_new hT9 (.tup ws)
        refine SpKnotT.mk a T9 ns c ws us rfl ((sm.trans (g7.trans (s8.trans s9))).seq hS) upd_same (trs_paired (Paired.mapP hws fun _ _ h=>tr_same s9 h)) fun v x H10 s10 ht hx=>⟨_,rfl,(show 2≤sizeLine by decide),fun p hp' => ?_⟩
        have s11:=same_new hp' (.tup [v,.int (1+(T.partss us:Int))])
        have gg:=g7.trans (s8.trans (s9.trans (s10.trans s11)))
        have ep:((T.of x us).parts:Int)=1+(T.partss us:Int):=by rw [T.parts];omega
        have okG:∀ t∈us,TreeG 12 t:=fun t ht=>by
          obtain ⟨j,hj,e⟩:=List.getElem_of_mem ht
          obtain ⟨y,_,hT⟩:=paired_at' hus (show us[j]? = some t by rw [List.getElem?_eq_getElem hj,e])
          exact hT.g
        refine ⟨R,rvs,.ref p,rfl,rfl,gg _ _ hR,small1000 (by omega),tri_more hR0 rfl sm hR hp len gg (t := .of x us) ⟨p,v,rfl,by rw [ep];exact upd_same,tr_same s11 ht,⟨?_,?_,no63_of hx (fun t ht=>(okG t ht).no63) (by omega)⟩⟩,?_⟩
        · rw [T.Ok,oks_all]
          exact ⟨hx,by omega,by omega,fun t ht=>(okG t ht).ok⟩
        · rw [T.parts];omega
        · rw [upd_ne hC0]
          exact gg _ _ hCc
      · exact ⟨TrI.mk _ _ _ _ rvs ts rfl (sm.trans g7) (g7 _ _ hR) (trow_same g7 hp) (by omega),g7 _ _ hCc⟩
  · rintro σ H' ⟨⟨x3,x4,x5,x6,rvs,ts,rfl,sm,hR,hp,len⟩, -⟩
    have hal:=Paired.length hp
    refine ⟨_,rfl,R,rfl,⟨rvs,SqL.of hR⟩,?_⟩
    refine comp_listP (R:=fun H v t=>IsTr H t v) (bs:=ts) (fun H H' v t=>tr_keepR H H' v t) (SqL.of hR) (by omega) (by omega) (fun j x y hx hy H8 s8 Q' q' => ?_) (fun A8 H8 ws hA8 s8 hA8l hws => ?_)
    · obtain ⟨t,ht,hT⟩:=paired_at (trow_same s8 hp) hx
      rw [ht] at hy
      cases hy
      obtain ⟨p,u,rfl,hp',hu',_⟩:=hT
      exact ⟨_,rfl,p,_,0,_,rfl,rfl,SqT.of hp',atI_nat (j:=0) rfl,q' _ _ (Same.refl _) hu'⟩
    have hwl:=Paired.length hws
    refine q A8 ws ts H8 (sm.trans s8) hA8l hws (fun t ht => ?_) (by omega)
    obtain ⟨j,hj,e⟩:=List.getElem_of_mem ht
    obtain ⟨y,_,hT⟩:=paired_at' hp (show ts[j]? = some t by rw [List.getElem?_eq_getElem hj,e])
    exact hT.g
end

end K71
namespace K71
open PySem L2 Sw
section
variable {P:Program} {w:World} {K:PySem.W.Frag} {mg:Str→Option Value} {base:Heap}
inductive Od
  | rule (z:Str) (wt:Int) (l r:T) (as:List Ask)
  | cost (k:Str) (n:Int)
  | grow (a b:Int)
  | pair (x:Str) (t u:T)
  | one (x:Str) (t:T)
noncomputable def pairW:List Str := ["tell", "same", "why"]
noncomputable def treeW:List Str := ["put", "cheap", "shared", "sign", "names", "number"]
noncomputable def Od.title:Od→Option Str
  | .rule z _ _ _ _=>some z
  | _=>none
noncomputable def OdG:Od→Prop
  | .rule z wt l r as=>RuleG z wt l r as
  | .cost k n=>(IsW k∨k = "#" ∨ k = "@")∧1≤n∧n≤1000000000000
  | .grow a b=>(0≤a∧a≤100)∧1≤b∧b≤1000
  | .pair x t u=>x∈pairW∧TreeG 12 t∧TreeG 12 u
  | .one x t=>x∈treeW∧TreeG 12 t
inductive OrAt (R:Addr) (H:Hp):V→Od→Prop
  | rule (p d AL:Addr) (vl vr:V) (avs:List V) (z:Str) (wt:Int) (l r:T) (as:List Ask) (hp:H p=some (.tup [.str "rule",.ref d])) (due:DueAt H d z wt vl vr l r AL avs as) (ne:AL≠R):OrAt R H (.ref p) (.rule z wt l r as)
  | cost (p:Addr) (k:Str) (n:Int) (hp:H p=some (.tup [.str "cost",.str k,.int n])):OrAt R H (.ref p) (.cost k n)
  | grow (p:Addr) (a b:Int) (hp:H p=some (.tup [.str "grow",.int a,.int b])):OrAt R H (.ref p) (.grow a b)
  | pair (p:Addr) (v1 v2:V) (x:Str) (t u:T) (hp:H p=some (.tup [.str x,v1,v2])) (h1:IsTr H t v1) (h2:IsTr H u v2):OrAt R H (.ref p) (.pair x t u)
  | one (p:Addr) (v1:V) (x:Str) (t:T) (hp:H p=some (.tup [.str x,v1])) (h1:IsTr H t v1):OrAt R H (.ref p) (.one x t)
theorem OrAt.same {R:Addr} {H H':Hp} {v:V} {o:Od} (s:Same H H') (h:OrAt R H v o):OrAt R H' v o:=by
  cases h with
  | rule p d AL vl vr avs z wt l r as hp due ne=>exact .rule p d AL vl vr avs z wt l r as (s _ _ hp) (due.same s) ne
  | cost p k n hp=>exact .cost p k n (s _ _ hp)
  | grow p a b hp=>exact .grow p a b (s _ _ hp)
  | pair p v1 v2 x t u hp h1 h2=>exact .pair p v1 v2 x t u (s _ _ hp) (tr_same s h1) (tr_same s h2)
  | one p v1 x t hp h1=>exact .one p v1 x t (s _ _ hp) (tr_same s h1)
theorem OrAt.put {R:Addr} {H:Hp} {v:V} {o:Od} {xs ys:List V} (hR:H R=some (.lst xs)) (h:OrAt R H v o):OrAt R (upd H R (.lst ys)) v o:=by
  have kp:=keep_put (o' := .lst ys) hR trivial
  cases h with
  | rule p d AL vl vr avs z wt l r as hp due ne=>exact .rule p d AL vl vr avs z wt l r as (kp _ _ hp) ⟨kp _ _ due.hd,tr_keep kp due.hl,tr_keep kp due.hr,by rw [upd_ne ne];exact due.hA,Paired.mapP due.hp fun _ _ z=>z.keep kp⟩ ne
  | cost p k n hp=>exact .cost p k n (kp _ _ hp)
  | grow p a b hp=>exact .grow p a b (kp _ _ hp)
  | pair p v1 v2 x t u hp h1 h2=>exact .pair p v1 v2 x t u (kp _ _ hp) (tr_keep kp h1) (tr_keep kp h2)
  | one p v1 x t hp h1=>exact .one p v1 x t (kp _ _ hp) (tr_keep kp h1)
theorem ors_same {R:Addr} {H H':Hp} {vs:List V} {os:List Od} (s:Same H H') (h:Paired (OrAt R H) vs os):Paired (OrAt R H') vs os:=Paired.mapP h fun _ _ z=>z.same s
theorem pair_ne:∀ x∈pairW,x ≠ "rule" ∧ x ≠ "cost" ∧ x ≠ "grow" := by decide +kernel
theorem tree_ne:∀ x∈treeW,x ≠ "rule" ∧ x ≠ "cost" ∧ x ≠ "grow" := by decide +kernel
theorem OrAt.first {R:Addr} {H:Hp} {v:V} {o:Od} (g:OdG o) (h:OrAt R H v o):∃ p x ys,v = .ref p∧H p=some (.tup (.str x :: ys))∧(x = "rule" ∧ (∃ z,o.title=some z)∨x ≠ "rule" ∧ o.title=none):=by
  cases h with
  | rule p d AL vl vr avs z wt l r as hp due ne=>exact ⟨p,_,_,rfl,hp,.inl ⟨rfl,z,rfl⟩⟩
  | cost p k n hp=>exact ⟨p,_,_,rfl,hp,.inr ⟨by decide,rfl⟩⟩
  | grow p a b hp=>exact ⟨p,_,_,rfl,hp,.inr ⟨by decide,rfl⟩⟩
  | pair p v1 v2 x t u hp h1 h2=>exact ⟨p,_,_,rfl,hp,.inr ⟨(pair_ne x g.1).1,rfl⟩⟩
  | one p v1 x t hp h1=>exact ⟨p,_,_,rfl,hp,.inr ⟨(tree_ne x g.1).1,rfl⟩⟩
inductive SpOrder (K:PySem.W.Frag) (vs:List V) (H:Hp) (Q:VK):Prop
  | mk (a A:Addr) (ns:List Int) (c j:Int) (us:List V) (ts:List T) (ev:vs = [.ref a,.int c,.ref A,.int j]) (hS:SqL K H a (ns.map V.int)) (hA:H A=some (.lst us)) (ht:Paired (fun v t=>IsTr H t v) us ts) (g:∀ t∈ts,TreeG 12 t) (l0:0 < us.length) (l1:us.length≤63) (q:∀ v o H',Same H H'→(∀ R,H R≠none→OrAt R H' v o)→OdG o→(∀ z,o.title=some z→z=wordX (seed ns) j∧j < 20)→Q v H'):SpOrder K vs H Q
noncomputable def spOrder (K:PySem.W.Frag):Sp:=fun vs H Q _=>SpOrder K vs H Q
theorem isW_plus:IsW "plus" := words5 _ (by decide)
theorem tell_at {r:Int} (r0:0≤r) (r6:r < 6) (n1:r≠1) (n2:r≠2):∃ x,atI (pairW.map V.str) (r - 3)=some (.str x)∧x∈pairW:=by
  rcases (show r=0∨r=3∨r=4∨r=5 by omega) with rfl | rfl | rfl | rfl
  · exact ⟨"tell",rfl,by decide⟩
  · exact ⟨"tell",rfl,by decide⟩
  · exact ⟨"same",rfl,by decide⟩
  · exact ⟨"why",rfl,by decide⟩
theorem ok_order (B:Blt mg) (h_draw:Has P w K mg base 1 "_law_draw" ["_law_cell", "_law_factor", "_law_many"] spDraw) (h_word:Has P w K mg base 2 "_law_word" ["_law_script", "_law_which"] (spWordX K)) (h_rule:Has P w K mg base 4 "_law_rule" ["_law_script", "_law_cell", "_law_which"] (spRuleT K)) (D:Def K mg "_law_order" s_order ["_law_script", "_law_cell", "_law_trees_here", "_law_titles"]):Has P w K mg base 5 "_law_order" ["_law_script", "_law_cell", "_law_trees_here", "_law_titles"] (spOrder K):=by
  refine D.has sc_order (fun vs H Q E h => ?_) (fun f cdv A outer s H vs Q E hr h => ?_)
  · obtain ⟨a,A,ns,c,j,us,ts,rfl,_⟩:=h;rfl
  obtain ⟨a,A,ns,c,j,us,ts,rfl,hS,hA,ht,g,l0,l1,q⟩:=h
  refine ⟨_,(pss_cons (ps_set (i:=4) sc_order.nd rfl (Or.inl rfl) (pe_ix ix_list (pv 2) (pe_callH h_draw hr (by omega) rfl (pa_cons (pv 1) (pa_cons pe_int (pa_cons (pe_callB call_len_seq rfl B.len_ PySem.boot_len (pa_cons (pv 2) pa_nil)) pa_nil)))) (fun _ _=>rfl)))
    (pss_cons (ps_set (i:=5) sc_order.nd rfl (Or.inl rfl) (pe_ix ix_list (pv 2) (pe_callH h_draw hr (by omega) rfl (pa_cons (pv 1) (pa_cons pe_int (pa_cons (pe_callB call_len_seq rfl B.len_ PySem.boot_len (pa_cons (pv 2) pa_nil)) pa_nil)))) (fun _ _=>rfl)))
    (pss_cons (ps_set (i:=6) sc_order.nd rfl (Or.inl rfl) (pe_callH h_draw hr (by omega) rfl (pa_cons (pv 1) (pa_cons pe_int (pa_cons pe_int pa_nil)))))
    (pss_cons (ps_if (PW.pt (pw_and (pt_cmpR op_eq (pv 6) pe_int (nomark _)) (pw_and1 (pt_cmpR op_lt (pv 3) pe_int (nomark _))))) (pss_one (ps_ret (pe_tup (pa_cons pe_str (pa_cons (pe_callH h_rule hr (by omega) rfl (pa_cons (pv 0) (pa_cons (pv 1) (pa_cons (pv 3) pa_nil)))) pa_nil))))) pss_nil)
    (pss_cons (ps_if (pt_cmpR op_eq (pv 6) pe_int (nomark _)) (pss_cons (ps_set (i:=7) sc_order.nd rfl (Or.inl rfl) (pe_callH h_word hr (by omega) rfl (pa_cons (pv 0) (pa_cons (pe_callH h_draw hr (by omega) rfl (pa_cons (pv 1) (pa_cons pe_int (pa_cons pe_int pa_nil)))) pa_nil))))
    (pss_cons (ps_set (i:=8) sc_order.nd rfl (Or.inl rfl) (pe_ix ix_tup (pe_tup (pa_cons pe_str (pa_cons pe_str (pa_cons pe_str (pa_cons (pv 7) pa_nil))))) (pe_callH h_draw hr (by omega) rfl (pa_cons (pv 1) (pa_cons pe_int (pa_cons pe_int pa_nil)))) (fun _ _=>rfl)))
    (pss_one (ps_ret (pe_tup (pa_cons pe_str (pa_cons (pv 8) (pa_cons (pe_ix ix_tup (pe_tup (pa_cons pe_int (pa_cons (pe_op op_pow pe_int pe_int) (pa_cons (pe_op op_add pe_int (pe_op op_mod (pv 1) (pe_op op_pow pe_int pe_int))) pa_nil)))) (pe_callH h_draw hr (by omega) rfl (pa_cons (pv 1) (pa_cons pe_int (pa_cons pe_int pa_nil)))) (fun _ _=>rfl)) pa_nil)))))))) pss_nil)
    (pss_cons (ps_if (pt_cmpR op_eq (pv 6) pe_int (nomark _)) (pss_cons (ps_set (i:=9) sc_order.nd rfl (Or.inl rfl) (pe_ix ix_tup (pe_tup (pa_cons pe_int (pa_cons pe_int (pa_cons pe_int (pa_cons (pe_callH h_draw hr (by omega) rfl (pa_cons (pv 1) (pa_cons pe_int (pa_cons pe_int pa_nil)))) pa_nil))))) (pe_callH h_draw hr (by omega) rfl (pa_cons (pv 1) (pa_cons pe_int (pa_cons pe_int pa_nil)))) (fun _ _=>rfl)))
    (pss_one (ps_ret (pe_tup (pa_cons pe_str (pa_cons (pv 9) (pa_cons (pe_ix ix_tup (pe_tup (pa_cons pe_int (pa_cons pe_int (pa_cons (pe_op op_add pe_int (pe_callH h_draw hr (by omega) rfl (pa_cons (pv 1) (pa_cons pe_int (pa_cons pe_int pa_nil))))) pa_nil)))) (pe_callH h_draw hr (by omega) rfl (pa_cons (pv 1) (pa_cons pe_int (pa_cons pe_int pa_nil)))) (fun _ _=>rfl)) pa_nil))))))) pss_nil)
    (pss_cons (ps_if (pt_cmpR op_lt (pv 6) pe_int (nomark _)) (pss_one (ps_ret (pe_tup (pa_cons (pe_ix ix_tup (pe_tup (pa_strsB (L := ["tell", "same", "why"]) (by decide +kernel))) (pe_op op_sub (pv 6) pe_int) (fun _ _=>rfl)) (pa_cons (pv 4) (pa_cons (pv 5) pa_nil)))))) pss_nil)
    (pss_cons (ps_if (pt_cmpR op_lt (pv 6) pe_int (nomark _)) (pss_one (ps_ret (pe_tup (pa_cons (pe_ix ix_tup (pe_tup (pa_strsB (L := ["put", "cheap", "shared", "sign", "names", "number"]) (by decide +kernel))) (pe_op op_sub (pv 6) pe_int) (fun _ _=>rfl)) (pa_cons (pv 4) pa_nil))))) pss_nil)
    (pss_one (ps_ret (pe_tup (pa_cons pe_str (pa_cons (pv 5) pa_nil))))))))))))),?_⟩
  try dsimp only [cxOf]
  have at_:∀ {r:Int} {y:V},atI us r=some y→y∈us→∃ t,IsTr H t y∧TreeG 12 t:=fun {r y} _ hm=>by
    obtain ⟨k,hk,hky⟩:=List.getElem_of_mem hm
    obtain ⟨t,ht1,hT⟩:=paired_at ht (show us[k]? = some y by rw [List.getElem?_eq_getElem hk,hky])
    exact ⟨t,hT,g t (List.mem_of_getElem? ht1)⟩
  refine ⟨_,rfl,_,rfl,_,rfl,A,_,rfl,.inl (SqL.of hA),c,_,_,rfl,by decide,by decide,by omega,fun r1 r10 r11 => ?_⟩
  obtain ⟨y1,hy1,hm1⟩:=atI_ex (xs:=us) r10 r11
  obtain ⟨t1,ht1,g1⟩:=at_ hy1 hm1
  refine ⟨A,us,r1,y1,rfl,rfl,SqL.of hA,hy1,?_⟩
  dsimp only [gName]
  refine ⟨_,rfl,_,rfl,_,rfl,A,_,rfl,.inl (SqL.of hA),c,_,_,rfl,by decide,by decide,by omega,fun r2 r20 r21 => ?_⟩
  obtain ⟨y2,hy2,hm2⟩:=atI_ex (xs:=us) r20 r21
  obtain ⟨t2,ht2,g2⟩:=at_ hy2 hm2
  refine ⟨A,us,r2,y2,rfl,rfl,SqL.of hA,hy2,?_⟩
  dsimp only [gName]
  clear hy1 hm1 hy2 hm2 r10 r11 r20 r21 at_
  refine ⟨_,rfl,c,_,_,rfl,by decide,by decide,by decide,fun r r0 r14 => ?_⟩
  dsimp only [gName]
  refine rd_if2 (fun b H1=>H1=H∧(b=true→j < 20)) (fun Qc qc=>⟨_,rfl,rfl,_,rfl,iteD (fun _=>⟨_,rfl,_,_,rfl,rfl,_,rfl,qc _ _ ⟨rfl,fun z=>of_decide_eq_true z⟩⟩) (fun _=>qc _ _ ⟨rfl,fun z=>nomatch z⟩)⟩) (fun H1 h => ?_) (fun H1 h => ?_)
  · obtain ⟨rfl,j20⟩:=h
    have j20:=j20 rfl
    refine ⟨_,rfl,_,rfl,_,rfl,SpRuleT.mk a ns c j rfl hS fun d wt vl vr l r AL avs as H2 s2 fr due gr=>⟨(show 2≤sizeLine by decide),fun p hp => ?_⟩⟩
    have s3:=same_new hp (.tup [.str "rule",.ref d])
    exact q (.ref p) (.rule _ wt l r as) _ (s2.trans s3) (fun R hR => .rule p d AL vl vr avs _ wt l r as upd_same (due.same s3) (fun e=>hR (by rw [← e];exact fr))) gr (fun z hz=>⟨(Option.some.inj hz).symm,j20⟩)
  obtain ⟨rfl, -⟩:=h
  dsimp only [tNext]
  refine ⟨_,rfl,rfl,_,rfl,iteD (fun _ => ?_) (fun n1 => ?_)⟩
  · refine ⟨_,rfl,_,rfl,c,_,_,rfl,by decide,by decide,by decide,fun u u0 u1=>⟨a,ns,u,rfl,hS,?_⟩⟩
    have wx:=wordX_ok (seed ns) u
    generalize wordX (seed ns) u=x at wx ⊢
    dsimp only [gName]
    refine ⟨_,rfl,(show 4≤sizeLine by decide),fun L hL=>⟨_,rfl,c,_,_,rfl,by decide,by decide,by decide,fun e e0 e1 => ?_⟩⟩
    obtain ⟨k,hk,hkm⟩:=atI_ex (xs:=(["#", "@", "plus",x]:List Str).map V.str) e0 e1
    obtain ⟨k,hkn,rfl⟩:=List.mem_map.mp hkm
    have gk:IsW k∨k = "#" ∨ k = "@" := by
      rcases List.mem_cons.mp hkn with z | hkn
      · exact .inr (.inl z)
      rcases List.mem_cons.mp hkn with z | hkn
      · exact .inr (.inr z)
      rcases List.mem_cons.mp hkn with z | hkn
      · rw [z];exact .inl isW_plus
      · rw [List.mem_singleton.mp hkn];exact .inl wx
    refine ⟨L,_,_,_,rfl,rfl,SqT.of upd_same,hk,?_⟩
    have s1:=same_new hL (.tup ((["#", "@", "plus",x]:List Str).map V.str))
    show tSeq _ _ _ _ (upd H1 L (.tup ((["#", "@", "plus",x]:List Str).map V.str)))
    generalize upd H1 L (.tup ((["#", "@", "plus",x]:List Str).map V.str))=H2 at s1 ⊢
    refine ⟨_,rfl,10,12,rfl,rfl,⟨by decide,by decide,by decide⟩,_,rfl,10,12,rfl,rfl,⟨by decide,by decide,by decide⟩,_,_,rfl,rfl,(by decide:(0:Int) < 10 ^ (12:Int).toNat),_,_,rfl,rfl,(show 3≤sizeLine by decide),fun L2 hL2=>⟨_,rfl,c,_,_,rfl,by decide,by decide,by decide,fun e e0 e1 => ?_⟩⟩
    obtain ⟨n,hn,hnm⟩:=atI_ex (xs:=([1,10 ^ (12:Int).toNat,1+c % 10 ^ (12:Int).toNat]:List Int).map V.int) e0 e1
    obtain ⟨n,hnn,rfl⟩:=List.mem_map.mp hnm
    have y0:=Int.emod_nonneg c (show (10:Int) ^ (12:Int).toNat≠0 by decide)
    have y1:=Int.emod_lt_of_pos c (show (0:Int) < 10 ^ (12:Int).toNat by decide)
    have eb:(10:Int) ^ (12:Int).toNat=1000000000000:=by decide
    have gn:1≤n∧n≤1000000000000:=by
      rw [eb] at hnn y0 y1
      rcases List.mem_cons.mp hnn with z | hnn
      · omega
      rcases List.mem_cons.mp hnn with z | hnn
      · omega
      · have:=List.mem_singleton.mp hnn;omega
    refine ⟨L2,_,_,_,rfl,rfl,SqT.of upd_same,hn,(show 3≤sizeLine by decide),fun p hp => ?_⟩
    exact q (.ref p) (.cost k n) _ (s1.trans ((same_new hL2 _).trans (same_new hp _))) (fun R _ => .cost p k n upd_same) ⟨gk,gn⟩ (fun z hz=>nomatch hz)
  dsimp only [tNext]
  refine ⟨_,rfl,rfl,_,rfl,iteD (fun _ => ?_) (fun n2 => ?_)⟩
  · refine ⟨_,rfl,c,_,_,rfl,by decide,by decide,by decide,fun u u0 u1=>⟨(show 4≤sizeLine by decide),fun L hL=>⟨_,rfl,c,_,_,rfl,by decide,by decide,by decide,fun e e0 e1 => ?_⟩⟩⟩
    obtain ⟨k,hk,hkm⟩:=atI_ex (xs:=([0,100,1,u]:List Int).map V.int) e0 e1
    obtain ⟨k,hkn,rfl⟩:=List.mem_map.mp hkm
    have gk:0≤k∧k≤100:=by
      rcases List.mem_cons.mp hkn with z | hkn
      · omega
      rcases List.mem_cons.mp hkn with z | hkn
      · omega
      rcases List.mem_cons.mp hkn with z | hkn
      · omega
      · have:=List.mem_singleton.mp hkn;omega
    refine ⟨L,_,_,_,rfl,rfl,SqT.of upd_same,hk,?_⟩
    have s1:=same_new hL (.tup (([0,100,1,u]:List Int).map V.int))
    show tSeq _ _ _ _ (upd H1 L (.tup (([0,100,1,u]:List Int).map V.int)))
    generalize upd H1 L (.tup (([0,100,1,u]:List Int).map V.int))=H2 at s1 ⊢
    refine ⟨_,rfl,_,rfl,c,_,_,rfl,by decide,by decide,by decide,fun x x0 x1=>⟨_,_,rfl,rfl,(show 3≤sizeLine by decide),fun L2 hL2=>⟨_,rfl,c,_,_,rfl,by decide,by decide,by decide,fun e e0 e1 => ?_⟩⟩⟩
    obtain ⟨n,hn,hnm⟩:=atI_ex (xs:=([1,1000,1+x]:List Int).map V.int) e0 e1
    obtain ⟨n,hnn,rfl⟩:=List.mem_map.mp hnm
    have gn:1≤n∧n≤1000:=by
      rcases List.mem_cons.mp hnn with z | hnn
      · omega
      rcases List.mem_cons.mp hnn with z | hnn
      · omega
      · have:=List.mem_singleton.mp hnn;omega
    refine ⟨L2,_,_,_,rfl,rfl,SqT.of upd_same,hn,(show 3≤sizeLine by decide),fun p hp => ?_⟩
    exact q (.ref p) (.grow k n) _ (s1.trans ((same_new hL2 _).trans (same_new hp _))) (fun R _ => .grow p k n upd_same) ⟨gk,gn⟩ (fun z hz=>nomatch hz)
  dsimp only [tNext]
  refine ⟨_,rfl,_,_,rfl,rfl,_,rfl,iteD (fun r6 => ?_) (fun n6 => ?_)⟩
  · obtain ⟨x,hx,hxm⟩:=tell_at r0 r6 (fun z=>n1 (by rw [z])) (fun z=>n2 (by rw [z]))
    refine ⟨(show 3≤sizeLine by decide),fun L hL=>⟨_,rfl,_,_,rfl,rfl,L,_,_,_,rfl,rfl,SqT.of upd_same,hx,_,rfl,_,rfl,(show 3≤sizeLine by decide),fun p hp => ?_⟩⟩
    have s1:=(same_new hL (.tup (pairW.map V.str))).trans (same_new hp (.tup [.str x,y1,y2]))
    exact q (.ref p) (.pair x t1 t2) _ s1 (fun R _ => .pair p y1 y2 x t1 t2 upd_same (tr_same s1 ht1) (tr_same s1 ht2)) ⟨hxm,g1,g2⟩ (fun z hz=>nomatch hz)
  dsimp only [tNext]
  refine ⟨_,rfl,_,_,rfl,rfl,_,rfl,iteD (fun r12 => ?_) (fun _ => ?_)⟩
  · obtain ⟨x,hx,hxm⟩:=atI_ex (xs:=treeW.map V.str) (i:=r - 6) (by omega) (show r - 6 < 6 by omega)
    obtain ⟨x,hxn,rfl⟩:=List.mem_map.mp hxm
    refine ⟨(show 6≤sizeLine by decide),fun L hL=>⟨_,rfl,_,_,rfl,rfl,L,_,_,_,rfl,rfl,SqT.of upd_same,hx,_,rfl,(show 2≤sizeLine by decide),fun p hp => ?_⟩⟩
    have s1:=(same_new hL (.tup (treeW.map V.str))).trans (same_new hp (.tup [.str x,y1]))
    exact q (.ref p) (.one x t1) _ s1 (fun R _ => .one p y1 x t1 upd_same (tr_same s1 ht1)) ⟨hxn,g1⟩ (fun z hz=>nomatch hz)
  dsimp only [tNext]
  refine ⟨_,rfl,(show 2≤sizeLine by decide),fun p hp => ?_⟩
  have s1:=same_new hp (.tup [.str "put",y2])
  exact q (.ref p) (.one "put" t2) _ s1 (fun R _ => .one p y2 "put" t2 upd_same (tr_same s1 ht2)) ⟨by decide,g2⟩ (fun z hz=>nomatch hz)
end

end K71
namespace K71
open PySem L2 Sw
section
variable {P:Program} {w:World} {K:PySem.W.Frag} {mg:Str→Option Value} {base:Heap} {CU CNR:Addr}
inductive SpSplit (vs:List V) (H:Hp) (Q:VK):Prop
  | mk (x y a b:Str) (ev:vs = [.str x,.str y]) (hy:(y.length == 0)=false) (hx:x.length≤100000) (e:Txt.partition x y=(a,y,b)) (q:∀ p H',Same H H'→H' p=some (.tup [.str a,.str b])→Q (.ref p) H'):SpSplit vs H Q
noncomputable def spSplit:Sp:=fun vs H Q _=>SpSplit vs H Q
theorem ok_split_at (B:Blt mg) (D:Def K mg "split_at" s_split_at ["text", "sign"]):Has P w K mg base 1 "split_at" ["text", "sign"] spSplit:=by
  refine D.has sc_split_at (fun vs H Q E h => ?_) (fun f cdv A outer s H vs Q E hr h => ?_)
  · obtain ⟨x,y,a,b,rfl,_⟩:=h;rfl
  obtain ⟨x,y,a,b,rfl,hy,hx,e,q⟩:=h
  refine ⟨_,(pss_cons (ps_set (i:=2) sc_split_at.nd rfl (Or.inl rfl) (pe_bm PySem.F.plainAttrs_str PySem.F.slot_str_partition PySem.F.type_str_partition mt_partition (pv 0) (pa_cons (pv 1) pa_nil)))
    (pss_cons (ps_if (pt_cmpR op_eq (pe_ix ix_tup (pv 2) pe_int (fun _ _=>rfl)) pe_str (nomark _)) (pss_one ps_never) pss_nil)
    (pss_one (ps_ret (pe_tup (pa_cons (pe_ix ix_tup (pv 2) pe_int (fun _ _=>rfl)) (pa_cons (pe_ix ix_tup (pv 2) pe_int (fun _ _=>rfl)) pa_nil))))))),?_⟩
  try dsimp only [cxOf]
  refine ⟨_,rfl,rfl,_,rfl,x,y,rfl,rfl,hy,Nat.le_trans hx (by decide),fun p hp => ?_⟩
  rw [e]
  dsimp only [gName]
  refine ⟨_,rfl,p,_,1,_,rfl,rfl,SqT.of upd_same,atI_nat (j:=1) rfl,rfl,_,rfl,iteD (fun z => ?_) (fun _ => ?_)⟩
  · have:y = "" := V.str.inj z
    rw [this] at hy
    exact absurd hy (by decide)
  refine ⟨_,rfl,p,_,0,_,rfl,rfl,SqT.of upd_same,atI_nat (j:=0) rfl,_,rfl,p,_,2,_,rfl,rfl,SqT.of upd_same,atI_nat (j:=2) rfl,(show 2≤sizeLine by decide),fun t ht => ?_⟩
  exact q t _ ((same_new hp _).trans (same_new ht _)) upd_same
theorem figs_in:∀ c:Nat,48≤c→c≤57→(!(Builtin.Str.occurrences ("0123456789" : Str) ⟨#[c]⟩ 0 ("0123456789" : Str).length 1).isEmpty)=true:=by
  have:∀ k,k < 10→(!(Builtin.Str.occurrences ("0123456789" : Str) ⟨#[48+k]⟩ 0 ("0123456789" : Str).length 1).isEmpty)=true:=by decide +kernel
  intro c h1 h2
  have:=this (c - 48) (by omega)
  rw [show 48+(c - 48)=c by omega] at this
  exact this
theorem count_cps (m:Nat):(Str.ofString (toString (m:Int))).cps.toList=dg m:=nt_pos m
inductive SpCount (vs:List V) (H:Hp) (Q:VK):Prop
  | mk (m:Nat) (z0:vs = [.str (Str.ofString (toString (m:Int)))]) (z1:0≤m) (z2:m < 10 ^ 59) (z3:Q (.int (m:Int)) H):SpCount  vs H Q
noncomputable def spCount:Sp:=fun vs H Q _=>SpCount  vs H Q
theorem ok_read_count (B:Blt mg) (g_FIGURES:∃ t,mg "FIGURES" = some (.str "0123456789" t)) (g_MOST_FIGURES:∃ t,mg "MOST_FIGURES" = some (.int 60 t)) (D:Def K mg "read_count" s_read_count ["text"]):Has P w K mg base 1 "read_count" ["text"] spCount:=by
  refine D.has sc_read_count (fun vs H Q E h => ?_) (fun f cdv A outer s H vs Q E hr h => ?_)
  · obtain ⟨m,rfl,_⟩:=h;rfl
  obtain ⟨m,rfl,h1,h60,q⟩:=h
  refine ⟨_,(pss_cons (ps_if (PW.pt (pw_or (pt_cmpR op_eq (pv 0) pe_str (nomark _)) (pw_or (pt_cmpR op_gt (pe_callB call_len_str rfl B.len_ PySem.boot_len (pa_cons (pv 0) pa_nil)) (pe_globI g_MOST_FIGURES rfl) (nomark _)) (pw_or1 (PW.pt (pw_and (pt_cmpR op_eq (pe_ix ix_str (pv 0) pe_int (fun _ _=>rfl)) pe_str (nomark _)) (pw_and1 (pt_cmpR op_ne (pv 0) pe_str (nomark _))))))))) (pss_one (ps_ret pe_non)) pss_nil)
    (pss_cons (ps_for PassesOwn.never rfl (pi_str (pv 0)) (pg_name (i:=1) sc_read_count.nd rfl (Or.inl rfl))
    (pss_one (ps_if (pt_cmpR op_notIn_str (pv 1) (pe_globS g_FIGURES rfl) (by with_unfolding_all rfl)) (pss_one (ps_ret pe_non)) pss_nil)))
    (pss_one (ps_ret (pe_callTy call_int_text rfl B.int_ boot_int_ (pa_cons (pv 0) pa_nil)))))),?_⟩
  try dsimp only [cxOf]
  have ec:=count_cps m
  have hl60:(Str.ofString (toString (m:Int))).length≤60:=by
    rw [ofString_length]
    exact int_text_length_le10 (a:=(m:Int)) (k:=59) (by decide) (by rw [Int.natAbs_natCast];exact h60)
  generalize Str.ofString (toString (m:Int))=x at ec hl60
  have hne:=dg_ne m
  have hd:=dg_digits m
  have hv:=dg_val m
  obtain ⟨c,r,ecr⟩:∃ c r,dg m=c :: r:=by
    cases e:dg m with
    | nil=>exact absurd e hne
    | cons c r=>exact ⟨c,r,rfl⟩
  have hc48:c=48→x = "0" := fun z=>by
    have:=dg_head m (by rw [ecr,z];rfl)
    refine str_ext ?_
    rw [ec,this]
    rfl
  have hx0:x.cps.toList[0]? = some c:=by rw [ec,ecr];rfl
  have h128:x.cps.all (· < 128)=true:=by
    rw [← Array.all_toList,ec]
    exact List.all_eq_true.mpr fun c hc=>decide_eq_true (by have:=hd c hc;omega)
  refine rd_if2 (fun b Hc=>Hc=H∧b=false) (fun Qc qc => ?_) (fun Hc h=>by cases h.2) (fun Hc h => ?_)
  · refine ⟨_,rfl,rfl,_,rfl,iteD (fun z => ?_) (fun _ => ?_)⟩
    · have:x = "" := V.str.inj z
      rw [this] at hx0
      cases hx0
    refine ⟨_,rfl,x,rfl,Nat.le_trans hl60 (by decide),_,_,rfl,rfl,_,rfl,iteD (fun z => ?_) (fun _ => ?_)⟩
    · exact absurd z (by omega)
    refine ⟨_,rfl,_,_,_,rfl,rfl,Nat.le_trans hl60 (by decide),atI_nat (j:=0) hx0,rfl,_,rfl,iteD (fun z => ?_) (fun _=>qc _ _ ⟨rfl,rfl⟩)⟩
    have : [c] = [48]:=congrArg (fun z:Str=>z.cps.toList) (V.str.inj z)
    have e0:=hc48 (List.cons.inj this).1
    refine ⟨_,rfl,rfl,_,rfl,qc _ _ ⟨rfl,?_⟩⟩
    rw [e0,decide_eq_true rfl]
    rfl
  obtain ⟨rfl,_⟩:=h
  dsimp only [tNext]
  refine ⟨_,rfl,x,rfl,h128,?_⟩
  refine for_str (fun i σ H'=>∃ o, σ = [some (.str x),o]∧H'=Hc) ⟨none,rfl,rfl⟩ ?_ ?_
  · rintro i d σ H' hd' ⟨o,rfl,rfl⟩
    have hm:=hd d (by rw [← ec];exact List.mem_of_getElem? hd')
    dsimp only [gName]
    refine ⟨_,rfl,_,_,rfl,rfl,_,rfl,?_⟩
    rw [figs_in d hm.1 hm.2]
    exact iteF ⟨_,rfl,rfl⟩
  · rintro σ H' ⟨o,rfl,rfl⟩
    have hint:intText? x=some ((m:Nat):Int):=by
      rw [PySem.intText_digits (by rw [ec];exact hd) (by rw [ec];exact hne) (by omega),ec,hv]
    exact ⟨_,rfl,_,_,rfl,hint,by omega,q⟩
noncomputable def mki (t:Str):Nat→Int
  | 0=>0
  | i+1=>if ("-0+" : Str).cps.toList.getD i 0∈t.cps.toList then Builtin.bitOr (mki t i) (1 * 2 ^ i) else mki t i
theorem mki_ok {m:Int} (h1:1≤m) (h7:m≤7):mki (maskS m) 3=m:=by
  rcases (by omega:m=1∨m=2∨m=3∨m=4∨m=5∨m=6∨m=7) with rfl | rfl | rfl | rfl | rfl | rfl | rfl <;> decide +kernel
inductive SpRMask (vs:List V) (H:Hp) (Q:VK):Prop
  | mk (m:Int) (z0:vs = [.str (maskS m)]) (z1:1≤m) (z2:m≤7) (z3:∀ H',Same H H'→Q (.int m) H'):SpRMask  vs H Q
noncomputable def spRMask:Sp:=fun vs H Q _=>SpRMask  vs H Q
inductive RmI (H:Hp) (x:Str) (i:Nat) (σ : St) (H':Hp):Prop
  | mk (x2 x3:Option V) (e : σ = [some (.str x),some (.int (mki x i)),x2,x3]) (sm:Same H H'):RmI H x i σ H'
theorem ok_read_mask (B:Blt mg) (g_MASK_SIGNS:∃ t,mg "MASK_SIGNS" = some (.str "-0+" t)) (h_show_mask:Has P w K mg base 1 "show_mask" ["mask"] spMask) (D:Def K mg "read_mask" s_read_mask ["text"]):Has P w K mg base 2 "read_mask" ["text"] spRMask:=by
  refine D.has sc_read_mask (fun vs H Q E h => ?_) (fun f cdv A outer s H vs Q E hr h => ?_)
  · obtain ⟨m,rfl,_⟩:=h;rfl
  obtain ⟨m,rfl,h1,h7,q⟩:=h
  refine ⟨_,(pss_cons (ps_set (i:=1) sc_read_mask.nd rfl (Or.inl rfl) pe_int)
    (pss_cons (ps_for PassesOwn.never rfl (pi_enumS rfl B.enumerate_ (pa_cons (pe_globS g_MASK_SIGNS rfl) pa_nil)) (pg_tup rfl (pgs_cons (pg_name (i:=2) sc_read_mask.nd rfl (Or.inl rfl)) (pgs_cons (pg_name (i:=3) sc_read_mask.nd rfl (Or.inl rfl)) pgs_nil)))
    (pss_one (ps_if (pt_cmpR op_in_str (pv 3) (pv 0) (by with_unfolding_all rfl)) (pss_one (ps_set (i:=1) sc_read_mask.nd rfl (Or.inl rfl) (pe_op op_or (pv 1) (pe_op op_shl pe_int (pv 2))))) pss_nil)))
    (pss_cons (ps_if (pt_cmpR op_ne (pe_callH h_show_mask hr (by omega) rfl (pa_cons (pv 1) pa_nil)) (pv 0) (nomark _)) (pss_one ps_never) pss_nil)
    (pss_one (ps_ret (pv 1)))))),?_⟩
  try dsimp only [cxOf]
  refine rd_set' ?_
  refine ⟨"-0+",rfl,by decide +kernel,?_⟩
  refine for_enumS (RmI H (maskS m)) (RmI.mk none none rfl (Same.refl _)) ?_ ?_
  · rintro i c p σ H2 hc ⟨x2,x3,rfl,s2⟩ hp
    have hi:i < 3:=(List.getElem?_eq_some_iff.mp hc).1
    have s3:=s2.trans (same_new hp (.tup [.int (i:Int),.str ⟨#[c]⟩]))
    have ec:("-0+" : Str).cps.toList.getD i 0=c:=by rw [List.getD_eq_getElem?_getD,hc];rfl
    refine ⟨p,_,rfl,SqT.of upd_same,rfl,_,_,rfl,_,_,rfl,rfl,?_⟩
    dsimp only [gName]
    have hf:=StrLaws.found_one (maskS m) c
    refine ⟨_,rfl,_,rfl,_,_,rfl,rfl,_,rfl,?_⟩
    rw [hf]
    by_cases hb:c∈(maskS m).cps.toList
    · have:mki (maskS m) (i+1)=Builtin.bitOr (mki (maskS m) i) (1 * 2 ^ i):=by rw [mki,ec,if_pos hb]
      rw [decide_eq_true hb]
      refine iteT ⟨_,rfl,_,rfl,_,_,rfl,rfl,⟨by omega,by omega,by decide⟩,_,_,rfl,rfl,RmI.mk (some (.int (i:Int))) (some (.str ⟨#[c]⟩)) ?_ s3⟩
      rw [this,Int.toNat_natCast]
      rfl
    · have:mki (maskS m) (i+1)=mki (maskS m) i:=by rw [mki,ec,if_neg hb]
      rw [decide_eq_false hb]
      exact iteF (RmI.mk _ _ (by rw [this];rfl) s3)
  · rintro σ H2 ⟨x2,x3,rfl,s2⟩
    rw [show mki (maskS m) ("-0+" : Str).length=m from mki_ok h1 h7]
    refine ⟨_,rfl,m,rfl,h1,h7,fun H3 s3=>⟨_,rfl,rfl,_,rfl,iteDN (fun z=>absurd rfl z) (fun _=>⟨_,rfl,q _ (s2.trans s3)⟩)⟩⟩
end

end K71
namespace K71
open PySem L2 Sw
section
variable {P:Program} {w:World} {K:PySem.W.Frag} {mg:Str→Option Value} {base:Heap} {CU CNR CNT:Addr}
theorem starts_hole (h:Str):Txt.startswith ("?" ++ h) "?" = true:=by
  unfold Txt.startswith
  rw [StrLaws.subAt_eq,app_cps,Str.length_append]
  show (decide (0+1≤1+h.length) && ((63 :: h.cps.toList).drop 0).take 1 == [63])=true
  rw [decide_eq_true (by omega)]
  rfl
theorem slice_hole (h:Str):Txt.slice ("?" ++ h) (some 1) none=h:=by
  refine str_ext ?_
  have hl:("?" ++ h:Str).length=1+h.length:=by rw [Str.length_append];rfl
  rw [slice_cps,HT.sIx_none,show HT.sIx ("?" ++ h:Str).length 0 (some (1:Int))=1 by rw [show (1:Int)=((1:Nat):Int) from rfl,HT.sIx_nat];omega,app_cps]
  show ((63 :: h.cps.toList).drop 1).take _=_
  rw [List.drop_one,List.tail_cons]
  exact List.take_of_length_le (by rw [← len_cps];omega)
theorem join3 (a b c:Str):Str.join " " [a,b,c]=a ++ " " ++ b ++ " " ++ c:=by
  refine str_ext ?_
  rw [Str.join,Str.join,Str.join]
  · simp only [app_cps,List.append_assoc]
  · intro z;cases z
  · intro z;cases z
theorem join2 (a b:Str):Str.join " " [a,b]=a ++ " " ++ b:=by
  rw [Str.join,Str.join]
  intro z;cases z
theorem hole_no {h:Str} (hw:IsW h):32 ∉ ("?" ++ h:Str).cps.toList:=by
  rw [app_cps]
  intro z
  rcases List.mem_append.mp z with z | z
  · cases List.mem_singleton.mp z
  · exact word_not hw (by decide) z
theorem mask_no (m:Int):32 ∉ (maskS m).cps.toList:=by
  unfold maskS
  rw [List.getD_eq_getElem?_getD]
  cases h:masks[(m - 1).toNat]? with
  | none=>exact fun z=>nomatch z
  | some z =>
    have:∀ z∈masks,32 ∉ z.cps.toList:=by decide +kernel
    exact this z (List.mem_of_getElem? h)
noncomputable def askW:Ask→List Str
  | .free h z => ["free", "?" ++ h,z]
  | .sign h m => ["sign", "?" ++ h,maskS m]
  | .num h => ["number", "?" ++ h]
theorem ask_split {bs:List Str} {a:Ask} (g:AskG bs a):Txt.split (askS a) " " = askW a:=by
  have hk:Builtin.Str.strKind (" " : Str)=1:=by decide +kernel
  have hy:(" " : Str).cps.toList[0]? = some 32:=rfl
  have hw:=g.w
  cases a with
  | free h z =>
    have hw:IsW h:=hw
    have hz:=g.ok.2
    have e:askS (.free h z)=Str.join " " (askW (.free h z)):=by
      show "free ?" ++ h ++ " " ++ z=Str.join " " ["free", "?" ++ h,z]
      rw [join3]
      refine str_ext ?_
      simp only [app_cps,List.append_assoc]
      rfl
    rw [e]
    refine split_join hk hy (show 1≤3 by decide) fun u hu => ?_
    rcases List.mem_cons.mp hu with rfl | hu
    · decide +kernel
    rcases List.mem_cons.mp hu with rfl | hu
    · exact hole_no hw
    rw [List.mem_singleton.mp hu];exact word_not hz (by decide)
  | sign h m =>
    have hw:IsW h:=hw
    have e:askS (.sign h m)=Str.join " " (askW (.sign h m)):=by
      show "sign ?" ++ h ++ " " ++ maskS m=Str.join " " ["sign", "?" ++ h,maskS m]
      rw [join3]
      refine str_ext ?_
      simp only [app_cps,List.append_assoc]
      rfl
    rw [e]
    refine split_join hk hy (show 1≤3 by decide) fun u hu => ?_
    rcases List.mem_cons.mp hu with rfl | hu
    · decide +kernel
    rcases List.mem_cons.mp hu with rfl | hu
    · exact hole_no hw
    rw [List.mem_singleton.mp hu];exact mask_no m
  | num h =>
    have hw:IsW h:=hw
    have e:askS (.num h)=Str.join " " (askW (.num h)):=by
      show "number ?" ++ h=Str.join " " ["number", "?" ++ h]
      rw [join2]
      refine str_ext ?_
      simp only [app_cps,List.append_assoc]
      rfl
    rw [e]
    refine split_join hk hy (show 1≤2 by decide) fun u hu => ?_
    rcases List.mem_cons.mp hu with rfl | hu
    · decide +kernel
    rw [List.mem_singleton.mp hu];exact hole_no hw
inductive SpRAsk (vs:List V) (H:Hp) (Q:VK):Prop
  | mk (a:Ask) (bs:List Str) (ev:vs = [.str (askS a)]) (g:AskG bs a) (q:∀ v H',Same H H'→AskAt H' v a→Q v H'):SpRAsk vs H Q
noncomputable def spRAsk:Sp:=fun vs H Q _=>SpRAsk vs H Q
theorem ok_read_ask (B:Blt mg) (h_read_mask:Has P w K mg base 2 "read_mask" ["text"] spRMask) (D:Def K mg "read_ask" s_read_ask ["text"]):Has P w K mg base 3 "read_ask" ["text"] spRAsk:=by
  refine D.has sc_read_ask (fun vs H Q E h => ?_) (fun f cdv A outer s H vs Q E hr h => ?_)
  · obtain ⟨a,bs,rfl,_⟩:=h;rfl
  obtain ⟨a,bs,rfl,g,q⟩:=h
  refine ⟨_,(pss_cons (ps_set (i:=1) sc_read_ask.nd rfl (Or.inl rfl) (pe_bm PySem.F.plainAttrs_str PySem.F.slot_str_split PySem.F.type_str_split mt_split (pv 0) (pa_cons pe_str pa_nil)))
    (pss_cons (ps_if (PW.pt (pw_or (pt_cmpR op_lt (pe_callB call_len_seq rfl B.len_ PySem.boot_len (pa_cons (pv 1) pa_nil)) pe_int (nomark _)) (pw_or1 (pt_not (pt_val (pe_bm PySem.F.plainAttrs_str PySem.F.slot_str_startswith PySem.F.type_str_startswith mt_startswith (pe_ix ix_list (pv 1) pe_int (fun _ _=>rfl)) (pa_cons pe_str pa_nil))))))) (pss_one ps_never) pss_nil)
    (pss_cons (ps_set (i:=2) sc_read_ask.nd rfl (Or.inl rfl) (pe_slice sl_str (pe_ix ix_list (pv 1) pe_int (fun _ _=>rfl)) (po_some pe_int) po_none))
    (pss_cons (ps_if (PW.pt (pw_and (pt_cmpR op_eq (pe_ix ix_list (pv 1) pe_int (fun _ _=>rfl)) pe_str (nomark _)) (pw_and1 (pt_cmpR op_eq (pe_callB call_len_seq rfl B.len_ PySem.boot_len (pa_cons (pv 1) pa_nil)) pe_int (nomark _))))) (pss_one (ps_ret (pe_tup (pa_cons pe_str (pa_cons (pv 2) (pa_cons (pe_ix ix_list (pv 1) pe_int (fun _ _=>rfl)) pa_nil)))))) pss_nil)
    (pss_cons (ps_if (PW.pt (pw_and (pt_cmpR op_eq (pe_ix ix_list (pv 1) pe_int (fun _ _=>rfl)) pe_str (nomark _)) (pw_and1 (pt_cmpR op_eq (pe_callB call_len_seq rfl B.len_ PySem.boot_len (pa_cons (pv 1) pa_nil)) pe_int (nomark _))))) (pss_one (ps_ret (pe_tup (pa_cons pe_str (pa_cons (pv 2) (pa_cons (pe_callH h_read_mask hr (by omega) rfl (pa_cons (pe_ix ix_list (pv 1) pe_int (fun _ _=>rfl)) pa_nil)) pa_nil)))))) pss_nil)
    (pss_cons (ps_if (PW.pt (pw_and (pt_cmpR op_eq (pe_ix ix_list (pv 1) pe_int (fun _ _=>rfl)) pe_str (nomark _)) (pw_and1 (pt_cmpR op_eq (pe_callB call_len_seq rfl B.len_ PySem.boot_len (pa_cons (pv 1) pa_nil)) pe_int (nomark _))))) (pss_one (ps_ret (pe_tup (pa_cons pe_str (pa_cons (pv 2) pa_nil))))) pss_nil)
    (pss_one ps_never))))))),?_⟩
  try dsimp only [cxOf]
  have big:(1000:Nat)≤sizeLine:=by decide
  have al:=askS_len g
  have h8:=g.w.2.1
  have e:=ask_split g
  refine ⟨_,rfl,rfl,askS a, " ",rfl,rfl,by decide,by omega,fun l hl => ?_⟩
  rw [e]
  have s1:=same_new hl (.lst ((askW a).map V.str))
  have hl1:=upd_same (H:=H) (a:=l) (o := .lst ((askW a).map V.str))
  generalize upd H l (.lst ((askW a).map V.str))=H1 at s1 hl1 ⊢
  dsimp only [gName]
  have hS:SqL K H1 l ((askW a).map V.str):=SqL.of hl1
  cases a with
  | free h z =>
    have h8:h.length≤8:=h8
    have hq:("?" ++ h:Str).length≤sizeLine:=by rw [Str.length_append];show 1+h.length≤_;omega
    refine ⟨_,rfl,l,_,rfl,.inl hS,_,_,rfl,rfl,_,rfl,iteD (fun z=>absurd (show (3:Int) < 2 from z) (by decide)) (fun _ => ?_)⟩
    refine ⟨_,rfl,l,_,_,_,rfl,rfl,hS,atI_nat (j:=1) rfl,rfl,_,_,rfl,rfl,?_⟩
    rw [starts_hole]
    refine ⟨_,rfl,iteF ?_⟩
    refine ⟨_,rfl,l,_,_,_,rfl,rfl,hS,atI_nat (j:=1) rfl,_,rfl,_,rfl,hq,?_⟩
    rw [slice_hole]
    dsimp only [gName]
    refine ⟨_,rfl,l,_,_,_,rfl,rfl,hS,atI_nat (j:=0) rfl,rfl,_,rfl,iteD (fun _ => ?_) (fun z=>absurd rfl z)⟩
    refine ⟨_,rfl,l,_,rfl,.inl hS,rfl,_,rfl,iteD (fun _ => ?_) (fun z=>absurd rfl z)⟩
    refine ⟨_,rfl,_,rfl,l,_,_,_,rfl,rfl,hS,atI_nat (j:=2) rfl,(show 3≤sizeLine by decide),fun p hp => ?_⟩
    exact q _ _ (s1.trans (same_new hp _)) ⟨p,rfl,upd_same⟩
  | sign h m =>
    have h8:h.length≤8:=h8
    have hq:("?" ++ h:Str).length≤sizeLine:=by rw [Str.length_append];show 1+h.length≤_;omega
    refine ⟨_,rfl,l,_,rfl,.inl hS,_,_,rfl,rfl,_,rfl,iteD (fun z=>absurd (show (3:Int) < 2 from z) (by decide)) (fun _ => ?_)⟩
    refine ⟨_,rfl,l,_,_,_,rfl,rfl,hS,atI_nat (j:=1) rfl,rfl,_,_,rfl,rfl,?_⟩
    rw [starts_hole]
    refine ⟨_,rfl,iteF ?_⟩
    refine ⟨_,rfl,l,_,_,_,rfl,rfl,hS,atI_nat (j:=1) rfl,_,rfl,_,rfl,hq,?_⟩
    rw [slice_hole]
    dsimp only [gName]
    refine ⟨_,rfl,l,_,_,_,rfl,rfl,hS,atI_nat (j:=0) rfl,rfl,_,rfl,iteD (fun z=>absurd (V.str.inj z) (by decide)) (fun _=>iteF ?_)⟩
    dsimp only [tNext]
    refine ⟨_,rfl,l,_,_,_,rfl,rfl,hS,atI_nat (j:=0) rfl,rfl,_,rfl,iteD (fun _ => ?_) (fun z=>absurd rfl z)⟩
    refine ⟨_,rfl,l,_,rfl,.inl hS,rfl,_,rfl,iteD (fun _ => ?_) (fun z=>absurd rfl z)⟩
    refine ⟨_,rfl,_,rfl,l,_,_,_,rfl,rfl,hS,atI_nat (j:=2) rfl,m,rfl,g.ok.2.1,g.ok.2.2,fun H2 s2=>⟨(show 3≤sizeLine by decide),fun p hp => ?_⟩⟩
    exact q _ _ (s1.trans (s2.trans (same_new hp _))) ⟨p,rfl,upd_same⟩
  | num h =>
    have h8:h.length≤8:=h8
    have hq:("?" ++ h:Str).length≤sizeLine:=by rw [Str.length_append];show 1+h.length≤_;omega
    refine ⟨_,rfl,l,_,rfl,.inl hS,_,_,rfl,rfl,_,rfl,iteD (fun z=>absurd (show (2:Int) < 2 from z) (by decide)) (fun _ => ?_)⟩
    refine ⟨_,rfl,l,_,_,_,rfl,rfl,hS,atI_nat (j:=1) rfl,rfl,_,_,rfl,rfl,?_⟩
    rw [starts_hole]
    refine ⟨_,rfl,iteF ?_⟩
    refine ⟨_,rfl,l,_,_,_,rfl,rfl,hS,atI_nat (j:=1) rfl,_,rfl,_,rfl,hq,?_⟩
    rw [slice_hole]
    dsimp only [gName]
    refine ⟨_,rfl,l,_,_,_,rfl,rfl,hS,atI_nat (j:=0) rfl,rfl,_,rfl,iteD (fun z=>absurd (V.str.inj z) (by decide)) (fun _=>iteF ?_)⟩
    dsimp only [tNext]
    refine ⟨_,rfl,l,_,_,_,rfl,rfl,hS,atI_nat (j:=0) rfl,rfl,_,rfl,iteD (fun z=>absurd (V.str.inj z) (by decide)) (fun _=>iteF ?_)⟩
    dsimp only [tNext]
    refine ⟨_,rfl,l,_,_,_,rfl,rfl,hS,atI_nat (j:=0) rfl,rfl,_,rfl,iteD (fun _ => ?_) (fun z=>absurd rfl z)⟩
    refine ⟨_,rfl,l,_,rfl,.inl hS,rfl,_,rfl,iteD (fun _ => ?_) (fun z=>absurd rfl z)⟩
    refine ⟨_,rfl,(show 2≤sizeLine by decide),fun p hp => ?_⟩
    exact q _ _ (s1.trans (same_new hp _)) ⟨p,rfl,upd_same⟩
inductive SpRSide (vs:List V) (H:Hp) (Q:VK):Prop
  | mk (t:T) (ev:vs = [.str t.shown]) (ok:t.Ok) (hp:t.parts≤12) (hd:t.depth≤14) (q:∀ v H',Same H H'→IsTr H' t v→Q v H'):SpRSide vs H Q
noncomputable def spRSide:Sp:=fun vs H Q _=>SpRSide vs H Q
theorem ok_read_side (B:Blt mg) (h_read_pattern:HasE P w K mg base 65 "read_pattern" ["text"] (spRead CNT true)) (D:Def K mg "read_side" s_read_side ["text"]):Has P w K mg base 66 "read_side" ["text"] spRSide:=by
  refine D.has sc_read_side (fun vs H Q E h => ?_) (fun f cdv A outer s H vs Q E hr h => ?_)
  · obtain ⟨t,rfl,_⟩:=h;rfl
  obtain ⟨t,rfl,ok,hp,hd,q⟩:=h
  refine ⟨_,(pss_one (ps_tryNo (pss_one (ps_ret (pe_callE h_read_pattern hr (by omega) passNo rfl (pa_cons (pv 0) pa_nil)))))),?_⟩
  try dsimp only [cxOf]
  have st:Stop []:=fun c hc=>nomatch hc
  have e:=pt_done true 30 t ok (by omega) (.inl rfl) [] st
  rw [List.append_nil] at e
  have sl:=shown12 ok hp
  refine ⟨_,rfl,t.shown,rfl,by omega,fun t' e' hp' v H' s' tr => ?_,fun h => ?_⟩
  · rw [e] at e'
    cases e'
    exact q v H' s' tr
  · have:=h t e
    omega
end

end K71
namespace K71
open PySem L2 Sw
section
variable {P:Program} {w:World} {K:PySem.W.Frag} {mg:Str→Option Value} {base:Heap} {CU CNR CNT:Addr}
noncomputable def tailS (r:T) (as:List Ask):Str:=if 0 < as.length then r.shown ++ " if " ++ Str.join ", " (as.map askS) else r.shown
theorem ruleS_cps (z:Str) (wt:Int) (l r:T) (as:List Ask):(ruleS z wt l r as).cps.toList=(z ++ " " ++ Str.ofString (toString wt)).cps.toList ++ ((": " : Str).cps.toList ++ (l.shown ++ " = " ++ tailS r as).cps.toList):=by
  unfold ruleS tailS ruleS0
  by_cases h:0 < as.length
  · rw [if_pos h,if_pos h]
    simp only [app_cps,List.append_assoc]
  · rw [if_neg h,if_neg h]
    simp only [app_cps,List.append_assoc]
theorem cut1 {z:Str} {wt:Int} {l r:T} {as:List Ask} (hz:IsW z):Txt.partition (ruleS z wt l r as) (": " : Str)=(z ++ " " ++ Str.ofString (toString wt),(": " : Str),l.shown ++ " = " ++ tailS r as):=by
  refine cut_sign (j:=0) (c:=58) (ruleS_cps z wt l r as) rfl (fun h => ?_) (fun i hi=>absurd hi (Nat.not_lt_zero _))
  rw [app_cps,app_cps] at h
  rcases List.mem_append.mp h with h | h
  · rcases List.mem_append.mp h with h | h
    · exact word_not hz (by decide) h
    · cases List.mem_singleton.mp h
  · have:=num_signs wt 58 h
    omega
theorem cut2 {z:Str} {W:Str} (hz:IsW z):Txt.partition (z ++ " " ++ W) (" " : Str)=(z,(" " : Str),W) :=
  cut_sign (j:=0) (c:=32) (by rw [app_cps,app_cps,List.append_assoc]) rfl (word_not hz (by decide)) (fun i hi=>absurd hi (Nat.not_lt_zero _))
theorem cut3 {l:T} {R:Str} (hl:l.Ok):Txt.partition (l.shown ++ " = " ++ R) (" = " : Str)=(l.shown,(" = " : Str),R) :=
  cut_sign (j:=1) (c:=61) (by rw [app_cps,app_cps,List.append_assoc]) rfl (shown_sign hl (by decide +kernel)) (fun i hi=>by
    have:i=0:=by omega
    subst this
    exact fun e=>absurd (Option.some.inj e) (by decide))
theorem cut4 {r:T} {as:List Ask} (hr:r.Ok):Txt.partition (tailS r as) (" if " : Str)=(r.shown,(if 0 < as.length then (" if " : Str) else Str.empty),(if 0 < as.length then Str.join ", " (as.map askS) else Str.empty)):=by
  unfold tailS
  by_cases h:0 < as.length
  · rw [if_pos h,if_pos h,if_pos h]
    exact if_first hr (by rw [app_cps,app_cps,List.append_assoc])
  · rw [if_neg h,if_neg h,if_neg h]
    exact cut_none (if_no hr)
theorem mask_com (m:Int):44 ∉ (maskS m).cps.toList:=by
  unfold maskS
  rw [List.getD_eq_getElem?_getD]
  cases h:masks[(m - 1).toNat]? with
  | none=>exact fun z=>nomatch z
  | some z =>
    have:∀ z∈masks,44 ∉ z.cps.toList:=by decide +kernel
    exact this z (List.mem_of_getElem? h)
theorem ask_com {bs:List Str} {a:Ask} (g:AskG bs a):44 ∉ (askS a).cps.toList:=by
  have hw:=g.w
  have key:∀ (p h q:Str),44 ∉ p.cps.toList→IsW h→44 ∉ q.cps.toList→44 ∉ (p ++ h ++ " " ++ q:Str).cps.toList:=fun p h q hp hh hq z=>by
    rw [app_cps,app_cps,app_cps] at z
    rcases List.mem_append.mp z with z | z
    · rcases List.mem_append.mp z with z | z
      · rcases List.mem_append.mp z with z | z
        · exact hp z
        · exact word_not hh (by decide) z
      · cases List.mem_singleton.mp z
    · exact hq z
  cases a with
  | free h z=>exact key "free ?" h z (by decide +kernel) hw (word_not g.ok.2 (by decide))
  | sign h m=>exact key "sign ?" h (maskS m) (by decide +kernel) hw (mask_com m)
  | num h =>
    have hw:IsW h:=hw
    show 44 ∉ ("number ?" ++ h:Str).cps.toList
    rw [app_cps]
    intro z
    rcases List.mem_append.mp z with z | z
    · exact absurd z (by decide +kernel)
    · exact word_not hw (by decide) z
inductive SpRRule (CU:Addr) (vs:List V) (H:Hp) (Q:VK):Prop
  | mk (z:Str) (wt:Int) (l r:T) (as:List Ask) (ev:vs = [.str (ruleS z wt l r as)]) (g:RuleG z wt l r as) (q:∀ o dx A2 vl vr avs H',Same H H'→H A2=none→H' o=some (.ins CU dx (ruleFs z wt vl vr A2))→IsTr H' l vl→IsTr H' r vr→H' A2=some (.lst avs)→Paired (AskAt H') avs as→Q (.ref o) H'):SpRRule CU vs H Q
noncomputable def spRRule (CU:Addr):Sp:=fun vs H Q _=>SpRRule CU vs H Q
theorem asks_a {bs:List Str} {as:List Ask} (h:∀ a∈as,AskG bs a):∀ a∈as,AskA a:=fun a ha=>by
  have:=(h a ha).ok
  cases a with
  | free x z=>exact isW_asc this.2
  | sign x m=>trivial
  | num x=>trivial
theorem same_init {H H':Hp} {x dx:Addr} {o1 o2:HO} (hx:H x=none) (hd:H dx=none) (k:∀ b u,b≠x→(upd (upd H dx o1) x o2) b=some u→H' b=some u):Same H H':=fun a o e=>by
  have n1:a≠x:=fun z=>by rw [z,hx] at e;cases e
  have n2:a≠dx:=fun z=>by rw [z,hd] at e;cases e
  exact k a o n1 (by rw [upd_ne n1,upd_ne n2];exact e)
inductive RlC (H:Hp) (pre:V→St) (as:List Ask) (σ : St) (H':Hp):Prop
  | mk (A:Addr) (avs:List V) (e : σ = pre (.ref A)) (sm:Same H H') (hA:H' A=some (.lst avs)) (hp:Paired (AskAt H') avs as):RlC H pre as σ H'
theorem ok_read_rule (B:Blt mg) (h_split_at:Has P w K mg base 1 "split_at" ["text", "sign"] spSplit) (h_read_count:Has P w K mg base 1 "read_count" ["text"] spCount) (h_read_ask:Has P w K mg base 3 "read_ask" ["text"] spRAsk) (h_read_side:Has P w K mg base 66 "read_side" ["text"] spRSide) (h_init_Rule:HasC P w K mg base 17 "Rule" CU ["self", "title", "weight", "left", "right", "asks"] (spRInit CU CNR))
    (D:Def K mg "read_rule" s_read_rule ["line"]):Has P w K mg base 67 "read_rule" ["line"] (spRRule CU):=by
  refine D.has sc_read_rule (fun vs H Q E h => ?_) (fun f cdv A outer s H vs Q E hr h => ?_)
  · obtain ⟨z,wt,l,r,as,rfl,_⟩:=h;rfl
  obtain ⟨z,wt,l,r,as,rfl,g,q⟩:=h
  refine ⟨_,(pss_cons (ps_set (i:=1) sc_read_rule.nd rfl (Or.inl rfl) (pe_callH h_split_at hr (by omega) rfl (pa_cons (pv 0) (pa_cons pe_str pa_nil))))
    (pss_cons (ps_set (i:=2) sc_read_rule.nd rfl (Or.inl rfl) (pe_callH h_split_at hr (by omega) rfl (pa_cons (pe_ix ix_tup (pv 1) pe_int (fun _ _=>rfl)) (pa_cons pe_str pa_nil))))
    (pss_cons (ps_set (i:=3) sc_read_rule.nd rfl (Or.inl rfl) (pe_callH h_split_at hr (by omega) rfl (pa_cons (pe_ix ix_tup (pv 1) pe_int (fun _ _=>rfl)) (pa_cons pe_str pa_nil))))
    (pss_cons (ps_set (i:=4) sc_read_rule.nd rfl (Or.inl rfl) (pe_callH h_read_count hr (by omega) rfl (pa_cons (pe_ix ix_tup (pv 2) pe_int (fun _ _=>rfl)) pa_nil)))
    (pss_cons (ps_if (pt_cmpR op_isN (pv 4) pe_non (nomark _)) (pss_one ps_never) pss_nil)
    (pss_cons (ps_set (i:=5) sc_read_rule.nd rfl (Or.inl rfl) (pe_bm PySem.F.plainAttrs_str PySem.F.slot_str_partition PySem.F.type_str_partition mt_partition (pe_ix ix_tup (pv 3) pe_int (fun _ _=>rfl)) (pa_cons pe_str pa_nil)))
    (pss_cons (ps_set (i:=6) sc_read_rule.nd rfl (Or.inl rfl) (pe_lst pa_nil))
    (pss_cons (ps_if (pt_cmpR op_ne (pe_ix ix_tup (pv 5) pe_int (fun _ _=>rfl)) pe_str (nomark _)) (pss_one (ps_setComp (i:=6) sc_read_rule.nd rfl rfl (te:=(tCall _ _ _ (tCons _ tNil))) (own := ["text"]) (caps := []) (comp_scope (defScope s_read_rule) ["line", "head", "named", "sides", "weight", "asked", "asks"] rfl rfl rfl (by decide +kernel)) (pi_list (pe_bm PySem.F.plainAttrs_str PySem.F.slot_str_split PySem.F.type_str_split mt_split (pe_ix ix_tup (pv 5) pe_int (fun _ _=>rfl)) (pa_cons pe_str pa_nil))) rfl (fun _ _ _=>pg_name (i:=0) (show (["text"]:List Str).Nodup by decide +kernel) rfl (Or.inl rfl)) (fun _ _ _=>(pe_callH h_read_ask hr (by omega) rfl (pa_cons (pv 0) pa_nil))) rfl)) pss_nil)
    (pss_one (ps_ret (pe_makeE h_init_Rule hr (by omega) passNo rfl (pa_cons (pe_ix ix_tup (pv 2) pe_int (fun _ _=>rfl)) (pa_cons (pv 4) (pa_cons (pe_callH h_read_side hr (by omega) rfl (pa_cons (pe_ix ix_tup (pv 3) pe_int (fun _ _=>rfl)) pa_nil)) (pa_cons (pe_callH h_read_side hr (by omega) rfl (pa_cons (pe_ix ix_tup (pv 5) pe_int (fun _ _=>rfl)) pa_nil)) (pa_cons (pv 6) pa_nil)))))))))))))))),?_⟩
  try dsimp only [cxOf]
  have hz:=g.ok.1
  have w1:=g.ok.2.1.1
  have w2:=g.ok.2.1.2
  have few:=g.few
  have lL:=shown12 g.l_ g.pl
  have lR:=shown12 g.r_ g.pr
  have z8:=hz.2.1
  have nl:=num_len (n:=wt) (by omega) (by omega)
  have e1:(" " : Str).length=1:=rfl
  have e2:(": " : Str).length=2:=rfl
  have e3:(" = " : Str).length=3:=rfl
  have e4:(" if " : Str).length=4:=rfl
  have hzs:∀ s∈as.map askS,s.length≤23:=fun s hs=>by
    obtain ⟨k,hk,rfl⟩:=List.mem_map.mp hs
    exact askS_len (g.askG hk)
  have hjl:=sums_le hzs
  rw [List.length_map] at hjl
  have tl:(tailS r as).length≤2000:=by
    unfold tailS
    split
    · rw [Str.length_append,Str.length_append,e4];omega
    · omega
  have hl:(l.shown ++ " = " ++ tailS r as).length≤4000:=by rw [Str.length_append,Str.length_append,e3];omega
  have ha:(z ++ " " ++ Str.ofString (toString wt)).length≤1000:=by rw [Str.length_append,Str.length_append,e1];omega
  have hs:(ruleS z wt l r as).length≤10000:=by
    rw [len_cps,ruleS_cps,List.length_append,List.length_append, ← len_cps, ← len_cps, ← len_cps,e2]
    omega
  have big:(10000000:Nat)≤sizeLine:=by decide
  refine ⟨_,rfl,SpSplit.mk _ _ _ _ rfl (by decide) (by omega) (cut1 hz) fun p1 H1 s1 hp1 => ?_⟩
  dsimp only [gName]
  refine ⟨_,rfl,p1,_,0,_,rfl,rfl,SqT.of hp1,atI_nat (j:=0) rfl,SpSplit.mk _ _ _ _ rfl (by decide) (by omega) (cut2 hz) fun p2 H2 s2 hp2 => ?_⟩
  dsimp only [gName]
  refine ⟨_,rfl,p1,_,1,_,rfl,rfl,SqT.of (s2 _ _ hp1),atI_nat (j:=1) rfl,SpSplit.mk _ _ _ _ rfl (by decide) (by omega) (cut3 g.l_) fun p3 H3 s3 hp3 => ?_⟩
  dsimp only [gName]
  obtain ⟨m,em⟩:=Int.eq_ofNat_of_zero_le (show 0≤wt by omega)
  have hp23:=s3 _ _ hp2
  refine ⟨_,rfl,p2,_,1,_,rfl,rfl,SqT.of hp23,atI_nat (j:=1) rfl,m,(by rw [em];rfl),by omega,by omega,?_⟩
  rw [← em]
  dsimp only [gName]
  refine ⟨_,rfl,rfl,_,rfl,iteD (fun z=>nomatch z) (fun _ => ?_)⟩
  refine ⟨_,rfl,p3,_,1,_,rfl,rfl,SqT.of hp3,atI_nat (j:=1) rfl,rfl,_,_,rfl,rfl,by decide,by omega,fun p5 hp5 => ?_⟩
  rw [cut4 g.r_]
  have s5:=same_new hp5 (.tup [.str r.shown,.str (if 0 < as.length then (" if " : Str) else Str.empty),.str (if 0 < as.length then Str.join ", " (as.map askS) else Str.empty)])
  have hp55:=upd_same (H:=H3) (a:=p5) (o := .tup [.str r.shown,.str (if 0 < as.length then (" if " : Str) else Str.empty),.str (if 0 < as.length then Str.join ", " (as.map askS) else Str.empty)])
  dsimp only at hp55 s5 ⊢
  generalize upd H3 p5 (.tup [.str r.shown,.str (if 0 < as.length then (" if " : Str) else Str.empty),.str (if 0 < as.length then Str.join ", " (as.map askS) else Str.empty)])=H5 at s5 hp55 ⊢
  refine ⟨Nat.zero_le _,fun A0 hA0 => ?_⟩
  dsimp only [gName]
  have s6:=same_new hA0 (.lst [])
  have hA1:=upd_same (H:=H5) (a:=A0) (o := .lst [])
  have hp56:=s6 _ _ hp55
  generalize upd H5 A0 (.lst [])=H6 at s6 hA1 hp56 ⊢
  refine rd_cut (RlC H6 (fun v => [some (.str (ruleS z wt l r as)),some (.ref p1),some (.ref p2),some (.ref p3),some (.int wt),some (.ref p5),some v]) as) ?_ (fun key => ?_)
  rotate_left
  · refine ⟨_,rfl,p5,_,1,_,rfl,rfl,SqT.of hp56,atI_nat (j:=1) rfl,rfl,_,rfl,iteDN (fun hne => ?_) (fun heq => ?_)⟩
    · have hpos:0 < as.length:=by
        by_cases h:0 < as.length
        · exact h
        · rw [if_neg h] at hne;exact absurd rfl hne
      refine ⟨_,rfl,p5,_,2,_,rfl,rfl,SqT.of hp56,atI_nat (j:=2) rfl,rfl,_,_,rfl,rfl,by decide,?_,fun D0 hD0=>⟨D0,rfl,⟨_,SqL.of upd_same⟩,?_⟩⟩
      · rw [if_pos hpos];omega
      rw [if_pos hpos,split_join (c:=44) (by decide +kernel) rfl (by rw [List.length_map];omega) (fun u hu=>by
        obtain ⟨k,hk,rfl⟩:=List.mem_map.mp hu
        exact ask_com (g.askG hk))]
      have s7:=same_new hD0 (.lst ((as.map askS).map V.str))
      refine comp_listP (R:=fun H v a=>AskAt H v a) (bs:=as) (fun _ _ _ _ k h=>h.keep k) (SqL.of upd_same) (by rw [List.length_map,List.length_map];omega) (by rw [List.length_map,List.length_map]) (fun i x y hx hy H'' sm'' Q' q' => ?_) (fun D2 H8 ys hD2 s8 hDl hys => ?_)
      · rw [List.getElem?_map,List.getElem?_map,hy] at hx
        cases hx
        exact ⟨_,rfl,SpRAsk.mk y (note l []) rfl (g.askG (List.mem_of_getElem? hy)) fun v H9 s9 hv=>q' v H9 s9 hv⟩
      exact key _ _ (RlC.mk D2 ys rfl (s7.trans s8) hDl hys)
    · have hpos:¬ 0 < as.length:=fun h=>by
        rw [if_pos h] at heq
        exact absurd (V.str.inj heq) (by decide)
      have:as = []:=List.length_eq_zero_iff.mp (by omega)
      subst this
      exact key _ _ (RlC.mk A0 [] rfl (Same.refl _) hA1 .nil)
  rintro σ' H8 ⟨Al,avs,rfl,s8,hAl,hpl⟩
  have g38:=s5.trans (s6.trans s8)
  have g8:=s1.trans (s2.trans (s3.trans g38))
  refine ⟨_,rfl,p2,_,0,_,rfl,rfl,SqT.of (g38 _ _ hp23),atI_nat (j:=0) rfl,_,rfl,_,rfl,p3,_,0,_,rfl,rfl,SqT.of (g38 _ _ hp3),atI_nat (j:=0) rfl,SpRSide.mk l rfl g.l_ g.pl g.dl fun vl H9 s9 hvl=>⟨_,rfl,p5,_,0,_,rfl,rfl,SqT.of (s9 _ _ (s8 _ _ hp56)),atI_nat (j:=0) rfl,SpRSide.mk r rfl g.r_ g.pr g.dr fun vr H10 s10 hvr=>⟨_,rfl,fun x dx hx hdx hne => ?_⟩⟩⟩
  have g10:=g8.trans (s9.trans s10)
  have hA10:=s10 _ _ (s9 _ _ hAl)
  have hp10:=asks_same (s9.trans s10) hpl
  have hvl10:=tr_same s10 hvl
  have kx:Same H10 (upd (upd H10 dx (.own x)) x (.ins CU dx [])):=(same_new hdx _).trans (same_new (by rw [upd_ne (Ne.symm hne)];exact hx) _)
  refine SpRInit.mk x dx Al z wt vl vr l r avs as rfl upd_same (isW_asc hz) (tr_same kx hvl10) (tr_same kx hvr) g.dl g.dr (by have:=g.pl;omega) (by have:=g.pr;omega) (kx _ _ hA10) (asks_same kx hp10) (asks_a fun a ha=>g.askG ha) (by omega) (fun _ H11 A2 k hA2 hA2' ho => ?_) (fun n=>absurd g.ok n)
  have s11:=same_init hx hdx k
  exact ⟨rfl,q x dx A2 vl vr avs H11 (g10.trans s11) ((g10.trans kx).free hA2) ho (tr_same s11 hvl10) (tr_same s11 hvr) hA2' (asks_same s11 hp10)⟩
end

end K71
namespace K71
open PySem L2 Sw
section
variable {P:Program} {w:World} {K:PySem.W.Frag} {mg:Str→Option Value} {base:Heap}
noncomputable def odS:Od→Str
  | .rule z wt l r as => "rule " ++ ruleS z wt l r as
  | .cost k n => "cost " ++ k ++ " " ++ Str.ofString (toString n)
  | .grow a b => "grow " ++ Str.ofString (toString a) ++ " " ++ Str.ofString (toString b)
  | .pair x t u=>x ++ " " ++ t.shown ++ " = " ++ u.shown
  | .one x t=>x ++ " " ++ t.shown
theorem rule_len {z:Str} {wt:Int} {l r:T} {as:List Ask} (g:RuleG z wt l r as):(ruleS z wt l r as).length≤10000:=by
  have hz:=g.ok.1
  have w1:=g.ok.2.1.1
  have w2:=g.ok.2.1.2
  have few:=g.few
  have lL:=shown12 g.l_ g.pl
  have lR:=shown12 g.r_ g.pr
  have z8:=hz.2.1
  have nl:=num_len (n:=wt) (by omega) (by omega)
  have e1:(" " : Str).length=1:=rfl
  have e2:(": " : Str).length=2:=rfl
  have e3:(" = " : Str).length=3:=rfl
  have e4:(" if " : Str).length=4:=rfl
  have hzs:∀ s∈as.map askS,s.length≤23:=fun s hs=>by
    obtain ⟨k,hk,rfl⟩:=List.mem_map.mp hs
    exact askS_len (g.askG hk)
  have hjl:=sums_le hzs
  rw [List.length_map] at hjl
  have tl:(tailS r as).length≤2000:=by
    unfold tailS
    split
    · rw [Str.length_append,Str.length_append,e4];omega
    · omega
  have hl:(l.shown ++ " = " ++ tailS r as).length≤4000:=by rw [Str.length_append,Str.length_append,e3];omega
  have ha:(z ++ " " ++ Str.ofString (toString wt)).length≤1000:=by rw [Str.length_append,Str.length_append,e1];omega
  rw [len_cps,ruleS_cps,List.length_append,List.length_append, ← len_cps, ← len_cps, ← len_cps,e2]
  omega
theorem pair_len:∀ x∈pairW,x.length≤8:=by decide +kernel
theorem tree_len:∀ x∈treeW,x.length≤8:=by decide +kernel
theorem cost_key {k:Str} (h:IsW k∨k = "#" ∨ k = "@"):k.length≤8:=by
  rcases h with h | rfl | rfl
  · exact h.2.1
  · decide
  · decide
inductive SpRow (vs:List V) (H:Hp) (Q:VK):Prop
  | mk (R:Addr) (v:V) (o:Od) (ev:vs = [v]) (hv:OrAt R H v o) (g:OdG o) (q:∀ H',Same H H'→Q (.str (odS o)) H'):SpRow vs H Q
noncomputable def spRow:Sp:=fun vs H Q _=>SpRow vs H Q
theorem ok_row (B:Blt mg) (h_rule_text:Has P w K mg base 15 "_law_rule_text" ["_law_rule_here"] spRuleText) (h_shown:Has P w K mg base 14 "_law_shown" ["_law_tree"] (spShown 14)) (D:Def K mg "_law_row" s_row ["_law_order_here"]):Has P w K mg base 16 "_law_row" ["_law_order_here"] spRow:=by
  refine D.has sc_row (fun vs H Q E h => ?_) (fun f cdv A outer s H vs Q E hr h => ?_)
  · obtain ⟨R,v,o,rfl,_⟩:=h;rfl
  obtain ⟨R,v,o,rfl,hv,g,q⟩:=h
  refine ⟨_,(pss_cons (ps_if (pt_cmpR op_eq (pe_ix ix_tup (pv 0) pe_int (fun _ _=>rfl)) pe_str (nomark _)) (pss_one (ps_ret (pe_op op_add_str pe_str (pe_callH h_rule_text hr (by omega) rfl (pa_cons (pe_ix ix_tup (pv 0) pe_int (fun _ _=>rfl)) pa_nil))))) pss_nil)
    (pss_cons (ps_if (pt_cmpR op_eq (pe_ix ix_tup (pv 0) pe_int (fun _ _=>rfl)) pe_str (nomark _)) (pss_one (ps_ret (pe_op op_add_str (pe_op op_add_str (pe_op op_add_str pe_str (pe_ix ix_tup (pv 0) pe_int (fun _ _=>rfl))) pe_str) (pe_callTy call_str_int rfl B.str_ boot_str_ (pa_cons (pe_ix ix_tup (pv 0) pe_int (fun _ _=>rfl)) pa_nil))))) pss_nil)
    (pss_cons (ps_if (pt_cmpR op_eq (pe_ix ix_tup (pv 0) pe_int (fun _ _=>rfl)) pe_str (nomark _)) (pss_one (ps_ret (pe_op op_add_str (pe_op op_add_str (pe_op op_add_str pe_str (pe_callTy call_str_int rfl B.str_ boot_str_ (pa_cons (pe_ix ix_tup (pv 0) pe_int (fun _ _=>rfl)) pa_nil))) pe_str) (pe_callTy call_str_int rfl B.str_ boot_str_ (pa_cons (pe_ix ix_tup (pv 0) pe_int (fun _ _=>rfl)) pa_nil))))) pss_nil)
    (pss_cons (ps_if (pt_cmpR op_eq (pe_callB call_len_seq rfl B.len_ PySem.boot_len (pa_cons (pv 0) pa_nil)) pe_int (nomark _)) (pss_one (ps_ret (pe_op op_add_str (pe_op op_add_str (pe_op op_add_str (pe_op op_add_str (pe_ix ix_tup (pv 0) pe_int (fun _ _=>rfl)) pe_str) (pe_callH h_shown hr (by omega) rfl (pa_cons (pe_ix ix_tup (pv 0) pe_int (fun _ _=>rfl)) pa_nil))) pe_str) (pe_callH h_shown hr (by omega) rfl (pa_cons (pe_ix ix_tup (pv 0) pe_int (fun _ _=>rfl)) pa_nil))))) pss_nil)
    (pss_one (ps_ret (pe_op op_add_str (pe_op op_add_str (pe_ix ix_tup (pv 0) pe_int (fun _ _=>rfl)) pe_str) (pe_callH h_shown hr (by omega) rfl (pa_cons (pe_ix ix_tup (pv 0) pe_int (fun _ _=>rfl)) pa_nil))))))))),?_⟩
  try dsimp only [cxOf]
  have big:(10000000:Nat)≤sizeLine:=by decide
  have e1:(" " : Str).length=1:=rfl
  have e3:(" = " : Str).length=3:=rfl
  have e5:("rule " : Str).length=5:=rfl
  have e6:("cost " : Str).length=5:=rfl
  have e7:("grow " : Str).length=5:=rfl
  cases hv with
  | rule p d AL vl vr avs z wt l r as hp due ne =>
    refine ⟨_,rfl,p,_,0,_,rfl,rfl,SqT.of hp,atI_nat (j:=0) rfl,rfl,_,rfl,iteD (fun _ => ?_) (fun z=>absurd rfl z)⟩
    have:=rule_len g
    exact ⟨_,rfl,p,_,1,_,rfl,rfl,SqT.of hp,atI_nat (j:=1) rfl,SpRuleText.mk d AL z wt vl vr l r avs as rfl due g fun H1 s1=>⟨_,_,rfl,rfl,by rw [e5];omega,q _ s1⟩⟩
  | cost p k n hp =>
    have k8:=cost_key g.1
    have nl:=num_len (n:=n) (by have:=g.2.1;omega) (by have:=g.2.2;omega)
    have ng:=num_log (n:=n) (by have:=g.2.1;omega) (by have:=g.2.2;omega)
    refine ⟨_,rfl,p,_,0,_,rfl,rfl,SqT.of hp,atI_nat (j:=0) rfl,rfl,_,rfl,iteD (fun z=>absurd (V.str.inj z) (by decide)) (fun _ => ?_)⟩
    refine ⟨_,rfl,p,_,0,_,rfl,rfl,SqT.of hp,atI_nat (j:=0) rfl,rfl,_,rfl,iteD (fun _ => ?_) (fun z=>absurd rfl z)⟩
    refine ⟨_,rfl,p,_,1,_,rfl,rfl,SqT.of hp,atI_nat (j:=1) rfl,_,_,rfl,rfl,?_,_,_,rfl,rfl,?_,_,rfl,p,_,2,_,rfl,rfl,SqT.of hp,atI_nat (j:=2) rfl,n,rfl,ng,_,_,rfl,rfl,?_,q _ (Same.refl _)⟩
    · rw [e6];omega
    · rw [Str.length_append,e6,e1];omega
    · rw [Str.length_append,Str.length_append,e6,e1];show 5+k.length+1+(Str.ofString (toString n)).length≤_;omega
  | grow p a b hp =>
    have nl:=num_len (n:=a) (by have:=g.1.1;omega) (by have:=g.1.2;omega)
    have ng:=num_log (n:=a) (by have:=g.1.1;omega) (by have:=g.1.2;omega)
    have nl2:=num_len (n:=b) (by have:=g.2.1;omega) (by have:=g.2.2;omega)
    have ng2:=num_log (n:=b) (by have:=g.2.1;omega) (by have:=g.2.2;omega)
    refine ⟨_,rfl,p,_,0,_,rfl,rfl,SqT.of hp,atI_nat (j:=0) rfl,rfl,_,rfl,iteD (fun z=>absurd (V.str.inj z) (by decide)) (fun _ => ?_)⟩
    refine ⟨_,rfl,p,_,0,_,rfl,rfl,SqT.of hp,atI_nat (j:=0) rfl,rfl,_,rfl,iteD (fun z=>absurd (V.str.inj z) (by decide)) (fun _ => ?_)⟩
    refine ⟨_,rfl,p,_,0,_,rfl,rfl,SqT.of hp,atI_nat (j:=0) rfl,rfl,_,rfl,iteD (fun _ => ?_) (fun z=>absurd rfl z)⟩
    refine ⟨_,rfl,p,_,1,_,rfl,rfl,SqT.of hp,atI_nat (j:=1) rfl,a,rfl,ng,_,_,rfl,rfl,?_,_,_,rfl,rfl,?_,_,rfl,p,_,2,_,rfl,rfl,SqT.of hp,atI_nat (j:=2) rfl,b,rfl,ng2,_,_,rfl,rfl,?_,q _ (Same.refl _)⟩
    · rw [e7];show 5+(Str.ofString (toString a)).length≤_;omega
    · rw [Str.length_append,e7,e1];show 5+(Str.ofString (toString a)).length+1≤_;omega
    · rw [Str.length_append,Str.length_append,e7,e1];show 5+(Str.ofString (toString a)).length+1+(Str.ofString (toString b)).length≤_;omega
  | pair p v1 v2 x t u hp h1 h2 =>
    obtain ⟨n1,n2,n3⟩:=pair_ne x g.1
    have x8:=pair_len x g.1
    have d1:=g.2.1.dep
    have d2:=g.2.2.dep
    have p1:=g.2.1.parts
    have p2:=g.2.2.parts
    have lt:=shown12 g.2.1.ok p1
    have lu:=shown12 g.2.2.ok p2
    refine ⟨_,rfl,p,_,0,_,rfl,rfl,SqT.of hp,atI_nat (j:=0) rfl,rfl,_,rfl,iteD (fun z=>absurd (V.str.inj z) n1) (fun _ => ?_)⟩
    refine ⟨_,rfl,p,_,0,_,rfl,rfl,SqT.of hp,atI_nat (j:=0) rfl,rfl,_,rfl,iteD (fun z=>absurd (V.str.inj z) n2) (fun _ => ?_)⟩
    refine ⟨_,rfl,p,_,0,_,rfl,rfl,SqT.of hp,atI_nat (j:=0) rfl,rfl,_,rfl,iteD (fun z=>absurd (V.str.inj z) n3) (fun _ => ?_)⟩
    refine ⟨_,rfl,p,_,rfl,.inr (SqT.of hp),rfl,_,rfl,iteD (fun _ => ?_) (fun z=>absurd rfl z)⟩
    refine ⟨_,rfl,p,_,0,_,rfl,rfl,SqT.of hp,atI_nat (j:=0) rfl,_,_,rfl,rfl,?_,_,rfl,p,_,1,_,rfl,rfl,SqT.of hp,atI_nat (j:=1) rfl,v1,t,rfl,h1,g.2.1.ok,by omega,by omega,fun H1 s1=>⟨_,_,rfl,rfl,?_,_,_,rfl,rfl,?_,_,rfl,p,_,2,_,rfl,rfl,SqT.of (s1 _ _ hp),atI_nat (j:=2) rfl,v2,u,rfl,tr_same s1 h2,g.2.2.ok,by omega,by omega,fun H2 s2=>⟨_,_,rfl,rfl,?_,q _ (s1.trans s2)⟩⟩⟩
    · rw [e1];omega
    · rw [Str.length_append,e1];omega
    · rw [Str.length_append,Str.length_append,e1,e3];omega
    · rw [Str.length_append,Str.length_append,Str.length_append,e1,e3];omega
  | one p v1 x t hp h1 =>
    obtain ⟨n1,n2,n3⟩:=tree_ne x g.1
    have x8:=tree_len x g.1
    have d1:=g.2.dep
    have p1:=g.2.parts
    have lt:=shown12 g.2.ok p1
    refine ⟨_,rfl,p,_,0,_,rfl,rfl,SqT.of hp,atI_nat (j:=0) rfl,rfl,_,rfl,iteD (fun z=>absurd (V.str.inj z) n1) (fun _ => ?_)⟩
    refine ⟨_,rfl,p,_,0,_,rfl,rfl,SqT.of hp,atI_nat (j:=0) rfl,rfl,_,rfl,iteD (fun z=>absurd (V.str.inj z) n2) (fun _ => ?_)⟩
    refine ⟨_,rfl,p,_,0,_,rfl,rfl,SqT.of hp,atI_nat (j:=0) rfl,rfl,_,rfl,iteD (fun z=>absurd (V.str.inj z) n3) (fun _ => ?_)⟩
    refine ⟨_,rfl,p,_,rfl,.inr (SqT.of hp),rfl,_,rfl,iteD (fun z=>absurd (show ((2:Nat):Int)=3 from V.int.inj z) (by decide)) (fun _ => ?_)⟩
    refine ⟨_,rfl,p,_,0,_,rfl,rfl,SqT.of hp,atI_nat (j:=0) rfl,_,_,rfl,rfl,?_,_,rfl,p,_,1,_,rfl,rfl,SqT.of hp,atI_nat (j:=1) rfl,v1,t,rfl,h1,g.2.ok,by omega,by omega,fun H1 s1=>⟨_,_,rfl,rfl,?_,q _ s1⟩⟩
    · rw [e1];omega
    · rw [Str.length_append,e1];omega
inductive SpOrders (K:PySem.W.Frag) (vs:List V) (H:Hp) (Q:VK):Prop
  | mk (a A:Addr) (ns:List Int) (us:List V) (ts:List T) (ev:vs = [.ref a,.ref A]) (hS:SqL K H a (ns.map V.int)) (h63:ns.length≤63) (hA:H A=some (.lst us)) (ht:Paired (fun v t=>IsTr H t v) us ts) (g:∀ t∈ts,TreeG 12 t) (l1:us.length≤63) (q:∀ R rvs os (j:Nat) H',Same H H'→H' R=some (.lst rvs)→Paired (OrAt R H') rvs os→(∀ o∈os,OdG o)→os.filterMap Od.title=(List.range j).map (fun k:Nat=>wordX (seed ns) k)→j≤20→rvs.length≤63→Q (.ref R) H'):SpOrders K vs H Q
noncomputable def spOrders (K:PySem.W.Frag):Sp:=fun vs H Q _=>SpOrders K vs H Q
inductive OsI (H:Hp) (a A R:Addr) (ns:List Int) (i:Nat) (σ : St) (H':Hp):Prop
  | mk (x4:Option V) (rvs:List V) (os:List Od) (j:Nat) (e : σ = [some (.ref a),some (.ref A),some (.ref R),some (.int (j:Int)),x4]) (sm:Same H H') (hR:H' R=some (.lst rvs)) (hp:Paired (OrAt R H') rvs os) (g:∀ o∈os,OdG o) (tt:os.filterMap Od.title=(List.range j).map (fun k:Nat=>wordX (seed ns) k)) (j20:j≤20) (len:rvs.length≤i):OsI H a A R ns i σ H'
theorem ok_orders (B:Blt mg) (h_order:Has P w K mg base 5 "_law_order" ["_law_script", "_law_cell", "_law_trees_here", "_law_titles"] (spOrder K)) (D:Def K mg "_law_orders" s_orders ["_law_script", "_law_trees_here"]):Has P w K mg base 6 "_law_orders" ["_law_script", "_law_trees_here"] (spOrders K):=by
  refine D.has sc_orders (fun vs H Q E h => ?_) (fun f cdv A outer s H vs Q E hr h => ?_)
  · obtain ⟨a,A,ns,us,ts,rfl,_⟩:=h;rfl
  obtain ⟨a,A,ns,us,ts,rfl,hS,h63,hA,ht,gt,l1,q⟩:=h
  refine ⟨_,(pss_cons (ps_set (i:=2) sc_orders.nd rfl (Or.inl rfl) (pe_lst pa_nil))
    (pss_cons (ps_set (i:=3) sc_orders.nd rfl (Or.inl rfl) pe_int)
    (pss_cons (ps_for PassesOwn.never rfl (pi_list (pe_slice sl_list (pe_compI (te:=(tOp (rIxL K) _ _)) (ct:=(tTest (tOp _ (tOp _ _ _) _))) (own := ["_law_k"]) (caps := [("_law_script",0)]) (comp_scope (defScope s_orders) ["_law_script", "_law_trees_here", "_law_rows", "_law_titles", "_law_cell"] rfl rfl rfl (by decide +kernel)) (pi_range1 rfl B.range_ (pa_cons (pe_callB call_len_seq rfl B.len_ PySem.boot_len (pa_cons (pv 0) pa_nil)) pa_nil)) rfl (fun _ _ _=>pg_name (i:=0) (show (["_law_k", "_law_script"]:List Str).Nodup by decide +kernel) rfl (Or.inl rfl)) (fun _ _ _=>(pt_cmpR op_eq (pe_op op_mod (pv 0) pe_int) pe_int (nomark _))) (fun _ _ _=>(pe_ix ix_list (pv 1) (pv 0) (fun _ _=>rfl)))) po_none (po_some pe_int))) (pg_name (i:=4) sc_orders.nd rfl (Or.inl rfl))
    (pss_one (ps_if (pt_cmpR (op_neD (un101 hr)) (pv 1) (pe_lst pa_nil) (nomark _)) (pss_cons (ps_expr (pe_bm PySem.F.plainAttrs_list PySem.F.slot_list_append PySem.F.type_list_append mt_append (pv 2) (pa_cons (pe_callH h_order hr (by omega) rfl (pa_cons (pv 0) (pa_cons (pv 4) (pa_cons (pv 1) (pa_cons (pv 3) pa_nil))))) pa_nil)))
    (pss_one (ps_set (i:=3) sc_orders.nd rfl (Or.inl rfl) (pe_op op_add (pv 3) (pe_callTy call_intB rfl B.int_ boot_int_ (pa_cons (pe_cmpR op_eq (pe_ix ix_tup (pe_ix ix_list (pv 2) (pe_un un_neg pe_int) (fun _ _=>rfl)) pe_int (fun _ _=>rfl)) pe_str (nomark _)) pa_nil)))))) pss_nil)))
    (pss_one (ps_ret (pv 2)))))),?_⟩
  try dsimp only [cxOf]
  refine ⟨Nat.zero_le _,fun R hR0 => ?_⟩
  dsimp only [gName]
  have s1:=same_new hR0 (.lst [])
  have hR1:=upd_same (H:=H) (a:=R) (o := .lst [])
  generalize upd H R (.lst [])=H1 at s1 hR1 ⊢
  have hl:(ns.map V.int).length=ns.length:=List.length_map ..
  refine rd_set' ?_
  refine ⟨_,rfl,a,_,rfl,.inl (s1.seq hS),_,rfl,by omega,by omega,?_⟩
  rw [Int.toNat_natCast,hl]
  refine compI_rangeS (half ns 0) (by omega) (fun i hi H' sm R' k' => ?_) (fun i v hi hv H' sm Q' q' => ?_) (fun D2 H2 hD2 s2 hDl => ?_)
  · refine ⟨_,rfl,_,_,rfl,rfl,pos',rfl,_,rfl,?_⟩
    rw [← half_test ns]
    exact k' _ (Same.refl _)
  · obtain ⟨hv,ha⟩:=half_at hi hv
    exact ⟨_,rfl,_,rfl,a,_,_,_,rfl,rfl,(s1.trans sm).seq hS,ha,q' _ (Same.refl _)⟩
  obtain ⟨ms,em,lm⟩:=half_ints ns 0 ns.length
  rw [em] at hDl
  refine ⟨_,rfl,D2,_,rfl,SqL.of hDl,fun C hC => ?_⟩
  obtain ⟨cs,ec,lc⟩:=cut_ints ms none (some 32)
  rw [ec]
  have s3:=same_new hC (.lst (cs.map V.int))
  have hC3:=upd_same (H:=H2) (a:=C) (o := .lst (cs.map V.int))
  have hR3:=s3 _ _ (s2 _ _ hR1)
  generalize upd H2 C (.lst (cs.map V.int))=H3 at s3 hC3 hR3 ⊢
  have g3:=s1.trans (s2.trans s3)
  have hC0:C≠R:=fun e=>by rw [e] at hC;rw [s2 _ _ hR1] at hC;cases hC
  have hCl:(cs.map V.int).length=cs.length:=List.length_map ..
  refine ⟨C,rfl,⟨_,SqL.of hC3⟩,?_⟩
  refine for_list (xs:=cs.map V.int) (fun i σ H'=>OsI H a A R ns i σ H'∧H' C=some (.lst (cs.map V.int))) ⟨OsI.mk none [] [] 0 rfl g3 hR3 .nil (fun o ho=>nomatch ho) rfl (Nat.zero_le _) (Nat.le_refl _),hC3⟩ (fun i σ H' _ h=>SqL.of h.2) ?_ ?_
  · rintro i x σ H' hx ⟨⟨x4,rvs,os,j,rfl,sm,hR,hp,go,tt,j20,len⟩,hCc⟩
    have hi:i < cs.length:=by have:=(List.getElem?_eq_some_iff.mp hx).1;omega
    obtain ⟨c,hc,rfl⟩:∃ c,cs[i]? = some c∧x = .int c:=by
      rw [List.getElem?_map] at hx
      cases e:cs[i]? with
      | none=>rw [e] at hx;cases hx
      | some c=>rw [e] at hx;cases hx;exact ⟨c,rfl,rfl⟩
    dsimp only [gName]
    have hul:=Paired.length ht
    refine rd_if2 (fun b Hc=>Same H' Hc∧b = !us.isEmpty) (fun Qc qc => ?_) (fun Hc h => ?_) (fun Hc h => ?_)
    · refine ⟨_,rfl,Nat.zero_le _,fun N hN => ?_⟩
      have s4:=same_new hN (.lst [])
      have d12:T.deepest ts≤12:=deepest_is fun t ht=>(gt t ht).dep
      refine ⟨dTs ts, [],.inr ⟨?_,?_⟩,Nat.le_trans (deeps_tr ts) (Nat.le_trans (Nat.mul_le_mul_left 2 d12) (by decide)),_,rfl,qc _ _ ⟨s4,?_⟩⟩
      · rw [Den];exact ⟨A,us,rfl,s4 _ _ (sm _ _ hA),dens_tr (trs_paired (Paired.mapP ht fun _ _ z=>tr_same (sm.trans s4) z))⟩
      · rw [Den];exact ⟨N, [],rfl,upd_same,by rw [Dens]⟩
      · cases ts with
        | nil =>
          have:us = []:=List.eq_nil_of_length_eq_zero (by simpa using hul)
          rw [this,dTs]
          simp
        | cons t l =>
          rw [dTs,decide_eq_false (fun z=>nomatch z)]
          cases us with
          | nil=>simp at hul
          | cons v us=>rfl
    · obtain ⟨s4,he⟩:=h
      have l0:0 < us.length:=by
        cases us with
        | nil=>cases he
        | cons v l=>exact Nat.succ_pos _
      have g4:=sm.trans s4
      have hR4:=s4 _ _ hR
      refine ⟨_,rfl,.inl ⟨rfl,_,SqL.of hR4⟩,_,rfl,_,rfl,_,rfl,_,rfl,SpOrder.mk a A ns c j us ts rfl (g4.seq hS) (g4 _ _ hA) (Paired.mapP ht fun _ _ z=>tr_same g4 z) gt l0 l1 fun v o H5 s5 hv gv tv => ?_⟩
      have hv:=hv R (by rw [hR4];exact fun z=>nomatch z)
      have hR5:=s5 _ _ hR4
      have hp5:Paired (OrAt R (upd H5 R (.lst (rvs ++ [v])))) (rvs ++ [v]) (os ++ [o]):=Paired.snoc (Paired.mapP (ors_same (s4.trans s5) hp) fun _ _ z=>z.put hR5) (hv.put hR5)
      have hv6:=hv.put (ys:=rvs ++ [v]) hR5
      have s6:Same H (upd H5 R (.lst (rvs ++ [v]))):=(g4.trans s5).put hR0
      have hR6:=upd_same (H:=H5) (a:=R) (o := .lst (rvs ++ [v]))
      have hC6:(upd H5 R (.lst (rvs ++ [v]))) C=some (.lst (cs.map V.int)):=by
        rw [upd_ne hC0]
        exact s5 _ _ (s4 _ _ hCc)
      refine ⟨R,rvs,v,rfl,rfl,hR5,small1000 (by omega),?_⟩
      show tSeq _ _ _ _ (upd H5 R (.lst (rvs ++ [v])))
      generalize upd H5 R (.lst (rvs ++ [v]))=H6 at hp5 hv6 s6 hR6 hC6 ⊢
      have ol:(rvs ++ [v]).length≤i+1:=by rw [List.length_append];exact Nat.succ_le_succ len
      have og:∀ u∈os ++ [o],OdG u:=fun u hu=>by
        rcases List.mem_append.mp hu with z | z
        · exact go u z
        · rw [List.mem_singleton.mp z];exact gv
      obtain ⟨p,x,ys,rfl,hpx,hx⟩:=hv6.first gv
      refine ⟨_,rfl,_,rfl,_,rfl,R,_,_,_,rfl,rfl,SqL.of hR6,atI_last _ _,p,_,0,_,rfl,rfl,SqT.of hpx,atI_nat (j:=0) rfl,rfl,_,rfl,_,_,rfl,rfl,?_⟩
      rcases hx with ⟨rfl,z,hz⟩ | ⟨hx,hz⟩
      · obtain ⟨ez,jz⟩:=tv z hz
        refine ⟨OsI.mk (some (.int c)) _ (os ++ [o]) (j+1) ?_ s6 hR6 hp5 og ?_ (by omega) ol,hC6⟩
        · rw [show (((j+1:Nat)):Int)=(j:Int)+1 by omega]
          rfl
        · rw [List.filterMap_append,tt,List.filterMap_cons,hz,List.filterMap_nil,List.range_succ,List.map_append,ez]
          rfl
      · refine ⟨OsI.mk (some (.int c)) _ (os ++ [o]) j ?_ s6 hR6 hp5 og ?_ j20 ol,hC6⟩
        · rw [decide_eq_false (fun z=>hx (V.str.inj z))]
          rw [show (j:Int)=(j:Int)+0 by omega]
          rfl
        · rw [List.filterMap_append,tt,List.filterMap_cons,hz,List.filterMap_nil,List.append_nil]
    · obtain ⟨s4,he⟩:=h
      exact ⟨OsI.mk _ rvs os j rfl (sm.trans s4) (s4 _ _ hR) (ors_same s4 hp) go tt j20 (by omega),s4 _ _ hCc⟩
  · rintro σ H' ⟨⟨x4,rvs,os,j,rfl,sm,hR,hp,go,tt,j20,len⟩, -⟩
    exact ⟨_,rfl,q R rvs os j H' sm hR hp go tt j20 (by omega)⟩
end

end K71
namespace K71
open PySem L2 Sw
section
variable {P:Program} {w:World} {K:PySem.W.Frag} {mg:Str→Option Value} {base:Heap} {CU CNR CNT:Addr}
inductive SpCW (vs:List V) (H:Hp) (Q:VK):Prop
  | mk (m:Nat) (lo hi:Int) (ev:vs = [.str (Str.ofString (toString (m:Int))),.int lo,.int hi]) (h1:lo≤m) (h2:(m:Int)≤hi) (h3:hi≤1000000000000) (q:Q (.int (m:Int)) H):SpCW vs H Q
noncomputable def spCW:Sp:=fun vs H Q _=>SpCW vs H Q
theorem ok_count_within (B:Blt mg) (h_read_count:Has P w K mg base 1 "read_count" ["text"] spCount) (D:Def K mg "count_within" s_count_within ["text", "low", "high"]):Has P w K mg base 2 "count_within" ["text", "low", "high"] spCW:=by
  refine D.has sc_count_within (fun vs H Q E h => ?_) (fun f cdv A outer s H vs Q E hr h => ?_)
  · obtain ⟨m,lo,hi,rfl,_⟩:=h;rfl
  obtain ⟨m,lo,hi,rfl,h1,h2,h3,q⟩:=h
  refine ⟨_,(pss_cons (ps_set (i:=3) sc_count_within.nd rfl (Or.inl rfl) (pe_callH h_read_count hr (by omega) rfl (pa_cons (pv 0) pa_nil)))
    (pss_cons (ps_if (PW.pt (pw_or (pt_cmpR op_isN (pv 3) pe_non (nomark _)) (pw_or (pt_cmpR op_lt (pv 3) (pv 1) (nomark _)) (pw_or1 (pt_cmpR op_gt (pv 3) (pv 2) (nomark _)))))) (pss_one (ps_ret pe_non)) pss_nil)
    (pss_one (ps_ret (pv 3))))),?_⟩
  try dsimp only [cxOf]
  have hb:m < 10 ^ 59:=Nat.lt_of_le_of_lt (show m≤1000000000000 by omega) (by decide)
  refine ⟨_,rfl,m,rfl,Nat.zero_le _,hb,?_⟩
  dsimp only [gName]
  refine ⟨_,rfl,rfl,_,rfl,iteD (fun z=>nomatch z) (fun _ => ?_)⟩
  refine ⟨_,rfl,_,rfl,_,_,rfl,rfl,_,rfl,iteD (fun z=>absurd h1 (by omega)) (fun _ => ?_)⟩
  refine ⟨_,rfl,_,rfl,_,_,rfl,rfl,_,rfl,iteD (fun z=>absurd h2 (by omega)) (fun _ => ?_)⟩
  exact ⟨_,rfl,q⟩
theorem key_no {k:Str} (h:IsW k∨k = "#" ∨ k = "@"):32 ∉ k.cps.toList:=by
  rcases h with h | rfl | rfl
  · exact word_not h (by decide)
  · decide +kernel
  · decide +kernel
theorem cutK {k W:Str} (h:32 ∉ k.cps.toList):Txt.partition (k ++ " " ++ W) (" " : Str)=(k,(" " : Str),W) :=
  cut_sign (j:=0) (c:=32) (by rw [app_cps,app_cps,List.append_assoc]) rfl h (fun i hi=>absurd hi (Nat.not_lt_zero _))
theorem numS_no (n:Int):32 ∉ (Str.ofString (toString n)).cps.toList:=fun z=>by
  have:=num_signs n 32 z
  omega
theorem numS_len {n:Int} (h1:0≤n) (h2:n≤1000000000000):(Str.ofString (toString n)).length≤1000:=by
  have nl:=num_len (n:=n) (by omega) (by omega)
  omega
inductive SpRCost (vs:List V) (H:Hp) (Q:VK):Prop
  | mk (k:Str) (n:Int) (ev:vs = [.str (k ++ " " ++ Str.ofString (toString n))]) (gk:IsW k∨k = "#" ∨ k = "@") (n1:1≤n) (n2:n≤1000000000000) (q:∀ p H',Same H H'→H' p=some (.tup [.str "cost",.str k,.int n])→Q (.ref p) H'):SpRCost vs H Q
noncomputable def spRCost:Sp:=fun vs H Q _=>SpRCost vs H Q
theorem ok_read_cost (B:Blt mg) (g_MOST_COST:∃ t,mg "MOST_COST" = some (.int 1000000000000 t)) (h_is_word:Has P w K mg base 1 "is_word" ["text"] spIsWord) (h_count_within:Has P w K mg base 2 "count_within" ["text", "low", "high"] spCW) (D:Def K mg "read_cost" s_read_cost ["rest"]):Has P w K mg base 3 "read_cost" ["rest"] spRCost:=by
  refine D.has sc_read_cost (fun vs H Q E h => ?_) (fun f cdv A outer s H vs Q E hr h => ?_)
  · obtain ⟨k,n,rfl,_⟩:=h;rfl
  obtain ⟨k,n,rfl,gk,n1,n2,q⟩:=h
  refine ⟨_,(pss_cons (ps_set (i:=1) sc_read_cost.nd rfl (Or.inl rfl) (pe_bm PySem.F.plainAttrs_str PySem.F.slot_str_partition PySem.F.type_str_partition mt_partition (pv 0) (pa_cons pe_str pa_nil)))
    (pss_cons (ps_set (i:=2) sc_read_cost.nd rfl (Or.inl rfl) (pe_ix ix_tup (pv 1) pe_int (fun _ _=>rfl)))
    (pss_cons (ps_set (i:=3) sc_read_cost.nd rfl (Or.inl rfl) (pe_callH h_count_within hr (by omega) rfl (pa_cons (pe_ix ix_tup (pv 1) pe_int (fun _ _=>rfl)) (pa_cons pe_int (pa_cons (pe_globI g_MOST_COST rfl) pa_nil)))))
    (pss_cons (ps_if (PW.pt (pw_or (pt_cmpR op_isN (pv 3) pe_non (nomark _)) (pw_or1 (pt_not (PW.pt (pw_or (pt_val (pe_callH h_is_word hr (by omega) rfl (pa_cons (pv 2) pa_nil))) (pw_or1 (pt_cmpR op_in_seq (pv 2) (pe_tup (pa_strsB (L := ["#", "@"]) (by decide +kernel))) (by with_unfolding_all rfl))))))))) (pss_one (ps_ret pe_non)) pss_nil)
    (pss_one (ps_ret (pe_tup (pa_cons pe_str (pa_cons (pv 2) (pa_cons (pv 3) pa_nil)))))))))),?_⟩
  try dsimp only [cxOf]
  have k8:=cost_key gk
  have nl:=numS_len (n:=n) (by omega) n2
  have big:(10000000:Nat)≤sizeLine:=by decide
  have e1:(" " : Str).length=1:=rfl
  obtain ⟨m,em⟩:=Int.eq_ofNat_of_zero_le (show 0≤n by omega)
  refine ⟨_,rfl,rfl,_,_,rfl,rfl,by decide,by rw [Str.length_append,Str.length_append,e1];omega,fun p hp => ?_⟩
  rw [cutK (key_no gk)]
  have s1:=same_new hp (.tup [.str k,.str " ",.str (Str.ofString (toString n))])
  have hp1:=upd_same (H:=H) (a:=p) (o := .tup [.str k,.str " ",.str (Str.ofString (toString n))])
  dsimp only [gName] at s1 hp1 ⊢
  generalize upd H p (.tup [.str k,.str " ",.str (Str.ofString (toString n))])=H1 at s1 hp1 ⊢
  refine ⟨_,rfl,p,_,0,_,rfl,rfl,SqT.of hp1,atI_nat (j:=0) rfl,?_⟩
  dsimp only [gName]
  refine ⟨_,rfl,p,_,2,_,rfl,rfl,SqT.of hp1,atI_nat (j:=2) rfl,SpCW.mk m 1 1000000000000 (by rw [em];rfl) (by omega) (by omega) (Int.le_refl _) ?_⟩
  rw [← em]
  dsimp only [gName]
  refine rd_if2 (fun b Hc=>Same H1 Hc∧b=false) (fun Qc qc => ?_) (fun Hc h=>by cases h.2) (fun Hc h => ?_)
  · refine ⟨_,rfl,rfl,_,rfl,iteD (fun z=>nomatch z) (fun _ => ?_)⟩
    refine ⟨_,rfl,k,rfl,?_,by omega,fun b hb => ?_⟩
    · rcases gk with h | rfl | rfl
      · exact fun c hc=>by have:=h.2.2 c hc;omega
      · decide +kernel
      · decide +kernel
    refine ⟨b,rfl,?_⟩
    cases b with
    | true=>exact iteT (qc _ _ ⟨Same.refl _,rfl⟩)
    | false =>
      refine iteF ?_
      have kk:k∈(["#", "@"]:List Str):=by
        rcases gk with h | rfl | rfl
        · exact nomatch hb.mpr h
        · decide
        · decide
      refine ⟨_,rfl,(show 2≤sizeLine by decide),fun L hL=>⟨L,(["#", "@"]:List Str).map V.str,rfl,.inr (SqT.of upd_same),rfl,flat_strs _,_,rfl,?_⟩⟩
      rw [in_strs,decide_eq_true kk]
      exact qc _ _ ⟨same_new hL _,rfl⟩
  obtain ⟨s2, -⟩:=h
  exact ⟨_,rfl,_,rfl,(show 3≤sizeLine by decide),fun t ht=>q t _ (s1.trans (s2.trans (same_new ht _))) upd_same⟩
inductive SpRGrow (vs:List V) (H:Hp) (Q:VK):Prop
  | mk (a b:Int) (ev:vs = [.str (Str.ofString (toString a) ++ " " ++ Str.ofString (toString b))]) (a1:0≤a) (a2:a≤100) (b1:1≤b) (b2:b≤1000) (q:∀ p H',Same H H'→H' p=some (.tup [.str "grow",.int a,.int b])→Q (.ref p) H'):SpRGrow vs H Q
noncomputable def spRGrow:Sp:=fun vs H Q _=>SpRGrow vs H Q
theorem ok_read_grow (B:Blt mg) (g_MOST_ROUNDS:∃ t,mg "MOST_ROUNDS" = some (.int 100 t)) (g_MOST_SIZE:∃ t,mg "MOST_SIZE" = some (.int 1000 t)) (h_count_within:Has P w K mg base 2 "count_within" ["text", "low", "high"] spCW) (D:Def K mg "read_grow" s_read_grow ["rest"]):Has P w K mg base 3 "read_grow" ["rest"] spRGrow:=by
  refine D.has sc_read_grow (fun vs H Q E h => ?_) (fun f cdv A outer s H vs Q E hr h => ?_)
  · obtain ⟨a,b,rfl,_⟩:=h;rfl
  obtain ⟨a,b,rfl,a1,a2,b1,b2,q⟩:=h
  refine ⟨_,(pss_cons (ps_set (i:=1) sc_read_grow.nd rfl (Or.inl rfl) (pe_bm PySem.F.plainAttrs_str PySem.F.slot_str_partition PySem.F.type_str_partition mt_partition (pv 0) (pa_cons pe_str pa_nil)))
    (pss_cons (ps_set (i:=2) sc_read_grow.nd rfl (Or.inl rfl) (pe_callH h_count_within hr (by omega) rfl (pa_cons (pe_ix ix_tup (pv 1) pe_int (fun _ _=>rfl)) (pa_cons pe_int (pa_cons (pe_globI g_MOST_ROUNDS rfl) pa_nil)))))
    (pss_cons (ps_set (i:=3) sc_read_grow.nd rfl (Or.inl rfl) (pe_callH h_count_within hr (by omega) rfl (pa_cons (pe_ix ix_tup (pv 1) pe_int (fun _ _=>rfl)) (pa_cons pe_int (pa_cons (pe_globI g_MOST_SIZE rfl) pa_nil)))))
    (pss_cons (ps_if (PW.pt (pw_or (pt_cmpR op_isN (pv 2) pe_non (nomark _)) (pw_or1 (pt_cmpR op_isN (pv 3) pe_non (nomark _))))) (pss_one (ps_ret pe_non)) pss_nil)
    (pss_one (ps_ret (pe_tup (pa_cons pe_str (pa_cons (pv 2) (pa_cons (pv 3) pa_nil)))))))))),?_⟩
  try dsimp only [cxOf]
  have na:=numS_len (n:=a) a1 (by omega)
  have nb:=numS_len (n:=b) (by omega) (by omega)
  have big:(10000000:Nat)≤sizeLine:=by decide
  have e1:(" " : Str).length=1:=rfl
  obtain ⟨m,em⟩:=Int.eq_ofNat_of_zero_le a1
  obtain ⟨m2,em2⟩:=Int.eq_ofNat_of_zero_le (show 0≤b by omega)
  refine ⟨_,rfl,rfl,_,_,rfl,rfl,by decide,by rw [Str.length_append,Str.length_append,e1];omega,fun p hp => ?_⟩
  rw [cutK (numS_no a)]
  have s1:=same_new hp (.tup [.str (Str.ofString (toString a)),.str " ",.str (Str.ofString (toString b))])
  have hp1:=upd_same (H:=H) (a:=p) (o := .tup [.str (Str.ofString (toString a)),.str " ",.str (Str.ofString (toString b))])
  dsimp only [gName] at s1 hp1 ⊢
  generalize upd H p (.tup [.str (Str.ofString (toString a)),.str " ",.str (Str.ofString (toString b))])=H1 at s1 hp1 ⊢
  refine ⟨_,rfl,p,_,0,_,rfl,rfl,SqT.of hp1,atI_nat (j:=0) rfl,SpCW.mk m 0 100 (by rw [em];rfl) (by omega) (by omega) (by decide) ?_⟩
  rw [← em]
  dsimp only [gName]
  refine ⟨_,rfl,p,_,2,_,rfl,rfl,SqT.of hp1,atI_nat (j:=2) rfl,SpCW.mk m2 1 1000 (by rw [em2];rfl) (by omega) (by omega) (by decide) ?_⟩
  rw [← em2]
  dsimp only [gName]
  refine ⟨_,rfl,rfl,_,rfl,iteD (fun z=>nomatch z) (fun _ => ?_)⟩
  refine ⟨_,rfl,rfl,_,rfl,iteD (fun z=>nomatch z) (fun _ => ?_)⟩
  exact ⟨_,rfl,_,rfl,(show 3≤sizeLine by decide),fun t ht=>q t _ (s1.trans (same_new ht _)) upd_same⟩
inductive FoAt (CU R:Addr) (H:Hp):V→Od→Prop
  | rule (p o dx A2:Addr) (vl vr:V) (avs:List V) (z:Str) (wt:Int) (l r:T) (as:List Ask) (hp:H p=some (.tup [.str "rule",.ref o])) (ho:H o=some (.ins CU dx (ruleFs z wt vl vr A2))) (hl:IsTr H l vl) (hr:IsTr H r vr) (hA:H A2=some (.lst avs)) (ha:Paired (AskAt H) avs as) (ne:A2≠R):FoAt CU R H (.ref p) (.rule z wt l r as)
  | cost (p:Addr) (k:Str) (n:Int) (hp:H p=some (.tup [.str "cost",.str k,.int n])):FoAt CU R H (.ref p) (.cost k n)
  | grow (p:Addr) (a b:Int) (hp:H p=some (.tup [.str "grow",.int a,.int b])):FoAt CU R H (.ref p) (.grow a b)
  | pair (p:Addr) (v1 v2:V) (x:Str) (t u:T) (hp:H p=some (.tup [.str x,v1,v2])) (h1:IsTr H t v1) (h2:IsTr H u v2):FoAt CU R H (.ref p) (.pair x t u)
  | one (p:Addr) (v1:V) (x:Str) (t:T) (hp:H p=some (.tup [.str x,v1])) (h1:IsTr H t v1):FoAt CU R H (.ref p) (.one x t)
theorem FoAt.keepG {R:Addr} {H H':Hp} {v:V} {o:Od} (kt:∀ c ys,H c=some (.tup ys)→H' c=some (.tup ys)) (ki:∀ c C d fs,H c=some (.ins C d fs)→H' c=some (.ins C d fs)) (kl:∀ c ys,c≠R→H c=some (.lst ys)→H' c=some (.lst ys)) (h:FoAt CU R H v o):FoAt CU R H' v o:=by
  cases h with
  | rule p o dx A2 vl vr avs z wt l r as hp ho hl hr hA ha ne=>exact .rule p o dx A2 vl vr avs z wt l r as (kt _ _ hp) (ki _ _ _ _ ho) (tr_keep kt hl) (tr_keep kt hr) (kl _ _ ne hA) (Paired.mapP ha fun _ _ z=>z.keep kt) ne
  | cost p k n hp=>exact .cost p k n (kt _ _ hp)
  | grow p a b hp=>exact .grow p a b (kt _ _ hp)
  | pair p v1 v2 x t u hp h1 h2=>exact .pair p v1 v2 x t u (kt _ _ hp) (tr_keep kt h1) (tr_keep kt h2)
  | one p v1 x t hp h1=>exact .one p v1 x t (kt _ _ hp) (tr_keep kt h1)
theorem FoAt.same {R:Addr} {H H':Hp} {v:V} {o:Od} (s:Same H H') (h:FoAt CU R H v o):FoAt CU R H' v o:=h.keepG (fun _ _=>s _ _) (fun _ _ _ _=>s _ _) (fun _ _ _=>s _ _)
theorem FoAt.put {R:Addr} {H:Hp} {v:V} {o:Od} {xs ys:List V} (hR:H R=some (.lst xs)) (h:FoAt CU R H v o):FoAt CU R (upd H R (.lst ys)) v o :=
  h.keepG (keep_put (o' := .lst ys) hR trivial) (fun c C d fs e=>by rw [upd_ne (ne_of e hR (fun z=>nomatch z))];exact e) (fun c ys ne e=>by rw [upd_ne ne];exact e)
theorem FoAt.putD {R D:Addr} {H:Hp} {v:V} {o:Od} {ks ks':List (Key × V)} (hD:H D=some (.dK ks)) (h:FoAt CU R H v o):FoAt CU R (upd H D (.dK ks')) v o :=
  h.keepG (fun c ys e=>by rw [upd_ne (ne_of e hD (fun z=>nomatch z))];exact e) (fun c C d fs e=>by rw [upd_ne (ne_of e hD (fun z=>nomatch z))];exact e) (fun c ys _ e=>by rw [upd_ne (ne_of e hD (fun z=>nomatch z))];exact e)
noncomputable def odW:Od→Str
  | .rule _ _ _ _ _ => "rule"
  | .cost _ _ => "cost"
  | .grow _ _ => "grow"
  | .pair x _ _=>x
  | .one x _=>x
noncomputable def odR:Od→Str
  | .rule z wt l r as=>ruleS z wt l r as
  | .cost k n=>k ++ " " ++ Str.ofString (toString n)
  | .grow a b=>Str.ofString (toString a) ++ " " ++ Str.ofString (toString b)
  | .pair _ t u=>t.shown ++ " = " ++ u.shown
  | .one _ t=>t.shown
theorem odS_eq (o:Od):odS o=odW o ++ " " ++ odR o:=by
  refine str_ext ?_
  cases o with
  | rule z wt l r as=>show ("rule " ++ ruleS z wt l r as:Str).cps.toList=("rule" ++ " " ++ ruleS z wt l r as:Str).cps.toList;simp only [app_cps,List.append_assoc];rfl
  | cost k n=>show ("cost " ++ k ++ " " ++ Str.ofString (toString n):Str).cps.toList=("cost" ++ " " ++ (k ++ " " ++ Str.ofString (toString n)):Str).cps.toList;simp only [app_cps,List.append_assoc];rfl
  | grow a b=>show ("grow " ++ Str.ofString (toString a) ++ " " ++ Str.ofString (toString b):Str).cps.toList=("grow" ++ " " ++ (Str.ofString (toString a) ++ " " ++ Str.ofString (toString b)):Str).cps.toList;simp only [app_cps,List.append_assoc];rfl
  | pair x t u=>show (x ++ " " ++ t.shown ++ " = " ++ u.shown:Str).cps.toList=(x ++ " " ++ (t.shown ++ " = " ++ u.shown):Str).cps.toList;simp only [app_cps,List.append_assoc]
  | one x t=>rfl
theorem pair_no:∀ x∈pairW,32 ∉ x.cps.toList∧10 ∉ x.cps.toList:=by decide +kernel
theorem tree_no:∀ x∈treeW,32 ∉ x.cps.toList∧10 ∉ x.cps.toList:=by decide +kernel
theorem odW_no {o:Od} (g:OdG o):32 ∉ (odW o).cps.toList∧10 ∉ (odW o).cps.toList:=by
  cases o with
  | rule z wt l r as=>exact (show 32 ∉ ("rule" : Str).cps.toList∧10 ∉ ("rule" : Str).cps.toList by decide +kernel)
  | cost k n=>exact (show 32 ∉ ("cost" : Str).cps.toList∧10 ∉ ("cost" : Str).cps.toList by decide +kernel)
  | grow a b=>exact (show 32 ∉ ("grow" : Str).cps.toList∧10 ∉ ("grow" : Str).cps.toList by decide +kernel)
  | pair x t u=>exact pair_no x g.1
  | one x t=>exact tree_no x g.1
theorem odW_len {o:Od} (g:OdG o):(odW o).length≤8:=by
  cases o with
  | rule z wt l r as=>exact (show ("rule" : Str).length≤8 by decide)
  | cost k n=>exact (show ("cost" : Str).length≤8 by decide)
  | grow a b=>exact (show ("grow" : Str).length≤8 by decide)
  | pair x t u=>exact pair_len x g.1
  | one x t=>exact tree_len x g.1
theorem odR_len {o:Od} (g:OdG o):(odR o).length≤10000:=by
  have e1:(" " : Str).length=1:=rfl
  have e3:(" = " : Str).length=3:=rfl
  cases o with
  | rule z wt l r as=>exact rule_len g
  | cost k n =>
    have:=numS_len (n:=n) (by have:=g.2.1;omega) g.2.2
    have:=cost_key g.1
    show (k ++ " " ++ Str.ofString (toString n):Str).length≤10000
    rw [Str.length_append,Str.length_append,e1];omega
  | grow a b =>
    have:=numS_len (n:=a) g.1.1 (by have:=g.1.2;omega)
    have:=numS_len (n:=b) (by have:=g.2.1;omega) (by have:=g.2.2;omega)
    show (Str.ofString (toString a) ++ " " ++ Str.ofString (toString b):Str).length≤10000
    rw [Str.length_append,Str.length_append,e1];omega
  | pair x t u =>
    have:=shown12 g.2.1.ok g.2.1.parts
    have:=shown12 g.2.2.ok g.2.2.parts
    show (t.shown ++ " = " ++ u.shown:Str).length≤10000
    rw [Str.length_append,Str.length_append,e3];omega
  | one x t =>
    have:=shown12 g.2.ok g.2.parts
    show t.shown.length≤10000
    omega
theorem odS_len {o:Od} (g:OdG o):(odS o).length≤10100:=by
  have:=odW_len g
  have:=odR_len g
  have e1:(" " : Str).length=1:=rfl
  rw [odS_eq,Str.length_append,Str.length_append,e1]
  omega
theorem read_ok {H:Hp} {Q:VK} {E:XK} {t:T} (g:TreeG 12 t) (q:∀ v H',Same H H'→IsTr H' t v→Q v H'):spRead CNT false [.str t.shown] H Q E:=by
  have st:Stop []:=fun c hc=>nomatch hc
  have e:=pt_done false 30 t g.ok (by have:=g.dep;omega) (.inr g.no63) [] st
  rw [List.append_nil] at e
  have sl:=shown12 g.ok g.parts
  refine ⟨t.shown,rfl,by omega,fun t' e' hp' v H' s' tr => ?_,fun h => ?_⟩
  · rw [e] at e'
    cases e'
    exact q v H' s' tr
  · have:=h t e
    have:=g.parts
    omega
inductive SpROrder (CU:Addr) (vs:List V) (H:Hp) (Q:VK):Prop
  | mk (o:Od) (ev:vs = [.str (odW o),.str (odR o)]) (g:OdG o) (q:∀ p H',Same H H'→(∀ R,H R≠none→FoAt CU R H' (.ref p) o)→Q (.ref p) H'):SpROrder CU vs H Q
noncomputable def spROrder (CU:Addr):Sp:=fun vs H Q _=>SpROrder CU vs H Q
theorem ok_read_order {t_PAIR_WORDS t_TREE_WORDS:Addr} (B:Blt mg) (g_PAIR_WORDS:mg "PAIR_WORDS" = some (.ref t_PAIR_WORDS)) (g_TREE_WORDS:mg "TREE_WORDS" = some (.ref t_TREE_WORDS)) (q_PAIR:∀ H:Hp,SqT K H t_PAIR_WORDS (pairW.map V.str)) (q_TREE:∀ H:Hp,SqT K H t_TREE_WORDS (treeW.map V.str)) (h_read_rule:Has P w K mg base 67 "read_rule" ["line"] (spRRule CU)) (h_read_cost:Has P w K mg base 3 "read_cost" ["rest"] spRCost) (h_read_grow:Has P w K mg base 3 "read_grow" ["rest"] spRGrow) (h_read:HasE P w K mg base 65 "read" ["text"] (spRead CNT false)) (D:Def K mg "read_order" s_read_order ["word", "rest"]):Has P w K mg base 68 "read_order" ["word", "rest"] (spROrder CU):=by
  refine D.has sc_read_order (fun vs H Q E h => ?_) (fun f cdv A outer s H vs Q E hr h => ?_)
  · obtain ⟨o,rfl,_⟩:=h;rfl
  obtain ⟨o,rfl,g,q⟩:=h
  refine ⟨_,(pss_cons (ps_if (pt_cmpR op_eq (pv 0) pe_str (nomark _)) (pss_one (ps_ret (pe_tup (pa_cons pe_str (pa_cons (pe_callH h_read_rule hr (by omega) rfl (pa_cons (pv 1) pa_nil)) pa_nil))))) pss_nil)
    (pss_cons (ps_if (pt_cmpR op_eq (pv 0) pe_str (nomark _)) (pss_one (ps_ret (pe_callH h_read_cost hr (by omega) rfl (pa_cons (pv 1) pa_nil)))) pss_nil)
    (pss_cons (ps_if (pt_cmpR op_eq (pv 0) pe_str (nomark _)) (pss_one (ps_ret (pe_callH h_read_grow hr (by omega) rfl (pa_cons (pv 1) pa_nil)))) pss_nil)
    (pss_cons (ps_if (pt_cmpR op_in_seq (pv 0) (pe_glob (v := .ref t_PAIR_WORDS) rfl g_PAIR_WORDS rfl) (by with_unfolding_all rfl)) (pss_cons (ps_set (i:=2) sc_read_order.nd rfl (Or.inl rfl) (pe_bm PySem.F.plainAttrs_str PySem.F.slot_str_partition PySem.F.type_str_partition mt_partition (pv 1) (pa_cons pe_str pa_nil)))
    (pss_one (ps_ret (pe_tup (pa_cons (pv 0) (pa_cons (pe_callE h_read hr (by omega) passNo rfl (pa_cons (pe_ix ix_tup (pv 2) pe_int (fun _ _=>rfl)) pa_nil)) (pa_cons (pe_callE h_read hr (by omega) passNo rfl (pa_cons (pe_ix ix_tup (pv 2) pe_int (fun _ _=>rfl)) pa_nil)) pa_nil))))))) pss_nil)
    (pss_cons (ps_if (pt_cmpR op_in_seq (pv 0) (pe_glob (v := .ref t_TREE_WORDS) rfl g_TREE_WORDS rfl) (by with_unfolding_all rfl)) (pss_one (ps_ret (pe_tup (pa_cons (pv 0) (pa_cons (pe_callE h_read hr (by omega) passNo rfl (pa_cons (pv 1) pa_nil)) pa_nil))))) pss_nil)
    (pss_one (ps_ret pe_non))))))),?_⟩
  try dsimp only [cxOf]
  cases o with
  | rule z wt l r as =>
    refine ⟨_,rfl,rfl,_,rfl,iteD (fun _ => ?_) (fun z=>absurd rfl z)⟩
    refine ⟨_,rfl,SpRRule.mk z wt l r as rfl g fun o dx A2 vl vr avs H1 s1 fr ho hl hr' hA hp=>⟨(show 2≤sizeLine by decide),fun p hp' => ?_⟩⟩
    have s2:=same_new hp' (.tup [.str "rule",.ref o])
    exact q p _ (s1.trans s2) fun R hR => .rule p o dx A2 vl vr avs z wt l r as upd_same (s2 _ _ ho) (tr_same s2 hl) (tr_same s2 hr') (s2 _ _ hA) (asks_same s2 hp) (fun e=>hR (by rw [← e];exact fr))
  | cost k n =>
    refine ⟨_,rfl,rfl,_,rfl,iteD (fun z=>absurd (V.str.inj z) (show ¬ ("cost" : Str) = "rule" by decide)) (fun _ => ?_)⟩
    refine ⟨_,rfl,rfl,_,rfl,iteD (fun _ => ?_) (fun z=>absurd rfl z)⟩
    exact ⟨_,rfl,SpRCost.mk k n rfl g.1 g.2.1 g.2.2 fun p H' s' hp=>q p H' s' fun R _ => .cost p k n hp⟩
  | grow a b =>
    refine ⟨_,rfl,rfl,_,rfl,iteD (fun z=>absurd (V.str.inj z) (show ¬ ("grow" : Str) = "rule" by decide)) (fun _ => ?_)⟩
    refine ⟨_,rfl,rfl,_,rfl,iteD (fun z=>absurd (V.str.inj z) (show ¬ ("grow" : Str) = "cost" by decide)) (fun _ => ?_)⟩
    refine ⟨_,rfl,rfl,_,rfl,iteD (fun _ => ?_) (fun z=>absurd rfl z)⟩
    exact ⟨_,rfl,SpRGrow.mk a b rfl g.1.1 g.1.2 g.2.1 g.2.2 fun p H' s' hp=>q p H' s' fun R _ => .grow p a b hp⟩
  | pair x t u =>
    obtain ⟨n1,n2,n3⟩:=pair_ne x g.1
    have lt:=shown12 g.2.1.ok g.2.1.parts
    have lu:=shown12 g.2.2.ok g.2.2.parts
    have big:(10000000:Nat)≤sizeLine:=by decide
    refine ⟨_,rfl,rfl,_,rfl,iteD (fun z=>absurd (V.str.inj z) n1) (fun _ => ?_)⟩
    refine ⟨_,rfl,rfl,_,rfl,iteD (fun z=>absurd (V.str.inj z) n2) (fun _ => ?_)⟩
    refine ⟨_,rfl,rfl,_,rfl,iteD (fun z=>absurd (V.str.inj z) n3) (fun _ => ?_)⟩
    refine ⟨_,rfl,t_PAIR_WORDS,_,rfl,.inr (q_PAIR H),rfl,flat_strs _,_,rfl,?_⟩
    rw [in_strs,decide_eq_true (show odW (.pair x t u)∈pairW from g.1)]
    refine iteT ?_
    refine ⟨_,rfl,rfl,_,_,rfl,rfl,by decide,?_,fun p hp => ?_⟩
    · show (t.shown ++ " = " ++ u.shown:Str).length≤_
      rw [Str.length_append,Str.length_append];show t.shown.length+3+u.shown.length≤_;omega
    rw [show Txt.partition (odR (.pair x t u)) (" = " : Str)=(t.shown,(" = " : Str),u.shown) from cut3 g.2.1.ok]
    have s1:=same_new hp (.tup [.str t.shown,.str " = ",.str u.shown])
    have hp1:=upd_same (H:=H) (a:=p) (o := .tup [.str t.shown,.str " = ",.str u.shown])
    dsimp only [gName] at s1 hp1 ⊢
    generalize upd H p (.tup [.str t.shown,.str " = ",.str u.shown])=H1 at s1 hp1 ⊢
    refine ⟨_,rfl,_,rfl,p,_,0,_,rfl,rfl,SqT.of hp1,atI_nat (j:=0) rfl,read_ok g.2.1 fun v1 H2 s2 h1=>⟨_,rfl,p,_,2,_,rfl,rfl,SqT.of (s2 _ _ hp1),atI_nat (j:=2) rfl,read_ok g.2.2 fun v2 H3 s3 h2=>⟨(show 3≤sizeLine by decide),fun pp hpp => ?_⟩⟩⟩
    have s4:=same_new hpp (.tup [.str x,v1,v2])
    exact q pp _ (s1.trans (s2.trans (s3.trans s4))) fun R _ => .pair pp v1 v2 x t u upd_same (tr_same (s3.trans s4) h1) (tr_same s4 h2)
  | one x t =>
    obtain ⟨n1,n2,n3⟩:=tree_ne x g.1
    have np:odW (.one x t) ∉ pairW:=fun z=>by
      have:∀ y∈treeW,y ∉ pairW:=by decide +kernel
      exact this x g.1 z
    refine ⟨_,rfl,rfl,_,rfl,iteD (fun z=>absurd (V.str.inj z) n1) (fun _ => ?_)⟩
    refine ⟨_,rfl,rfl,_,rfl,iteD (fun z=>absurd (V.str.inj z) n2) (fun _ => ?_)⟩
    refine ⟨_,rfl,rfl,_,rfl,iteD (fun z=>absurd (V.str.inj z) n3) (fun _ => ?_)⟩
    refine ⟨_,rfl,t_PAIR_WORDS,_,rfl,.inr (q_PAIR H),rfl,flat_strs _,_,rfl,?_⟩
    rw [in_strs,decide_eq_false np]
    refine iteF ?_
    refine ⟨_,rfl,t_TREE_WORDS,_,rfl,.inr (q_TREE H),rfl,flat_strs _,_,rfl,?_⟩
    rw [in_strs,decide_eq_true (show odW (.one x t)∈treeW from g.1)]
    refine iteT ?_
    refine ⟨_,rfl,_,rfl,read_ok g.2 fun v1 H2 s2 h1=>⟨(show 2≤sizeLine by decide),fun pp hpp => ?_⟩⟩
    have s4:=same_new hpp (.tup [.str x,v1])
    exact q pp _ (s2.trans s4) fun R _ => .one pp v1 x t upd_same (tr_same s4 h1)
inductive SpRRow (CU:Addr) (vs:List V) (H:Hp) (Q:VK):Prop
  | mk (o:Od) (line:V) (ev:vs = [.str (odS o),line]) (g:OdG o) (q:∀ p H',Same H H'→(∀ R,H R≠none→FoAt CU R H' (.ref p) o)→Q (.ref p) H'):SpRRow CU vs H Q
noncomputable def spRRow (CU:Addr):Sp:=fun vs H Q _=>SpRRow CU vs H Q
theorem ok_read_row (B:Blt mg) (h_read_order:Has P w K mg base 68 "read_order" ["word", "rest"] (spROrder CU)) (D:Def K mg "read_row" s_read_row ["row", "line"]):Has P w K mg base 69 "read_row" ["row", "line"] (spRRow CU):=by
  refine D.has sc_read_row (fun vs H Q E h => ?_) (fun f cdv A outer s H vs Q E hr h => ?_)
  · obtain ⟨o,line,rfl,_⟩:=h;rfl
  obtain ⟨o,line,rfl,g,q⟩:=h
  refine ⟨_,(pss_cons (ps_set (i:=2) sc_read_row.nd rfl (Or.inl rfl) (pe_bm PySem.F.plainAttrs_str PySem.F.slot_str_partition PySem.F.type_str_partition mt_partition (pv 0) (pa_cons pe_str pa_nil)))
    (pss_cons (ps_tryNo (pss_one (ps_set (i:=3) sc_read_row.nd rfl (Or.inl rfl) (pe_callH h_read_order hr (by omega) rfl (pa_cons (pe_ix ix_tup (pv 2) pe_int (fun _ _=>rfl)) (pa_cons (pe_ix ix_tup (pv 2) pe_int (fun _ _=>rfl)) pa_nil))))))
    (pss_cons (ps_if (pt_cmpR op_isN (pv 3) pe_non (nomark _)) (pss_one ps_never) pss_nil)
    (pss_one (ps_ret (pv 3)))))),?_⟩
  try dsimp only [cxOf]
  have big:(10000000:Nat)≤sizeLine:=by decide
  have ol:=odS_len g
  refine ⟨_,rfl,rfl,_,_,rfl,rfl,by decide,by omega,fun p hp => ?_⟩
  rw [odS_eq,cutK (odW_no g).1]
  have s1:=same_new hp (.tup [.str (odW o),.str " ",.str (odR o)])
  have hp1:=upd_same (H:=H) (a:=p) (o := .tup [.str (odW o),.str " ",.str (odR o)])
  dsimp only [gName] at s1 hp1 ⊢
  generalize upd H p (.tup [.str (odW o),.str " ",.str (odR o)])=H1 at s1 hp1 ⊢
  refine ⟨_,rfl,p,_,0,_,rfl,rfl,SqT.of hp1,atI_nat (j:=0) rfl,_,rfl,p,_,2,_,rfl,rfl,SqT.of hp1,atI_nat (j:=2) rfl,SpROrder.mk o rfl g fun pv H2 s2 hv => ?_⟩
  dsimp only [gName]
  refine ⟨_,rfl,rfl,_,rfl,iteD (fun z=>nomatch z) (fun _ => ?_)⟩
  exact ⟨_,rfl,q pv H2 (s1.trans s2) fun R hR=>hv R fun e=>hR (s1.free e)⟩
end

end K71
namespace K71
open PySem L2 Sw
section
variable {P:Program} {w:World} {K:PySem.W.Frag} {mg:Str→Option Value} {base:Heap} {CU CNR CNT:Addr}
noncomputable def rS:Option Od→Str
  | none => ""
  | some o=>odS o
theorem no10_rule {z:Str} {wt:Int} {l r:T} {as:List Ask} (g:RuleG z wt l r as):10 ∉ (ruleS z wt l r as).cps.toList:=by
  have hj:∀ ss:List Str,(∀ s∈ss,10 ∉ s.cps.toList)→10 ∉ (Str.join ", " ss).cps.toList:=fun ss=>by
    induction ss with
    | nil=>intro _ z;cases z
    | cons s ss ih =>
      intro h z
      cases ss with
      | nil=>rw [Str.join] at z;exact h s List.mem_cons_self z
      | cons u us =>
        rw [Str.join] at z
        · rw [app_cps,app_cps] at z
          rcases List.mem_append.mp z with z | z
          · rcases List.mem_append.mp z with z | z
            · exact h s List.mem_cons_self z
            · exact absurd z (by decide +kernel)
          · exact ih (fun v hv=>h v (List.mem_cons_of_mem _ hv)) z
        · intro e;cases e
  have hask:∀ s∈as.map askS,10 ∉ s.cps.toList:=fun s hs=>by
    obtain ⟨a,ha,rfl⟩:=List.mem_map.mp hs
    have ga:=g.askG ha
    have hw:=ga.w
    have key:∀ (p h q:Str),10 ∉ p.cps.toList→IsW h→10 ∉ q.cps.toList→10 ∉ (p ++ h ++ " " ++ q:Str).cps.toList:=fun p h q hp hh hq z=>by
      rw [app_cps,app_cps,app_cps] at z
      rcases List.mem_append.mp z with z | z
      · rcases List.mem_append.mp z with z | z
        · rcases List.mem_append.mp z with z | z
          · exact hp z
          · exact word_not hh (by decide) z
        · cases List.mem_singleton.mp z
      · exact hq z
    cases a with
    | free h z=>exact key "free ?" h z (by decide +kernel) hw (word_not ga.ok.2 (by decide))
    | sign h m =>
      refine key "sign ?" h (maskS m) (by decide +kernel) hw ?_
      unfold maskS
      rw [List.getD_eq_getElem?_getD]
      cases h:masks[(m - 1).toNat]? with
      | none=>exact fun z=>nomatch z
      | some z =>
        have:∀ z∈masks,10 ∉ z.cps.toList:=by decide +kernel
        exact this z (List.mem_of_getElem? h)
    | num h =>
      have hw:IsW h:=hw
      show 10 ∉ ("number ?" ++ h:Str).cps.toList
      rw [app_cps]
      intro z
      rcases List.mem_append.mp z with z | z
      · exact absurd z (by decide +kernel)
      · exact word_not hw (by decide) z
  have hl:=shown_sign g.l_ (c:=10) (by decide +kernel)
  have hr:=shown_sign g.r_ (c:=10) (by decide +kernel)
  have hn:10 ∉ (Str.ofString (toString wt)).cps.toList:=fun z=>by
    have:=num_signs wt 10 z
    omega
  have hz:=word_not g.ok.1 (c:=10) (by decide)
  have h2:=hj _ hask
  have e0:10 ∉ (" " : Str).cps.toList:=by decide +kernel
  have e1:10 ∉ (": " : Str).cps.toList:=by decide +kernel
  have e2:10 ∉ (" = " : Str).cps.toList:=by decide +kernel
  have e3:10 ∉ (" if " : Str).cps.toList:=by decide +kernel
  rw [ruleS_cps]
  unfold tailS
  intro z
  by_cases c:0 < as.length
  · rw [if_pos c] at z
    simp only [app_cps,List.mem_append] at z
    simp only [hl,hr,hn,hz,h2,e0,e1,e2,e3,or_self] at z
  · rw [if_neg c] at z
    simp only [app_cps,List.mem_append] at z
    simp only [hl,hr,hn,hz,e0,e1,e2,or_self] at z
theorem no10_od {o:Od} (g:OdG o):10 ∉ (odS o).cps.toList:=by
  have hw:=(odW_no g).2
  have e0:10 ∉ (" " : Str).cps.toList:=by decide +kernel
  have e2:10 ∉ (" = " : Str).cps.toList:=by decide +kernel
  have num:∀ n:Int,10 ∉ (Str.ofString (toString n)).cps.toList:=fun n z=>by
    have:=num_signs n 10 z
    omega
  have hr:10 ∉ (odR o).cps.toList:=by
    cases o with
    | rule z wt l r as=>exact no10_rule g
    | cost k n =>
      have hk:10 ∉ k.cps.toList:=by
        rcases g.1 with h | rfl | rfl
        · exact word_not h (by decide)
        · decide +kernel
        · decide +kernel
      show 10 ∉ (k ++ " " ++ Str.ofString (toString n):Str).cps.toList
      intro z
      simp only [app_cps,List.mem_append] at z
      simp only [hk,num,e0,or_self] at z
    | grow a b =>
      show 10 ∉ (Str.ofString (toString a) ++ " " ++ Str.ofString (toString b):Str).cps.toList
      intro z
      simp only [app_cps,List.mem_append] at z
      simp only [num,e0,or_self] at z
    | pair x t u =>
      have h1:=shown_sign g.2.1.ok (c:=10) (by decide +kernel)
      have h2:=shown_sign g.2.2.ok (c:=10) (by decide +kernel)
      show 10 ∉ (t.shown ++ " = " ++ u.shown:Str).cps.toList
      intro z
      simp only [app_cps,List.mem_append] at z
      simp only [h1,h2,e2,or_self] at z
    | one x t=>exact shown_sign g.2.ok (c:=10) (by decide +kernel)
  rw [odS_eq]
  intro z
  simp only [app_cps,List.mem_append] at z
  simp only [hw,hr,e0,or_self] at z
theorem odS_ne (o:Od):odS o ≠ "" := fun z=>by
  have h:=congrArg Str.length z
  rw [odS_eq,Str.length_append,Str.length_append] at h
  have:(odW o).length+1+(odR o).length=0:=h
  omega
theorem dOf_none {acc:List Str} {x:Str} (h:x ∉ acc):valV (dOf acc) (Sum.inr x:Key)=none:=by
  induction acc with
  | nil=>rfl
  | cons y l ih =>
    have hy:y≠x:=fun e=>h (by rw [e];exact List.mem_cons_self)
    show valV ((Sum.inr y,V.bl true) :: dOf l) _=none
    rw [valV_neg (fun e=>hy (Sum.inr.inj e))]
    exact ih fun hm=>h (List.mem_cons_of_mem _ hm)
inductive SpSheet (CU:Addr) (vs:List V) (H:Hp) (Q:VK):Prop
  | mk (rs:List (Option Od)) (ev:vs = [.str (Str.join "\n" (rs.map rS))]) (h1:1≤rs.length) (h2:rs.length≤200) (hl:(Str.join "\n" (rs.map rS)).length≤5000000) (g:∀ o,some o∈rs→OdG o) (nd:((rs.filterMap id).filterMap Od.title).Nodup) (q:∀ R rvs H',Same H H'→H' R=some (.lst rvs)→Paired (FoAt CU R H') rvs (rs.filterMap id)→Q (.ref R) H'):SpSheet CU vs H Q
noncomputable def spSheet (CU:Addr):Sp:=fun vs H Q _=>SpSheet CU vs H Q
noncomputable def acI (rs:List (Option Od)) (i:Nat):List Od:=(rs.take i).filterMap id
noncomputable def ttI (rs:List (Option Od)) (i:Nat):List Str:=(acI rs i).filterMap Od.title
theorem acI_none {rs:List (Option Od)} {i:Nat} (h:rs[i]? = some none):acI rs (i+1)=acI rs i:=by
  unfold acI
  rw [List.take_add_one,h,List.filterMap_append]
  exact List.append_nil _
theorem acI_some {rs:List (Option Od)} {i:Nat} {o:Od} (h:rs[i]? = some (some o)):acI rs (i+1)=acI rs i ++ [o]:=by
  unfold acI
  rw [List.take_add_one,h,List.filterMap_append]
  rfl
theorem ttI_rest (rs:List (Option Od)) (i:Nat):(rs.filterMap id).filterMap Od.title=ttI rs i ++ (((rs.drop i).filterMap id).filterMap Od.title):=by
  unfold ttI acI
  rw [← List.filterMap_append, ← List.filterMap_append,List.take_append_drop]
theorem ttI_len (rs:List (Option Od)) (i:Nat):(ttI rs i).length≤rs.length:=by
  unfold ttI acI
  refine Nat.le_trans (List.length_filterMap_le _ _) (Nat.le_trans (List.length_filterMap_le _ _) ?_)
  rw [List.length_take]
  omega
inductive ShI (CU:Addr) (H:Hp) (tx:Str) (R Dt L:Addr) (rs:List (Option Od)) (i:Nat) (σ : St) (H':Hp):Prop
  | mk (x3 x4 x5:Option V) (rvs:List V) (e : σ = [some (.str tx),some (.ref R),some (.ref Dt),x3,x4,x5]) (sm:Same H H') (hR:H' R=some (.lst rvs)) (hp:Paired (FoAt CU R H') rvs (acI rs i)) (hD:H' Dt=some (.dK (dOf (ttI rs i)))) (hL:H' L=some (.lst ((rs.map rS).map V.str))) (len:rvs.length≤i):ShI CU H tx R Dt L rs i σ H'
inductive ShC (CU:Addr) (H:Hp) (R Dt L:Addr) (rs:List (Option Od)) (i:Nat) (o:Od) (pv:Addr) (rvs:List V) (st:St) (σ : St) (H':Hp):Prop
  | mk (e : σ = st) (sm:Same H H') (hR:H' R=some (.lst rvs)) (hp:Paired (FoAt CU R H') rvs (acI rs i)) (hv:FoAt CU R H' (.ref pv) o) (hD:H' Dt=some (.dK (dOf (ttI rs (i+1))))) (hL:H' L=some (.lst ((rs.map rS).map V.str))):ShC CU H R Dt L rs i o pv rvs st σ H'
theorem ok_read_sheet (B:Blt mg) (Z:TopU K mg CU CNR) (h_read_row:Has P w K mg base 69 "read_row" ["row", "line"] (spRRow CU)) (D:Def K mg "read_sheet" s_read_sheet ["text"]):Has P w K mg base 70 "read_sheet" ["text"] (spSheet CU):=by
  refine D.has sc_read_sheet (fun vs H Q E h => ?_) (fun f cdv A outer s H vs Q E hr h => ?_)
  · obtain ⟨rs,rfl,_⟩:=h;rfl
  obtain ⟨rs,rfl,h1,h2,hl,g,nd,q⟩:=h
  refine ⟨_,(pss_cons (ps_set (i:=1) sc_read_sheet.nd rfl (Or.inl rfl) (pe_lst pa_nil))
    (pss_cons (ps_set (i:=2) sc_read_sheet.nd rfl (Or.inl rfl) pe_dnewK)
    (pss_cons (ps_for PassesOwn.never rfl (pi_enum1 rfl B.enumerate_ (pa_cons (pe_bm PySem.F.plainAttrs_str PySem.F.slot_str_split PySem.F.type_str_split mt_split (pv 0) (pa_cons pe_str pa_nil)) pa_nil)) (pg_tup rfl (pgs_cons (pg_name (i:=3) sc_read_sheet.nd rfl (Or.inl rfl)) (pgs_cons (pg_name (i:=4) sc_read_sheet.nd rfl (Or.inl rfl)) pgs_nil)))
    (pss_one (ps_if (pt_cmpR op_ne (pv 4) pe_str (nomark _)) (pss_cons (ps_set (i:=5) sc_read_sheet.nd rfl (Or.inl rfl) (pe_callH h_read_row hr (by omega) rfl (pa_cons (pv 4) (pa_cons (pv 3) pa_nil))))
    (pss_cons (ps_if (pt_cmpR op_eq (pe_ix ix_tup (pv 5) pe_int (fun _ _=>rfl)) pe_str (nomark _)) (pss_cons (ps_if (pt_cmp (pc_din (hu_of hr) (pe_fld (pe_ix ix_tup (pv 5) pe_int (fun _ _=>rfl)) rfl) (pv 2)) (by with_unfolding_all rfl)) (pss_one ps_never) pss_nil)
    (pss_one (ps_dput (hu_of hr) (pv 2) (pe_fld (pe_ix ix_tup (pv 5) pe_int (fun _ _=>rfl)) rfl) pe_bl rfl))) pss_nil)
    (pss_one (ps_expr (pe_bm PySem.F.plainAttrs_list PySem.F.slot_list_append PySem.F.type_list_append mt_append (pv 1) (pa_cons (pv 5) pa_nil)))))) pss_nil)))
    (pss_one (ps_ret (pv 1)))))),?_⟩
  try dsimp only [cxOf]
  have big:(10000000:Nat)≤sizeLine:=by decide
  refine ⟨Nat.zero_le _,fun R hR0 => ?_⟩
  dsimp only [gName]
  have s1:=same_new hR0 (.lst [])
  have hR1:=upd_same (H:=H) (a:=R) (o := .lst [])
  generalize upd H R (.lst [])=H1 at s1 hR1 ⊢
  refine fun Dt hDt => ?_
  dsimp only [gName]
  have hD0:=s1.free hDt
  have s2:=same_new hDt (.dK [])
  have hD2:=upd_same (H:=H1) (a:=Dt) (o := .dK [])
  have hR2:=s2 _ _ hR1
  generalize upd H1 Dt (.dK [])=H2 at s2 hD2 hR2 ⊢
  refine ⟨_,rfl,rfl,_,_,rfl,rfl,by decide,by omega,fun L hL=>⟨L,rfl,⟨_,SqL.of upd_same⟩,?_⟩⟩
  rw [split_join (c:=10) (by decide +kernel) rfl (by rw [List.length_map];exact h1) (fun u hu=>by
    obtain ⟨r,hr,rfl⟩:=List.mem_map.mp hu
    cases r with
    | none=>exact fun z=>nomatch z
    | some o=>exact no10_od (g o hr))]
  have s3:=same_new hL (.lst ((rs.map rS).map V.str))
  have hL3:=upd_same (H:=H2) (a:=L) (o := .lst ((rs.map rS).map V.str))
  have hR3:=s3 _ _ hR2
  have hD3:=s3 _ _ hD2
  have hLR:L≠R:=fun e=>by rw [e,hR2] at hL;cases hL
  have hLD:L≠Dt:=fun e=>by rw [e,hD2] at hL;cases hL
  have hRD:R≠Dt:=fun e=>by rw [← e,hR1] at hDt;cases hDt
  have g3:=s1.trans (s2.trans s3)
  generalize upd H2 L (.lst ((rs.map rS).map V.str))=H3 at s3 hL3 hR3 hD3 g3 ⊢
  have hll:((rs.map rS).map V.str).length=rs.length:=by rw [List.length_map,List.length_map]
  refine for_enum1 (xs:=(rs.map rS).map V.str) (ShI CU H (Str.join "\n" (rs.map rS)) R Dt L rs) (ShI.mk none none none [] rfl g3 hR3 .nil hD3 hL3 (Nat.le_refl _)) (fun i σ H' _ h=>by obtain ⟨_,_,_,_,_,_,_,_,_,hL',_⟩:=h;exact SqL.of hL') ?_ ?_
  · rintro i x p σ H' hx ⟨x3,x4,x5,rvs,rfl,sm,hR,hp,hD,hL',len⟩ hp0
    have hi:i < rs.length:=by have:=(List.getElem?_eq_some_iff.mp hx).1;omega
    rw [List.getElem?_map,List.getElem?_map,List.getElem?_eq_getElem hi] at hx
    obtain ⟨r,er⟩:∃ r,rs[i]? = some r:=⟨_,List.getElem?_eq_getElem hi⟩
    rw [List.getElem?_eq_getElem hi] at er
    rw [Option.some.inj er] at hx
    cases hx
    have er:rs[i]? = some r:=by rw [List.getElem?_eq_getElem hi];exact er
    have s4:=same_new hp0 (.tup [.int ((i+1:Nat):Int),.str (rS r)])
    have hR4:=s4 _ _ hR
    have hD4:=s4 _ _ hD
    have hL4:=s4 _ _ hL'
    refine ⟨p,_,rfl,SqT.of upd_same,rfl,_,_,rfl,_,_,rfl,rfl,?_⟩
    dsimp only [gName]
    generalize upd H' p (.tup [.int ((i+1:Nat):Int),.str (rS r)])=H4 at s4 hR4 hD4 hL4 ⊢
    have hp4:Paired (FoAt CU R H4) rvs (acI rs i):=Paired.mapP hp fun _ _ z=>z.same s4
    cases r with
    | none =>
      refine ⟨_,rfl,rfl,_,rfl,iteDN (fun z=>absurd rfl z) (fun _ => ?_)⟩
      refine ShI.mk _ _ _ rvs rfl (sm.trans s4) hR4 ?_ ?_ hL4 (by omega)
      · rw [acI_none er];exact hp4
      · unfold ttI;rw [acI_none er];exact hD4
    | some o =>
      have go:=g o (List.mem_of_getElem? er)
      refine ⟨_,rfl,rfl,_,rfl,iteDN (fun _ => ?_) (fun z=>absurd (V.str.inj z) (odS_ne o))⟩
      refine ⟨_,rfl,_,rfl,SpRRow.mk o _ rfl go fun pv H5 s5 hv => ?_⟩
      have hv:=hv R (by rw [hR4];exact fun z=>nomatch z)
      have hR5:=s5 _ _ hR4
      have hD5:=s5 _ _ hD4
      have hL5:=s5 _ _ hL4
      have hp5:Paired (FoAt CU R H5) rvs (acI rs i):=Paired.mapP hp4 fun _ _ z=>z.same s5
      have sm5:=sm.trans (s4.trans s5)
      dsimp only [gName]
      have tl:=ttI_len rs i
      refine rd_cut (ShC CU H R Dt L rs i o pv rvs [some (.str (Str.join "\n" (rs.map rS))),some (.ref R),some (.ref Dt),some (.int ((i+1:Nat):Int)),some (.str (rS (some o))),some (.ref pv)]) ?_ (fun key => ?_)
      rotate_left
      · have tt_none:o.title=none→ttI rs (i+1)=ttI rs i:=fun z=>by
          unfold ttI
          rw [acI_some er,List.filterMap_append,List.filterMap_cons,z]
          exact List.append_nil _
        have no:o.title=none→ShC CU H R Dt L rs i o pv rvs [some (.str (Str.join "\n" (rs.map rS))),some (.ref R),some (.ref Dt),some (.int ((i+1:Nat):Int)),some (.str (rS (some o))),some (.ref pv)] [some (.str (Str.join "\n" (rs.map rS))),some (.ref R),some (.ref Dt),some (.int ((i+1:Nat):Int)),some (.str (rS (some o))),some (.ref pv)] H5:=fun z=>ShC.mk rfl sm5 hR5 hp5 hv (by rw [tt_none z];exact hD5) hL5
        cases hv with
        | rule _ o dx A2 vl vr avs z wt l r as hp ho hl hr hA ha ne =>
          have tts:ttI rs (i+1)=ttI rs i ++ [z]:=by
            unfold ttI
            rw [acI_some er,List.filterMap_append]
            rfl
          have nz:z ∉ ttI rs i:=by
            have nd2:=nd
            rw [ttI_rest rs (i+1),tts] at nd2
            have:=(List.nodup_append.mp (List.nodup_append.mp nd2).1).2.2
            exact fun hm=>this z hm z (List.mem_singleton.mpr rfl) rfl
          refine ⟨_,rfl,pv,_,0,_,rfl,rfl,SqT.of hp,atI_nat (j:=0) rfl,rfl,_,rfl,iteD (fun _ => ?_) (fun z=>absurd rfl z)⟩
          refine ⟨_,rfl,pv,_,1,_,rfl,rfl,SqT.of hp,atI_nat (j:=1) rfl,o,CU,dx,_,_,rfl,ho,Z.cU,Z.nTitle,rfl,_,rfl,Dt,_,rfl,DGet.k (k:=Sum.inr z) hD5,_,rfl,?_⟩
          rw [dOf_none nz]
          refine iteF ?_
          refine ⟨_,rfl,_,rfl,pv,_,1,_,rfl,rfl,SqT.of hp,atI_nat (j:=1) rfl,o,CU,dx,_,_,rfl,ho,Z.cU,Z.nTitle,rfl,Dt,_,rfl,DPut.k (k:=Sum.inr z) hD5 ?_,?_⟩
          · unfold dOf
            rw [List.length_map]
            exact Nat.lt_of_le_of_lt (by omega:(ttI rs i).length≤10000) (by decide)
          rw [put_dOf]
          refine key _ _ (ShC.mk rfl (sm5.put hD0) ?_ (Paired.mapP hp5 fun _ _ z=>z.putD hD5) (FoAt.putD hD5 (.rule pv o dx A2 vl vr avs z wt l r as hp ho hl hr hA ha ne)) ?_ ?_)
          · rw [upd_ne hRD];exact hR5
          · rw [upd_same,tts]
            unfold add
            rw [if_neg nz]
          · rw [upd_ne hLD];exact hL5
        | cost _ k n hp=>exact ⟨_,rfl,pv,_,0,_,rfl,rfl,SqT.of hp,atI_nat (j:=0) rfl,rfl,_,rfl,iteD (fun z=>absurd (V.str.inj z) (by decide)) (fun _=>key _ _ (no rfl))⟩
        | grow _ a b hp=>exact ⟨_,rfl,pv,_,0,_,rfl,rfl,SqT.of hp,atI_nat (j:=0) rfl,rfl,_,rfl,iteD (fun z=>absurd (V.str.inj z) (by decide)) (fun _=>key _ _ (no rfl))⟩
        | pair _ v1 v2 x t u hp h1 h2=>exact ⟨_,rfl,pv,_,0,_,rfl,rfl,SqT.of hp,atI_nat (j:=0) rfl,rfl,_,rfl,iteD (fun z=>absurd (V.str.inj z) (pair_ne x go.1).1) (fun _=>key _ _ (no rfl))⟩
        | one _ v1 x t hp h1=>exact ⟨_,rfl,pv,_,0,_,rfl,rfl,SqT.of hp,atI_nat (j:=0) rfl,rfl,_,rfl,iteD (fun z=>absurd (V.str.inj z) (tree_ne x go.1).1) (fun _=>key _ _ (no rfl))⟩
      rintro σ' H6 ⟨rfl,sm6,hR6,hp6,hv6,hD6,hL6⟩
      refine ⟨_,rfl,.inl ⟨rfl,_,SqL.of hR6⟩,_,rfl,R,rvs,_,rfl,rfl,hR6,small1000 (by omega),?_⟩
      refine ShI.mk _ _ _ (rvs ++ [.ref pv]) rfl (sm6.put hR0) upd_same ?_ ?_ ?_ (by rw [List.length_append];exact Nat.succ_le_succ len)
      · rw [acI_some er]
        exact Paired.snoc (Paired.mapP hp6 fun _ _ z=>z.put hR6) (hv6.put hR6)
      · rw [upd_ne (Ne.symm hRD)];exact hD6
      · rw [upd_ne hLR];exact hL6
  · rintro σ H' ⟨x3,x4,x5,rvs,rfl,sm,hR,hp,hD,hL',len⟩
    refine ⟨_,rfl,q R rvs H' sm hR ?_⟩
    rw [hll] at hp
    have:acI rs rs.length=rs.filterMap id:=by unfold acI;rw [List.take_length]
    rw [← this]
    exact hp
end

end K71
namespace K71
open PySem L2 Sw
section
variable {P:Program} {w:World} {K:PySem.W.Frag} {mg:Str→Option Value} {base:Heap} {CU CNR CNT:Addr}
theorem kit_ll {K:PySem.W.Frag}:PySem.W.kitOne K (.type "list") (.type "list")=some true:=by rfl
theorem kit_tt {K:PySem.W.Frag}:PySem.W.kitOne K (.type "tuple") (.type "tuple")=some true:=by rfl
theorem kit_ii {K:PySem.W.Frag}:PySem.W.kitOne K (.type "int") (.type "int")=some true:=by rfl
theorem kit_ib {K:PySem.W.Frag}:PySem.W.kitOne K (.type "int") (.type "bool")=some false:=by rfl
theorem kit_ss {K:PySem.W.Frag}:PySem.W.kitOne K (.type "str") (.type "str")=some true:=by rfl
theorem tr_ref {H:Hp} {t:T} {v:V} (h:IsTr H t v):∃ c xs,v = .ref c∧H c=some (.tup xs):=by
  cases t with
  | num n=>rw [IsTr] at h;obtain ⟨a,rfl,h⟩:=h;exact ⟨a,_,rfl,h⟩
  | name n=>rw [IsTr] at h;obtain ⟨a,rfl,h⟩:=h;exact ⟨a,_,rfl,h⟩
  | any n=>rw [IsTr] at h;obtain ⟨a,rfl,h⟩:=h;exact ⟨a,_,rfl,h⟩
  | of x ts=>rw [IsTr] at h;obtain ⟨a,b,us,rfl,h,_⟩:=h;exact ⟨a,_,rfl,h⟩
theorem kit_ti {K:PySem.W.Frag}:PySem.W.kitOne K (.type "tuple") (.type "int")=some false:=by rfl
theorem kit_si {K:PySem.W.Frag}:PySem.W.kitOne K (.type "str") (.type "int")=some false:=by rfl
noncomputable def rNeX:R2:=fun x y H Q=>rNe x y H Q∨rNeD x y H Q
theorem op_neX {X:Cx} (hu:X.A.units+151 < cLine):OpR X (compareOp .NotEq) rNeX:=by
  intro pins s σ H x y v u Q I rx ry h
  rcases h with h | h
  · exact op_ne pins s σ H x y v u Q I rx ry h
  · exact op_neD hu pins s σ H x y v u Q I rx ry h
theorem dT_tup (t:T):∃ ds,dT t = .tup ds:=by
  cases t with
  | num n=>exact ⟨_,by rw [dT]⟩
  | name n=>exact ⟨_,by rw [dT]⟩
  | any n=>exact ⟨_,by rw [dT]⟩
  | of x ts=>exact ⟨_,by rw [dT]⟩
theorem eq_trees {H:Hp} {Q:VK} {t:T} {v u:V} (hv:IsTr H t v) (hu:IsTr H t u) (hd:t.depth≤14) (q:Q (.bl true) H):rEqD v u H Q:=by
  obtain ⟨ds,e⟩:=dT_tup t
  have h1:=den_tr hv
  have h2:=den_tr hu
  have h3:=deep_tr t
  rw [e] at h1 h2 h3
  rw [D.deep] at h3
  refine ⟨ds,ds,.inl ⟨h1,h2⟩,by omega,?_⟩
  rw [decide_eq_true rfl]
  exact q
theorem ne_trees {H:Hp} {Q:VK} {t:T} {v u:V} (hv:IsTr H t v) (hu:IsTr H t u) (hd:t.depth≤14) (q:Q (.bl false) H):rNeX v u H Q:=by
  obtain ⟨ds,e⟩:=dT_tup t
  have h1:=den_tr hv
  have h2:=den_tr hu
  have h3:=deep_tr t
  rw [e] at h1 h2 h3
  rw [D.deep] at h3
  refine .inr ⟨ds,ds,.inl ⟨h1,h2⟩,by omega,?_⟩
  rw [decide_eq_true rfl]
  exact q
inductive SpRRight (CU:Addr) (vs:List V) (H:Hp) (Q:VK):Prop
  | mk (o dx A2 d AL:Addr) (z:Str) (wt:Int) (vl vr wl wr:V) (l r:T) (avs bvs:List V) (as:List Ask) (ev:vs = [.ref o,.ref d]) (ho:H o=some (.ins CU dx (ruleFs z wt vl vr A2))) (hl:IsTr H l vl) (hr:IsTr H r vr) (hA2:H A2=some (.lst avs)) (hp:Paired (AskAt H) avs as) (due:DueAt H d z wt wl wr l r AL bvs as) (g:RuleG z wt l r as) (q:Q (.bl true) H):SpRRight CU vs H Q
noncomputable def spRRight (CU:Addr):Sp:=fun vs H Q _=>SpRRight CU vs H Q
theorem ok_rule_right (B:Blt mg) (Z:TopU K mg CU CNR) (kR:ClsK K CU CU) (g_Rule:mg "Rule" = some (.ref CU)) (D:Def K mg "_law_rule_right" s_rule_right ["_law_found", "_law_due"]):Has P w K mg base 1 "_law_rule_right" ["_law_found", "_law_due"] (spRRight CU):=by
  refine D.has sc_rule_right (fun vs H Q E h => ?_) (fun f cdv A outer s H vs Q E hr h => ?_)
  · obtain ⟨o,dx,A2,d,AL,z,wt,vl,vr,wl,wr,l,r,avs,bvs,as,rfl,_⟩:=h;rfl
  obtain ⟨o,dx,A2,d,AL,z,wt,vl,vr,wl,wr,l,r,avs,bvs,as,rfl,ho,hl,hr',hA2,hp,due,g,q⟩:=h
  refine ⟨_,(pss_cons (ps_if (PW.pt (pw_or (pt_not (pt_val (pe_callB call_isC rfl B.isinstance_ boot_isinstance_ (pa_cons (pv 0) (pa_cons (pe_glob (v := .ref CU) rfl g_Rule rfl) pa_nil))))) (pw_or (pt_not (pt_val (pe_callB call_isT rfl B.isinstance_ boot_isinstance_ (pa_cons (pe_fld (pv 0) rfl) (pa_cons (pe_bltn (v := .ty "str") rfl B.str_ boot_str_ rfl) pa_nil))))) (pw_or1 (pt_cmpR op_ne (pe_fld (pv 0) rfl) (pe_ix ix_tup (pv 1) pe_int (fun _ _=>rfl)) (nomark _)))))) (pss_one (ps_ret pe_bl)) pss_nil)
    (pss_cons (ps_if (PW.pt (pw_or (pt_not (pt_val (pe_callB call_isT rfl B.isinstance_ boot_isinstance_ (pa_cons (pe_fld (pv 0) rfl) (pa_cons (pe_bltn (v := .ty "int") rfl B.int_ boot_int_ rfl) pa_nil))))) (pw_or (pt_val (pe_callB call_isT rfl B.isinstance_ boot_isinstance_ (pa_cons (pe_fld (pv 0) rfl) (pa_cons (pe_bltn (v := .ty "bool") rfl B.bool_ boot_bool_ rfl) pa_nil)))) (pw_or1 (pt_cmpR op_ne (pe_fld (pv 0) rfl) (pe_ix ix_tup (pv 1) pe_int (fun _ _=>rfl)) (nomark _)))))) (pss_one (ps_ret pe_bl)) pss_nil)
    (pss_one (ps_ret (pe_and (pe_cmpR (op_eqD (un101 hr)) (pe_fld (pv 0) rfl) (pe_ix ix_tup (pv 1) pe_int (fun _ _=>rfl)) (nomark _)) (pe_and (pe_cmpR (op_eqD (un101 hr)) (pe_fld (pv 0) rfl) (pe_ix ix_tup (pv 1) pe_int (fun _ _=>rfl)) (nomark _)) (pe_and (pe_callB call_isT rfl B.isinstance_ boot_isinstance_ (pa_cons (pe_fld (pv 0) rfl) (pa_cons (pe_bltn (v := .ty "list") rfl B.list_ boot_list_ rfl) pa_nil))) (pe_one (pe_cmpR (op_eqD (un101 hr)) (pe_fld (pv 0) rfl) (pe_ix ix_tup (pv 1) pe_int (fun _ _=>rfl)) (nomark _)))))))))),?_⟩
  try dsimp only [cxOf]
  have hd:=due.hd
  have hA:=due.hA
  refine ⟨_,rfl,_,_,_,true,rfl,kR.ty ho,kR.kit,_,rfl,iteF ?_⟩
  refine ⟨_,rfl,o,CU,dx,_,_,rfl,ho,Z.cU,Z.nTitle,rfl,_,_,_,true,rfl,.str _,kit_ss,_,rfl,iteF ?_⟩
  refine ⟨_,rfl,o,CU,dx,_,_,rfl,ho,Z.cU,Z.nTitle,rfl,_,rfl,d,_,0,_,rfl,rfl,SqT.of hd,atI_nat (j:=0) rfl,rfl,_,rfl,iteDN (fun z=>absurd rfl z) (fun _ => ?_)⟩
  refine ⟨_,rfl,o,CU,dx,_,_,rfl,ho,Z.cU,Z.nWeight,rfl,_,_,_,true,rfl,.int _,kit_ii,_,rfl,iteF ?_⟩
  refine ⟨_,rfl,o,CU,dx,_,_,rfl,ho,Z.cU,Z.nWeight,rfl,_,_,_,false,rfl,.int _,kit_ib,_,rfl,iteF ?_⟩
  refine ⟨_,rfl,o,CU,dx,_,_,rfl,ho,Z.cU,Z.nWeight,rfl,_,rfl,d,_,1,_,rfl,rfl,SqT.of hd,atI_nat (j:=1) rfl,rfl,_,rfl,iteDN (fun z=>absurd rfl z) (fun _ => ?_)⟩
  refine ⟨_,rfl,o,CU,dx,_,_,rfl,ho,Z.cU,Z.nLeft,rfl,_,rfl,d,_,2,_,rfl,rfl,SqT.of hd,atI_nat (j:=2) rfl,eq_trees hl due.hl g.dl ⟨_,rfl,iteT ?_⟩⟩
  refine ⟨_,rfl,o,CU,dx,_,_,rfl,ho,Z.cU,Z.nRight,rfl,_,rfl,d,_,3,_,rfl,rfl,SqT.of hd,atI_nat (j:=3) rfl,eq_trees hr' due.hr g.dr ⟨_,rfl,iteT ?_⟩⟩
  refine ⟨_,rfl,o,CU,dx,_,_,rfl,ho,Z.cU,Z.nAsks,rfl,_,_,_,true,rfl,.lst hA2,kit_ll,_,rfl,iteT ?_⟩
  refine ⟨_,rfl,o,CU,dx,_,_,rfl,ho,Z.cU,Z.nAsks,rfl,_,rfl,d,_,4,_,rfl,rfl,SqT.of hd,atI_nat (j:=4) rfl,as.map dA,as.map dA,.inr ⟨?_,?_⟩,Nat.le_trans (deep_asks as) (by decide),?_⟩
  · rw [Den];exact ⟨A2,avs,rfl,hA2,dens_asks hp⟩
  · rw [Den];exact ⟨AL,bvs,rfl,hA,dens_asks due.hp⟩
  · rw [decide_eq_true rfl]
    exact q
inductive SpORight (CU:Addr) (vs:List V) (H:Hp) (Q:VK):Prop
  | mk (R R2:Addr) (v u:V) (o:Od) (ev:vs = [v,u]) (hv:FoAt CU R H v o) (hu:OrAt R2 H u o) (g:OdG o) (q:Q (.bl true) H):SpORight CU vs H Q
noncomputable def spORight (CU:Addr):Sp:=fun vs H Q _=>SpORight CU vs H Q
theorem ok_order_right (B:Blt mg) (h_rule_right:Has P w K mg base 1 "_law_rule_right" ["_law_found", "_law_due"] (spRRight CU)) (D:Def K mg "_law_order_right" s_order_right ["_law_found", "_law_due"]):Has P w K mg base 2 "_law_order_right" ["_law_found", "_law_due"] (spORight CU):=by
  refine D.has sc_order_right (fun vs H Q E h => ?_) (fun f cdv A outer s H vs Q E hr h => ?_)
  · obtain ⟨R,R2,v,u,o,rfl,_⟩:=h;rfl
  obtain ⟨R,R2,v,u,o,rfl,hv,hu,g,q⟩:=h
  refine ⟨_,(pss_cons (ps_if (PW.pt (pw_or (pt_not (pt_val (pe_callB call_isT rfl B.isinstance_ boot_isinstance_ (pa_cons (pv 0) (pa_cons (pe_bltn (v := .ty "tuple") rfl B.tuple_ boot_tuple_ rfl) pa_nil))))) (pw_or (pt_cmpR op_ne (pe_callB call_len_seq rfl B.len_ PySem.boot_len (pa_cons (pv 0) pa_nil)) (pe_callB call_len_seq rfl B.len_ PySem.boot_len (pa_cons (pv 1) pa_nil)) (nomark _)) (pw_or1 (pt_cmpR op_ne (pe_ix ix_tup (pv 0) pe_int (fun _ _=>rfl)) (pe_ix ix_tup (pv 1) pe_int (fun _ _=>rfl)) (nomark _)))))) (pss_one (ps_ret pe_bl)) pss_nil)
    (pss_cons (ps_if (pt_cmpR op_eq (pe_ix ix_tup (pv 1) pe_int (fun _ _=>rfl)) pe_str (nomark _)) (pss_one (ps_ret (pe_callH h_rule_right hr (by omega) rfl (pa_cons (pe_ix ix_tup (pv 0) pe_int (fun _ _=>rfl)) (pa_cons (pe_ix ix_tup (pv 1) pe_int (fun _ _=>rfl)) pa_nil))))) pss_nil)
    (pss_cons (ps_for PassesOwn.never rfl (pi_range2 rfl B.range_ (pa_cons pe_int (pa_cons (pe_callB call_len_seq rfl B.len_ PySem.boot_len (pa_cons (pv 1) pa_nil)) pa_nil))) (pg_name (i:=2) sc_order_right.nd rfl (Or.inl rfl))
    (pss_cons (ps_if (PW.pt (pw_and (pt_val (pe_callB call_isT rfl B.isinstance_ boot_isinstance_ (pa_cons (pe_ix ix_tup (pv 1) (pv 2) (fun _ _=>rfl)) (pa_cons (pe_bltn (v := .ty "int") rfl B.int_ boot_int_ rfl) pa_nil)))) (pw_and1 (PW.pt (pw_or (pt_not (pt_val (pe_callB call_isT rfl B.isinstance_ boot_isinstance_ (pa_cons (pe_ix ix_tup (pv 0) (pv 2) (fun _ _=>rfl)) (pa_cons (pe_bltn (v := .ty "int") rfl B.int_ boot_int_ rfl) pa_nil))))) (pw_or1 (pt_val (pe_callB call_isT rfl B.isinstance_ boot_isinstance_ (pa_cons (pe_ix ix_tup (pv 0) (pv 2) (fun _ _=>rfl)) (pa_cons (pe_bltn (v := .ty "bool") rfl B.bool_ boot_bool_ rfl) pa_nil)))))))))) (pss_one (ps_ret pe_bl)) pss_nil)
    (pss_one (ps_if (pt_cmpR (op_neX (un101 hr)) (pe_ix ix_tup (pv 0) (pv 2) (fun _ _=>rfl)) (pe_ix ix_tup (pv 1) (pv 2) (fun _ _=>rfl)) (nomark _)) (pss_one (ps_ret pe_bl)) pss_nil))))
    (pss_one (ps_ret pe_bl))))),?_⟩
  try dsimp only [cxOf]
  cases hv with
  | rule p o dx A2 vl vr avs z wt l r as hp ho hl hr' hA2 ha ne =>
    cases hu with
    | rule p2 d AL wl wr bvs _ _ _ _ _ hp2 due ne2 =>
      refine ⟨_,rfl,_,_,_,true,rfl,.tup hp,kit_tt,_,rfl,iteF ?_⟩
      refine ⟨_,rfl,p,_,rfl,.inr (SqT.of hp),_,rfl,p2,_,rfl,.inr (SqT.of hp2),rfl,_,rfl,iteDN (fun z=>absurd rfl z) (fun _ => ?_)⟩
      refine ⟨_,rfl,p,_,0,_,rfl,rfl,SqT.of hp,atI_nat (j:=0) rfl,_,rfl,p2,_,0,_,rfl,rfl,SqT.of hp2,atI_nat (j:=0) rfl,rfl,_,rfl,iteDN (fun z=>absurd rfl z) (fun _ => ?_)⟩
      refine ⟨_,rfl,p2,_,0,_,rfl,rfl,SqT.of hp2,atI_nat (j:=0) rfl,rfl,_,rfl,iteD (fun _ => ?_) (fun z=>absurd rfl z)⟩
      exact ⟨_,rfl,p,_,1,_,rfl,rfl,SqT.of hp,atI_nat (j:=1) rfl,_,rfl,p2,_,1,_,rfl,rfl,SqT.of hp2,atI_nat (j:=1) rfl,SpRRight.mk o dx A2 d AL z wt vl vr wl wr l r avs bvs as rfl ho hl hr' hA2 ha due g q⟩
  | cost p k n hp =>
    cases hu with
    | cost p2 _ _ hp2 =>
      refine ⟨_,rfl,_,_,_,true,rfl,.tup hp,kit_tt,_,rfl,iteF ?_⟩
      refine ⟨_,rfl,p,_,rfl,.inr (SqT.of hp),_,rfl,p2,_,rfl,.inr (SqT.of hp2),rfl,_,rfl,iteDN (fun z=>absurd rfl z) (fun _ => ?_)⟩
      refine ⟨_,rfl,p,_,0,_,rfl,rfl,SqT.of hp,atI_nat (j:=0) rfl,_,rfl,p2,_,0,_,rfl,rfl,SqT.of hp2,atI_nat (j:=0) rfl,rfl,_,rfl,iteDN (fun z=>absurd rfl z) (fun _ => ?_)⟩
      refine ⟨_,rfl,p2,_,0,_,rfl,rfl,SqT.of hp2,atI_nat (j:=0) rfl,rfl,_,rfl,iteD (fun z=>absurd (V.str.inj z) (by decide)) (fun _ => ?_)⟩
      refine ⟨_,rfl,p2,_,rfl,.inr (SqT.of hp2),1,3,rfl,⟨by decide,by decide,by decide,by decide⟩,?_⟩
      refine for_range (lo:=1) (n:=2) (fun i σ H'=>∃ x2, σ = [some (.ref p),some (.ref p2),x2]∧H'=H) ⟨none,rfl,rfl⟩ ?_ ?_
      · rintro i σ H' hi ⟨x2,rfl,rfl⟩
        dsimp only [gName]
        rcases (show i=0∨i=1 by omega) with rfl | rfl
        · refine ⟨_,rfl,_,rfl,p2,_,_,_,rfl,rfl,SqT.of hp2,atI_nat (j:=1) rfl,_,_,_,false,rfl,.str _,kit_si,_,rfl,iteF ?_⟩
          exact ⟨_,rfl,_,rfl,p,_,_,_,rfl,rfl,SqT.of hp,atI_nat (j:=1) rfl,_,rfl,_,rfl,p2,_,_,_,rfl,rfl,SqT.of hp2,atI_nat (j:=1) rfl,.inl ⟨rfl,_,rfl,iteDN (fun z=>absurd rfl z) (fun _=>⟨_,rfl,rfl⟩)⟩⟩
        · refine ⟨_,rfl,_,rfl,p2,_,_,_,rfl,rfl,SqT.of hp2,atI_nat (j:=2) rfl,_,_,_,true,rfl,.int _,kit_ii,_,rfl,iteT ?_⟩
          refine ⟨_,rfl,_,rfl,p,_,_,_,rfl,rfl,SqT.of hp,atI_nat (j:=2) rfl,_,_,_,true,rfl,.int _,kit_ii,_,rfl,iteF ?_⟩
          refine ⟨_,rfl,_,rfl,p,_,_,_,rfl,rfl,SqT.of hp,atI_nat (j:=2) rfl,_,_,_,false,rfl,.int _,kit_ib,_,rfl,iteF ?_⟩
          exact ⟨_,rfl,_,rfl,p,_,_,_,rfl,rfl,SqT.of hp,atI_nat (j:=2) rfl,_,rfl,_,rfl,p2,_,_,_,rfl,rfl,SqT.of hp2,atI_nat (j:=2) rfl,.inl ⟨rfl,_,rfl,iteDN (fun z=>absurd rfl z) (fun _=>⟨_,rfl,rfl⟩)⟩⟩
      · rintro σ H' ⟨x2,rfl,rfl⟩
        exact q
  | grow p a b hp =>
    cases hu with
    | grow p2 _ _ hp2 =>
      refine ⟨_,rfl,_,_,_,true,rfl,.tup hp,kit_tt,_,rfl,iteF ?_⟩
      refine ⟨_,rfl,p,_,rfl,.inr (SqT.of hp),_,rfl,p2,_,rfl,.inr (SqT.of hp2),rfl,_,rfl,iteDN (fun z=>absurd rfl z) (fun _ => ?_)⟩
      refine ⟨_,rfl,p,_,0,_,rfl,rfl,SqT.of hp,atI_nat (j:=0) rfl,_,rfl,p2,_,0,_,rfl,rfl,SqT.of hp2,atI_nat (j:=0) rfl,rfl,_,rfl,iteDN (fun z=>absurd rfl z) (fun _ => ?_)⟩
      refine ⟨_,rfl,p2,_,0,_,rfl,rfl,SqT.of hp2,atI_nat (j:=0) rfl,rfl,_,rfl,iteD (fun z=>absurd (V.str.inj z) (by decide)) (fun _ => ?_)⟩
      refine ⟨_,rfl,p2,_,rfl,.inr (SqT.of hp2),1,3,rfl,⟨by decide,by decide,by decide,by decide⟩,?_⟩
      refine for_range (lo:=1) (n:=2) (fun i σ H'=>∃ x2, σ = [some (.ref p),some (.ref p2),x2]∧H'=H) ⟨none,rfl,rfl⟩ ?_ ?_
      · rintro i σ H' hi ⟨x2,rfl,rfl⟩
        dsimp only [gName]
        rcases (show i=0∨i=1 by omega) with rfl | rfl
        · refine ⟨_,rfl,_,rfl,p2,_,_,_,rfl,rfl,SqT.of hp2,atI_nat (j:=1) rfl,_,_,_,true,rfl,.int _,kit_ii,_,rfl,iteT ?_⟩
          refine ⟨_,rfl,_,rfl,p,_,_,_,rfl,rfl,SqT.of hp,atI_nat (j:=1) rfl,_,_,_,true,rfl,.int _,kit_ii,_,rfl,iteF ?_⟩
          refine ⟨_,rfl,_,rfl,p,_,_,_,rfl,rfl,SqT.of hp,atI_nat (j:=1) rfl,_,_,_,false,rfl,.int _,kit_ib,_,rfl,iteF ?_⟩
          exact ⟨_,rfl,_,rfl,p,_,_,_,rfl,rfl,SqT.of hp,atI_nat (j:=1) rfl,_,rfl,_,rfl,p2,_,_,_,rfl,rfl,SqT.of hp2,atI_nat (j:=1) rfl,.inl ⟨rfl,_,rfl,iteDN (fun z=>absurd rfl z) (fun _=>⟨_,rfl,rfl⟩)⟩⟩
        · refine ⟨_,rfl,_,rfl,p2,_,_,_,rfl,rfl,SqT.of hp2,atI_nat (j:=2) rfl,_,_,_,true,rfl,.int _,kit_ii,_,rfl,iteT ?_⟩
          refine ⟨_,rfl,_,rfl,p,_,_,_,rfl,rfl,SqT.of hp,atI_nat (j:=2) rfl,_,_,_,true,rfl,.int _,kit_ii,_,rfl,iteF ?_⟩
          refine ⟨_,rfl,_,rfl,p,_,_,_,rfl,rfl,SqT.of hp,atI_nat (j:=2) rfl,_,_,_,false,rfl,.int _,kit_ib,_,rfl,iteF ?_⟩
          exact ⟨_,rfl,_,rfl,p,_,_,_,rfl,rfl,SqT.of hp,atI_nat (j:=2) rfl,_,rfl,_,rfl,p2,_,_,_,rfl,rfl,SqT.of hp2,atI_nat (j:=2) rfl,.inl ⟨rfl,_,rfl,iteDN (fun z=>absurd rfl z) (fun _=>⟨_,rfl,rfl⟩)⟩⟩
      · rintro σ H' ⟨x2,rfl,rfl⟩
        exact q
  | pair p v1 v2 x t u hp h1 h2 =>
    cases hu with
    | pair p2 w1 w2 _ _ _ hp2 k1 k2 =>
      have d1:=g.2.1.dep
      have d2:=g.2.2.dep
      refine ⟨_,rfl,_,_,_,true,rfl,.tup hp,kit_tt,_,rfl,iteF ?_⟩
      refine ⟨_,rfl,p,_,rfl,.inr (SqT.of hp),_,rfl,p2,_,rfl,.inr (SqT.of hp2),rfl,_,rfl,iteDN (fun z=>absurd rfl z) (fun _ => ?_)⟩
      refine ⟨_,rfl,p,_,0,_,rfl,rfl,SqT.of hp,atI_nat (j:=0) rfl,_,rfl,p2,_,0,_,rfl,rfl,SqT.of hp2,atI_nat (j:=0) rfl,rfl,_,rfl,iteDN (fun z=>absurd rfl z) (fun _ => ?_)⟩
      refine ⟨_,rfl,p2,_,0,_,rfl,rfl,SqT.of hp2,atI_nat (j:=0) rfl,rfl,_,rfl,iteD (fun z=>absurd (V.str.inj z) (pair_ne x g.1).1) (fun _ => ?_)⟩
      refine ⟨_,rfl,p2,_,rfl,.inr (SqT.of hp2),1,3,rfl,⟨by decide,by decide,by decide,by decide⟩,?_⟩
      refine for_range (lo:=1) (n:=2) (fun i σ H'=>∃ x2, σ = [some (.ref p),some (.ref p2),x2]∧H'=H) ⟨none,rfl,rfl⟩ ?_ ?_
      · rintro i σ H' hi ⟨x2,rfl,rfl⟩
        dsimp only [gName]
        rcases (show i=0∨i=1 by omega) with rfl | rfl
        · obtain ⟨c,xs,e,hc⟩:=tr_ref k1
          refine ⟨_,rfl,_,rfl,p2,_,_,_,rfl,rfl,SqT.of hp2,atI_nat (j:=1) rfl,_,_,_,false,rfl,by rw [e];exact .tup hc,kit_ti,_,rfl,iteF ?_⟩
          exact ⟨_,rfl,_,rfl,p,_,_,_,rfl,rfl,SqT.of hp,atI_nat (j:=1) rfl,_,rfl,_,rfl,p2,_,_,_,rfl,rfl,SqT.of hp2,atI_nat (j:=1) rfl,ne_trees h1 k1 (by omega) ⟨_,rfl,iteF ⟨_,rfl,rfl⟩⟩⟩
        · obtain ⟨c,xs,e,hc⟩:=tr_ref k2
          refine ⟨_,rfl,_,rfl,p2,_,_,_,rfl,rfl,SqT.of hp2,atI_nat (j:=2) rfl,_,_,_,false,rfl,by rw [e];exact .tup hc,kit_ti,_,rfl,iteF ?_⟩
          exact ⟨_,rfl,_,rfl,p,_,_,_,rfl,rfl,SqT.of hp,atI_nat (j:=2) rfl,_,rfl,_,rfl,p2,_,_,_,rfl,rfl,SqT.of hp2,atI_nat (j:=2) rfl,ne_trees h2 k2 (by omega) ⟨_,rfl,iteF ⟨_,rfl,rfl⟩⟩⟩
      · rintro σ H' ⟨x2,rfl,rfl⟩
        exact q
  | one p v1 x t hp h1 =>
    cases hu with
    | one p2 w1 _ _ hp2 k1 =>
      have d1:=g.2.dep
      refine ⟨_,rfl,_,_,_,true,rfl,.tup hp,kit_tt,_,rfl,iteF ?_⟩
      refine ⟨_,rfl,p,_,rfl,.inr (SqT.of hp),_,rfl,p2,_,rfl,.inr (SqT.of hp2),rfl,_,rfl,iteDN (fun z=>absurd rfl z) (fun _ => ?_)⟩
      refine ⟨_,rfl,p,_,0,_,rfl,rfl,SqT.of hp,atI_nat (j:=0) rfl,_,rfl,p2,_,0,_,rfl,rfl,SqT.of hp2,atI_nat (j:=0) rfl,rfl,_,rfl,iteDN (fun z=>absurd rfl z) (fun _ => ?_)⟩
      refine ⟨_,rfl,p2,_,0,_,rfl,rfl,SqT.of hp2,atI_nat (j:=0) rfl,rfl,_,rfl,iteD (fun z=>absurd (V.str.inj z) (tree_ne x g.1).1) (fun _ => ?_)⟩
      refine ⟨_,rfl,p2,_,rfl,.inr (SqT.of hp2),1,2,rfl,⟨by decide,by decide,by decide,by decide⟩,?_⟩
      refine for_range (lo:=1) (n:=1) (fun i σ H'=>∃ x2, σ = [some (.ref p),some (.ref p2),x2]∧H'=H) ⟨none,rfl,rfl⟩ ?_ ?_
      · rintro i σ H' hi ⟨x2,rfl,rfl⟩
        dsimp only [gName]
        rcases (show i=0 by omega) with rfl
        obtain ⟨c,xs,e,hc⟩:=tr_ref k1
        refine ⟨_,rfl,_,rfl,p2,_,_,_,rfl,rfl,SqT.of hp2,atI_nat (j:=1) rfl,_,_,_,false,rfl,by rw [e];exact .tup hc,kit_ti,_,rfl,iteF ?_⟩
        exact ⟨_,rfl,_,rfl,p,_,_,_,rfl,rfl,SqT.of hp,atI_nat (j:=1) rfl,_,rfl,_,rfl,p2,_,_,_,rfl,rfl,SqT.of hp2,atI_nat (j:=1) rfl,ne_trees h1 k1 (by omega) ⟨_,rfl,iteF ⟨_,rfl,rfl⟩⟩⟩
      · rintro σ H' ⟨x2,rfl,rfl⟩
        exact q
end

end K71
namespace K71
open PySem L2 Sw
section
variable {P:Program} {w:World} {K:PySem.W.Frag} {mg:Str→Option Value} {base:Heap} {CU CNR:Addr}
inductive SpLaw (K:PySem.W.Frag) (vs:List V) (H:Hp) (Q:VK):Prop
  | mk (a:Addr) (ns:List Int) (z0:vs = [.ref a]) (z1:SqL K H a (ns.map V.int)) (z2:ns.length≤63) (z3:(∀ c∈ns,Builtin.Int.intBits c≤1048576)) (z4:∀ H',Q (.bl true) H'):SpLaw K vs H Q
noncomputable def spLaw (K:PySem.W.Frag):Sp:=fun vs H Q _=>SpLaw K vs H Q
theorem join_nl (ss:List Str):Txt.join "\n" ss=Str.join "\n" ss:=by
  unfold Txt.join
  rw [StrLaws.glued_eq_join]
inductive LrI (H:Hp) (a R W:Addr) (os:List Od) (x3:Option V→Prop) (n m:Nat) (σ : St) (H':Hp):Prop
  | mk (y:Option V) (ws:List (Option Od)) (hy:x3 y) (e : σ = [some (.ref a),some (.ref R),some (.ref W),y,none]) (sm:Same H H') (hW:H' W=some (.lst ((ws.map rS).map V.str))) (eo:ws.filterMap id=os.take n) (len:ws.length≤m):LrI H a R W os x3 n m σ H'
theorem lr_more {H H' H'':Hp} {a R W:Addr} {os:List Od} {x3:Option V→Prop} {m n':Nat} {y:Option V} {ws:List (Option Od)} {r:Option Od} (hW0:H W=none) (hy:x3 y) (sm:Same H H') (s2:Same H' H'') (eo:(ws ++ [r]).filterMap id=os.take n') (len:ws.length≤m):LrI H a R W os x3 n' (m+1) [some (.ref a),some (.ref R),some (.ref W),y,none] (upd H'' W (.lst ((ws.map rS).map V.str ++ [.str (rS r)]))):=by
  refine LrI.mk y (ws ++ [r]) hy rfl ((sm.trans s2).put hW0) ?_ eo (by rw [List.length_append];exact Nat.succ_le_succ len)
  rw [upd_same,List.map_append,List.map_append]
  rfl
theorem rows_len {ws:List (Option Od)} (g:∀ o,some o∈ws→OdG o):∀ s∈ws.map rS,s.length≤10100:=fun s hs=>by
  obtain ⟨r,hr,rfl⟩:=List.mem_map.mp hs
  cases r with
  | none=>exact Nat.zero_le _
  | some o=>exact odS_len (g o hr)
theorem ok_law (B:Blt mg) (h_trees:Has P w K mg base 4 "_law_trees" ["_law_script", "_law_most"] (spTrees K)) (h_orders:Has P w K mg base 6 "_law_orders" ["_law_script", "_law_trees_here"] (spOrders K)) (h_at:Has P w K mg base 1 "_law_at" ["_law_script", "_law_k"] (spAt K)) (h_row:Has P w K mg base 16 "_law_row" ["_law_order_here"] spRow) (h_read_sheet:Has P w K mg base 70 "read_sheet" ["text"] (spSheet CU)) (h_order_right:Has P w K mg base 2 "_law_order_right" ["_law_found", "_law_due"] (spORight CU)) {f:Addr} {fd:FuncData} (F:Fun K "law" "law" s_law f fd) :
    FnOk P w K mg base CX0 71 f fd ["_law_script"] (spLaw K):=by
  refine F.ok sc_law (fun vs H Q E h => ?_) (fun cdv A outer s H vs Q E hr h => ?_)
  · obtain ⟨a,ns,rfl,_⟩:=h;rfl
  obtain ⟨a,ns,rfl,hS,h63,_,q⟩:=h
  refine ⟨_,(pss_cons (ps_set (i:=1) sc_law.nd rfl (Or.inl rfl) (pe_callH h_orders hr (by omega) rfl (pa_cons (pv 0) (pa_cons (pe_callH h_trees hr (by omega) rfl (pa_cons (pv 0) (pa_cons pe_int pa_nil))) pa_nil))))
    (pss_cons (ps_set (i:=2) sc_law.nd rfl (Or.inl rfl) (pe_lst pa_nil))
    (pss_cons (ps_for PassesOwn.never rfl (pi_range1 rfl B.range_ (pa_cons (pe_callB call_len_seq rfl B.len_ PySem.boot_len (pa_cons (pv 1) pa_nil)) pa_nil)) (pg_name (i:=3) sc_law.nd rfl (Or.inl rfl))
    (pss_cons (ps_if (pt_cmpR op_eq (pe_op op_mod (pe_callH h_at hr (by omega) rfl (pa_cons (pv 0) (pa_cons (pv 3) pa_nil))) pe_int) pe_int (nomark _)) (pss_one (ps_expr (pe_bm PySem.F.plainAttrs_list PySem.F.slot_list_append PySem.F.type_list_append mt_append (pv 2) (pa_cons pe_str pa_nil)))) pss_nil)
    (pss_one (ps_expr (pe_bm PySem.F.plainAttrs_list PySem.F.slot_list_append PySem.F.type_list_append mt_append (pv 2) (pa_cons (pe_callH h_row hr (by omega) rfl (pa_cons (pe_ix ix_list (pv 1) (pv 3) (fun _ _=>rfl)) pa_nil)) pa_nil))))))
    (pss_cons (ps_if (pt_cmpR op_eq (pe_op op_mod (pe_callH h_at hr (by omega) rfl (pa_cons (pv 0) (pa_cons pe_int pa_nil))) pe_int) pe_int (nomark _)) (pss_one (ps_expr (pe_bm PySem.F.plainAttrs_list PySem.F.slot_list_append PySem.F.type_list_append mt_append (pv 2) (pa_cons pe_str pa_nil)))) pss_nil)
    (pss_cons (ps_set (i:=4) sc_law.nd rfl (Or.inl rfl) (pe_callH h_read_sheet hr (by omega) rfl (pa_cons (pe_bm PySem.F.plainAttrs_str PySem.F.slot_str_join PySem.F.type_str_join mt_join pe_str (pa_cons (pv 2) pa_nil)) pa_nil)))
    (pss_cons (ps_if (PW.pt (pw_or (pt_not (pt_val (pe_callB call_isT rfl B.isinstance_ boot_isinstance_ (pa_cons (pv 4) (pa_cons (pe_bltn (v := .ty "list") rfl B.list_ boot_list_ rfl) pa_nil))))) (pw_or1 (pt_cmpR op_ne (pe_callB call_len_seq rfl B.len_ PySem.boot_len (pa_cons (pv 4) pa_nil)) (pe_callB call_len_seq rfl B.len_ PySem.boot_len (pa_cons (pv 1) pa_nil)) (nomark _))))) (pss_one (ps_ret pe_bl)) pss_nil)
    (pss_cons (ps_for PassesOwn.never rfl (pi_range1 rfl B.range_ (pa_cons (pe_callB call_len_seq rfl B.len_ PySem.boot_len (pa_cons (pv 1) pa_nil)) pa_nil)) (pg_name (i:=3) sc_law.nd rfl (Or.inl rfl))
    (pss_one (ps_if (pt_not (pt_val (pe_callH h_order_right hr (by omega) rfl (pa_cons (pe_ix ix_list (pv 4) (pv 3) (fun _ _=>rfl)) (pa_cons (pe_ix ix_list (pv 1) (pv 3) (fun _ _=>rfl)) pa_nil))))) (pss_one (ps_ret pe_bl)) pss_nil)))
    (pss_one (ps_ret pe_bl))))))))),?_⟩
  try dsimp only [cxOf]
  refine ⟨_,rfl,_,rfl,SpTrees.mk a ns rfl hS h63 fun A us ts H1 s1 hA hts gt l63=>SpOrders.mk a A ns us ts rfl (s1.seq hS) h63 hA hts gt l63 fun R rvs os j H2 s2 hR hp go tt j20 len => ?_⟩
  dsimp only [gName]
  have hS2:=(s1.trans s2).seq hS
  clear hts gt l63 hA s1 s2 hS
  have hol:=Paired.length hp
  refine ⟨Nat.zero_le _,fun W hW0 => ?_⟩
  dsimp only [gName]
  have s3:=same_new hW0 (.lst [])
  have hW3:=upd_same (H:=H2) (a:=W) (o := .lst [])
  generalize upd H2 W (.lst [])=H3 at s3 hW3 ⊢
  refine ⟨_,rfl,R,_,rfl,.inl (SqL.of (s3 _ _ hR)),_,rfl,by omega,by omega,?_⟩
  rw [Int.toNat_natCast]
  refine for_range (lo:=0) (fun i=>LrI H2 a R W os (fun _=>True) i (2 * i)) (LrI.mk none [] trivial rfl s3 hW3 rfl (Nat.le_refl _)) ?_ ?_
  · rintro i σ H' hi ⟨y,ws, -,rfl,sm,hW,eo,lw⟩
    dsimp only [gName]
    obtain ⟨o,ho,hv⟩:=paired_at hp (List.getElem?_eq_getElem hi)
    have ei:(0:Int)+(i:Int)=((i:Nat):Int):=by omega
    have at1:atI rvs (0+(i:Int))=some rvs[i]:=by rw [ei];exact atI_nat (List.getElem?_eq_getElem hi)
    generalize rvs[i]=v at hv at1
    refine rd_cut (LrI H2 a R W os (fun y=>y=some (.int (0+(i:Int)))) i (2 * i+1)) ?_ (fun key => ?_)
    rotate_left
    · refine ⟨_,rfl,_,rfl,a,ns,_,rfl,sm.seq hS2,by omega,_,_,rfl,rfl,pos',rfl,_,rfl,iteD (fun _ => ?_) (fun _=>key _ _ (LrI.mk _ ws rfl rfl sm hW eo (by omega)))⟩
      refine ⟨_,rfl,.inl ⟨rfl,_,SqL.of hW⟩,W,_,_,rfl,rfl,hW,small1000 (by rw [List.length_map,List.length_map];omega),key _ _ (lr_more (r:=none) hW0 rfl sm (Same.refl _) ?_ lw)⟩
      rw [List.filterMap_append,eo]
      exact List.append_nil _
    clear hW eo lw ws sm
    rintro σ' H4 ⟨y4,ws,rfl,rfl,sm,hW,eo,lw⟩
    refine ⟨_,rfl,.inl ⟨rfl,_,SqL.of hW⟩,_,rfl,_,rfl,R,_,_,_,rfl,rfl,SqL.of (sm _ _ hR),at1,SpRow.mk R v o rfl (hv.same sm) (go o (List.mem_of_getElem? ho)) fun H5 s5=>⟨W,_,_,rfl,rfl,s5 _ _ hW,small1000 (by rw [List.length_map,List.length_map];omega),?_⟩⟩
    refine lr_more (r:=some o) hW0 trivial sm s5 ?_ (by omega)
    rw [List.filterMap_append,eo,List.take_add_one,ho]
    rfl
  · rintro σ H' ⟨y,ws, -,rfl,sm,hW,eo,lw⟩
    dsimp only [tNext]
    show tSeq _ _ _ _ _
    refine rd_cut (LrI H2 a R W os (fun _=>True) rvs.length (2 * rvs.length+1)) ?_ (fun key => ?_)
    rotate_left
    · refine ⟨_,rfl,a,ns,_,rfl,sm.seq hS2,by decide,_,_,rfl,rfl,pos',rfl,_,rfl,iteD (fun _ => ?_) (fun _=>key _ _ (LrI.mk _ ws trivial rfl sm hW eo (by omega)))⟩
      refine ⟨_,rfl,.inl ⟨rfl,_,SqL.of hW⟩,W,_,_,rfl,rfl,hW,small1000 (by rw [List.length_map,List.length_map];omega),key _ _ (lr_more (r:=none) hW0 trivial sm (Same.refl _) ?_ lw)⟩
      rw [List.filterMap_append,eo]
      exact List.append_nil _
    clear hW eo lw ws sm
    rintro σ' H4 ⟨y4,ws, -,rfl,sm,hW,eo,lw⟩
    rw [hol,List.take_length] at eo
    have gw:∀ o,some o∈ws→OdG o:=fun o ho=>go o (by rw [← eo];exact List.mem_filterMap.mpr ⟨_,ho,rfl⟩)
    have hzl:=rows_len gw
    have hll:=lens_le hzl
    rw [List.length_map] at hll
    have big:(10000000:Nat)≤sizeLine:=by decide
    have jl:(Str.join "\n" (ws.map rS)).length≤5000000:=by
      have:=StrLaws.join_length_le "\n" (ws.map rS)
      rw [List.length_map] at this
      have e:("\n" : Str).length=1:=rfl
      rw [e] at this
      omega
    obtain ⟨rs,e1,e2,e3,e4⟩:∃ rs:List (Option Od),Str.join "\n" (rs.map rS)=Str.join "\n" (ws.map rS)∧rs.filterMap id=ws.filterMap id∧1≤rs.length∧rs.length≤200:=by
      cases ws with
      | nil=>exact ⟨[none],rfl,rfl,Nat.le_refl _,by decide⟩
      | cons r ws=>exact ⟨r :: ws,rfl,rfl,by rw [List.length_cons];omega,by omega⟩
    refine ⟨rfl,_,rfl, "\n",W,ws.map rS,rfl,rfl,SqL.of hW,?_,?_⟩
    · rw [List.length_map]
      have e:("\n" : Str).length=1:=rfl
      rw [e]
      omega
    rw [join_nl, ← e1]
    refine SpSheet.mk rs rfl e3 e4 (by rw [e1];exact jl) (fun o ho=>go o (by rw [← eo, ← e2];exact List.mem_filterMap.mpr ⟨_,ho,rfl⟩)) ?_ fun FR fvs H5 s5 hF hfp => ?_
    · rw [e2,eo,tt]
      refine List.pairwise_map.mpr (List.Pairwise.imp_of_mem (fun {x y} hx hy ne e=>ne ?_) List.nodup_range)
      exact wordX_inj (by have:=List.mem_range.mp hx;omega) (by have:=List.mem_range.mp hy;omega) e
    dsimp only [gName]
    rw [e2,eo] at hfp
    have hfl:=Paired.length hfp
    have g5:=sm.trans s5
    have hR5:=g5 _ _ hR
    have hp5:=ors_same g5 hp
    refine ⟨_,rfl,_,_,_,true,rfl,.lst hF,kit_ll,_,rfl,iteF ?_⟩
    refine ⟨_,rfl,FR,_,rfl,.inl (SqL.of hF),_,rfl,R,_,rfl,.inl (SqL.of hR5),rfl,_,rfl,iteDN (fun z=>absurd (by rw [hfl,hol]) z) (fun _ => ?_)⟩
    refine ⟨_,rfl,R,_,rfl,.inl (SqL.of hR5),_,rfl,by omega,by omega,?_⟩
    rw [Int.toNat_natCast]
    refine for_range (lo:=0) (fun i σ H'=>∃ x3, σ = [some (.ref a),some (.ref R),some (.ref W),x3,some (.ref FR)]∧H'=H5) ⟨_,rfl,rfl⟩ ?_ ?_
    · rintro i σ H' hi ⟨x3,rfl,rfl⟩
      dsimp only [gName]
      have hi1:i < fvs.length:=by omega
      obtain ⟨o,ho,hv⟩:=paired_at hfp (List.getElem?_eq_getElem hi1)
      obtain ⟨o',ho',hu⟩:=paired_at hp5 (List.getElem?_eq_getElem hi)
      rw [ho] at ho'
      cases ho'
      have ei:(0:Int)+(i:Int)=((i:Nat):Int):=by omega
      have at1:atI fvs (0+(i:Int))=some fvs[i]:=by rw [ei];exact atI_nat (List.getElem?_eq_getElem hi1)
      have at2:atI rvs (0+(i:Int))=some rvs[i]:=by rw [ei];exact atI_nat (List.getElem?_eq_getElem hi)
      generalize fvs[i]=v at hv at1
      generalize rvs[i]=u at hu at2
      exact ⟨_,rfl,_,rfl,FR,_,_,_,rfl,rfl,SqL.of hF,at1,_,rfl,_,rfl,R,_,_,_,rfl,rfl,SqL.of hR5,at2,SpORight.mk FR R v u o rfl hv hu (go o (List.mem_of_getElem? ho)) ⟨_,rfl,iteF ⟨_,rfl,rfl⟩⟩⟩
    · rintro σ H' ⟨x3,rfl,rfl⟩
      exact q _
end

end K71
namespace K71
open PySem L2
theorem len_s {n:Nat} {us:List Value} (h:us.length=n+1):∃ v vs,us=v :: vs∧vs.length=n:=by cases us with | nil=>cases h | cons v vs=>exact ⟨v,vs,rfl,Nat.succ.inj h⟩
theorem len1_ {fd:FuncData} {ps:List Str} (h:∀ v0:Value,bindArgs fd ⟨[v0], []⟩=pure (ps.zip [v0])):∀ us:List Value,us.length=1→bindArgs fd ⟨us, []⟩=pure (ps.zip us):=fun us h0=>by obtain ⟨v0,us,rfl,h1⟩:=len_s h0;obtain rfl:=List.eq_nil_of_length_eq_zero h1;exact h v0
open PySem L2 Sw
theorem len2_ {fd:FuncData} {ps:List Str} (h:∀ v0 v1:Value,bindArgs fd ⟨[v0,v1], []⟩=pure (ps.zip [v0,v1])):∀ us:List Value,us.length=2→bindArgs fd ⟨us, []⟩=pure (ps.zip us):=fun us h0=>by obtain ⟨v0,us,rfl,h1⟩:=len_s h0;obtain ⟨v1,us,rfl,h2⟩:=len_s h1;obtain rfl:=List.eq_nil_of_length_eq_zero h2;exact h v0 v1
open PySem L2 Sw
theorem len3_ {fd:FuncData} {ps:List Str} (h:∀ v0 v1 v2:Value,bindArgs fd ⟨[v0,v1,v2], []⟩=pure (ps.zip [v0,v1,v2])):∀ us:List Value,us.length=3→bindArgs fd ⟨us, []⟩=pure (ps.zip us):=fun us h0=>by obtain ⟨v0,us,rfl,h1⟩:=len_s h0;obtain ⟨v1,us,rfl,h2⟩:=len_s h1;obtain ⟨v2,us,rfl,h3⟩:=len_s h2;obtain rfl:=List.eq_nil_of_length_eq_zero h3;exact h v0 v1 v2
open PySem L2 Sw
theorem len4_ {fd:FuncData} {ps:List Str} (h:∀ v0 v1 v2 v3:Value,bindArgs fd ⟨[v0,v1,v2,v3], []⟩=pure (ps.zip [v0,v1,v2,v3])):∀ us:List Value,us.length=4→bindArgs fd ⟨us, []⟩=pure (ps.zip us):=fun us h0=>by obtain ⟨v0,us,rfl,h1⟩:=len_s h0;obtain ⟨v1,us,rfl,h2⟩:=len_s h1;obtain ⟨v2,us,rfl,h3⟩:=len_s h2;obtain ⟨v3,us,rfl,h4⟩:=len_s h3;obtain rfl:=List.eq_nil_of_length_eq_zero h4;exact h v0 v1 v2 v3
open PySem L2 Sw
theorem len6_ {fd:FuncData} {ps:List Str} (h:∀ v0 v1 v2 v3 v4 v5:Value,bindArgs fd ⟨[v0,v1,v2,v3,v4,v5], []⟩=pure (ps.zip [v0,v1,v2,v3,v4,v5])):∀ us:List Value,us.length=6→bindArgs fd ⟨us, []⟩=pure (ps.zip us):=fun us h0=>by obtain ⟨v0,us,rfl,h1⟩:=len_s h0;obtain ⟨v1,us,rfl,h2⟩:=len_s h1;obtain ⟨v2,us,rfl,h3⟩:=len_s h2;obtain ⟨v3,us,rfl,h4⟩:=len_s h3;obtain ⟨v4,us,rfl,h5⟩:=len_s h4;obtain ⟨v5,us,rfl,h6⟩:=len_s h5;obtain rfl:=List.eq_nil_of_length_eq_zero h6;exact h v0 v1 v2 v3 v4 v5
open PySem L2 Sw
theorem all_mk {l:PySem.W.OpenLaw} {w:World} {K:PySem.W.Frag} {h:Heap} {mg:Str→Option Value} {fa CU CR f0 f1 f2 f3 f4 f5 f6 f7 f8 f9 f10 f11 f12 f13 f14 f15 f16 f17 f18 f19 f20 f21 f22 f23 f24 f25 f26 f27 f28 f29 f30 f31 f32 f33 f34 f35 f36 f37 f38 f39 f40 f41 f42 f43 f44 f45 f46 f47 f48 f49 c_NoTree c_NoRule t_PAIR_WORDS t_TREE_WORDS:Addr} (X:K.In h) (G:h.Ns mainGlobals mg) (hfa:mg "law" = some (.ref fa))
    {od0 an0 od1 an1 od2 an2 od3 an3 od4 an4 od5 an5 od6 an6 od7 an7 od8 an8 od9 an9 od10 an10 od11 an11 od12 an12 od13 an13 od14 an14 od15 an15 od16 an16 od17 an17 od18 an18 od19 an19 od20 an20 od21 an21 od22 an22 od23 an23 od24 an24 od25 an25 od26 an26 od27 an27 od28 an28 od29 an29 od30 an30 od31 an31 od32 an32 od33 an33 od34 an34 od35 an35 od36 an36 od37 an37 od38 an38 od39 an39 od40 an40 od41 an41 od42 an42 od43 an43 od44 an44 od45 an45 od46 an46 od47 an47 od48 an48 od49 an49:Option Addr} {sl0 sl1 sl2 sl3 sl4 sl5 sl6 sl7 sl8 sl9 sl10 sl11 sl12 sl13 sl14 sl15 sl16 sl17 sl18 sl19 sl20 sl21 sl22 sl23 sl24 sl25 sl26 sl27 sl28 sl29 sl30 sl31 sl32 sl33 sl34 sl35 sl36 sl37 sl38 sl39 sl40 sl41 sl42 sl43 sl44 sl45 sl46 sl47 sl48 sl49:Array (Option Value)} {oc0 kV0 dc0 pm0 cd0 ct0 oc1 kV1 dc1 pm1 cd1 ct1 oc2 kV2 dc2 pm2 cd2 ct2 oc3 kV3 dc3 pm3 cd3 ct3 oc4 kV4 dc4 pm4 cd4 ct4 oc5 kV5 dc5 pm5 cd5 ct5 oc6 kV6 dc6 pm6 cd6 ct6 oc7 kV7 dc7 pm7 cd7 ct7 oc8 kV8 dc8 pm8 cd8 ct8 oc9 kV9 dc9 pm9 cd9 ct9 oc10 kV10 dc10 pm10 cd10 ct10 oc11 kV11 dc11 pm11 cd11 ct11 oc12 kV12 dc12 pm12 cd12 ct12 oc13 kV13 dc13 pm13 cd13 ct13 oc14 kV14 dc14 pm14 cd14 ct14 oc15 kV15 dc15 pm15 cd15 ct15 oc16 kV16 dc16 pm16 cd16 ct16 oc17 kV17 dc17 pm17 cd17 ct17 oc18 kV18 dc18 pm18 cd18 ct18 oc19 kV19 dc19 pm19 cd19 ct19 oc20 kV20 dc20 pm20 cd20 ct20 oc21 kV21 dc21 pm21 cd21 ct21 oc22 kV22 dc22 pm22 cd22 ct22 oc23 kV23 dc23 pm23 cd23 ct23 oc24 kV24 dc24 pm24 cd24 ct24 oc25 kV25 dc25 pm25 cd25 ct25 oc26 kV26 dc26 pm26 cd26 ct26 oc27 kV27 dc27 pm27 cd27 ct27 oc28 kV28 dc28 pm28 cd28 ct28 oc29 kV29 dc29 pm29 cd29 ct29 oc30 kV30 dc30 pm30 cd30 ct30 oc31 kV31 dc31 pm31 cd31 ct31 oc32 kV32 dc32 pm32 cd32 ct32 oc33 kV33 dc33 pm33 cd33 ct33 oc34 kV34 dc34 pm34 cd34 ct34 oc35 kV35 dc35 pm35 cd35 ct35 oc36 kV36 dc36 pm36 cd36 ct36 oc37 kV37 dc37 pm37 cd37 ct37 oc38 kV38 dc38 pm38 cd38 ct38 oc39 kV39 dc39 pm39 cd39 ct39 oc40 kV40 dc40 pm40 cd40 ct40 oc41 kV41 dc41 pm41 cd41 ct41 oc42 kV42 dc42 pm42 cd42 ct42 oc43 kV43 dc43 pm43 cd43 ct43 oc44 kV44 dc44 pm44 cd44 ct44 oc45 kV45 dc45 pm45 cd45 ct45 oc46 kV46 dc46 pm46 cd46 ct46 oc47 kV47 dc47 pm47 cd47 ct47 oc48 kV48 dc48 pm48 cd48 ct48 oc49 kV49 dc49 pm49 cd49 ct49:Value}
    {u_MOST_WEIGHT u_MOST_RULE_PARTS u_MOST_LEFT_KNOTS u_MOST_ASKS u_MOST_MASK u_MOST_LETTERS u_MOST_FIGURES u_MOST_ARMS u_MOST_PARTS u_MOST_DEEP u_MOST_COST u_MOST_ROUNDS u_MOST_SIZE u_LETTERS u_FIGURES u_MASK_SIGNS u_PAIR_WORDS_0 u_PAIR_WORDS_1 u_PAIR_WORDS_2 u_TREE_WORDS_0 u_TREE_WORDS_1 u_TREE_WORDS_2 u_TREE_WORDS_3 u_TREE_WORDS_4 u_TREE_WORDS_5:Tok}
    {td_PAIR_WORDS td_TREE_WORDS:Option Addr} {tn_PAIR_WORDS tn_TREE_WORDS:Nat} {ts_PAIR_WORDS ts_TREE_WORDS:Array (Option Value)}
    (aC_Rule:PySem.W.nsIn K mainGlobals "Rule" = some (some (.ref CU)))
    (aC_Reader:PySem.W.nsIn K mainGlobals "Reader" = some (some (.ref CR)))
    (a0:PySem.W.nsIn K mainGlobals "parts" = some (some (.ref f0)))
    (l0:K.lookup f0=some ⟨oc0,od0,.func (PySem.W.fnOf "parts" "parts" (defArgs s_parts) (defBody s_parts) (defScope s_parts) .none kV0 dc0 pm0 an0 cd0 ct0),sl0⟩)
    (c0:PySem.W.codeIn K cd0 "parts" = true)
    (k0:PySem.W.keepIn K (.ref f0)=true)
    (a1:PySem.W.nsIn K mainGlobals "knots" = some (some (.ref f1)))
    (l1:K.lookup f1=some ⟨oc1,od1,.func (PySem.W.fnOf "knots" "knots" (defArgs s_knots) (defBody s_knots) (defScope s_knots) .none kV1 dc1 pm1 an1 cd1 ct1),sl1⟩)
    (c1:PySem.W.codeIn K cd1 "knots" = true)
    (k1:PySem.W.keepIn K (.ref f1)=true)
    (a2:PySem.W.nsIn K mainGlobals "note_holes" = some (some (.ref f2)))
    (l2:K.lookup f2=some ⟨oc2,od2,.func (PySem.W.fnOf "note_holes" "note_holes" (defArgs s_note_holes) (defBody s_note_holes) (defScope s_note_holes) .none kV2 dc2 pm2 an2 cd2 ct2),sl2⟩)
    (c2:PySem.W.codeIn K cd2 "note_holes" = true)
    (k2:PySem.W.keepIn K (.ref f2)=true)
    (a3:PySem.W.nsIn K mainGlobals "holes" = some (some (.ref f3)))
    (l3:K.lookup f3=some ⟨oc3,od3,.func (PySem.W.fnOf "holes" "holes" (defArgs s_holes) (defBody s_holes) (defScope s_holes) .none kV3 dc3 pm3 an3 cd3 ct3),sl3⟩)
    (c3:PySem.W.codeIn K cd3 "holes" = true)
    (k3:PySem.W.keepIn K (.ref f3)=true)
    (a4:PySem.W.nsIn K mainGlobals "is_word" = some (some (.ref f4)))
    (l4:K.lookup f4=some ⟨oc4,od4,.func (PySem.W.fnOf "is_word" "is_word" (defArgs s_is_word) (defBody s_is_word) (defScope s_is_word) .none kV4 dc4 pm4 an4 cd4 ct4),sl4⟩)
    (c4:PySem.W.codeIn K cd4 "is_word" = true)
    (k4:PySem.W.keepIn K (.ref f4)=true)
    (a5:PySem.W.nsIn K mainGlobals "read_count" = some (some (.ref f5)))
    (l5:K.lookup f5=some ⟨oc5,od5,.func (PySem.W.fnOf "read_count" "read_count" (defArgs s_read_count) (defBody s_read_count) (defScope s_read_count) .none kV5 dc5 pm5 an5 cd5 ct5),sl5⟩)
    (c5:PySem.W.codeIn K cd5 "read_count" = true)
    (k5:PySem.W.keepIn K (.ref f5)=true)
    (ai_Reader:PySem.W.findIn K (.ref CR) "__init__" = some (some (.ref f6)))
    (l6:K.lookup f6=some ⟨oc6,od6,.func (PySem.W.fnOf "__init__" "Reader.__init__" (defArgs s_init) (defBody s_init) (defScope s_init) .none kV6 dc6 pm6 an6 cd6 ct6),sl6⟩)
    (c6:PySem.W.codeIn K cd6 "Reader.__init__" = true)
    (k6:PySem.W.keepIn K (.ref f6)=true)
    (n6:PySem.W.isFn K (.ref f6)=true)
    (a7:PySem.W.findIn K (.ref CR) "ahead" = some (some (.ref f7)))
    (l7:K.lookup f7=some ⟨oc7,od7,.func (PySem.W.fnOf "ahead" "Reader.ahead" (defArgs s_ahead) (defBody s_ahead) (defScope s_ahead) .none kV7 dc7 pm7 an7 cd7 ct7),sl7⟩)
    (c7:PySem.W.codeIn K cd7 "Reader.ahead" = true)
    (k7:PySem.W.keepIn K (.ref f7)=true)
    (n7:PySem.W.isFn K (.ref f7)=true)
    (a8:PySem.W.findIn K (.ref CR) "take" = some (some (.ref f8)))
    (l8:K.lookup f8=some ⟨oc8,od8,.func (PySem.W.fnOf "take" "Reader.take" (defArgs s_take) (defBody s_take) (defScope s_take) .none kV8 dc8 pm8 an8 cd8 ct8),sl8⟩)
    (c8:PySem.W.codeIn K cd8 "Reader.take" = true)
    (k8:PySem.W.keepIn K (.ref f8)=true)
    (n8:PySem.W.isFn K (.ref f8)=true)
    (a9:PySem.W.findIn K (.ref CR) "take_run" = some (some (.ref f9)))
    (l9:K.lookup f9=some ⟨oc9,od9,.func (PySem.W.fnOf "take_run" "Reader.take_run" (defArgs s_take_run) (defBody s_take_run) (defScope s_take_run) .none kV9 dc9 pm9 an9 cd9 ct9),sl9⟩)
    (c9:PySem.W.codeIn K cd9 "Reader.take_run" = true)
    (k9:PySem.W.keepIn K (.ref f9)=true)
    (n9:PySem.W.isFn K (.ref f9)=true)
    (a10:PySem.W.findIn K (.ref CR) "take_word" = some (some (.ref f10)))
    (l10:K.lookup f10=some ⟨oc10,od10,.func (PySem.W.fnOf "take_word" "Reader.take_word" (defArgs s_take_word) (defBody s_take_word) (defScope s_take_word) .none kV10 dc10 pm10 an10 cd10 ct10),sl10⟩)
    (c10:PySem.W.codeIn K cd10 "Reader.take_word" = true)
    (k10:PySem.W.keepIn K (.ref f10)=true)
    (n10:PySem.W.isFn K (.ref f10)=true)
    (a11:PySem.W.findIn K (.ref CR) "take_number" = some (some (.ref f11)))
    (l11:K.lookup f11=some ⟨oc11,od11,.func (PySem.W.fnOf "take_number" "Reader.take_number" (defArgs s_take_number) (defBody s_take_number) (defScope s_take_number) .none kV11 dc11 pm11 an11 cd11 ct11),sl11⟩)
    (c11:PySem.W.codeIn K cd11 "Reader.take_number" = true)
    (k11:PySem.W.keepIn K (.ref f11)=true)
    (n11:PySem.W.isFn K (.ref f11)=true)
    (a12:PySem.W.findIn K (.ref CR) "take_arms" = some (some (.ref f12)))
    (l12:K.lookup f12=some ⟨oc12,od12,.func (PySem.W.fnOf "take_arms" "Reader.take_arms" (defArgs s_take_arms) (defBody s_take_arms) (defScope s_take_arms) .none kV12 dc12 pm12 an12 cd12 ct12),sl12⟩)
    (c12:PySem.W.codeIn K cd12 "Reader.take_arms" = true)
    (k12:PySem.W.keepIn K (.ref f12)=true)
    (n12:PySem.W.isFn K (.ref f12)=true)
    (a13:PySem.W.findIn K (.ref CR) "take_tree" = some (some (.ref f13)))
    (l13:K.lookup f13=some ⟨oc13,od13,.func (PySem.W.fnOf "take_tree" "Reader.take_tree" (defArgs s_take_tree) (defBody s_take_tree) (defScope s_take_tree) .none kV13 dc13 pm13 an13 cd13 ct13),sl13⟩)
    (c13:PySem.W.codeIn K cd13 "Reader.take_tree" = true)
    (k13:PySem.W.keepIn K (.ref f13)=true)
    (n13:PySem.W.isFn K (.ref f13)=true)
    (a14:PySem.W.nsIn K mainGlobals "read_whole" = some (some (.ref f14)))
    (l14:K.lookup f14=some ⟨oc14,od14,.func (PySem.W.fnOf "read_whole" "read_whole" (defArgs s_read_whole) (defBody s_read_whole) (defScope s_read_whole) .none kV14 dc14 pm14 an14 cd14 ct14),sl14⟩)
    (c14:PySem.W.codeIn K cd14 "read_whole" = true)
    (k14:PySem.W.keepIn K (.ref f14)=true)
    (a15:PySem.W.nsIn K mainGlobals "read" = some (some (.ref f15)))
    (l15:K.lookup f15=some ⟨oc15,od15,.func (PySem.W.fnOf "read" "read" (defArgs s_read) (defBody s_read) (defScope s_read) .none kV15 dc15 pm15 an15 cd15 ct15),sl15⟩)
    (c15:PySem.W.codeIn K cd15 "read" = true)
    (k15:PySem.W.keepIn K (.ref f15)=true)
    (a16:PySem.W.nsIn K mainGlobals "read_pattern" = some (some (.ref f16)))
    (l16:K.lookup f16=some ⟨oc16,od16,.func (PySem.W.fnOf "read_pattern" "read_pattern" (defArgs s_read_pattern) (defBody s_read_pattern) (defScope s_read_pattern) .none kV16 dc16 pm16 an16 cd16 ct16),sl16⟩)
    (c16:PySem.W.codeIn K cd16 "read_pattern" = true)
    (k16:PySem.W.keepIn K (.ref f16)=true)
    (a17:PySem.W.nsIn K mainGlobals "refuse_patterns" = some (some (.ref f17)))
    (l17:K.lookup f17=some ⟨oc17,od17,.func (PySem.W.fnOf "refuse_patterns" "refuse_patterns" (defArgs s_refuse_patterns) (defBody s_refuse_patterns) (defScope s_refuse_patterns) .none kV17 dc17 pm17 an17 cd17 ct17),sl17⟩)
    (c17:PySem.W.codeIn K cd17 "refuse_patterns" = true)
    (k17:PySem.W.keepIn K (.ref f17)=true)
    (a18:PySem.W.nsIn K mainGlobals "refuse_asks" = some (some (.ref f18)))
    (l18:K.lookup f18=some ⟨oc18,od18,.func (PySem.W.fnOf "refuse_asks" "refuse_asks" (defArgs s_refuse_asks) (defBody s_refuse_asks) (defScope s_refuse_asks) .none kV18 dc18 pm18 an18 cd18 ct18),sl18⟩)
    (c18:PySem.W.codeIn K cd18 "refuse_asks" = true)
    (k18:PySem.W.keepIn K (.ref f18)=true)
    (ai_Rule:PySem.W.findIn K (.ref CU) "__init__" = some (some (.ref f19)))
    (l19:K.lookup f19=some ⟨oc19,od19,.func (PySem.W.fnOf "__init__" "Rule.__init__" (defArgs s_rinit) (defBody s_rinit) (defScope s_rinit) .none kV19 dc19 pm19 an19 cd19 ct19),sl19⟩)
    (c19:PySem.W.codeIn K cd19 "Rule.__init__" = true)
    (k19:PySem.W.keepIn K (.ref f19)=true)
    (n19:PySem.W.isFn K (.ref f19)=true)
    (a20:PySem.W.nsIn K mainGlobals "show_mask" = some (some (.ref f20)))
    (l20:K.lookup f20=some ⟨oc20,od20,.func (PySem.W.fnOf "show_mask" "show_mask" (defArgs s_show_mask) (defBody s_show_mask) (defScope s_show_mask) .none kV20 dc20 pm20 an20 cd20 ct20),sl20⟩)
    (c20:PySem.W.codeIn K cd20 "show_mask" = true)
    (k20:PySem.W.keepIn K (.ref f20)=true)
    (a21:PySem.W.nsIn K mainGlobals "split_at" = some (some (.ref f21)))
    (l21:K.lookup f21=some ⟨oc21,od21,.func (PySem.W.fnOf "split_at" "split_at" (defArgs s_split_at) (defBody s_split_at) (defScope s_split_at) .none kV21 dc21 pm21 an21 cd21 ct21),sl21⟩)
    (c21:PySem.W.codeIn K cd21 "split_at" = true)
    (k21:PySem.W.keepIn K (.ref f21)=true)
    (a22:PySem.W.nsIn K mainGlobals "read_side" = some (some (.ref f22)))
    (l22:K.lookup f22=some ⟨oc22,od22,.func (PySem.W.fnOf "read_side" "read_side" (defArgs s_read_side) (defBody s_read_side) (defScope s_read_side) .none kV22 dc22 pm22 an22 cd22 ct22),sl22⟩)
    (c22:PySem.W.codeIn K cd22 "read_side" = true)
    (k22:PySem.W.keepIn K (.ref f22)=true)
    (a23:PySem.W.nsIn K mainGlobals "read_mask" = some (some (.ref f23)))
    (l23:K.lookup f23=some ⟨oc23,od23,.func (PySem.W.fnOf "read_mask" "read_mask" (defArgs s_read_mask) (defBody s_read_mask) (defScope s_read_mask) .none kV23 dc23 pm23 an23 cd23 ct23),sl23⟩)
    (c23:PySem.W.codeIn K cd23 "read_mask" = true)
    (k23:PySem.W.keepIn K (.ref f23)=true)
    (a24:PySem.W.nsIn K mainGlobals "read_ask" = some (some (.ref f24)))
    (l24:K.lookup f24=some ⟨oc24,od24,.func (PySem.W.fnOf "read_ask" "read_ask" (defArgs s_read_ask) (defBody s_read_ask) (defScope s_read_ask) .none kV24 dc24 pm24 an24 cd24 ct24),sl24⟩)
    (c24:PySem.W.codeIn K cd24 "read_ask" = true)
    (k24:PySem.W.keepIn K (.ref f24)=true)
    (a25:PySem.W.nsIn K mainGlobals "read_rule" = some (some (.ref f25)))
    (l25:K.lookup f25=some ⟨oc25,od25,.func (PySem.W.fnOf "read_rule" "read_rule" (defArgs s_read_rule) (defBody s_read_rule) (defScope s_read_rule) .none kV25 dc25 pm25 an25 cd25 ct25),sl25⟩)
    (c25:PySem.W.codeIn K cd25 "read_rule" = true)
    (k25:PySem.W.keepIn K (.ref f25)=true)
    (a26:PySem.W.nsIn K mainGlobals "count_within" = some (some (.ref f26)))
    (l26:K.lookup f26=some ⟨oc26,od26,.func (PySem.W.fnOf "count_within" "count_within" (defArgs s_count_within) (defBody s_count_within) (defScope s_count_within) .none kV26 dc26 pm26 an26 cd26 ct26),sl26⟩)
    (c26:PySem.W.codeIn K cd26 "count_within" = true)
    (k26:PySem.W.keepIn K (.ref f26)=true)
    (a27:PySem.W.nsIn K mainGlobals "read_cost" = some (some (.ref f27)))
    (l27:K.lookup f27=some ⟨oc27,od27,.func (PySem.W.fnOf "read_cost" "read_cost" (defArgs s_read_cost) (defBody s_read_cost) (defScope s_read_cost) .none kV27 dc27 pm27 an27 cd27 ct27),sl27⟩)
    (c27:PySem.W.codeIn K cd27 "read_cost" = true)
    (k27:PySem.W.keepIn K (.ref f27)=true)
    (a28:PySem.W.nsIn K mainGlobals "read_grow" = some (some (.ref f28)))
    (l28:K.lookup f28=some ⟨oc28,od28,.func (PySem.W.fnOf "read_grow" "read_grow" (defArgs s_read_grow) (defBody s_read_grow) (defScope s_read_grow) .none kV28 dc28 pm28 an28 cd28 ct28),sl28⟩)
    (c28:PySem.W.codeIn K cd28 "read_grow" = true)
    (k28:PySem.W.keepIn K (.ref f28)=true)
    (a29:PySem.W.nsIn K mainGlobals "read_order" = some (some (.ref f29)))
    (l29:K.lookup f29=some ⟨oc29,od29,.func (PySem.W.fnOf "read_order" "read_order" (defArgs s_read_order) (defBody s_read_order) (defScope s_read_order) .none kV29 dc29 pm29 an29 cd29 ct29),sl29⟩)
    (c29:PySem.W.codeIn K cd29 "read_order" = true)
    (k29:PySem.W.keepIn K (.ref f29)=true)
    (a30:PySem.W.nsIn K mainGlobals "read_row" = some (some (.ref f30)))
    (l30:K.lookup f30=some ⟨oc30,od30,.func (PySem.W.fnOf "read_row" "read_row" (defArgs s_read_row) (defBody s_read_row) (defScope s_read_row) .none kV30 dc30 pm30 an30 cd30 ct30),sl30⟩)
    (c30:PySem.W.codeIn K cd30 "read_row" = true)
    (k30:PySem.W.keepIn K (.ref f30)=true)
    (a31:PySem.W.nsIn K mainGlobals "read_sheet" = some (some (.ref f31)))
    (l31:K.lookup f31=some ⟨oc31,od31,.func (PySem.W.fnOf "read_sheet" "read_sheet" (defArgs s_read_sheet) (defBody s_read_sheet) (defScope s_read_sheet) .none kV31 dc31 pm31 an31 cd31 ct31),sl31⟩)
    (c31:PySem.W.codeIn K cd31 "read_sheet" = true)
    (k31:PySem.W.keepIn K (.ref f31)=true)
    (a32:PySem.W.nsIn K mainGlobals "_law_at" = some (some (.ref f32)))
    (l32:K.lookup f32=some ⟨oc32,od32,.func (PySem.W.fnOf "_law_at" "_law_at" (defArgs s_at) (defBody s_at) (defScope s_at) .none kV32 dc32 pm32 an32 cd32 ct32),sl32⟩)
    (c32:PySem.W.codeIn K cd32 "_law_at" = true)
    (k32:PySem.W.keepIn K (.ref f32)=true)
    (a33:PySem.W.nsIn K mainGlobals "_law_draw" = some (some (.ref f33)))
    (l33:K.lookup f33=some ⟨oc33,od33,.func (PySem.W.fnOf "_law_draw" "_law_draw" (defArgs s_draw) (defBody s_draw) (defScope s_draw) .none kV33 dc33 pm33 an33 cd33 ct33),sl33⟩)
    (c33:PySem.W.codeIn K cd33 "_law_draw" = true)
    (k33:PySem.W.keepIn K (.ref f33)=true)
    (a34:PySem.W.nsIn K mainGlobals "_law_word" = some (some (.ref f34)))
    (l34:K.lookup f34=some ⟨oc34,od34,.func (PySem.W.fnOf "_law_word" "_law_word" (defArgs s_word) (defBody s_word) (defScope s_word) .none kV34 dc34 pm34 an34 cd34 ct34),sl34⟩)
    (c34:PySem.W.codeIn K cd34 "_law_word" = true)
    (k34:PySem.W.keepIn K (.ref f34)=true)
    (a35:PySem.W.nsIn K mainGlobals "_law_leaf" = some (some (.ref f35)))
    (l35:K.lookup f35=some ⟨oc35,od35,.func (PySem.W.fnOf "_law_leaf" "_law_leaf" (defArgs s_leaf) (defBody s_leaf) (defScope s_leaf) .none kV35 dc35 pm35 an35 cd35 ct35),sl35⟩)
    (c35:PySem.W.codeIn K cd35 "_law_leaf" = true)
    (k35:PySem.W.keepIn K (.ref f35)=true)
    (a36:PySem.W.nsIn K mainGlobals "_law_knot" = some (some (.ref f36)))
    (l36:K.lookup f36=some ⟨oc36,od36,.func (PySem.W.fnOf "_law_knot" "_law_knot" (defArgs s_knot) (defBody s_knot) (defScope s_knot) .none kV36 dc36 pm36 an36 cd36 ct36),sl36⟩)
    (c36:PySem.W.codeIn K cd36 "_law_knot" = true)
    (k36:PySem.W.keepIn K (.ref f36)=true)
    (a37:PySem.W.nsIn K mainGlobals "_law_trees" = some (some (.ref f37)))
    (l37:K.lookup f37=some ⟨oc37,od37,.func (PySem.W.fnOf "_law_trees" "_law_trees" (defArgs s_trees) (defBody s_trees) (defScope s_trees) .none kV37 dc37 pm37 an37 cd37 ct37),sl37⟩)
    (c37:PySem.W.codeIn K cd37 "_law_trees" = true)
    (k37:PySem.W.keepIn K (.ref f37)=true)
    (a38:PySem.W.nsIn K mainGlobals "_law_shown" = some (some (.ref f38)))
    (l38:K.lookup f38=some ⟨oc38,od38,.func (PySem.W.fnOf "_law_shown" "_law_shown" (defArgs s_shown) (defBody s_shown) (defScope s_shown) .none kV38 dc38 pm38 an38 cd38 ct38),sl38⟩)
    (c38:PySem.W.codeIn K cd38 "_law_shown" = true)
    (k38:PySem.W.keepIn K (.ref f38)=true)
    (a39:PySem.W.nsIn K mainGlobals "_law_sides" = some (some (.ref f39)))
    (l39:K.lookup f39=some ⟨oc39,od39,.func (PySem.W.fnOf "_law_sides" "_law_sides" (defArgs s_sides) (defBody s_sides) (defScope s_sides) .none kV39 dc39 pm39 an39 cd39 ct39),sl39⟩)
    (c39:PySem.W.codeIn K cd39 "_law_sides" = true)
    (k39:PySem.W.keepIn K (.ref f39)=true)
    (a40:PySem.W.nsIn K mainGlobals "_law_asks" = some (some (.ref f40)))
    (l40:K.lookup f40=some ⟨oc40,od40,.func (PySem.W.fnOf "_law_asks" "_law_asks" (defArgs s_asks) (defBody s_asks) (defScope s_asks) .none kV40 dc40 pm40 an40 cd40 ct40),sl40⟩)
    (c40:PySem.W.codeIn K cd40 "_law_asks" = true)
    (k40:PySem.W.keepIn K (.ref f40)=true)
    (a41:PySem.W.nsIn K mainGlobals "_law_rule" = some (some (.ref f41)))
    (l41:K.lookup f41=some ⟨oc41,od41,.func (PySem.W.fnOf "_law_rule" "_law_rule" (defArgs s_rule) (defBody s_rule) (defScope s_rule) .none kV41 dc41 pm41 an41 cd41 ct41),sl41⟩)
    (c41:PySem.W.codeIn K cd41 "_law_rule" = true)
    (k41:PySem.W.keepIn K (.ref f41)=true)
    (a42:PySem.W.nsIn K mainGlobals "_law_ask_text" = some (some (.ref f42)))
    (l42:K.lookup f42=some ⟨oc42,od42,.func (PySem.W.fnOf "_law_ask_text" "_law_ask_text" (defArgs s_ask_text) (defBody s_ask_text) (defScope s_ask_text) .none kV42 dc42 pm42 an42 cd42 ct42),sl42⟩)
    (c42:PySem.W.codeIn K cd42 "_law_ask_text" = true)
    (k42:PySem.W.keepIn K (.ref f42)=true)
    (a43:PySem.W.nsIn K mainGlobals "_law_rule_text" = some (some (.ref f43)))
    (l43:K.lookup f43=some ⟨oc43,od43,.func (PySem.W.fnOf "_law_rule_text" "_law_rule_text" (defArgs s_rule_text) (defBody s_rule_text) (defScope s_rule_text) .none kV43 dc43 pm43 an43 cd43 ct43),sl43⟩)
    (c43:PySem.W.codeIn K cd43 "_law_rule_text" = true)
    (k43:PySem.W.keepIn K (.ref f43)=true)
    (a44:PySem.W.nsIn K mainGlobals "_law_order" = some (some (.ref f44)))
    (l44:K.lookup f44=some ⟨oc44,od44,.func (PySem.W.fnOf "_law_order" "_law_order" (defArgs s_order) (defBody s_order) (defScope s_order) .none kV44 dc44 pm44 an44 cd44 ct44),sl44⟩)
    (c44:PySem.W.codeIn K cd44 "_law_order" = true)
    (k44:PySem.W.keepIn K (.ref f44)=true)
    (a45:PySem.W.nsIn K mainGlobals "_law_row" = some (some (.ref f45)))
    (l45:K.lookup f45=some ⟨oc45,od45,.func (PySem.W.fnOf "_law_row" "_law_row" (defArgs s_row) (defBody s_row) (defScope s_row) .none kV45 dc45 pm45 an45 cd45 ct45),sl45⟩)
    (c45:PySem.W.codeIn K cd45 "_law_row" = true)
    (k45:PySem.W.keepIn K (.ref f45)=true)
    (a46:PySem.W.nsIn K mainGlobals "_law_orders" = some (some (.ref f46)))
    (l46:K.lookup f46=some ⟨oc46,od46,.func (PySem.W.fnOf "_law_orders" "_law_orders" (defArgs s_orders) (defBody s_orders) (defScope s_orders) .none kV46 dc46 pm46 an46 cd46 ct46),sl46⟩)
    (c46:PySem.W.codeIn K cd46 "_law_orders" = true)
    (k46:PySem.W.keepIn K (.ref f46)=true)
    (a47:PySem.W.nsIn K mainGlobals "_law_rule_right" = some (some (.ref f47)))
    (l47:K.lookup f47=some ⟨oc47,od47,.func (PySem.W.fnOf "_law_rule_right" "_law_rule_right" (defArgs s_rule_right) (defBody s_rule_right) (defScope s_rule_right) .none kV47 dc47 pm47 an47 cd47 ct47),sl47⟩)
    (c47:PySem.W.codeIn K cd47 "_law_rule_right" = true)
    (k47:PySem.W.keepIn K (.ref f47)=true)
    (a48:PySem.W.nsIn K mainGlobals "_law_order_right" = some (some (.ref f48)))
    (l48:K.lookup f48=some ⟨oc48,od48,.func (PySem.W.fnOf "_law_order_right" "_law_order_right" (defArgs s_order_right) (defBody s_order_right) (defScope s_order_right) .none kV48 dc48 pm48 an48 cd48 ct48),sl48⟩)
    (c48:PySem.W.codeIn K cd48 "_law_order_right" = true)
    (k48:PySem.W.keepIn K (.ref f48)=true)
    (a49:PySem.W.nsIn K mainGlobals "law" = some (some (.ref f49)))
    (l49:K.lookup f49=some ⟨oc49,od49,.func (PySem.W.fnOf "law" "law" (defArgs s_law) (defBody s_law) (defScope s_law) .none kV49 dc49 pm49 an49 cd49 ct49),sl49⟩)
    (c49:PySem.W.codeIn K cd49 "law" = true)
    (k49:PySem.W.keepIn K (.ref f49)=true)
    (rMk_Rule:PySem.W.makesIn K CU=true)
    (rKp_Rule:PySem.W.keepIn K (.ref CU)=true)
    (rPg_Rule:PySem.W.plainGet K CU Str.empty=true)
    (rHd_Rule:PySem.W.hasDictIn K CU=true)
    (rPo_Rule:PySem.W.plainOver K CU=true)
    (rSa_Rule:PySem.W.findIn K (.ref CU) "__setattr__" = some (some (.builtin "object.__setattr__")))
    (nA_Rule_title:PySem.W.findIn K (.ref CU) "title" = some none)
    (nA_Rule_weight:PySem.W.findIn K (.ref CU) "weight" = some none)
    (nA_Rule_left:PySem.W.findIn K (.ref CU) "left" = some none)
    (nA_Rule_right:PySem.W.findIn K (.ref CU) "right" = some none)
    (nA_Rule_asks:PySem.W.findIn K (.ref CU) "asks" = some none)
    (rMk_Reader:PySem.W.makesIn K CR=true)
    (rKp_Reader:PySem.W.keepIn K (.ref CR)=true)
    (rPg_Reader:PySem.W.plainGet K CR Str.empty=true)
    (rHd_Reader:PySem.W.hasDictIn K CR=true)
    (rPo_Reader:PySem.W.plainOver K CR=true)
    (rSa_Reader:PySem.W.findIn K (.ref CR) "__setattr__" = some (some (.builtin "object.__setattr__")))
    (nA_Reader_text:PySem.W.findIn K (.ref CR) "text" = some none)
    (nA_Reader_with_holes:PySem.W.findIn K (.ref CR) "with_holes" = some none)
    (nA_Reader_place:PySem.W.findIn K (.ref CR) "place" = some none)
    (gs_LETTERS:PySem.W.nsIn K mainGlobals "LETTERS" = some (some (.str "abcdefghijklmnopqrstuvwxyz" u_LETTERS)))
    (gs_FIGURES:PySem.W.nsIn K mainGlobals "FIGURES" = some (some (.str "0123456789" u_FIGURES)))
    (gs_MASK_SIGNS:PySem.W.nsIn K mainGlobals "MASK_SIGNS" = some (some (.str "-0+" u_MASK_SIGNS)))
    (gi_MOST_WEIGHT:PySem.W.nsIn K mainGlobals "MOST_WEIGHT" = some (some (.int 1000000000000 u_MOST_WEIGHT)))
    (gi_MOST_RULE_PARTS:PySem.W.nsIn K mainGlobals "MOST_RULE_PARTS" = some (some (.int 12 u_MOST_RULE_PARTS)))
    (gi_MOST_LEFT_KNOTS:PySem.W.nsIn K mainGlobals "MOST_LEFT_KNOTS" = some (some (.int 3 u_MOST_LEFT_KNOTS)))
    (gi_MOST_ASKS:PySem.W.nsIn K mainGlobals "MOST_ASKS" = some (some (.int 4 u_MOST_ASKS)))
    (gi_MOST_MASK:PySem.W.nsIn K mainGlobals "MOST_MASK" = some (some (.int 7 u_MOST_MASK)))
    (gi_MOST_LETTERS:PySem.W.nsIn K mainGlobals "MOST_LETTERS" = some (some (.int 8 u_MOST_LETTERS)))
    (gi_MOST_FIGURES:PySem.W.nsIn K mainGlobals "MOST_FIGURES" = some (some (.int 60 u_MOST_FIGURES)))
    (gi_MOST_ARMS:PySem.W.nsIn K mainGlobals "MOST_ARMS" = some (some (.int 4 u_MOST_ARMS)))
    (gi_MOST_PARTS:PySem.W.nsIn K mainGlobals "MOST_PARTS" = some (some (.int 120 u_MOST_PARTS)))
    (gi_MOST_DEEP:PySem.W.nsIn K mainGlobals "MOST_DEEP" = some (some (.int 30 u_MOST_DEEP)))
    (gi_MOST_COST:PySem.W.nsIn K mainGlobals "MOST_COST" = some (some (.int 1000000000000 u_MOST_COST)))
    (gi_MOST_ROUNDS:PySem.W.nsIn K mainGlobals "MOST_ROUNDS" = some (some (.int 100 u_MOST_ROUNDS)))
    (gi_MOST_SIZE:PySem.W.nsIn K mainGlobals "MOST_SIZE" = some (some (.int 1000 u_MOST_SIZE)))
    (gt_PAIR_WORDS:PySem.W.nsIn K mainGlobals "PAIR_WORDS" = some (some (.ref t_PAIR_WORDS)))
    (lt_PAIR_WORDS:K.lookup t_PAIR_WORDS=some ⟨.type "tuple",td_PAIR_WORDS,.seq #[.str "tell" u_PAIR_WORDS_0,.str "same" u_PAIR_WORDS_1,.str "why" u_PAIR_WORDS_2] tn_PAIR_WORDS,ts_PAIR_WORDS⟩)
    (gt_TREE_WORDS:PySem.W.nsIn K mainGlobals "TREE_WORDS" = some (some (.ref t_TREE_WORDS)))
    (lt_TREE_WORDS:K.lookup t_TREE_WORDS=some ⟨.type "tuple",td_TREE_WORDS,.seq #[.str "put" u_TREE_WORDS_0,.str "cheap" u_TREE_WORDS_1,.str "shared" u_TREE_WORDS_2,.str "sign" u_TREE_WORDS_3,.str "names" u_TREE_WORDS_4,.str "number" u_TREE_WORDS_5] tn_TREE_WORDS,ts_TREE_WORDS⟩)
    (ka_Rule:PySem.W.findIn K (.ref CU) "__class__" = some (some (.builtin "object.__class__")))
    (ko_Rule:PySem.W.mroIn K CU (.type "object")=some true)
    (i_Rule:PySem.W.kitOne K (.ref CU) (.ref CU)=some true)
    (kn_:PySem.W.specialIn K (.builtin "object.__class__") "__get__" = some (some (.builtin "getset_descriptor.__get__")))
    (kt_:PySem.W.takesIn K (.builtin "object.__class__")=some true)
    (x_NoTree:PySem.W.nsIn K mainGlobals "NoTree" = some (some (.ref c_NoTree)))
    (xEx_NoTree:PySem.W.excIn K c_NoTree [.type "ValueError",.type "Exception",.type "BaseException",.type "object"] "ValueError.__new__" = true)
    (x_NoRule:PySem.W.nsIn K mainGlobals "NoRule" = some (some (.ref c_NoRule)))
    (xEx_NoRule:PySem.W.excIn K c_NoRule [.type "ValueError",.type "Exception",.type "BaseException",.type "object"] "ValueError.__new__" = true)
    (z0:PySem.W.nsIn K mainGlobals "len" = some none)
    (z1:PySem.W.nsIn K mainGlobals "min" = some none)
    (z2:PySem.W.nsIn K mainGlobals "max" = some none)
    (z3:PySem.W.nsIn K mainGlobals "sum" = some none)
    (z4:PySem.W.nsIn K mainGlobals "range" = some none)
    (z5:PySem.W.nsIn K mainGlobals "enumerate" = some none)
    (z6:PySem.W.nsIn K mainGlobals "isinstance" = some none)
    (z7:PySem.W.nsIn K mainGlobals "tuple" = some none)
    (z8:PySem.W.nsIn K mainGlobals "int" = some none)
    (z9:PySem.W.nsIn K mainGlobals "bool" = some none)
    (z10:PySem.W.nsIn K mainGlobals "str" = some none)
    (z11:PySem.W.nsIn K mainGlobals "list" = some none) :
    ∃ fd:FuncData,(∀ (s:Shared) (v:Value),BindsTo s fd ⟨[v], []⟩ [("_law_script",v)])∧∀ base:Heap,K.In base→base.Ns mainGlobals mg→FnOk l.prog w K mg base CX0 71 fa fd ["_law_script"] (spLaw K):=by
  have e:=hfa.symm.trans (PySem.W.mg_of X G a49)
  cases e
  have B:Blt mg:=⟨PySem.W.mg_none_of X G z0,PySem.W.mg_none_of X G z1,PySem.W.mg_none_of X G z2,PySem.W.mg_none_of X G z3,PySem.W.mg_none_of X G z4,PySem.W.mg_none_of X G z5,PySem.W.mg_none_of X G z6,PySem.W.mg_none_of X G z7,PySem.W.mg_none_of X G z8,PySem.W.mg_none_of X G z9,PySem.W.mg_none_of X G z10,PySem.W.mg_none_of X G z11⟩
  have cls_Rule:Cls K CU:=⟨rPg_Rule,rHd_Rule,rPo_Rule,rSa_Rule⟩
  have cls_Reader:Cls K CR:=⟨rPg_Reader,rHd_Reader,rPo_Reader,rSa_Reader⟩
  have k_Rule:ClsK K CU CU:=⟨cls_Rule,ka_Rule,kn_,kt_,ko_Rule,i_Rule⟩
  have g_Rule:=PySem.W.mg_of X G aC_Rule
  have g_LETTERS:∃ t,mg "LETTERS" = some (.str "abcdefghijklmnopqrstuvwxyz" t):=⟨_,PySem.W.mg_of X G gs_LETTERS⟩
  have g_FIGURES:∃ t,mg "FIGURES" = some (.str "0123456789" t):=⟨_,PySem.W.mg_of X G gs_FIGURES⟩
  have g_MASK_SIGNS:∃ t,mg "MASK_SIGNS" = some (.str "-0+" t):=⟨_,PySem.W.mg_of X G gs_MASK_SIGNS⟩
  have g_MOST_WEIGHT:∃ t,mg "MOST_WEIGHT" = some (.int 1000000000000 t):=⟨_,PySem.W.mg_of X G gi_MOST_WEIGHT⟩
  have g_MOST_RULE_PARTS:∃ t,mg "MOST_RULE_PARTS" = some (.int 12 t):=⟨_,PySem.W.mg_of X G gi_MOST_RULE_PARTS⟩
  have g_MOST_LEFT_KNOTS:∃ t,mg "MOST_LEFT_KNOTS" = some (.int 3 t):=⟨_,PySem.W.mg_of X G gi_MOST_LEFT_KNOTS⟩
  have g_MOST_ASKS:∃ t,mg "MOST_ASKS" = some (.int 4 t):=⟨_,PySem.W.mg_of X G gi_MOST_ASKS⟩
  have g_MOST_MASK:∃ t,mg "MOST_MASK" = some (.int 7 t):=⟨_,PySem.W.mg_of X G gi_MOST_MASK⟩
  have g_MOST_LETTERS:∃ t,mg "MOST_LETTERS" = some (.int 8 t):=⟨_,PySem.W.mg_of X G gi_MOST_LETTERS⟩
  have g_MOST_FIGURES:∃ t,mg "MOST_FIGURES" = some (.int 60 t):=⟨_,PySem.W.mg_of X G gi_MOST_FIGURES⟩
  have g_MOST_ARMS:∃ t,mg "MOST_ARMS" = some (.int 4 t):=⟨_,PySem.W.mg_of X G gi_MOST_ARMS⟩
  have g_MOST_PARTS:∃ t,mg "MOST_PARTS" = some (.int 120 t):=⟨_,PySem.W.mg_of X G gi_MOST_PARTS⟩
  have g_MOST_DEEP:∃ t,mg "MOST_DEEP" = some (.int 30 t):=⟨_,PySem.W.mg_of X G gi_MOST_DEEP⟩
  have g_MOST_COST:∃ t,mg "MOST_COST" = some (.int 1000000000000 t):=⟨_,PySem.W.mg_of X G gi_MOST_COST⟩
  have g_MOST_ROUNDS:∃ t,mg "MOST_ROUNDS" = some (.int 100 t):=⟨_,PySem.W.mg_of X G gi_MOST_ROUNDS⟩
  have g_MOST_SIZE:∃ t,mg "MOST_SIZE" = some (.int 1000 t):=⟨_,PySem.W.mg_of X G gi_MOST_SIZE⟩
  have g_PAIR_WORDS:=PySem.W.mg_of X G gt_PAIR_WORDS
  have q_PAIR_WORDS:∀ H:Hp,SqT K H t_PAIR_WORDS [.str "tell",.str "same",.str "why"]:=fun H => .inr ⟨_,_,_,lt_PAIR_WORDS,rfl,rfl,(show 3≤sizeLine by decide),.cons ⟨_,rfl⟩ (.cons ⟨_,rfl⟩ (.cons ⟨_,rfl⟩ (.nil)))⟩
  have g_TREE_WORDS:=PySem.W.mg_of X G gt_TREE_WORDS
  have q_TREE_WORDS:∀ H:Hp,SqT K H t_TREE_WORDS [.str "put",.str "cheap",.str "shared",.str "sign",.str "names",.str "number"]:=fun H => .inr ⟨_,_,_,lt_TREE_WORDS,rfl,rfl,(show 6≤sizeLine by decide),.cons ⟨_,rfl⟩ (.cons ⟨_,rfl⟩ (.cons ⟨_,rfl⟩ (.cons ⟨_,rfl⟩ (.cons ⟨_,rfl⟩ (.cons ⟨_,rfl⟩ (.nil))))))⟩
  have oNoTree:Exc K mg "NoTree" c_NoTree:=⟨PySem.W.mg_of X G x_NoTree,xEx_NoTree⟩
  have oNoRule:Exc K mg "NoRule" c_NoRule:=⟨PySem.W.mg_of X G x_NoRule,xEx_NoRule⟩
  have F_parts:=fun_mk (st:=s_parts) l0 c0 k0
  have D_parts:Def K mg "parts" s_parts ["tree"]:=⟨_,_,F_parts,PySem.W.mg_of X G a0,F_parts.binds fun _ _ _ _ _ _ us hl=>len1_ (fun _=>rfl) us hl⟩
  have F_knots:=fun_mk (st:=s_knots) l1 c1 k1
  have D_knots:Def K mg "knots" s_knots ["pattern"]:=⟨_,_,F_knots,PySem.W.mg_of X G a1,F_knots.binds fun _ _ _ _ _ _ us hl=>len1_ (fun _=>rfl) us hl⟩
  have F_note_holes:=fun_mk (st:=s_note_holes) l2 c2 k2
  have D_note_holes:Def K mg "note_holes" s_note_holes ["pattern", "found"]:=⟨_,_,F_note_holes,PySem.W.mg_of X G a2,F_note_holes.binds fun _ _ _ _ _ _ us hl=>len2_ (fun _ _=>rfl) us hl⟩
  have F_holes:=fun_mk (st:=s_holes) l3 c3 k3
  have D_holes:Def K mg "holes" s_holes ["pattern"]:=⟨_,_,F_holes,PySem.W.mg_of X G a3,F_holes.binds fun _ _ _ _ _ _ us hl=>len1_ (fun _=>rfl) us hl⟩
  have F_is_word:=fun_mk (st:=s_is_word) l4 c4 k4
  have D_is_word:Def K mg "is_word" s_is_word ["text"]:=⟨_,_,F_is_word,PySem.W.mg_of X G a4,F_is_word.binds fun _ _ _ _ _ _ us hl=>len1_ (fun _=>rfl) us hl⟩
  have F_read_count:=fun_mk (st:=s_read_count) l5 c5 k5
  have D_read_count:Def K mg "read_count" s_read_count ["text"]:=⟨_,_,F_read_count,PySem.W.mg_of X G a5,F_read_count.binds fun _ _ _ _ _ _ us hl=>len1_ (fun _=>rfl) us hl⟩
  have F_init:=fun_mk (st:=s_init) l6 c6 k6
  have D_init_Reader:DefC K mg "Reader" CR "Reader.__init__" s_init ["self", "text", "with_holes"]:=⟨_,_,F_init,PySem.W.mg_of X G aC_Reader,⟨rMk_Reader,ai_Reader,n6,rKp_Reader⟩,F_init.binds fun _ _ _ _ _ _ us hl=>len3_ (fun _ _ _=>rfl) us hl⟩
  have F_ahead:=fun_mk (st:=s_ahead) l7 c7 k7
  have D_ahead:DefM K CR "ahead" "Reader.ahead" s_ahead ["self"]:=⟨_,_,F_ahead,⟨a7,n7,k7⟩,F_ahead.binds fun _ _ _ _ _ _ us hl=>len1_ (fun _=>rfl) us hl⟩
  have F_take:=fun_mk (st:=s_take) l8 c8 k8
  have D_take:DefM K CR "take" "Reader.take" s_take ["self", "wanted"]:=⟨_,_,F_take,⟨a8,n8,k8⟩,F_take.binds fun _ _ _ _ _ _ us hl=>len2_ (fun _ _=>rfl) us hl⟩
  have F_take_run:=fun_mk (st:=s_take_run) l9 c9 k9
  have D_take_run:DefM K CR "take_run" "Reader.take_run" s_take_run ["self", "signs"]:=⟨_,_,F_take_run,⟨a9,n9,k9⟩,F_take_run.binds fun _ _ _ _ _ _ us hl=>len2_ (fun _ _=>rfl) us hl⟩
  have F_take_word:=fun_mk (st:=s_take_word) l10 c10 k10
  have D_take_word:DefM K CR "take_word" "Reader.take_word" s_take_word ["self"]:=⟨_,_,F_take_word,⟨a10,n10,k10⟩,F_take_word.binds fun _ _ _ _ _ _ us hl=>len1_ (fun _=>rfl) us hl⟩
  have F_take_number:=fun_mk (st:=s_take_number) l11 c11 k11
  have D_take_number:DefM K CR "take_number" "Reader.take_number" s_take_number ["self"]:=⟨_,_,F_take_number,⟨a11,n11,k11⟩,F_take_number.binds fun _ _ _ _ _ _ us hl=>len1_ (fun _=>rfl) us hl⟩
  have F_take_arms:=fun_mk (st:=s_take_arms) l12 c12 k12
  have D_take_arms:DefM K CR "take_arms" "Reader.take_arms" s_take_arms ["self", "deep"]:=⟨_,_,F_take_arms,⟨a12,n12,k12⟩,F_take_arms.binds fun _ _ _ _ _ _ us hl=>len2_ (fun _ _=>rfl) us hl⟩
  have F_take_tree:=fun_mk (st:=s_take_tree) l13 c13 k13
  have D_take_tree:DefM K CR "take_tree" "Reader.take_tree" s_take_tree ["self", "deep"]:=⟨_,_,F_take_tree,⟨a13,n13,k13⟩,F_take_tree.binds fun _ _ _ _ _ _ us hl=>len2_ (fun _ _=>rfl) us hl⟩
  have F_read_whole:=fun_mk (st:=s_read_whole) l14 c14 k14
  have D_read_whole:Def K mg "read_whole" s_read_whole ["reader"]:=⟨_,_,F_read_whole,PySem.W.mg_of X G a14,F_read_whole.binds fun _ _ _ _ _ _ us hl=>len1_ (fun _=>rfl) us hl⟩
  have F_read:=fun_mk (st:=s_read) l15 c15 k15
  have D_read:Def K mg "read" s_read ["text"]:=⟨_,_,F_read,PySem.W.mg_of X G a15,F_read.binds fun _ _ _ _ _ _ us hl=>len1_ (fun _=>rfl) us hl⟩
  have F_read_pattern:=fun_mk (st:=s_read_pattern) l16 c16 k16
  have D_read_pattern:Def K mg "read_pattern" s_read_pattern ["text"]:=⟨_,_,F_read_pattern,PySem.W.mg_of X G a16,F_read_pattern.binds fun _ _ _ _ _ _ us hl=>len1_ (fun _=>rfl) us hl⟩
  have F_refuse_patterns:=fun_mk (st:=s_refuse_patterns) l17 c17 k17
  have D_refuse_patterns:Def K mg "refuse_patterns" s_refuse_patterns ["left", "right"]:=⟨_,_,F_refuse_patterns,PySem.W.mg_of X G a17,F_refuse_patterns.binds fun _ _ _ _ _ _ us hl=>len2_ (fun _ _=>rfl) us hl⟩
  have F_refuse_asks:=fun_mk (st:=s_refuse_asks) l18 c18 k18
  have D_refuse_asks:Def K mg "refuse_asks" s_refuse_asks ["asks", "bound"]:=⟨_,_,F_refuse_asks,PySem.W.mg_of X G a18,F_refuse_asks.binds fun _ _ _ _ _ _ us hl=>len2_ (fun _ _=>rfl) us hl⟩
  have F_rinit:=fun_mk (st:=s_rinit) l19 c19 k19
  have D_init_Rule:DefC K mg "Rule" CU "Rule.__init__" s_rinit ["self", "title", "weight", "left", "right", "asks"]:=⟨_,_,F_rinit,PySem.W.mg_of X G aC_Rule,⟨rMk_Rule,ai_Rule,n19,rKp_Rule⟩,F_rinit.binds fun _ _ _ _ _ _ us hl=>len6_ (fun _ _ _ _ _ _=>rfl) us hl⟩
  have F_show_mask:=fun_mk (st:=s_show_mask) l20 c20 k20
  have D_show_mask:Def K mg "show_mask" s_show_mask ["mask"]:=⟨_,_,F_show_mask,PySem.W.mg_of X G a20,F_show_mask.binds fun _ _ _ _ _ _ us hl=>len1_ (fun _=>rfl) us hl⟩
  have F_split_at:=fun_mk (st:=s_split_at) l21 c21 k21
  have D_split_at:Def K mg "split_at" s_split_at ["text", "sign"]:=⟨_,_,F_split_at,PySem.W.mg_of X G a21,F_split_at.binds fun _ _ _ _ _ _ us hl=>len2_ (fun _ _=>rfl) us hl⟩
  have F_read_side:=fun_mk (st:=s_read_side) l22 c22 k22
  have D_read_side:Def K mg "read_side" s_read_side ["text"]:=⟨_,_,F_read_side,PySem.W.mg_of X G a22,F_read_side.binds fun _ _ _ _ _ _ us hl=>len1_ (fun _=>rfl) us hl⟩
  have F_read_mask:=fun_mk (st:=s_read_mask) l23 c23 k23
  have D_read_mask:Def K mg "read_mask" s_read_mask ["text"]:=⟨_,_,F_read_mask,PySem.W.mg_of X G a23,F_read_mask.binds fun _ _ _ _ _ _ us hl=>len1_ (fun _=>rfl) us hl⟩
  have F_read_ask:=fun_mk (st:=s_read_ask) l24 c24 k24
  have D_read_ask:Def K mg "read_ask" s_read_ask ["text"]:=⟨_,_,F_read_ask,PySem.W.mg_of X G a24,F_read_ask.binds fun _ _ _ _ _ _ us hl=>len1_ (fun _=>rfl) us hl⟩
  have F_read_rule:=fun_mk (st:=s_read_rule) l25 c25 k25
  have D_read_rule:Def K mg "read_rule" s_read_rule ["line"]:=⟨_,_,F_read_rule,PySem.W.mg_of X G a25,F_read_rule.binds fun _ _ _ _ _ _ us hl=>len1_ (fun _=>rfl) us hl⟩
  have F_count_within:=fun_mk (st:=s_count_within) l26 c26 k26
  have D_count_within:Def K mg "count_within" s_count_within ["text", "low", "high"]:=⟨_,_,F_count_within,PySem.W.mg_of X G a26,F_count_within.binds fun _ _ _ _ _ _ us hl=>len3_ (fun _ _ _=>rfl) us hl⟩
  have F_read_cost:=fun_mk (st:=s_read_cost) l27 c27 k27
  have D_read_cost:Def K mg "read_cost" s_read_cost ["rest"]:=⟨_,_,F_read_cost,PySem.W.mg_of X G a27,F_read_cost.binds fun _ _ _ _ _ _ us hl=>len1_ (fun _=>rfl) us hl⟩
  have F_read_grow:=fun_mk (st:=s_read_grow) l28 c28 k28
  have D_read_grow:Def K mg "read_grow" s_read_grow ["rest"]:=⟨_,_,F_read_grow,PySem.W.mg_of X G a28,F_read_grow.binds fun _ _ _ _ _ _ us hl=>len1_ (fun _=>rfl) us hl⟩
  have F_read_order:=fun_mk (st:=s_read_order) l29 c29 k29
  have D_read_order:Def K mg "read_order" s_read_order ["word", "rest"]:=⟨_,_,F_read_order,PySem.W.mg_of X G a29,F_read_order.binds fun _ _ _ _ _ _ us hl=>len2_ (fun _ _=>rfl) us hl⟩
  have F_read_row:=fun_mk (st:=s_read_row) l30 c30 k30
  have D_read_row:Def K mg "read_row" s_read_row ["row", "line"]:=⟨_,_,F_read_row,PySem.W.mg_of X G a30,F_read_row.binds fun _ _ _ _ _ _ us hl=>len2_ (fun _ _=>rfl) us hl⟩
  have F_read_sheet:=fun_mk (st:=s_read_sheet) l31 c31 k31
  have D_read_sheet:Def K mg "read_sheet" s_read_sheet ["text"]:=⟨_,_,F_read_sheet,PySem.W.mg_of X G a31,F_read_sheet.binds fun _ _ _ _ _ _ us hl=>len1_ (fun _=>rfl) us hl⟩
  have F_at:=fun_mk (st:=s_at) l32 c32 k32
  have D_at:Def K mg "_law_at" s_at ["_law_script", "_law_k"]:=⟨_,_,F_at,PySem.W.mg_of X G a32,F_at.binds fun _ _ _ _ _ _ us hl=>len2_ (fun _ _=>rfl) us hl⟩
  have F_draw:=fun_mk (st:=s_draw) l33 c33 k33
  have D_draw:Def K mg "_law_draw" s_draw ["_law_cell", "_law_factor", "_law_many"]:=⟨_,_,F_draw,PySem.W.mg_of X G a33,F_draw.binds fun _ _ _ _ _ _ us hl=>len3_ (fun _ _ _=>rfl) us hl⟩
  have F_word:=fun_mk (st:=s_word) l34 c34 k34
  have D_word:Def K mg "_law_word" s_word ["_law_script", "_law_which"]:=⟨_,_,F_word,PySem.W.mg_of X G a34,F_word.binds fun _ _ _ _ _ _ us hl=>len2_ (fun _ _=>rfl) us hl⟩
  have F_leaf:=fun_mk (st:=s_leaf) l35 c35 k35
  have D_leaf:Def K mg "_law_leaf" s_leaf ["_law_script", "_law_cell"]:=⟨_,_,F_leaf,PySem.W.mg_of X G a35,F_leaf.binds fun _ _ _ _ _ _ us hl=>len2_ (fun _ _=>rfl) us hl⟩
  have F_knot:=fun_mk (st:=s_knot) l36 c36 k36
  have D_knot:Def K mg "_law_knot" s_knot ["_law_script", "_law_cell", "_law_arms"]:=⟨_,_,F_knot,PySem.W.mg_of X G a36,F_knot.binds fun _ _ _ _ _ _ us hl=>len3_ (fun _ _ _=>rfl) us hl⟩
  have F_trees:=fun_mk (st:=s_trees) l37 c37 k37
  have D_trees:Def K mg "_law_trees" s_trees ["_law_script", "_law_most"]:=⟨_,_,F_trees,PySem.W.mg_of X G a37,F_trees.binds fun _ _ _ _ _ _ us hl=>len2_ (fun _ _=>rfl) us hl⟩
  have F_shown:=fun_mk (st:=s_shown) l38 c38 k38
  have D_shown:Def K mg "_law_shown" s_shown ["_law_tree"]:=⟨_,_,F_shown,PySem.W.mg_of X G a38,F_shown.binds fun _ _ _ _ _ _ us hl=>len1_ (fun _=>rfl) us hl⟩
  have F_sides:=fun_mk (st:=s_sides) l39 c39 k39
  have D_sides:Def K mg "_law_sides" s_sides ["_law_script", "_law_cell"]:=⟨_,_,F_sides,PySem.W.mg_of X G a39,F_sides.binds fun _ _ _ _ _ _ us hl=>len2_ (fun _ _=>rfl) us hl⟩
  have F_asks:=fun_mk (st:=s_asks) l40 c40 k40
  have D_asks:Def K mg "_law_asks" s_asks ["_law_script", "_law_cell"]:=⟨_,_,F_asks,PySem.W.mg_of X G a40,F_asks.binds fun _ _ _ _ _ _ us hl=>len2_ (fun _ _=>rfl) us hl⟩
  have F_rule:=fun_mk (st:=s_rule) l41 c41 k41
  have D_rule:Def K mg "_law_rule" s_rule ["_law_script", "_law_cell", "_law_which"]:=⟨_,_,F_rule,PySem.W.mg_of X G a41,F_rule.binds fun _ _ _ _ _ _ us hl=>len3_ (fun _ _ _=>rfl) us hl⟩
  have F_ask_text:=fun_mk (st:=s_ask_text) l42 c42 k42
  have D_ask_text:Def K mg "_law_ask_text" s_ask_text ["_law_ask"]:=⟨_,_,F_ask_text,PySem.W.mg_of X G a42,F_ask_text.binds fun _ _ _ _ _ _ us hl=>len1_ (fun _=>rfl) us hl⟩
  have F_rule_text:=fun_mk (st:=s_rule_text) l43 c43 k43
  have D_rule_text:Def K mg "_law_rule_text" s_rule_text ["_law_rule_here"]:=⟨_,_,F_rule_text,PySem.W.mg_of X G a43,F_rule_text.binds fun _ _ _ _ _ _ us hl=>len1_ (fun _=>rfl) us hl⟩
  have F_order:=fun_mk (st:=s_order) l44 c44 k44
  have D_order:Def K mg "_law_order" s_order ["_law_script", "_law_cell", "_law_trees_here", "_law_titles"]:=⟨_,_,F_order,PySem.W.mg_of X G a44,F_order.binds fun _ _ _ _ _ _ us hl=>len4_ (fun _ _ _ _=>rfl) us hl⟩
  have F_row:=fun_mk (st:=s_row) l45 c45 k45
  have D_row:Def K mg "_law_row" s_row ["_law_order_here"]:=⟨_,_,F_row,PySem.W.mg_of X G a45,F_row.binds fun _ _ _ _ _ _ us hl=>len1_ (fun _=>rfl) us hl⟩
  have F_orders:=fun_mk (st:=s_orders) l46 c46 k46
  have D_orders:Def K mg "_law_orders" s_orders ["_law_script", "_law_trees_here"]:=⟨_,_,F_orders,PySem.W.mg_of X G a46,F_orders.binds fun _ _ _ _ _ _ us hl=>len2_ (fun _ _=>rfl) us hl⟩
  have F_rule_right:=fun_mk (st:=s_rule_right) l47 c47 k47
  have D_rule_right:Def K mg "_law_rule_right" s_rule_right ["_law_found", "_law_due"]:=⟨_,_,F_rule_right,PySem.W.mg_of X G a47,F_rule_right.binds fun _ _ _ _ _ _ us hl=>len2_ (fun _ _=>rfl) us hl⟩
  have F_order_right:=fun_mk (st:=s_order_right) l48 c48 k48
  have D_order_right:Def K mg "_law_order_right" s_order_right ["_law_found", "_law_due"]:=⟨_,_,F_order_right,PySem.W.mg_of X G a48,F_order_right.binds fun _ _ _ _ _ _ us hl=>len2_ (fun _ _=>rfl) us hl⟩
  have F_law:=fun_mk (st:=s_law) l49 c49 k49
  refine ⟨PySem.W.fnOf "law" "law" (defArgs s_law) (defBody s_law) (defScope s_law) .none kV49 dc49 pm49 an49 cd49 ct49,fun s v => .of_eq rfl,fun base _ _ => ?_⟩
  have Z:TopU K mg CU c_NoRule:=⟨cls_Rule,nA_Rule_title,nA_Rule_weight,nA_Rule_left,nA_Rule_right,nA_Rule_asks,g_LETTERS,g_MOST_WEIGHT,g_MOST_RULE_PARTS,g_MOST_LEFT_KNOTS,g_MOST_ASKS,g_MOST_MASK,g_MOST_LETTERS,oNoRule⟩
  have Z4:Top4 K mg CR c_NoTree:=⟨cls_Reader,nA_Reader_text,nA_Reader_with_holes,nA_Reader_place,g_LETTERS,g_FIGURES,g_MOST_LETTERS,g_MOST_FIGURES,g_MOST_ARMS,g_MOST_PARTS,g_MOST_DEEP,oNoTree⟩
  have h_parts:=ok_parts (P:=l.prog) (w:=w) (mg:=mg) (base:=base) D_parts 14
  have h_parts30:=ok_parts (P:=l.prog) (w:=w) (mg:=mg) (base:=base) D_parts 30
  have h_knots:=ok_knots (P:=l.prog) (w:=w) (mg:=mg) (base:=base) D_knots 14
  have h_note_holes:=ok_note_holes (P:=l.prog) (w:=w) (mg:=mg) (base:=base) D_note_holes 14
  have h_holes:=ok_holes B h_note_holes D_holes
  have h_is_word:=ok_is_word (P:=l.prog) (w:=w) (base:=base) B Z D_is_word
  have h_refuse_patterns:=ok_refuse_patterns B Z h_parts h_knots h_holes D_refuse_patterns
  have h_refuse_asks:=ok_refuse_asks B Z h_is_word D_refuse_asks
  have h_init_Rule:=ok_rinit B Z h_is_word h_refuse_patterns h_refuse_asks h_holes D_init_Rule
  have h_init_Reader:=ok_init (P:=l.prog) (w:=w) (base:=base) Z4 D_init_Reader
  have h_ahead:=ok_ahead (P:=l.prog) (w:=w) (base:=base) Z4 D_ahead
  have h_take:=ok_take (P:=l.prog) (w:=w) (base:=base) B Z4 D_take
  have h_run:=ok_run (P:=l.prog) (w:=w) (base:=base) B Z4 D_take_run
  have h_tword:=ok_tword B Z4 h_run D_take_word
  have h_tnum:=ok_number4 B Z4 h_ahead h_run D_take_number
  have h_tree:=ok_tree B Z4 h_ahead h_take h_tword h_tnum D_take_arms D_take_tree 30
  have h_whole:=ok_whole Z4 (fun b l t r h=>(pt_sound b 30 l t r h).1.2.1) h_ahead h_tree h_parts30 D_read_whole
  have h_readp:=ok_read_pattern Z4 h_init_Reader h_whole D_read_pattern
  have h_show_mask:=ok_show_mask (P:=l.prog) (w:=w) (base:=base) B g_MASK_SIGNS D_show_mask
  have h_split_at:=ok_split_at (P:=l.prog) (w:=w) (base:=base) B D_split_at
  have h_read_count:=ok_read_count (P:=l.prog) (w:=w) (base:=base) B g_FIGURES g_MOST_FIGURES D_read_count
  have h_read_mask:=ok_read_mask B g_MASK_SIGNS h_show_mask D_read_mask
  have h_read_ask:=ok_read_ask B h_read_mask D_read_ask
  have h_read_side:=ok_read_side B h_readp D_read_side
  have h_read_rule:=ok_read_rule B h_split_at h_read_count h_read_ask h_read_side h_init_Rule D_read_rule
  have h_at:=ok_at (P:=l.prog) (w:=w) (base:=base) B D_at
  have h_draw:=ok_draw (P:=l.prog) (w:=w) (mg:=mg) (base:=base) D_draw
  have h_word:=ok_word h_at D_word
  have h_leaf:=ok_leaf h_draw h_word D_leaf
  have h_knot:=ok_knot B h_draw h_word D_knot
  have h_trees:=ok_trees B h_draw h_leaf h_knot D_trees
  have h_shown:=ok_shown (P:=l.prog) (w:=w) (base:=base) B D_shown 14
  have h_sides:=ok_sides h_draw h_word D_sides
  have h_asks:=ok_asks B h_draw h_word D_asks
  have h_rule:=ok_rule B h_word h_sides h_asks D_rule
  have h_ask_text:=ok_ask_text (P:=l.prog) (w:=w) (base:=base) B D_ask_text
  have h_rule_text:=ok_rule_text B h_shown h_ask_text D_rule_text
  have h_order:=ok_order B h_draw h_word h_rule D_order
  have h_row:=ok_row B h_rule_text h_shown D_row
  have h_orders:=ok_orders B h_order D_orders
  have h_read:=ok_read Z4 h_init_Reader h_whole D_read
  have h_count_within:=ok_count_within B h_read_count D_count_within
  have h_read_cost:=ok_read_cost B g_MOST_COST h_is_word h_count_within D_read_cost
  have h_read_grow:=ok_read_grow B g_MOST_ROUNDS g_MOST_SIZE h_count_within D_read_grow
  have h_read_order:=ok_read_order B g_PAIR_WORDS g_TREE_WORDS q_PAIR_WORDS q_TREE_WORDS h_read_rule h_read_cost h_read_grow h_read D_read_order
  have h_read_row:=ok_read_row B h_read_order D_read_row
  have h_read_sheet:=ok_read_sheet B Z h_read_row D_read_sheet
  have h_rule_right:=ok_rule_right (P:=l.prog) (w:=w) (base:=base) B Z k_Rule g_Rule D_rule_right
  have h_order_right:=ok_order_right B h_rule_right D_order_right
  exact ok_law B h_trees h_orders h_at h_row h_read_sheet h_order_right F_law
theorem walk {l:PySem.W.OpenLaw} {q:Program} {loose:List Str} {XP:(Str→Option Value)→Heap→Prop} {YP:World→Heap→Prop} {d:DefRec} {K:Params→PySem.W.Frag} (hn:l.most=some 63) (hdf:d.params.defaults = [])
    (hY:∀ (w:World) (h:Heap),YP w h→(K w.params).In h)
    (F:∀ (w:World) (mg:Str→Option Value) (fa:Addr) (h:Heap),(K w.params).In h→h.Ns mainGlobals mg→mg d.name=some (.ref fa) →
      ∃ fd:FuncData,(∀ (s:Shared) (u:Value),BindsTo s fd ⟨[u], []⟩ [("_law_script",u)])∧∀ base:Heap,(K w.params).In base→base.Ns mainGlobals mg→FnOk l.prog w (K w.params) mg base CX0 71 fa fd ["_law_script"] (spLaw (K w.params))) :
    PySem.W.WalkO q loose XP YP l.row.toRowW d [] (fun f vs=>PySem.call f vs) :=
  L2.walk_ofB (n:=63) (k:=71) (x := "_law_script") (CX:=fun _=>CX0) (sp:=fun w=>spLaw (K w.params)) hn (by decide) hdf ⟨rfl,by decide,by decide⟩ hY F (fun _ _ a ns hl hb hS=>⟨a,ns,rfl,hS,hl,hb,fun _=>rfl⟩) fun _ _ _ _ _ z=>z
end K71
open PySem PySem.W PyProof.Rows
set_option maxRecDepth 100000 in
set_option maxHeartbeats 0 in
theorem PySem.Challenge.cw_samewise_k71_orders_read_holds : PySem.Challenge.rw_samewise_k71_orders_read.Holds := by
  refine KHd.top ?_
  k_fill
  refine K71.walk (l:=PySem.Challenge.rw_samewise_k71_orders_read) rfl rfl (fun w h Y=>PySem.W.kIn_of Y) ?F
  case F =>
    intro w mg fa h KX G hmg
    refine' K71.all_mk KX G hmg ?aC_Rule ?aC_Reader ?a0 ?l0 ?c0 ?k0 ?a1 ?l1 ?c1 ?k1 ?a2 ?l2 ?c2 ?k2 ?a3 ?l3 ?c3 ?k3 ?a4 ?l4 ?c4 ?k4 ?a5 ?l5 ?c5 ?k5 ?ai_Reader ?l6 ?c6 ?k6 ?n6 ?a7 ?l7 ?c7 ?k7 ?n7 ?a8 ?l8 ?c8 ?k8 ?n8 ?a9 ?l9 ?c9 ?k9 ?n9 ?a10 ?l10 ?c10 ?k10 ?n10 ?a11 ?l11 ?c11 ?k11 ?n11 ?a12 ?l12 ?c12 ?k12 ?n12 ?a13 ?l13 ?c13 ?k13 ?n13 ?a14 ?l14 ?c14 ?k14 ?a15 ?l15 ?c15 ?k15 ?a16 ?l16 ?c16 ?k16 ?a17 ?l17 ?c17 ?k17 ?a18 ?l18 ?c18 ?k18 ?ai_Rule ?l19 ?c19 ?k19 ?n19 ?a20 ?l20 ?c20 ?k20 ?a21 ?l21 ?c21 ?k21 ?a22 ?l22 ?c22 ?k22 ?a23 ?l23 ?c23 ?k23 ?a24 ?l24 ?c24 ?k24 ?a25 ?l25 ?c25 ?k25 ?a26 ?l26 ?c26 ?k26 ?a27 ?l27 ?c27 ?k27 ?a28 ?l28 ?c28 ?k28 ?a29 ?l29 ?c29 ?k29 ?a30 ?l30 ?c30 ?k30 ?a31 ?l31 ?c31 ?k31 ?a32 ?l32 ?c32 ?k32 ?a33 ?l33 ?c33 ?k33 ?a34 ?l34 ?c34 ?k34 ?a35 ?l35 ?c35 ?k35 ?a36 ?l36 ?c36 ?k36 ?a37 ?l37 ?c37 ?k37 ?a38 ?l38 ?c38 ?k38 ?a39 ?l39 ?c39 ?k39 ?a40 ?l40 ?c40 ?k40 ?a41 ?l41 ?c41 ?k41 ?a42 ?l42 ?c42 ?k42 ?a43 ?l43 ?c43 ?k43 ?a44 ?l44 ?c44 ?k44 ?a45 ?l45 ?c45 ?k45 ?a46 ?l46 ?c46 ?k46 ?a47 ?l47 ?c47 ?k47 ?a48 ?l48 ?c48 ?k48 ?a49 ?l49 ?c49 ?k49 ?rMk_Rule ?rKp_Rule ?rPg_Rule ?rHd_Rule ?rPo_Rule ?rSa_Rule ?nA_Rule_title ?nA_Rule_weight ?nA_Rule_left ?nA_Rule_right ?nA_Rule_asks ?rMk_Reader ?rKp_Reader ?rPg_Reader ?rHd_Reader ?rPo_Reader ?rSa_Reader ?nA_Reader_text ?nA_Reader_with_holes ?nA_Reader_place ?gs_LETTERS ?gs_FIGURES ?gs_MASK_SIGNS ?gi_MOST_WEIGHT ?gi_MOST_RULE_PARTS ?gi_MOST_LEFT_KNOTS ?gi_MOST_ASKS ?gi_MOST_MASK ?gi_MOST_LETTERS ?gi_MOST_FIGURES ?gi_MOST_ARMS ?gi_MOST_PARTS ?gi_MOST_DEEP ?gi_MOST_COST ?gi_MOST_ROUNDS ?gi_MOST_SIZE ?gt_PAIR_WORDS ?lt_PAIR_WORDS ?gt_TREE_WORDS ?lt_TREE_WORDS ?ka_Rule ?ko_Rule ?i_Rule ?kn_ ?kt_ ?x_NoTree ?xEx_NoTree ?x_NoRule ?xEx_NoRule ?z0 ?z1 ?z2 ?z3 ?z4 ?z5 ?z6 ?z7 ?z8 ?z9 ?z10 ?z11
    (case aC_Rule=>k_is)
    (case aC_Reader=>k_is)
    (case a0=>k_is)
    (case l0=>k_is)
    (case c0=>k_is)
    (case k0=>k_is)
    (case a1=>k_is)
    (case l1=>k_is)
    (case c1=>k_is)
    (case k1=>k_is)
    (case a2=>k_is)
    (case l2=>k_is)
    (case c2=>k_is)
    (case k2=>k_is)
    (case a3=>k_is)
    (case l3=>k_is)
    (case c3=>k_is)
    (case k3=>k_is)
    (case a4=>k_is)
    (case l4=>k_is)
    (case c4=>k_is)
    (case k4=>k_is)
    (case a5=>k_is)
    (case l5=>k_is)
    (case c5=>k_is)
    (case k5=>k_is)
    (case ai_Reader=>k_is)
    (case l6=>k_is)
    (case c6=>k_is)
    (case k6=>k_is)
    (case n6=>k_is)
    (case a7=>k_is)
    (case l7=>k_is)
    (case c7=>k_is)
    (case k7=>k_is)
    (case n7=>k_is)
    (case a8=>k_is)
    (case l8=>k_is)
    (case c8=>k_is)
    (case k8=>k_is)
    (case n8=>k_is)
    (case a9=>k_is)
    (case l9=>k_is)
    (case c9=>k_is)
    (case k9=>k_is)
    (case n9=>k_is)
    (case a10=>k_is)
    (case l10=>k_is)
    (case c10=>k_is)
    (case k10=>k_is)
    (case n10=>k_is)
    (case a11=>k_is)
    (case l11=>k_is)
    (case c11=>k_is)
    (case k11=>k_is)
    (case n11=>k_is)
    (case a12=>k_is)
    (case l12=>k_is)
    (case c12=>k_is)
    (case k12=>k_is)
    (case n12=>k_is)
    (case a13=>k_is)
    (case l13=>k_is)
    (case c13=>k_is)
    (case k13=>k_is)
    (case n13=>k_is)
    (case a14=>k_is)
    (case l14=>k_is)
    (case c14=>k_is)
    (case k14=>k_is)
    (case a15=>k_is)
    (case l15=>k_is)
    (case c15=>k_is)
    (case k15=>k_is)
    (case a16=>k_is)
    (case l16=>k_is)
    (case c16=>k_is)
    (case k16=>k_is)
    (case a17=>k_is)
    (case l17=>k_is)
    (case c17=>k_is)
    (case k17=>k_is)
    (case a18=>k_is)
    (case l18=>k_is)
    (case c18=>k_is)
    (case k18=>k_is)
    (case ai_Rule=>k_is)
    (case l19=>k_is)
    (case c19=>k_is)
    (case k19=>k_is)
    (case n19=>k_is)
    (case a20=>k_is)
    (case l20=>k_is)
    (case c20=>k_is)
    (case k20=>k_is)
    (case a21=>k_is)
    (case l21=>k_is)
    (case c21=>k_is)
    (case k21=>k_is)
    (case a22=>k_is)
    (case l22=>k_is)
    (case c22=>k_is)
    (case k22=>k_is)
    (case a23=>k_is)
    (case l23=>k_is)
    (case c23=>k_is)
    (case k23=>k_is)
    (case a24=>k_is)
    (case l24=>k_is)
    (case c24=>k_is)
    (case k24=>k_is)
    (case a25=>k_is)
    (case l25=>k_is)
    (case c25=>k_is)
    (case k25=>k_is)
    (case a26=>k_is)
    (case l26=>k_is)
    (case c26=>k_is)
    (case k26=>k_is)
    (case a27=>k_is)
    (case l27=>k_is)
    (case c27=>k_is)
    (case k27=>k_is)
    (case a28=>k_is)
    (case l28=>k_is)
    (case c28=>k_is)
    (case k28=>k_is)
    (case a29=>k_is)
    (case l29=>k_is)
    (case c29=>k_is)
    (case k29=>k_is)
    (case a30=>k_is)
    (case l30=>k_is)
    (case c30=>k_is)
    (case k30=>k_is)
    (case a31=>k_is)
    (case l31=>k_is)
    (case c31=>k_is)
    (case k31=>k_is)
    (case a32=>k_is)
    (case l32=>k_is)
    (case c32=>k_is)
    (case k32=>k_is)
    (case a33=>k_is)
    (case l33=>k_is)
    (case c33=>k_is)
    (case k33=>k_is)
    (case a34=>k_is)
    (case l34=>k_is)
    (case c34=>k_is)
    (case k34=>k_is)
    (case a35=>k_is)
    (case l35=>k_is)
    (case c35=>k_is)
    (case k35=>k_is)
    (case a36=>k_is)
    (case l36=>k_is)
    (case c36=>k_is)
    (case k36=>k_is)
    (case a37=>k_is)
    (case l37=>k_is)
    (case c37=>k_is)
    (case k37=>k_is)
    (case a38=>k_is)
    (case l38=>k_is)
    (case c38=>k_is)
    (case k38=>k_is)
    (case a39=>k_is)
    (case l39=>k_is)
    (case c39=>k_is)
    (case k39=>k_is)
    (case a40=>k_is)
    (case l40=>k_is)
    (case c40=>k_is)
    (case k40=>k_is)
    (case a41=>k_is)
    (case l41=>k_is)
    (case c41=>k_is)
    (case k41=>k_is)
    (case a42=>k_is)
    (case l42=>k_is)
    (case c42=>k_is)
    (case k42=>k_is)
    (case a43=>k_is)
    (case l43=>k_is)
    (case c43=>k_is)
    (case k43=>k_is)
    (case a44=>k_is)
    (case l44=>k_is)
    (case c44=>k_is)
    (case k44=>k_is)
    (case a45=>k_is)
    (case l45=>k_is)
    (case c45=>k_is)
    (case k45=>k_is)
    (case a46=>k_is)
    (case l46=>k_is)
    (case c46=>k_is)
    (case k46=>k_is)
    (case a47=>k_is)
    (case l47=>k_is)
    (case c47=>k_is)
    (case k47=>k_is)
    (case a48=>k_is)
    (case l48=>k_is)
    (case c48=>k_is)
    (case k48=>k_is)
    (case a49=>k_is)
    (case l49=>k_is)
    (case c49=>k_is)
    (case k49=>k_is)
    (case rMk_Rule=>k_is)
    (case rKp_Rule=>k_is)
    (case rPg_Rule=>k_is)
    (case rHd_Rule=>k_is)
    (case rPo_Rule=>k_is)
    (case rSa_Rule=>k_is)
    (case nA_Rule_title=>k_is)
    (case nA_Rule_weight=>k_is)
    (case nA_Rule_left=>k_is)
    (case nA_Rule_right=>k_is)
    (case nA_Rule_asks=>k_is)
    (case rMk_Reader=>k_is)
    (case rKp_Reader=>k_is)
    (case rPg_Reader=>k_is)
    (case rHd_Reader=>k_is)
    (case rPo_Reader=>k_is)
    (case rSa_Reader=>k_is)
    (case nA_Reader_text=>k_is)
    (case nA_Reader_with_holes=>k_is)
    (case nA_Reader_place=>k_is)
    (case gs_LETTERS=>k_is)
    (case gs_FIGURES=>k_is)
    (case gs_MASK_SIGNS=>k_is)
    (case gi_MOST_WEIGHT=>k_is)
    (case gi_MOST_RULE_PARTS=>k_is)
    (case gi_MOST_LEFT_KNOTS=>k_is)
    (case gi_MOST_ASKS=>k_is)
    (case gi_MOST_MASK=>k_is)
    (case gi_MOST_LETTERS=>k_is)
    (case gi_MOST_FIGURES=>k_is)
    (case gi_MOST_ARMS=>k_is)
    (case gi_MOST_PARTS=>k_is)
    (case gi_MOST_DEEP=>k_is)
    (case gi_MOST_COST=>k_is)
    (case gi_MOST_ROUNDS=>k_is)
    (case gi_MOST_SIZE=>k_is)
    (case gt_PAIR_WORDS=>k_is)
    (case lt_PAIR_WORDS=>k_is)
    (case gt_TREE_WORDS=>k_is)
    (case lt_TREE_WORDS=>k_is)
    (case ka_Rule=>k_is)
    (case ko_Rule=>k_is)
    (case i_Rule=>kit_is)
    (case kn_=>k_is)
    (case kt_=>k_is)
    (case x_NoTree=>k_is)
    (case xEx_NoTree=>k_exc)
    (case x_NoRule=>k_is)
    (case xEx_NoRule=>k_exc)
    (case z0=>k_is)
    (case z1=>k_is)
    (case z2=>k_is)
    (case z3=>k_is)
    (case z4=>k_is)
    (case z5=>k_is)
    (case z6=>k_is)
    (case z7=>k_is)
    (case z8=>k_is)
    (case z9=>k_is)
    (case z10=>k_is)
    (case z11=>k_is)
#print axioms PySem.Challenge.cw_samewise_k71_orders_read_holds
