import PyProof.Rows.All
import Wide.All
import OpenK.AllK
import Wide.FinOn
import Lean
import PyProof.EqAt
import PyProof.EqKinds
import PyProof.TupleCall
import KE.KTryMore
import KE.KIntText
import KE.RegKTryMore
import PySem.Challenge.RW_samewise_k51_put_pair_tell
set_option Elab.async false
set_option linter.all false
namespace KHd
open PySem PySem.W PySem.Calls PyProof.Rows
theorem left_boot {p q:Program} {loose:List Str} {Xt:Shared→Bool} {α : Type} {Yf:Shared → α} {Ya:World → α} {N:Nat} (e:opening p=plainProg p.main.scope.names) (hN:Nat.ble 600 N=true) (f:∀ s,fenceModules? p s=some s)
    (h:∀ (w:World) (os:OsState),(topFrom treeTable p w N ⟨boot_heap w.params,Array.mk [],boot_drawn,boot_toks,os⟩).map (fun s=>(openSeen q loose (importedModules p.main.body) Xt true s,Yf s))=some (openGood q loose,Ya w)):LeftO p q loose Xt Yf Ya N:=fun w=>by
  obtain ⟨⟨hp,gs,d,k,os⟩,e1,e2⟩:=Option.map_eq_some_iff.mp (boot_open e hN f w)
  have e3:hp=boot_heap w.params∧gs=Array.mk []∧d=boot_drawn∧k=boot_toks:=by simpa only [Prod.mk.injEq] using e2
  obtain ⟨z1,z2,z3,z4⟩:=e3
  subst z1 z2 z3 z4
  unfold openEnds
  rw [e1]
  exact h w os
noncomputable def pickL {α : Type} (l:List α) (is:List Nat):List α := is.filterMap fun i=>l[i]?
noncomputable def prg:Program:=PySem.Challenge.pw_samewise_k51_put_pair_tell
noncomputable def view:Program := { prg with main := { prg.main with body:=pickL prg.main.body [0,2,3,4,5,6,7,8,9,11,13,14,15,16,18,19,21,22,23,24,25,26,27,28,29,30,31] } }
theorem map_pair {α β γ : Type} {x:Option α} {f : α → β} {g : α → γ} {a : β} {b : γ} (h1:x.map f=some a) (h2:x.map g=some b):x.map (fun s=>(f s,g s))=some (a,b):=by
  cases x with
  | none=>cases h1
  | some s=>cases h1;cases h2;rfl
set_option maxRecDepth 100000 in
set_option maxHeartbeats 0 in
theorem seenOk:∀ (w:World) (os:OsState),(topFrom treeTable PySem.Challenge.rw_samewise_k51_put_pair_tell.prog w 6148 ⟨boot_heap w.params,Array.mk [],boot_drawn,boot_toks,os⟩).map (fun s=>openSeen view [] (importedModules PySem.Challenge.rw_samewise_k51_put_pair_tell.prog.main.body) (fun s=>xlAt view [] s && recOk (RowW.records PySem.Challenge.rw_samewise_k51_put_pair_tell.row.toRowW) s) true s)=some (openGood view []):=by intro w os;kernel_rfl
local macro_rules | `(tactic| o_head $H) => `(tactic| (refine holds_open (q:=view) (loose := []) (Xt:=fun s=>xlAt view [] s && recOk (RowW.records PySem.Challenge.rw_samewise_k51_put_pair_tell.row.toRowW) s) (XP:=XL view []) (Yf:=Hook.obs $H) (Ya:=Hook.val $H) (YP:=Hook.says $H) (N:=6148) ?hl (Hook.of $H) (Hook.keeps $H) (fun s e=>xl_of s (Bool.and_eq_true_iff.mp e).1) XL.keeps (by rfl) (by rfl) (by rfl) (fun s e=>recFacts_of (Bool.and_eq_true_iff.mp e).2) (by rfl) (by first | assumption | decide +kernel) (by decide +kernel) ⟨rfl,rfl,rfl,rfl,rfl,by decide +kernel⟩ ?hw ?hc;case hl=>(refine left_boot (by rfl) (by decide) (fun s=>by rfl) ?_;intro w os;refine map_pair (seenOk w os) ?_;kernel_rfl)))
set_option maxRecDepth 100000 in
set_option maxHeartbeats 0 in
open_top top for PySem.Challenge.rw_samewise_k51_put_pair_tell
end KHd
set_option Elab.async false
set_option linter.all false
set_option maxRecDepth 100000
set_option maxHeartbeats 4000000
namespace L2
open PySem PySem.Spec PyProof.Rows

noncomputable abbrev Key:=Sum Int Str
noncomputable def keyIs:Key→Value→Bool
  | .inl k,v=>Value.isInt k v
  | .inr x,v=>Value.isStrOf x v
noncomputable def keyH (w:World):Key→Int
  | .inl k=>hashInt k
  | .inr x=>hashStr w x
theorem keyIs_shape:∀ {k:Key} {v:Value},keyIs k v=true→(∃ i t,k=Sum.inl i∧v=Value.int i t)∨(∃ x t,k=Sum.inr x∧v=Value.str x t)
  | .inl i,v,h=>by
    obtain ⟨t,e⟩:=Value.isInt_shape (k:=i) (v:=v) h
    exact .inl ⟨i,t,rfl,e⟩
  | .inr x,v,h=>by
    obtain ⟨t,e⟩:=Value.isStrOf_shape (x:=x) (v:=v) h
    exact .inr ⟨x,t,rfl,e⟩
theorem keyIs_int (i:Int) (t:Tok):keyIs (.inl i) (.int i t)=true:=by simp [keyIs,Value.isInt]
theorem keyIs_str (x:Str) (t:Tok):keyIs (.inr x) (.str x t)=true:=by simp [keyIs,Value.isStrOf]
theorem key_ll (a b:Int):decide ((Sum.inl a:Key)=Sum.inl b)=(a == b):=by
  by_cases e:a=b
  · subst e;simp
  · have h:¬ (Sum.inl a:Key)=Sum.inl b:=fun q=>e (Sum.inl.inj q)
    rw [decide_eq_false h]
    exact (beq_eq_false_iff_ne.mpr e).symm
theorem key_rr (a b:Str):decide ((Sum.inr a:Key)=Sum.inr b)=decide (a=b):=by
  by_cases e:a=b
  · subst e;simp
  · have h:¬ (Sum.inr a:Key)=Sum.inr b:=fun q=>e (Sum.inr.inj q)
    rw [decide_eq_false h,decide_eq_false e]
theorem key_lr (a:Int) (b:Str):decide ((Sum.inl a:Key)=Sum.inr b)=false:=decide_eq_false (fun q=>nomatch q)
theorem key_rl (a:Str) (b:Int):decide ((Sum.inr a:Key)=Sum.inl b)=false:=decide_eq_false (fun q=>nomatch q)

noncomputable def mixKind (prog:Program) (w:World):PySem.KeyKind prog w Key where
  is:=keyIs
  hash:=keyH w
  inj:=fun v a b ha hb=>by
    rcases keyIs_shape ha with ⟨i,t,rfl,rfl⟩ | ⟨x,t,rfl,rfl⟩
    · rcases keyIs_shape hb with ⟨j,u,rfl,e⟩ | ⟨y,u,rfl,e⟩
      · injection e with e1 _;rw [e1]
      · exact nomatch e
    · rcases keyIs_shape hb with ⟨j,u,rfl,e⟩ | ⟨y,u,rfl,e⟩
      · exact nomatch e
      · injection e with e1 _;rw [e1]
  byValue:=fun k v h=>by
    rcases keyIs_shape h with ⟨i,t,rfl,rfl⟩ | ⟨x,t,rfl,rfl⟩ <;> rfl
  pyHash:=fun hv h=>by
    rcases keyIs_shape hv with ⟨i,t,rfl,rfl⟩ | ⟨x,t,rfl,rfl⟩
    · exact wpAny_pyHash_int h
    · exact wpAny_pyHash_str h
  eqBool:=fun hu hv h=>by
    rcases keyIs_shape hu with ⟨i,t,rfl,rfl⟩ | ⟨x,t,rfl,rfl⟩
    · rcases keyIs_shape hv with ⟨j,u,rfl,rfl⟩ | ⟨y,u,rfl,rfl⟩
      · rw [key_ll] at h;exact wpAny_eqBool_int h
      · rw [key_lr] at h;exact SeqAt.EqAt.int_str i t y u _ _ _ _ h
    · rcases keyIs_shape hv with ⟨j,u,rfl,rfl⟩ | ⟨y,u,rfl,rfl⟩
      · rw [key_rl] at h;exact SeqAt.EqAt.str_int x t j u _ _ _ _ h
      · rw [key_rr] at h;exact wpAny_eqBool_str h
  «strs» := fun k x t v h=>by
    rcases keyIs_shape h with ⟨i,u,rfl,e⟩ | ⟨y,u,rfl,e⟩
    · exact nomatch e
    · injection e with e1 _
      subst e1
      cases v <;> rfl

theorem mixKind_int (prog:Program) (w:World) (i:Int) (t:Tok):(mixKind prog w).is (.inl i) (.int i t)=true:=keyIs_int i t
theorem mixKind_str (prog:Program) (w:World) (x:Str) (t:Tok):(mixKind prog w).is (.inr x) (.str x t)=true:=keyIs_str x t
end L2

namespace L2
open PySem PySem.Spec PyProof.Rows

inductive V where
  | non | bl (b:Bool) | int (i:Int) | str (x:Str) | byt (b:Array UInt8) | flt (b:UInt64) | ref (a:Addr) | ty (n:String)
  deriving DecidableEq

noncomputable def RelV:V→Value→Prop
  | .non,u=>u=Value.none
  | .bl b,u=>u=Value.bool b
  | .int i,u=>∃ t,u=Value.int i t
  | .str x,u=>∃ t,u=Value.str x t
  | .byt b,u=>∃ t,u=Value.bytes b t
  | .flt b,u=>∃ t,u=Value.float b t
  | .ref a,u=>u=Value.ref a
  | .ty n,u=>u=Value.type n

noncomputable abbrev Vals:List V→List Value→Prop:=Paired RelV
theorem Vals.length {xs:List V} {us:List Value} (r:Vals xs us):xs.length=us.length:=Paired.length r
theorem Vals.get:∀ {xs:List V} {us:List Value} {i:Nat} {x:V},Vals xs us→xs[i]? = some x→∃ u,us[i]? = some u∧RelV x u
  | _,_,_,_,.nil,e=>by simp at e
  | _,_,0,_,.cons r _,e=>by simp at e;subst e;exact ⟨_,rfl,r⟩
  | _,_,i+1,x,.cons _ t,e=>by
    obtain ⟨u,h1,h2⟩:=Vals.get (i:=i) (x:=x) t (by simpa using e)
    exact ⟨u,by simpa using h1,h2⟩
theorem Vals.set {x:V} {u:Value} (r:RelV x u):∀ {xs:List V} {us:List Value} (i:Nat),Vals xs us→Vals (xs.set i x) (us.set i u)
  | _,_,_,.nil => .nil
  | _,_,0,.cons _ t => .cons r t
  | _,_,i+1,.cons q t => .cons q (Vals.set r i t)
theorem Vals.append:∀ {xs ys:List V} {us ws:List Value},Vals xs us→Vals ys ws→Vals (xs ++ ys) (us ++ ws)
  | _,_,_,_,.nil,s=>s
  | _,_,_,_,.cons r t,s => .cons r (Vals.append t s)
theorem Vals.take:∀ {xs:List V} {us:List Value} (n:Nat),Vals xs us→Vals (xs.take n) (us.take n)
  | _,_,0,_ => .nil
  | _,_,_+1,.nil => .nil
  | _,_,n+1,.cons r t => .cons r (Vals.take n t)
theorem Vals.drop:∀ {xs:List V} {us:List Value} (n:Nat),Vals xs us→Vals (xs.drop n) (us.drop n)
  | _,_,0,r=>r
  | _,_,_+1,.nil => .nil
  | _,_,n+1,.cons _ t=>Vals.drop n t

noncomputable def RelO:Option V→Option Value→Prop
  | some v,some u=>RelV v u
  | none,none=>True
  | _,_=>False
noncomputable def KV {κ : Type}:List (κ × V)→List (κ × Value)→Prop:=Paired fun (p : κ × V) (q : κ × Value)=>p.1=q.1∧RelV p.2 q.2

noncomputable def kV:Key→V
  | .inl i => .int i
  | .inr x => .str x

inductive HO where
    | lst (xs:List V)
    | tup (xs:List V)
    | dK (kvs:List (Key × V)) | dT (kvs:List (List Key × V))
    | set (S:Int→Bool) (n:Nat)
    | ins (C dx:Addr) (fs:List (Str × V))
    | own (x:Addr)
    | xd (fs:List (Str × V))
    | met (f x:Addr)
    | rng (lo hi:Int)
    | frz (o:Obj) (u:HO)
    | tbl (ps:Array Value)
    | ext (φ : Heap→Prop)

noncomputable abbrev Hp:=Addr→Option HO
noncomputable def upd (H:Hp) (a:Addr) (o:HO):Hp:=fun b=>if b=a then some o else H b
theorem upd_same {H:Hp} {a:Addr} {o:HO}:upd H a o a=some o:=by unfold upd;rw [if_pos rfl]
theorem upd_ne {H:Hp} {a b:Addr} {o:HO} (h:b≠a):upd H a o b=H b:=by unfold upd;rw [if_neg h]
theorem upd_upd {H:Hp} {a:Addr} {o u:HO}:upd (upd H a o) a u=upd H a u:=by
  funext b;unfold upd;split <;> rfl
theorem ne_of {H:Hp} {a b:Addr} {o u:HO} (h:H a=some o) (h':H b=some u) (d:o≠u):a≠b:=by
  intro e;subst e;rw [h] at h';exact d (Option.some.inj h')
theorem ne_of_none {H:Hp} {a b:Addr} {o:HO} (h:H a=some o) (h':H b=none):a≠b:=by
  intro e;subst e;rw [h] at h';cases h'

noncomputable def IsTupN (h:Heap) (a:Addr) (items:Array Value):Prop := ∃ o,h.get? a=some o∧o.cls = .type "tuple" ∧ ∃ n,o.data = .seq items n∧o.dict=none
theorem IsTupN.tup {h:Heap} {a:Addr} {items:Array Value} (x:IsTupN h a items):IsTup h a items:=let ⟨o,e,c,n,d,_⟩:=x; ⟨o,e,c,n,d⟩
theorem IsTupN.new (h:Heap) (items:Array Value):IsTupN (h.push { cls := .type "tuple",data := .seq items }) h.objs.size items:=⟨_,Heap.get?_push_size _ rfl,rfl,_,rfl,rfl⟩
section
variable (P:Program) (w:World)
noncomputable def ObjOk (H:Hp) (h:Heap) (a:Addr):HO→Prop
  | .lst xs=>xs.length≤sizeLine∧∃ (its:List Value) (n:Nat),Vals xs its∧h.get? a=some { cls := .type "list",data := .seq its.toArray n }
  | .tup xs=>xs.length≤sizeLine∧∃ its:List Value,Vals xs its∧IsTupN h a its.toArray
  | .dK kvs=>kvs.length≤sizeLine∧(a == sysModules)=false∧∃ vs,KV kvs vs∧h.DictOf (mixKind P w) a vs
  | .dT kvs=>kvs.length≤sizeLine∧(a == sysModules)=false∧∃ xs:List (List Key × Addr × Value),
      Paired (fun (p:List Key × V) (q:List Key × Addr × Value)=>p.1=q.1∧H q.2.1=some (.tup (p.1.map kV))∧RelV p.2 q.2.2) kvs xs ∧
      ∃ o es ep,h.get? a=some o∧o.ExactDict∧o.data = .dict es ep∧es.toList=xs.map (entryOfKey (tupleKind (mixKind P w)))∧(xs.map (·.1)).Nodup
  | .set S n=>h.SetOf (intKind P w) a S n
  | .ins C dx fs=>H dx=some (.own a)∧fs.length≤1000∧dx≠a∧h.get? a=some (PySem.W.instObj C dx) ∧
      ∃ mA,h.Ns1 dx mA∧(∀ f,RelO (fs.lookup f) (mA f))∧PySem.Within mA (fs.map (·.1))
  | .own _=>∃ o,h.get? a=some o
  | .xd fs=>∃ mA,h.Ns1 a mA∧∀ f,RelO (fs.lookup f) (mA f)
  | .rng lo hi=>∃ t u v,h.get? a=some { cls := .type "range",data := .fields #[.int lo t,.int hi u,.int 1 v] }
  | .frz o u=>h.get? a=some o∧ObjOk H h a u
  | .tbl ps=>h.get? a=some { cls := .none,data := .fields ps }
  | .met f x=>h.get? a=some (PySem.W.methodObj (.ref f) (.ref x))
  | .ext φ => φ h∧(∃ o,h.get? a=some o)∧∀ h1 h2:Heap, φ h1→(∀ o,h1.get? a=some o→h2.get? a=some o) → φ h2
noncomputable def HOk (H:Hp) (h:Heap):Prop := ∀ a o,H a=some o→ObjOk P w H h a o
end

section
variable {P:Program} {w:World} {H H':Hp} {h h':Heap} {a:Addr} {o:HO}
theorem ObjOk.lt (x:ObjOk P w H h a o):a < h.objs.size:=by
  cases o with
  | lst xs=>obtain ⟨_,_,_,_,e⟩:=x;exact Heap.lt_size e
  | tup xs=>obtain ⟨_,_,_,p⟩:=x;exact p.tup.lt
  | dK kvs=>obtain ⟨_,_,_,_,o,_,_,e,_⟩:=x;exact Heap.lt_size e
  | dT kvs=>obtain ⟨_,_,_,_,o,_,_,e,_⟩:=x;exact Heap.lt_size e
  | set S n=>obtain ⟨o,_,_,_,e,_⟩:=x;exact Heap.lt_size e
  | ins C dx fs=>obtain ⟨_,_,_,e,_⟩:=x;exact Heap.lt_size e
  | own y=>obtain ⟨_,e⟩:=x;exact Heap.lt_size e
  | xd fs=>obtain ⟨_,⟨_,_,_,e,_⟩,_⟩:=x;exact Heap.lt_size e
  | rng lo hi=>obtain ⟨_,_,_,e⟩:=x;exact Heap.lt_size e
  | frz ob u=>obtain ⟨e,_⟩:=x;exact Heap.lt_size e
  | tbl ps=>exact Heap.lt_size (show h.get? a=some _ from x)
  | met f y=>exact Heap.lt_size (show h.get? a=some _ from x)
  | ext φ => obtain ⟨_,⟨_,e⟩,_⟩:=x;exact Heap.lt_size e
theorem Paired.mapP {α β : Type} {F G : α → β → Prop}:∀ {l₁ : List α} {l₂ : List β},Paired F l₁ l₂ → (∀ a b,F a b→G a b)→Paired G l₁ l₂
  | _,_,.nil,_ => .nil
  | _,_,.cons r t,f => .cons (f _ _ r) (Paired.mapP t f)
theorem ObjOk.stay (x:ObjOk P w H h a o) (k:∀ b u,(b=a∨H b=some (.own a))→h.get? b=some u→h'.get? b=some u)
    (ho:∀ b,H b=some (.own a)→H' b=some (.own a)) (ht:∀ b xs,H b=some (.tup xs)→H' b=some (.tup xs)):ObjOk P w H' h' a o:=by
  induction o with
  | lst xs=>obtain ⟨z,its,n,r,e⟩:=x;exact ⟨z,its,n,r,k _ _ (.inl rfl) e⟩
  | tup xs=>obtain ⟨z,its,r,ob,e,c⟩:=x;exact ⟨z,its,r,ob,k _ _ (.inl rfl) e,c⟩
  | dK kvs=>obtain ⟨z,y,vs,r,ob,es,ep,e,c⟩:=x;exact ⟨z,y,vs,r,ob,es,ep,k _ _ (.inl rfl) e,c⟩
  | dT kvs =>
    obtain ⟨z,y,xs,r,ob,es,ep,e,c⟩:=x
    exact ⟨z,y,xs,Paired.mapP r fun p q z=>⟨z.1,ht _ _ z.2.1,z.2.2⟩,ob,es,ep,k _ _ (.inl rfl) e,c⟩
  | set S n=>obtain ⟨ob,es,ep,t,e,c⟩:=x;exact ⟨ob,es,ep,t,k _ _ (.inl rfl) e,c⟩
  | ins C dx fs =>
    obtain ⟨d,z,ne,e,mA,⟨od,es,ep,e2,c⟩,r⟩:=x
    exact ⟨ho _ d,z,ne,k _ _ (.inl rfl) e,mA,⟨od,es,ep,k _ _ (.inr d) e2,c⟩,r⟩
  | own y=>obtain ⟨ob,e⟩:=x;exact ⟨ob,k _ _ (.inl rfl) e⟩
  | xd fs=>obtain ⟨mA,⟨od,es,ep,e,c⟩,r⟩:=x;exact ⟨mA,⟨od,es,ep,k _ _ (.inl rfl) e,c⟩,r⟩
  | rng lo hi=>obtain ⟨t,u,v,e⟩:=x;exact ⟨t,u,v,k _ _ (.inl rfl) e⟩
  | frz ob u ih=>obtain ⟨e,q⟩:=x;exact ⟨k _ _ (.inl rfl) e,ih q⟩
  | tbl ps =>
    have e:h.get? a=some { cls := .none,data := .fields ps }:=x
    show h'.get? a=some { cls := .none,data := .fields ps }
    exact k a _ (.inl rfl) e
  | met f y =>
    have e:h.get? a=some (PySem.W.methodObj (.ref f) (.ref y)):=x
    show h'.get? a=some (PySem.W.methodObj (.ref f) (.ref y))
    exact k a _ (.inl rfl) e
  | ext φ => obtain ⟨p,⟨o,e⟩,st⟩:=x;exact ⟨st _ _ p fun o q=>k _ _ (.inl rfl) q,⟨o,k _ _ (.inl rfl) e⟩,st⟩
theorem HOk.lt (x:HOk P w H h) (e:H a=some o):a < h.objs.size:=(x a o e).lt
theorem HOk.fresh (x:HOk P w H h) (e:h.objs.size≤a):H a=none:=by
  cases q:H a with
  | none=>rfl
  | some u=>exact absurd (Nat.lt_of_lt_of_le (x.lt q) e) (Nat.lt_irrefl _)
theorem HOk.kept (x:HOk P w H h) (k:∀ b u,h.get? b=some u→h'.get? b=some u):HOk P w H h':=fun a o e =>
  (x a o e).stay (fun b u _ q=>k b u q) (fun _ q=>q) fun _ _ q=>q
theorem HOk.laid (x:HOk P w H h) (k:∀ b u,h.get? b=some u→h'.get? b=some u) (hp:h.objs.size≤a) (new:ObjOk P w (upd H a o) h' a o):HOk P w (upd H a o) h':=fun b u e=>by
  have hn:=x.fresh hp
  by_cases hb:b=a
  · subst hb;rw [upd_same] at e;cases e;exact new
  · rw [upd_ne hb] at e
    exact (x b u e).stay (fun c v _ q=>k c v q) (fun c q=>by rw [upd_ne (ne_of_none q hn)];exact q) fun c xs q=>by rw [upd_ne (ne_of_none q hn)];exact q
end

noncomputable def Rd (H:Hp) (a:Addr) (u:HO):Prop:=H a=some u∨∃ o,H a=some (.frz o u)
theorem Rd.ok {P:Program} {w:World} {H:Hp} {h:Heap} {a:Addr} {u:HO} (r:Rd H a u) (x:HOk P w H h):ObjOk P w H h a u:=by
  rcases r with r | ⟨o,r⟩
  · exact x a u r
  · obtain ⟨_,q⟩:=x a _ r
    exact q
noncomputable def Mut:Option HO→Prop
  | some (.lst _)=>True
  | some (.dK _)=>True
  | some (.dT _)=>True
  | some (.set _ _)=>True
  | some (.ins _ _ _)=>True
  | some (.ext _)=>True
  | _=>False
section
variable {P:Program} {w:World} {H:Hp} {h h':Heap} {x e:Addr} {o':HO}
theorem HOk.write (ok:HOk P w H h) (mu:Mut (H x)) (he:e=x∨H e=some (.own x)) (k:∀ b u,b≠e→h.get? b=some u→h'.get? b=some u) (heo:∃ u,h'.get? e=some u)
    (new:ObjOk P w (upd H x o') h' x o'):HOk P w (upd H x o') h':=fun b u q=>by
  have nown:∀ c y,H c=some (.own y)→c≠x:=fun c y r z=>by subst z;rw [r] at mu;exact mu
  have ntup:∀ c xs,H c=some (.tup xs)→c≠x:=fun c xs r z=>by subst z;rw [r] at mu;exact mu
  by_cases hb:b=x
  · subst hb;rw [upd_same] at q;cases q;exact new
  · rw [upd_ne hb] at q
    by_cases hbe:b=e
    · have q':H b=some (.own x):=by
        rcases he with z | z
        · exact absurd (hbe.trans z) hb
        · rw [hbe];exact z
      rw [q] at q';cases q'
      obtain ⟨v,hv⟩:=heo
      exact ⟨v,by rw [hbe];exact hv⟩
    · refine (ok b u q).stay (fun c v hc r=>k c v ?_ r) (fun c r=>by rw [upd_ne (nown c b r)];exact r) fun c xs r=>by rw [upd_ne (ntup c xs r)];exact r
      rcases hc with rfl | hc
      · exact hbe
      · rintro rfl
        rcases he with z | z
        · exact nown c b hc z
        · rw [hc] at z;cases z;exact hb rfl
end

structure Un (fs ex:List Addr) (H H':Hp) (h h':Heap):Prop where
  keep:∀ b o,h.get? b=some o→H b=none→b ∉ fs→b ∉ ex→h'.get? b=some o
  slot:∀ b o,h.get? b=some o→H b=none→b∈fs→b ∉ ex→∃ sl,h'.get? b=some { o with slots:=sl }
  free:∀ b o,h.get? b=some o→H b=none→b ∉ ex→H' b=none
  there:∀ b o,h.get? b=some o→b ∉ ex→∃ o',h'.get? b=some o'
  tups:∀ b xs,H b=some (.tup xs)→H' b=some (.tup xs)
  frzs:∀ b o u,H b=some (.frz o u)→H' b=some (.frz o u)
  tbls:∀ b ps,H b=some (.tbl ps)→∃ more,H' b=some (.tbl (ps ++ more))
section
variable {fs fs' ex ex':List Addr} {H H1 H2:Hp} {h h1 h2 h':Heap} {a x e:Addr} {o:HO}
theorem Un.any (u:Un fs ex H H1 h h1) {b:Addr} {ob:Obj} (q:h.get? b=some ob) (n:H b=none) (hx:b ∉ ex):∃ sl,h1.get? b=some { ob with slots:=sl }:=by
  by_cases hb:b∈fs
  · exact u.slot b ob q n hb hx
  · exact ⟨ob.slots,u.keep b ob q n hb hx⟩
theorem Un.kept (k:∀ b u,h.get? b=some u→h'.get? b=some u):Un fs ex H H h h' :=
  ⟨fun b ob q _ _ _=>k b ob q,fun b ob q _ _ _=>⟨ob.slots,k b ob q⟩,fun _ _ _ n _=>n,fun b ob q _=>⟨ob,k b ob q⟩,fun _ _ q=>q,fun _ _ _ q=>q,fun _ ps q=>⟨#[],by rw [q];simp⟩⟩
theorem Un.refl:Un fs ex H H h h:=Un.kept fun _ _ q=>q
theorem Un.laid (k:∀ b u,h.get? b=some u→h'.get? b=some u) (hp:h.objs.size≤a) (hn:H a=none):Un fs ex H (upd H a o) h h' where
  keep:=fun b u q _ _ _=>k b u q
  slot:=fun b u q _ _ _=>⟨u.slots,k b u q⟩
  free:=fun b u q n _=>by rw [upd_ne (Nat.ne_of_lt (Nat.lt_of_lt_of_le (Heap.lt_size q) hp))];exact n
  there:=fun b u q _=>⟨u,k b u q⟩
  tups:=fun b xs q=>by rw [upd_ne (ne_of_none q hn)];exact q
  frzs:=fun b u xs q=>by rw [upd_ne (ne_of_none q hn)];exact q
  tbls:=fun b ps q=>⟨#[],by rw [upd_ne (ne_of_none q hn),q];simp⟩
theorem Un.write (mu:Mut (H x)) (he:e=x∨H e=some (.own x)) (k:∀ b u,b≠e→h.get? b=some u→h'.get? b=some u) (heo:∃ u,h'.get? e=some u):Un fs ex H (upd H x o) h h':=by
  have hx:∀ b,H b=none→b≠x:=fun b n z=>by subst z;rw [n] at mu;exact mu
  have hb:∀ b,H b=none→b≠e:=fun b n z=>by
    subst z
    rcases he with r | r
    · exact hx b n r
    · rw [n] at r;cases r
  have hm:∀ b u,H b=some u→¬ Mut (some u)→b≠x:=fun b u q nm z=>by subst z;rw [q] at mu;exact nm mu
  refine ⟨fun b u q n _ _=>k b u (hb b n) q,fun b u q n _ _=>⟨u.slots,k b u (hb b n) q⟩,fun b u q n _=>by rw [upd_ne (hx b n)];exact n,fun b u q _ => ?_,
    fun b xs q=>by rw [upd_ne (hm b _ q fun z=>z)];exact q,fun b u xs q=>by rw [upd_ne (hm b _ q fun z=>z)];exact q,fun b ps q=>⟨#[],by rw [upd_ne (hm b _ q fun z=>z),q];simp⟩⟩
  by_cases hbe:b=e
  · subst hbe;exact heo
  · exact ⟨u,k b u hbe q⟩
end

noncomputable def trk (h:Heap) (H:Hp):List Addr:=(List.range h.objs.size).filter fun a=>(H a).isSome
noncomputable def hidT (h:Heap) (H:Hp):Heap:=PySem.W.hideAll h (trk h H)
theorem hidT_size (h:Heap) (H:Hp):(hidT h H).objs.size=h.objs.size:=PySem.W.hideAll_size _ _
theorem hidT_get {h:Heap} {H:Hp} {b:Addr} {o:Obj} (e:h.get? b=some o) (n:H b=none):(hidT h H).get? b=some o :=
  PySem.W.hideAll_get _ e fun hm=>by
    have q:(H b).isSome=true:=(List.mem_filter.mp hm).2
    rw [n] at q;simp at q
theorem of_hidT {h:Heap} {H:Hp} {b:Addr} {o:Obj} (e:(hidT h H).get? b=some o):h.get? b=some o∧H b=none:=by
  have e':h.get? b=some o:=PySem.W.of_hideAll (trk h H) e
  refine ⟨e',?_⟩
  cases q:H b with
  | none=>rfl
  | some x =>
    have hm:b∈trk h H:=List.mem_filter.mpr ⟨List.mem_range.mpr (Heap.lt_size e'),by simp [q]⟩
    have z:(hidT h H).get? b=none:=PySem.W.hideAll_none (trk h H) hm
    rw [z] at e;cases e

end L2

namespace L2
open PySem PySem.Spec PyProof.Rows

structure Mod (K:PySem.W.Frag) (mg:Str→Option Value) (base:Heap):Prop where
  kin:K.In base
  glob:base.Ns mainGlobals mg
  blt:∃ mb,base.Ns builtinsNs mb∧∀ x:Str,x ≠ "__name__" → mb x=bootBuiltins x
  nolimit:base.NoLimit

structure Cx where
  prog:Program
  w:World
  K:PySem.W.Frag
  mg:Str→Option Value
  base:Heap
  A:Around
  N:List Str
  s₀ : Shared
  H₀ : Hp
  env:Env
  outer:List Env
  stack:List Env
  ex:List Addr
  fn:Str→Bool
  calm:Bool
  pn:List (Addr × Obj)
  xe:Value→Shared→Prop
noncomputable def frs (l:List Env):List Addr:=l.filterMap (·.frame)
noncomputable abbrev Cx.fs (X:Cx):List Addr:=frs X.outer

noncomputable def Vis (sc:Scope) (x:Str):Prop:=sc.names.lookup x=some .local∨sc.names.lookup x=some .cell∨sc.names.lookup x=some .free
noncomputable def Loc (sc:Scope) (x:Str):Prop:=sc.names.lookup x=some .local∨sc.names.lookup x=some .cell
noncomputable def Look (env:Env) (h:Heap) (m:Str→Option Value) (x:Str) (u:Value):Prop :=
  (env.kindOf x=some .local∧m x=some u)∨((env.kindOf x=some .cell∨env.kindOf x=some .free)∧∃ c,env.cells.lookup x=some c∧h.IsCell c (some u))

structure Cx.Ok (X:Cx):Prop where
  mod:Mod X.K X.mg X.base
  kind:X.env.scope.kind = .function
  glob:X.env.globals=mainGlobals
  blt:X.env.builtins=builtinsNs
  above:X.s₀.heap.objs.size≤X.env.locals
  inj:∀ x y c,X.env.cells.lookup x=some c→X.env.cells.lookup y=some c→x=y
  has:∀ x,(X.env.kindOf x=some .cell∨X.env.kindOf x=some .free)→∃ c,X.env.cells.lookup x=some c
  cab:∀ x c,X.fn x=true→X.env.cells.lookup x=some c→X.s₀.heap.objs.size≤c
  hd:X.calm=true→X.A.handled=none
  frames:X.A.frames=some X.stack
  stk:X.stack=X.outer∨(X.stack=X.env :: X.outer∧X.env.frame=some X.env.locals)
  exf:∀ b∈X.ex,b≠X.env.locals∧∀ x c,X.env.cells.lookup x=some c→c≠b
  bs:∀ b o,X.base.get? b=some o→X.s₀.heap.get? b=some o∧X.H₀ b=none
  bsz:X.base.objs.size≤X.s₀.heap.objs.size
  noex:∀ b o,X.base.get? b=some o→b ∉ X.ex
  exfs:∀ b∈X.ex,b ∉ X.fs
  funs:X.s₀.heap.FunFrames X.base X.outer
  frf:∀ b∈X.fs,X.H₀ b=none

structure Inv (X:Cx) (pins:List (Addr × Obj)) (σ : List (Option V)) (H:Hp) (s:Shared):Prop where
  ok:X.Ok
  os:s.os=X.s₀.os
  bare:AllBare s.gens
  base:Un X.fs X.ex X.H₀ H X.s₀.heap s.heap
  loc:∃ m,s.heap.Ns X.env.locals m∧∀ (i:Nat) (x:Str) (v:V),X.N[i]? = some x → σ[i]? = some (some v)→Vis X.env.scope x→∃ u,RelV v u∧Look X.env s.heap m x u
  cell:∀ x c,X.env.cells.lookup x=some c→∃ v,s.heap.IsCell c v
  free:H X.env.locals=none
  freeC:∀ x c,X.env.cells.lookup x=some c→H c=none
  pin:∀ p∈X.pn ++ pins,s.heap.get? p.1=some p.2∧H p.1=none∧p.1≠X.env.locals∧p.1 ∉ X.fs∧∀ v,p.2.data ≠ .cell v
  hok:HOk X.prog X.w H s.heap
  len : σ.length=X.N.length

section
variable {X:Cx} {pins:List (Addr × Obj)} {σ : List (Option V)} {H H':Hp} {s:Shared} {h':Heap}

theorem Cx.Ok.nofr (ok:X.Ok) {b:Addr} {o:Obj} (e:X.base.get? b=some o):b ∉ X.fs:=fun hb=>by
  have:=(ok.funs.mem hb).1
  rw [e] at this;cases this
theorem Inv.bs (I:Inv X pins σ H s):∀ b o,X.base.get? b=some o→s.heap.get? b=some o∧H b=none:=fun b o e =>
  ⟨I.base.keep b o (I.ok.bs b o e).1 (I.ok.bs b o e).2 (I.ok.nofr e) (I.ok.noex b o e),I.base.free b o (I.ok.bs b o e).1 (I.ok.bs b o e).2 (I.ok.noex b o e)⟩
theorem Inv.bk (I:Inv X pins σ H s):∀ b o,X.base.get? b=some o→s.heap.get? b=some o:=fun b o e=>(I.bs b o e).1
theorem Inv.mod (I:Inv X pins σ H s):Mod X.K X.mg X.base:=I.ok.mod
theorem Inv.kIn (I:Inv X pins σ H s):X.K.In s.heap:=I.ok.mod.kin.keeps I.bk
theorem Inv.lt (I:Inv X pins σ H s):X.env.locals < s.heap.objs.size:=let ⟨_,hn,_⟩:=I.loc;hn.lt
theorem Inv.sz (I:Inv X pins σ H s):X.s₀.heap.objs.size≤s.heap.objs.size:=Nat.le_trans I.ok.above (Nat.le_of_lt I.lt)
theorem Inv.nofs (I:Inv X pins σ H s) {a:Addr} (h:s.heap.objs.size≤a):a ∉ X.fs:=fun hb=>by
  obtain ⟨_,o,ho,_⟩:=I.ok.funs.mem hb
  exact absurd (Nat.lt_of_lt_of_le (Heap.lt_size ho) (Nat.le_trans I.sz h)) (Nat.lt_irrefl _)
theorem Inv.cne (I:Inv X pins σ H s):∀ x c,X.env.cells.lookup x=some c→c≠X.env.locals:=fun x c e z=>by
  obtain ⟨v,o,ho,hd⟩:=I.cell x c e
  obtain ⟨m,⟨o',es,ep,ho',hd',_⟩,_⟩:=I.loc
  rw [z,ho'] at ho;cases ho;rw [hd'] at hd;cases hd
theorem Inv.funs (I:Inv X pins σ H s):s.heap.FunFrames X.base X.outer:=by
  have all:∀ (l:List Env),(∀ b∈frs l,b∈X.fs)→X.s₀.heap.FunFrames X.base l→s.heap.FunFrames X.base l:=by
    intro l
    induction l with
    | nil=>intro _ _;trivial
    | cons env r ih =>
      intro hs hl
      obtain ⟨hk,⟨L,o,hf,hn,ho,hd⟩,hr⟩:=hl
      have hL:L∈X.fs:=hs L (by unfold frs;rw [List.filterMap_cons,hf];exact List.mem_cons_self)
      obtain ⟨sl,e⟩:=I.base.slot L o ho (I.ok.frf L hL) hL fun z=>I.ok.exfs L z hL
      exact ⟨hk,⟨L,_,hf,hn,e,hd⟩,ih (fun b hb=>hs b (by unfold frs;rw [List.filterMap_cons,hf];exact List.mem_cons_of_mem _ hb)) hr⟩
  exact all X.outer (fun _ hb=>hb) I.ok.funs

theorem Inv.stack (I:Inv X pins σ H s):s.heap.FunFrames X.base X.stack:=by
  rcases I.ok.stk with e | ⟨e,hf⟩
  · rw [e];exact I.funs
  · rw [e]
    obtain ⟨m,hn,_⟩:=I.loc
    refine .cons (by rw [I.ok.kind];decide) hf hn ?_ I.funs
    exact Heap.get?_none_of_le (Nat.le_trans I.ok.bsz I.ok.above)
theorem Inv.stkSub (I:Inv X pins σ H s):∀ b∈frs X.stack,b∈X.env.locals :: X.fs:=fun b hb=>by
  rcases I.ok.stk with e | ⟨e,hf⟩
  · rw [e] at hb;exact List.mem_cons_of_mem _ hb
  · rw [e] at hb
    unfold frs at hb
    rw [List.filterMap_cons,hf] at hb
    exact hb
theorem Inv.stkFree (I:Inv X pins σ H s):∀ b∈frs X.stack,H b=none:=fun b hb=>by
  rcases List.mem_cons.mp (I.stkSub b hb) with e | hb
  · rw [e];exact I.free
  · obtain ⟨_,o,ho,_⟩:=I.ok.funs.mem hb
    exact I.base.free b o ho (I.ok.frf b hb) fun z=>I.ok.exfs b z hb

theorem Inv.step {g':Array GenState} {t':Nat} {d':Drawn} {ch:List Addr} (I:Inv X pins σ H s)
    (hch:∀ b∈ch,(b∈X.ex∨X.s₀.heap.objs.size≤b)∧b≠X.env.locals∧(∀ x c,X.env.cells.lookup x=some c→c≠b)∧∀ p∈X.pn ++ pins,p.1≠b)
    (keep:∀ b o,b≠X.env.locals→b ∉ X.fs→b ∉ ch→s.heap.get? b=some o→H b=none→h'.get? b=some o)
    (slot:∀ b o,b≠X.env.locals→b∈X.fs→b ∉ ch→s.heap.get? b=some o→H b=none→∃ sl,h'.get? b=some { o with slots:=sl }) (free:∀ b o,b ∉ ch→s.heap.get? b=some o→H b=none→H' b=none)
    (there:∀ b o,b ∉ ch→s.heap.get? b=some o→∃ o',h'.get? b=some o')
    (tups:∀ b xs,H b=some (.tup xs)→H' b=some (.tup xs)) (frzs:∀ b o u,H b=some (.frz o u)→H' b=some (.frz o u)) (tbls:∀ b ps,H b=some (.tbl ps)→∃ more,H' b=some (.tbl (ps ++ more)))
    (ns:∀ m,s.heap.Ns X.env.locals m→h'.Ns X.env.locals m) (hok:HOk X.prog X.w H' h') (hg:AllBare g') :
    Inv X pins σ H' { s with heap:=h',gens:=g',drawn:=d',toks:=t' }:=by
  have neL:∀ b o,X.s₀.heap.get? b=some o→b≠X.env.locals:=fun b o e=>Nat.ne_of_lt (Nat.lt_of_lt_of_le (Heap.lt_size e) I.ok.above)
  have neC:∀ b o,X.s₀.heap.get? b=some o→b ∉ X.ex→b ∉ ch:=fun b o e hx hb=>by
    rcases (hch b hb).1 with z | z
    · exact hx z
    · exact absurd (Nat.lt_of_lt_of_le (Heap.lt_size e) z) (Nat.lt_irrefl _)
  have cellK:∀ x c,X.env.cells.lookup x=some c→∀ v,s.heap.IsCell c v→h'.IsCell c v:=fun x c e v ⟨o,ho,hd⟩=>by
    have nch:c ∉ ch:=fun z=>(hch c z).2.2.1 x c e rfl
    by_cases hc:c∈X.fs
    · obtain ⟨sl,q⟩:=slot c o (I.cne x c e) hc nch ho (I.freeC x c e)
      exact ⟨_,q,hd⟩
    · exact ⟨o,keep c o (I.cne x c e) hc nch ho (I.freeC x c e),hd⟩
  refine ⟨I.ok,I.os,hg,⟨fun b o e n hb hx => ?_,fun b o e n hb hx => ?_,fun b o e n hx => ?_,fun b o e hx => ?_,fun b xs e=>tups b xs (I.base.tups b xs e),fun b o xs e=>frzs b o xs (I.base.frzs b o xs e),fun b ps e => ?_⟩,?_,fun x c e => ?_,?_,fun x c e => ?_,fun p hp => ?_,hok,I.len⟩
  · exact keep b o (neL b o e) hb (neC b o e hx) (I.base.keep b o e n hb hx) (I.base.free b o e n hx)
  · obtain ⟨sl,e1⟩:=I.base.slot b o e n hb hx
    obtain ⟨sl',e2⟩:=slot b _ (neL b o e) hb (neC b o e hx) e1 (I.base.free b o e n hx)
    exact ⟨sl',e2⟩
  · obtain ⟨o',e1⟩:=I.base.there b o e hx
    exact free b o' (neC b o e hx) e1 (I.base.free b o e n hx)
  · obtain ⟨o',e1⟩:=I.base.there b o e hx
    exact there b o' (neC b o e hx) e1
  · obtain ⟨m1,e1⟩:=I.base.tbls b ps e
    obtain ⟨m2,e2⟩:=tbls b _ e1
    exact ⟨m1 ++ m2,by rw [e2,Array.append_assoc]⟩
  · obtain ⟨m,hn,hl⟩:=I.loc
    refine ⟨m,ns m hn,fun i x v e1 e2 e3 => ?_⟩
    obtain ⟨u,r,l⟩:=hl i x v e1 e2 e3
    refine ⟨u,r,?_⟩
    rcases l with l | ⟨k,c,e,z⟩
    · exact .inl l
    · exact .inr ⟨k,c,e,cellK x c e _ z⟩
  · obtain ⟨v,z⟩:=I.cell x c e
    exact ⟨v,cellK x c e v z⟩
  · obtain ⟨m,⟨o,_,_,ho,_⟩,_⟩:=I.loc
    exact free _ o (fun z=>(hch _ z).2.1 rfl) ho I.free
  · obtain ⟨v,o,ho,hd⟩:=I.cell x c e
    exact free c o (fun z=>(hch c z).2.2.1 x c e rfl) ho (I.freeC x c e)
  · obtain ⟨e,n,ne,nf,d⟩:=I.pin p hp
    have nch:p.1 ∉ ch:=fun z=>(hch p.1 z).2.2.2 p hp rfl
    exact ⟨keep p.1 p.2 ne nf nch e n,free p.1 p.2 nch e n,ne,nf,d⟩
theorem Inv.un {t':Nat} (I:Inv X pins σ H s) (u:Un X.fs [] H H' s.heap h') (hok:HOk X.prog X.w H' h'):Inv X pins σ H' { s with heap:=h',toks:=t' }:=by
  obtain ⟨m,⟨o,es,ep,ho,r⟩,_⟩:=id I.loc
  obtain ⟨sl,hL⟩:=u.any ho I.free (by simp)
  exact I.step (g':=s.gens) (d':=s.drawn) (ch := []) (fun _ z=>nomatch z) (fun b o _ hb _ e n=>u.keep b o e n hb (by simp)) (fun b o _ hb _ e n=>u.slot b o e n hb (by simp)) (fun b o _ e n=>u.free b o e n (by simp)) (fun b o _ e=>u.there b o e (by simp)) u.tups u.frzs u.tbls (fun m' hm=>by
    obtain ⟨o',es',ep',ho',r'⟩:=hm
    rw [ho] at ho';cases ho'
    exact ⟨_,es',ep',hL,r'⟩) hok I.bare
theorem Inv.call {g':Array GenState} {t':Nat} {d':Drawn} {ch:List Addr} (I:Inv X pins σ H s) (u:Un (frs X.stack) ch H H' s.heap h') (hok:HOk X.prog X.w H' h') (hg:AllBare g')
    (hch:∀ b∈ch,(b∈X.ex∨X.s₀.heap.objs.size≤b)∧b≠X.env.locals∧(∀ x c,X.env.cells.lookup x=some c→c≠b)∧∀ p∈X.pn ++ pins,p.1≠b) :
    Inv X pins σ H' { s with heap:=h',gens:=g',drawn:=d',toks:=t' }:=by
  obtain ⟨m,⟨o,es,ep,ho,r⟩,_⟩:=id I.loc
  obtain ⟨sl,hL⟩:=u.any ho I.free fun z=>(hch _ z).2.1 rfl
  exact I.step (ch:=ch) hch (fun b o hL hb hc e n=>u.keep b o e n (fun z=>(List.mem_cons.mp (I.stkSub b z)).elim hL hb) hc) (fun b o _ _ hc e n=>u.any e n hc) (fun b o hc e n=>u.free b o e n hc) (fun b o hc e=>u.there b o e hc) u.tups u.frzs u.tbls (fun m' hm=>by
    obtain ⟨o',es',ep',ho',r'⟩:=hm
    rw [ho] at ho';cases ho'
    exact ⟨_,es',ep',hL,r'⟩) hok hg
theorem Inv.turned {t':Nat} {it:Addr} (I:Inv X pins σ H s) (k:∀ b o,b≠it→s.heap.get? b=some o→h'.get? b=some o) (hn:H it=none) (hL:it≠X.env.locals)
    (h1:it∈X.ex∨X.s₀.heap.objs.size≤it) (h2:∀ x c,X.env.cells.lookup x=some c→c≠it) (h3:∀ p∈X.pn ++ pins,p.1≠it):Inv X pins σ H { s with heap:=h',toks:=t' }:=by
  have nit:∀ b u,H b=some u→b≠it:=fun b u e z=>by rw [z,hn] at e;cases e
  refine I.step (g':=s.gens) (d':=s.drawn) (ch := [it]) (fun b hb => ?_) (fun b o _ _ hc e _=>k b o (fun z=>hc (by simp [z])) e) (fun b o _ _ hc e _=>⟨o.slots,k b o (fun z=>hc (by simp [z])) e⟩) (fun _ _ _ _ n=>n)
    (fun b o hc e=>⟨o,k b o (fun z=>hc (by simp [z])) e⟩) (fun _ _ e=>e) (fun _ _ _ e=>e) (fun b ps e=>⟨#[],by rw [e];simp⟩) (fun m hm => ?_) (fun b u e => ?_) I.bare
  · have e:b=it:=by simpa using hb
    subst e
    exact ⟨h1,hL,h2,h3⟩
  · obtain ⟨o,es,ep,ho,r⟩:=hm
    exact ⟨o,es,ep,k _ o (Ne.symm hL) ho,r⟩
  · refine (I.hok b u e).stay (fun c v hc q=>k c v ?_ q) (fun _ q=>q) fun _ _ q=>q
    rcases hc with z | z
    · rw [z];exact nit b u e
    · exact nit c _ z
theorem Inv.tok (I:Inv X pins σ H s) (t:Nat):Inv X pins σ H { s with toks:=t }:=I.un (h':=s.heap) (t':=t) Un.refl I.hok
theorem Inv.kept {t':Nat} (I:Inv X pins σ H s) (k:∀ b u,s.heap.get? b=some u→h'.get? b=some u):Inv X pins σ H { s with heap:=h',toks:=t' }:=I.un (Un.kept k) (I.hok.kept k)
theorem Inv.laid {a:Addr} {o:HO} {t':Nat} (I:Inv X pins σ H s) (k:∀ b u,s.heap.get? b=some u→h'.get? b=some u) (hp:s.heap.objs.size≤a) (new:ObjOk X.prog X.w (upd H a o) h' a o) :
    Inv X pins σ (upd H a o) { s with heap:=h',toks:=t' }:=I.un (Un.laid k hp (I.hok.fresh hp)) (I.hok.laid k hp new)
theorem Inv.write {x e:Addr} {o:HO} {t':Nat} (I:Inv X pins σ H s) (mu:Mut (H x)) (he:e=x∨H e=some (.own x)) (k:∀ b u,b≠e→s.heap.get? b=some u→h'.get? b=some u) (heo:∃ u,h'.get? e=some u)
    (new:ObjOk X.prog X.w (upd H x o) h' x o):Inv X pins σ (upd H x o) { s with heap:=h',toks:=t' }:=I.un (Un.write mu he k heo) (I.hok.write mu he k heo new)
theorem Inv.pins_of {pins':List (Addr × Obj)} (I:Inv X pins σ H s) (h:∀ p∈pins',s.heap.get? p.1=some p.2∧H p.1=none∧p.1≠X.env.locals∧p.1 ∉ X.fs∧∀ v,p.2.data ≠ .cell v):Inv X pins' σ H s :=
  ⟨I.ok,I.os,I.bare,I.base,I.loc,I.cell,I.free,I.freeC,fun p hp=>(List.mem_append.mp hp).elim (fun z=>I.pin p (List.mem_append_left _ z)) (h p),I.hok,I.len⟩

theorem nodup_ix {N:List Str} (hN:N.Nodup) {i j:Nat} {x:Str} (a:N[i]? = some x) (b:N[j]? = some x):i=j:=by
  obtain ⟨h1,e1⟩:=List.getElem?_eq_some_iff.mp a
  obtain ⟨h2,e2⟩:=List.getElem?_eq_some_iff.mp b
  exact (List.getElem_inj hN).mp (e1.trans e2.symm)

theorem store_ok2 {M:Model} {A:Around} {E:Value→Shared→Prop} {i:Nat} {x:Str} {v:V} {u:Value} {Q:Unit→Shared→Prop} (I:Inv X pins σ H s) (hN:X.N.Nodup) (hi:X.N[i]? = some x) (hx:Loc X.env.scope x) (r:RelV v u)
    (h:∀ s',Inv X pins (σ.set i (some v)) H s'→(∃ a,Heap.SameBut a s.heap s'.heap∧(a=X.env.locals∨X.env.cells.lookup x=some a))→Q () s') (hf:X.fn x=true∨X.env.scope.names.lookup x=some .local:=by first | exact .inl rfl | exact .inr rfl | assumption):wpAny M A (storeName X.env x u) Q E s:=by
  obtain ⟨m,hn,hl⟩:=id I.loc
  have hcls:(X.env.scope.kind == .class || (X.env.scope.kind == .module && X.env.locals != X.env.globals))=false:=by rw [I.ok.kind];rfl
  have hiσ : i < σ.length:=by rw [I.len];exact (List.getElem?_eq_some_iff.mp hi).1
  have cne:=I.cne
  have tracked:∀ {a:Addr} {h':Heap},(∃ o,s.heap.get? a=some o∧H a=none)→Heap.SameBut a s.heap h'→HOk X.prog X.w H h':=fun {a h'} ha hs b ob e=>by
    obtain ⟨_,_,hfree⟩:=ha
    refine (I.hok b ob e).stay (fun c w' hc q=>(hs.2 c ?_).trans q) (fun _ q=>q) fun _ _ q=>q
    rintro rfl
    rcases hc with rfl | hc
    · rw [hfree] at e;cases e
    · rw [hfree] at hc;cases hc
  rcases hx with hk | hk
  · refine wpAny_storeName_local hk hn (fun h' hn' hs => ?_) hcls
    obtain ⟨oL,_,_,hoL,_⟩:=id hn
    refine h _ ⟨I.ok,I.os,I.bare,⟨fun b o e n hb hx => ?_,fun b o e n hb hx => ?_,I.base.free,fun b o e hx => ?_,I.base.tups,I.base.frzs,I.base.tbls⟩,⟨_,hn',fun j y v' e1 e2 e3 => ?_⟩,fun y c e => ?_,I.free,I.freeC,fun p hp => ?_,tracked ⟨oL,hoL,I.free⟩ hs,by simpa using I.len⟩ ⟨_,hs,.inl rfl⟩
    · exact (hs.2 b (Nat.ne_of_lt (Nat.lt_of_lt_of_le (Heap.lt_size e) I.ok.above))).trans (I.base.keep b o e n hb hx)
    · obtain ⟨sl,e1⟩:=I.base.slot b o e n hb hx
      exact ⟨sl,(hs.2 b (Nat.ne_of_lt (Nat.lt_of_lt_of_le (Heap.lt_size e) I.ok.above))).trans e1⟩
    · obtain ⟨o',e1⟩:=I.base.there b o e hx
      exact ⟨o',(hs.2 b (Nat.ne_of_lt (Nat.lt_of_lt_of_le (Heap.lt_size e) I.ok.above))).trans e1⟩
    · by_cases hj:j=i
      · subst hj
        rw [hi] at e1;cases e1
        rw [List.getElem?_set_self hiσ] at e2
        cases e2
        exact ⟨u,r,.inl ⟨hk,by simp⟩⟩
      · rw [List.getElem?_set_ne (Ne.symm hj)] at e2
        obtain ⟨u',r',q⟩:=hl j y v' e1 e2 e3
        refine ⟨u',r',?_⟩
        rcases q with ⟨k,e⟩ | ⟨k,c,e,z⟩
        · refine .inl ⟨k,?_⟩
          have:y≠x:=fun e=>hj (nodup_ix hN e1 (e ▸ hi))
          simp [this,e]
        · exact .inr ⟨k,c,e,z.sameBut hs (cne y c e)⟩
    · obtain ⟨w',z⟩:=I.cell y c e
      exact ⟨w',z.sameBut hs (cne y c e)⟩
    · obtain ⟨e,n,ne,nf,d⟩:=I.pin p hp
      exact ⟨(hs.2 p.1 ne).trans e,n,ne,nf,d⟩
  · have hfn:X.fn x=true:=by
      rcases hf with z | z
      · exact z
      · rw [z] at hk;cases hk
    obtain ⟨c,hc⟩:=I.ok.has x (.inl hk)
    obtain ⟨w',z⟩:=I.cell x c hc
    refine wpAny_storeName_cell I.ok.kind hk hc z (fun h' hc' hs => ?_)
    obtain ⟨oc,hoc,hocd⟩:=id z
    refine h { s with heap:=h' } ⟨I.ok,I.os,I.bare,⟨fun b o e n hb hx => ?_,fun b o e n hb hx => ?_,I.base.free,fun b o e hx => ?_,I.base.tups,I.base.frzs,I.base.tbls⟩,⟨m,hn.sameBut hs (Ne.symm (cne x c hc)),fun j y v' e1 e2 e3 => ?_⟩,fun y c' e => ?_,I.free,I.freeC,fun p hp => ?_,tracked ⟨oc,hoc,I.freeC x c hc⟩ hs,by simpa using I.len⟩ ⟨c,hs,.inr hc⟩
    · exact (hs.2 b (Nat.ne_of_lt (Nat.lt_of_lt_of_le (Heap.lt_size e) (I.ok.cab x c hfn hc)))).trans (I.base.keep b o e n hb hx)
    · obtain ⟨sl,e1⟩:=I.base.slot b o e n hb hx
      exact ⟨sl,(hs.2 b (Nat.ne_of_lt (Nat.lt_of_lt_of_le (Heap.lt_size e) (I.ok.cab x c hfn hc)))).trans e1⟩
    · obtain ⟨o',e1⟩:=I.base.there b o e hx
      exact ⟨o',(hs.2 b (Nat.ne_of_lt (Nat.lt_of_lt_of_le (Heap.lt_size e) (I.ok.cab x c hfn hc)))).trans e1⟩
    · by_cases hj:j=i
      · subst hj
        rw [hi] at e1;cases e1
        rw [List.getElem?_set_self hiσ] at e2
        cases e2
        exact ⟨u,r,.inr ⟨.inl hk,c,hc,hc'⟩⟩
      · rw [List.getElem?_set_ne (Ne.symm hj)] at e2
        obtain ⟨u',r',q⟩:=hl j y v' e1 e2 e3
        refine ⟨u',r',?_⟩
        rcases q with q | ⟨k,c',e,z'⟩
        · exact .inl q
        · refine .inr ⟨k,c',e,z'.sameBut hs ?_⟩
          rintro rfl
          exact hj (nodup_ix hN e1 (I.ok.inj _ _ _ e hc ▸ hi))
    · by_cases hcc:c'=c
      · subst hcc;exact ⟨_,hc'⟩
      · obtain ⟨w2,z2⟩:=I.cell y c' e
        exact ⟨w2,z2.sameBut hs hcc⟩
    · obtain ⟨e,n,ne,nf,d⟩:=I.pin p hp
      refine ⟨(hs.2 p.1 ?_).trans e,n,ne,nf,d⟩
      intro q
      rw [q,hoc] at e
      have q':oc=p.2:=Option.some.inj e
      exact d w' (by rw [← q'];exact hocd)
theorem store_ok {M:Model} {A:Around} {E:Value→Shared→Prop} {i:Nat} {x:Str} {v:V} {u:Value} {Q:Unit→Shared→Prop} (I:Inv X pins σ H s) (hN:X.N.Nodup) (hi:X.N[i]? = some x) (hx:Loc X.env.scope x) (r:RelV v u)
    (h:∀ s',Inv X pins (σ.set i (some v)) H s'→Q () s') (hf:X.fn x=true∨X.env.scope.names.lookup x=some .local:=by first | exact .inl rfl | exact .inr rfl | assumption):wpAny M A (storeName X.env x u) Q E s :=
  store_ok2 I hN hi hx r (fun s' I' _=>h s' I') hf
theorem Inv.call' {s':Shared} {ch:List Addr} (I:Inv X pins σ H s) (ho:s'.os=s.os) (u:Un (frs X.stack) ch H H' s.heap s'.heap) (hok:HOk X.prog X.w H' s'.heap) (hg:AllBare s'.gens)
    (hch:∀ b∈ch,(b∈X.ex∨X.s₀.heap.objs.size≤b)∧b≠X.env.locals∧(∀ x c,X.env.cells.lookup x=some c→c≠b)∧∀ p∈X.pn ++ pins,p.1≠b):Inv X pins σ H' s':=by
  obtain ⟨h',g',d',t',o'⟩:=s'
  have e:o'=s.os:=ho
  subst e
  exact I.call (g':=g') (t':=t') (d':=d') u hok hg hch
end

noncomputable abbrev XK:=Value→Option Addr→Hp→Prop
noncomputable abbrev St:=List (Option V)
noncomputable abbrev VK:=V→Hp→Prop
noncomputable abbrev TE:=St→Hp→VK→Prop
noncomputable abbrev TT:=St→Hp→(Bool→Hp→Prop)→Prop
noncomputable abbrev TA:=St→Hp→(List V→Hp→Prop)→Prop
structure Ends where
  nx:St→Hp→Prop
  rt:VK
  bk:St→Hp→Prop:=fun _ _=>False
  ct:St→Hp→Prop:=fun _ _=>False
noncomputable abbrev TS:=Ends→St→Hp→Prop

noncomputable def EP (X:Cx) (pins:List (Addr × Obj)) (σ : St) (Q:VK) (u:Value) (s':Shared):Prop := ∃ v H',Inv X pins σ H' s'∧RelV v u∧Q v H'
noncomputable def TP (X:Cx) (pins:List (Addr × Obj)) (σ : St) (Q:Bool→Hp→Prop) (b:Bool) (s':Shared):Prop := ∃ H',Inv X pins σ H' s'∧Q b H'
noncomputable def AP (X:Cx) (pins:List (Addr × Obj)) (σ : St) (Q:List V→Hp→Prop) (us:List Value) (s':Shared):Prop := ∃ vs H',Inv X pins σ H' s'∧Vals vs us∧Q vs H'
noncomputable def SP (X:Cx) (pins:List (Addr × Obj)) (D:Ends) (f:Flow) (s':Shared):Prop :=
  match f with
  | .next=>∃ σ' H',Inv X pins σ' H' s'∧D.nx σ' H'
  | .brk=>∃ σ' H',Inv X pins σ' H' s'∧D.bk σ' H'
  | .cont=>∃ σ' H',Inv X pins σ' H' s'∧D.ct σ' H'
  | .ret u=>∃ v σ' H',Inv X pins σ' H' s'∧RelV v u∧D.rt v H'

noncomputable def PE (X:Cx) (e:Expr) (t:TE):Prop :=
  ∀ (pins:List (Addr × Obj)) (s:Shared) (σ : St) (H:Hp) (Q:VK),Inv X pins σ H s→t σ H Q→wpAny (model X.prog X.w) X.A (eval e X.env) (EP X pins σ Q) X.xe s
noncomputable def PT (X:Cx) (e:Expr) (t:TT):Prop :=
  ∀ (pins:List (Addr × Obj)) (s:Shared) (σ : St) (H:Hp) (Q:Bool→Hp→Prop),Inv X pins σ H s→t σ H Q→wpAny (model X.prog X.w) X.A (isTrue e X.env (eval e X.env)) (TP X pins σ Q) X.xe s
noncomputable def PW (X:Cx) (e:Expr) (t:TT):Prop :=
  ∀ (whole:Sem Value) (pins:List (Addr × Obj)) (s:Shared) (σ : St) (H:Hp) (Q:Bool→Hp→Prop),Inv X pins σ H s→t σ H Q→wpAny (model X.prog X.w) X.A (isTrue e X.env whole) (TP X pins σ Q) X.xe s
theorem PW.pt {X:Cx} {e:Expr} {t:TT} (h:PW X e t):PT X e t:=h _
noncomputable def PA (X:Cx) (es:List Expr) (t:TA):Prop :=
  ∀ (pos:Pos) (pins:List (Addr × Obj)) (s:Shared) (σ : St) (H:Hp) (Q:List V→Hp→Prop),Inv X pins σ H s→t σ H Q→wpAny (model X.prog X.w) X.A (spliced (backTo pos (starEach es X.env))) (AP X pins σ Q) X.xe s
noncomputable def PS (X:Cx) (st:Stmt) (t:TS):Prop :=
  ∀ (pins:List (Addr × Obj)) (s:Shared) (σ : St) (H:Hp) (D:Ends),Inv X pins σ H s→t D σ H→wpAny (model X.prog X.w) X.A (exec st X.env) (SP X pins D) X.xe s
noncomputable def PSs (X:Cx) (st:List Stmt) (t:TS):Prop :=
  ∀ (pins:List (Addr × Obj)) (s:Shared) (σ : St) (H:Hp) (D:Ends),Inv X pins σ H s→t D σ H→wpAny (model X.prog X.w) X.A (execs st X.env) (SP X pins D) X.xe s
theorem thn {α : Type} {t:Sem α} {Q Q' : α → Shared→Prop} {M:Model} {A:Around} {E:Value→Shared→Prop} {s:Shared} (h:wpAny M A t Q E s) (hQ:∀ a s,Q a s→Q' a s):wpAny M A t Q' E s:=wpAny_mono h hQ fun _ _ x=>x
end L2

namespace L2
open PySem PySem.Spec PyProof.Rows
section
variable {X:Cx}


inductive TVar (i:Nat) (σ : St) (H:Hp) (Q:VK):Prop
  | mk (v:V) (e : σ[i]? = some (some v)) (q:Q v H):TVar i σ H Q
noncomputable def tVar (i:Nat):TE:=fun σ H Q=>TVar i σ H Q
noncomputable def tC (v:V):TE:=fun _ H Q=>Q v H
theorem pe_var {i:Nat} {x:Str} {pos:Pos} (hN:X.N[i]? = some x) (hv:Vis X.env.scope x) (hd:(x == ("__debug__" : Str))=false:=by decide) (hcd:(x == ("__classdict__" : Str))=false:=by decide):PE X (.Name x pos) (tVar i):=by
  intro pins s σ H Q I h
  obtain ⟨v,e,h⟩:=h
  obtain ⟨m,hn,hl⟩:=I.loc
  obtain ⟨u,r,l⟩:=hl i x v hN e hv
  have fin:EP X pins σ Q u s:=⟨v,H,I,r,h⟩
  rcases l with ⟨hk,hm⟩ | ⟨hk,c,hc,hcell⟩
  · exact wpAny_Name (wpAny_loadName_local I.ok.kind hk hn hm fin) hd
  · rcases hk with hk | hk
    · exact wpAny_Name (wpAny_loadName_cell I.ok.kind hk hc hcell fin) hd
    · exact wpAny_Name (wpAny_loadName_free I.ok.kind hk hc hcell fin hcd) hd
theorem pe_int {i j pos}:PE X (.Constant (.int i) j pos) (tC (.int i)):=fun _ _ _ H _ I h=>wpAny_Constant_int ⟨.int i,H,I.tok _,⟨_,rfl⟩,h⟩
theorem pe_bl {b j pos}:PE X (.Constant (.bool b) j pos) (tC (.bl b)):=fun _ _ _ H _ I h=>Constant_bool ⟨.bl b,H,I,rfl,h⟩
theorem pe_non {j pos}:PE X (.Constant .none j pos) (tC .non):=fun _ _ _ H _ I h=>Constant_none ⟨.non,H,I,rfl,h⟩
theorem pe_str {x j pos}:PE X (.Constant (.str x) j pos) (tC (.str x)):=fun _ _ _ H _ I h=>Calls.Constant_str ⟨.str x,H,I.tok _,⟨_,rfl⟩,h⟩

noncomputable def Gl (X:Cx) (x:Str):Prop:=X.env.kindOf x=some .globalImplicit
theorem ld_glob {E:Value→Shared→Prop} {pins:List (Addr × Obj)} {s:Shared} {σ : St} {H:Hp} {x:Str} {u:Value} {pos:Pos} {Q:Value→Shared→Prop} (I:Inv X pins σ H s) (hg:Gl X x) (hm:X.mg x=some u) (h:Q u s)
    (hd:(x == ("__debug__" : Str))=false:=by decide):wpAny (model X.prog X.w) X.A (eval (.Name x pos) X.env) Q E s :=
  Calls.Name_function_global I.ok.kind hg (Calls.loadGlobal_global (by rw [I.ok.glob];exact I.mod.glob.keeps I.bk) hm h) hd
theorem ld_blt {E:Value→Shared→Prop} {pins:List (Addr × Obj)} {s:Shared} {σ : St} {H:Hp} {x:Str} {u:Value} {pos:Pos} {Q:Value→Shared→Prop} (I:Inv X pins σ H s) (hg:Gl X x) (hm:X.mg x=none) (hv:bootBuiltins x=some u) (h:Q u s)
    (hn:x ≠ "__name__" := by decide) (hd:(x == ("__debug__" : Str))=false:=by decide):wpAny (model X.prog X.w) X.A (eval (.Name x pos) X.env) Q E s:=by
  obtain ⟨mb,h1,h2⟩:=I.mod.blt
  exact Calls.Name_function_global I.ok.kind hg (Calls.loadGlobal_builtin (by rw [I.ok.glob];exact I.mod.glob.keeps I.bk) hm (by rw [I.ok.blt];exact h1.keeps I.bk) ((h2 x hn).trans hv) h) hd
theorem pe_glob {x:Str} {v:V} {u:Value} {pos:Pos} (hg:Gl X x) (hm:X.mg x=some u) (r:RelV v u) (hd:(x == ("__debug__" : Str))=false:=by decide):PE X (.Name x pos) (tC v) :=
  fun _ _ _ H _ I h=>ld_glob I hg hm ⟨v,H,I,r,h⟩ hd
theorem pe_bltn {x:Str} {v:V} {u:Value} {pos:Pos} (hg:Gl X x) (hm:X.mg x=none) (hv:bootBuiltins x=some u) (r:RelV v u) (hn:x ≠ "__name__" := by decide) (hd:(x == ("__debug__" : Str))=false:=by decide):PE X (.Name x pos) (tC v) :=
  fun _ _ _ H _ I h=>ld_blt I hg hm hv ⟨v,H,I,r,h⟩ hn hd

variable {a b:Expr} {ta tb:TE} {pos:Pos}

noncomputable def PC (X:Cx) (op:CmpOp) (a b:Expr) (t:TE):Prop :=
  ∀ (pins:List (Addr × Obj)) (s:Shared) (σ : St) (H:Hp) (Q:VK),Inv X pins σ H s→t σ H Q →
    wpAny (model X.prog X.w) X.A (eval a X.env) (fun v s₁ => wpAny (model X.prog X.w) X.A (eval b X.env) (fun u s₂ => wpAny (model X.prog X.w) X.A (compareOp op v u) (EP X pins σ Q) X.xe s₂) X.xe s₁) X.xe s
inductive J_tB (Q:Bool→Hp→Prop) (x:V) (H1:Hp):Prop
  | mk:∀ c,(x = .bl c)→(Q c H1)→J_tB Q x H1
noncomputable def tB (t:TE):TT:=fun σ H Q=>t σ H fun x H1=>J_tB Q x H1
theorem pt_cmp {op:CmpOp} {t:TE} (h:PC X op a b t) (h1:behindInMarks op b=false:=by first | exact nobehind _ (by decide) (by decide) | rfl):PT X (.Compare a [op] [b] pos) (tB t):=by
  intro pins s σ H Q I hw
  refine wpAny_isTrue_Compare1 (thn (h pins s σ H _ I hw) fun v s1 h1=>thn h1 fun u s2 h2=>thn h2 fun c s3 ⟨x,H1,I1,r1,q1⟩ => ?_) h1
  obtain ⟨d,rfl,q⟩:=q1
  cases r1
  exact wpAny_truthy_bool ⟨H1,I1,q⟩
theorem pt_val {e:Expr} {t:TE} (h:PE X e t) (he:∀ whole,isTrue e X.env whole=(do let v ← whole;standAt e.pos;holding [v] (truthy v)):=by intro _;rfl):PT X e (tB t):=by
  intro pins s σ H Q I hw
  refine isTrue_plain (thn (h pins s σ H _ I hw) fun v s1 ⟨x,H1,I1,r1,q1⟩ => ?_) (he _)
  obtain ⟨d,rfl,q⟩:=q1
  cases r1
  exact wpAny_truthy_bool ⟨H1,I1,q⟩

variable {tA tB':TT} {rest:List Expr}
noncomputable def tAnd (t u:TT):TT:=fun σ H Q=>t σ H fun c H1=>if c=true then u σ H1 Q else Q false H1
noncomputable def tOr (t u:TT):TT:=fun σ H Q=>t σ H fun c H1=>if c=true then Q true H1 else u σ H1 Q
noncomputable def tNot (t:TT):TT:=fun σ H Q=>t σ H fun c H1=>Q (!c) H1
theorem pw_and1 (ha:PT X a tA):PW X (.BoolOp .And [a] pos) tA:=by
  intro wh pins s σ H Q I h
  refine isTrue_and (thn (ha pins s σ H Q I h) fun c s1 e => ?_)
  cases c with
  | true=>exact isTrue_and_nil e
  | false=>exact e
theorem pw_or1 (ha:PT X a tA):PW X (.BoolOp .Or [a] pos) tA:=by
  intro wh pins s σ H Q I h
  refine isTrue_or (thn (ha pins s σ H Q I h) fun c s1 e => ?_)
  cases c with
  | false=>exact isTrue_or_nil e
  | true=>exact e
theorem pw_and (ha:PT X a tA) (hb:PW X (.BoolOp .And (b :: rest) pos) tB'):PW X (.BoolOp .And (a :: b :: rest) pos) (tAnd tA tB'):=by
  intro wh pins s σ H Q I h
  refine isTrue_and (thn (ha pins s σ H _ I h) fun c s1 ⟨H1,I1,q1⟩ => ?_)
  cases c with
  | true=>exact hb wh pins s1 σ H1 Q I1 q1
  | false=>exact ⟨H1,I1,q1⟩
theorem pw_or (ha:PT X a tA) (hb:PW X (.BoolOp .Or (b :: rest) pos) tB'):PW X (.BoolOp .Or (a :: b :: rest) pos) (tOr tA tB'):=by
  intro wh pins s σ H Q I h
  refine isTrue_or (thn (ha pins s σ H _ I h) fun c s1 ⟨H1,I1,q1⟩ => ?_)
  cases c with
  | true=>exact ⟨H1,I1,q1⟩
  | false=>exact hb wh pins s1 σ H1 Q I1 q1
theorem pt_not (ha:PT X a tA):PT X (.UnaryOp .Not a pos) (tNot tA):=by
  intro pins s σ H Q I h
  exact isTrue_not (ha pins s σ H (fun c H1=>Q (!c) H1) I h)
noncomputable def tAndV (ta tb:TE):TE:=fun σ H Q=>ta σ H fun x H1=>∃ c,x = .bl c∧if c=true then tb σ H1 Q else Q (.bl false) H1
noncomputable def tOrV (ta tb:TE):TE:=fun σ H Q=>ta σ H fun x H1=>∃ c,x = .bl c∧if c=true then Q (.bl true) H1 else tb σ H1 Q
inductive J_tNotV (Q:VK) (x:V) (H1:Hp):Prop
  | mk:∀ c,(x = .bl c)→(Q (.bl (!c)) H1)→J_tNotV Q x H1
noncomputable def tNotV (ta:TE):TE:=fun σ H Q=>ta σ H fun x H1=>J_tNotV Q x H1
theorem pe_one {op} {t:TE} (h:PE X a t):PE X (.BoolOp op [a] pos) t:=fun pins s σ H Q I hw=>BoolOp_one (h pins s σ H Q I hw)
theorem pe_and (ha:PE X a ta) (hb:PE X (.BoolOp .And (b :: rest) pos) tb):PE X (.BoolOp .And (a :: b :: rest) pos) (tAndV ta tb):=by
  intro pins s σ H Q I h
  refine BoolOp_and (thn (ha pins s σ H _ I h) fun v s1 ⟨x,H1,I1,r1,q1⟩ => ?_)
  obtain ⟨c,rfl,q1⟩:=q1
  cases r1
  refine wpAny_truthy_bool ?_
  cases c with
  | true=>exact hb pins s1 σ H1 Q I1 q1
  | false=>exact ⟨.bl false,H1,I1,rfl,q1⟩
theorem pe_or (ha:PE X a ta) (hb:PE X (.BoolOp .Or (b :: rest) pos) tb):PE X (.BoolOp .Or (a :: b :: rest) pos) (tOrV ta tb):=by
  intro pins s σ H Q I h
  refine BoolOp_or (thn (ha pins s σ H _ I h) fun v s1 ⟨x,H1,I1,r1,q1⟩ => ?_)
  obtain ⟨c,rfl,q1⟩:=q1
  cases r1
  refine wpAny_truthy_bool ?_
  cases c with
  | false=>exact hb pins s1 σ H1 Q I1 q1
  | true=>exact ⟨.bl true,H1,I1,rfl,q1⟩
theorem pe_not (ha:PE X a ta):PE X (.UnaryOp .Not a pos) (tNotV ta):=by
  intro pins s σ H Q I h
  refine UnaryOp_ (thn (ha pins s σ H _ I h) fun v s1 ⟨x,H1,I1,r1,q1⟩ => ?_)
  obtain ⟨c,rfl,q1⟩:=q1
  cases r1
  exact not_of (wpAny_truthy_bool ⟨.bl (!c),H1,I1,rfl,q1⟩)
noncomputable def tIf (t:TT) (ta tb:TE):TE:=fun σ H Q=>t σ H fun c H1=>if c=true then ta σ H1 Q else tb σ H1 Q
theorem pe_ifExp {c:Expr} (hc:PT X c tA) (ha:PE X a ta) (hb:PE X b tb):PE X (.IfExp c a b pos) (tIf tA ta tb):=by
  intro pins s σ H Q I h
  refine wpAny_IfExp (thn (hc pins s σ H _ I h) fun d s1 ⟨H1,I1,q1⟩ => ?_)
  cases d with
  | true=>exact ha pins s1 σ H1 Q I1 q1
  | false=>exact hb pins s1 σ H1 Q I1 q1
end
end L2

namespace L2
open PySem PySem.Spec PyProof.Rows

noncomputable def SqL (K:PySem.W.Frag) (H:Hp) (a:Addr) (xs:List V):Prop :=
  Rd H a (.lst xs) ∨
    ∃ (o:Obj) (its:Array Value) (n:Nat),K.lookup a=some o∧o.cls = .type "list" ∧ o.dict=none∧o.data = .seq its n∧its.size≤sizeLine∧Vals xs its.toList
noncomputable def SqT (K:PySem.W.Frag) (H:Hp) (a:Addr) (xs:List V):Prop :=
  Rd H a (.tup xs) ∨
    ∃ (o:Obj) (its:Array Value) (n:Nat),K.lookup a=some o∧o.cls = .type "tuple" ∧ o.data = .seq its n∧its.size≤sizeLine∧Vals xs its.toList
noncomputable def absV:Value→Option V
  | .none=>some .non
  | .bool b=>some (.bl b)
  | .int i _=>some (.int i)
  | .str x _=>some (.str x)
  | .bytes b _=>some (.byt b)
  | .float b _=>some (.flt b)
  | .ref a=>some (.ref a)
  | .type n=>some (.ty n)
  | _=>none
theorem RelV.abs {x:V} {u:Value} (r:RelV x u):absV u=some x:=by
  cases x with
  | non=>cases r;rfl
  | bl _=>cases r;rfl
  | int _=>obtain ⟨t,rfl⟩:=r;rfl
  | str _=>obtain ⟨t,rfl⟩:=r;rfl
  | byt _=>obtain ⟨t,rfl⟩:=r;rfl
  | flt _=>obtain ⟨t,rfl⟩:=r;rfl
  | ref _=>cases r;rfl
  | ty _=>cases r;rfl
theorem RelV.inj {x y:V} {u:Value} (r:RelV x u) (q:RelV y u):x=y:=Option.some.inj (r.abs.symm.trans q.abs)
theorem Vals.inj:∀ {xs ys:List V} {us:List Value},Vals xs us→Vals ys us→xs=ys
  | _,_,_,.nil,.nil=>rfl
  | _,_,_,.cons r t,.cons r' t'=>by rw [r.inj r',Vals.inj t t']
section
variable {X:Cx} {pins:List (Addr × Obj)} {σ : St} {H:Hp} {s:Shared} {a:Addr} {xs ys:List V}
theorem SqL.of {K:PySem.W.Frag} (h:H a=some (.lst xs)):SqL K H a xs := .inl (.inl h)
theorem SqT.of {K:PySem.W.Frag} (h:H a=some (.tup xs)):SqT K H a xs := .inl (.inl h)
theorem Inv.list (I:Inv X pins σ H s) (h:SqL X.K H a xs):∃ its:List Value,Vals xs its∧PlainL s.heap a its.toArray∧xs.length≤sizeLine:=by
  rcases h with h | ⟨o,its,n,hk,hc,hd,hs,hz,r⟩
  · obtain ⟨z,its,n,r,e⟩:=h.ok I.hok
    exact ⟨its,r,⟨_,n,e,rfl,rfl,rfl⟩,z⟩
  · refine ⟨its.toList,r,⟨o,n,I.kIn a o hk,hc,hd,by simpa using hs⟩,?_⟩
    have e:=r.length
    simp only [Array.length_toList] at e
    omega
theorem Inv.tuple (I:Inv X pins σ H s) (h:SqT X.K H a xs):∃ its:List Value,Vals xs its∧IsTup s.heap a its.toArray∧xs.length≤sizeLine:=by
  rcases h with h | ⟨o,its,n,hk,hc,hs,hz,r⟩
  · obtain ⟨z,its,r,p⟩:=h.ok I.hok
    exact ⟨its,r,p.tup,z⟩
  · refine ⟨its.toList,r,⟨o,I.kIn a o hk,hc,n,by simpa using hs⟩,?_⟩
    have e:=r.length
    simp only [Array.length_toList] at e
    omega
theorem Inv.list_inj (I:Inv X pins σ H s) (h:SqL X.K H a xs) (h':SqL X.K H a ys):xs=ys:=by
  obtain ⟨its,r,⟨o,n,e,_,_,d⟩,_⟩:=I.list h
  obtain ⟨its',r',⟨o',n',e',_,_,d'⟩,_⟩:=I.list h'
  rw [e] at e';cases e'
  rw [d] at d'
  injection d' with d1 _
  have:its=its':=by simpa using congrArg Array.toList d1
  subst this
  exact r.inj r'
theorem Inv.tuple_inj (I:Inv X pins σ H s) (h:SqT X.K H a xs) (h':SqT X.K H a ys):xs=ys:=by
  obtain ⟨its,r,⟨o,e,_,n,d⟩,_⟩:=I.tuple h
  obtain ⟨its',r',⟨o',e',_,n',d'⟩,_⟩:=I.tuple h'
  rw [e] at e';cases e'
  rw [d] at d'
  injection d' with d1 _
  have:its=its':=by simpa using congrArg Array.toList d1
  subst this
  exact r.inj r'
end

noncomputable abbrev Cx.wish (X:Cx) (E:Value→Shared→Prop):Cx := { X with xe:=E }
noncomputable abbrev Cx.nox (X:Cx):Cx:=X.wish fun _ _=>False
theorem Cx.Ok.wish {X:Cx} (ok:X.Ok) (E:Value→Shared→Prop):(X.wish E).Ok :=
  ⟨ok.mod,ok.kind,ok.glob,ok.blt,ok.above,ok.inj,ok.has,ok.cab,ok.hd,ok.frames,ok.stk,ok.exf,ok.bs,ok.bsz,ok.noex,ok.exfs,ok.funs,ok.frf⟩
theorem Cx.Ok.unwish {X:Cx} {E:Value→Shared→Prop} (ok:(X.wish E).Ok):X.Ok :=
  ⟨ok.mod,ok.kind,ok.glob,ok.blt,ok.above,ok.inj,ok.has,ok.cab,ok.hd,ok.frames,ok.stk,ok.exf,ok.bs,ok.bsz,ok.noex,ok.exfs,ok.funs,ok.frf⟩
section
variable {X:Cx} {pins:List (Addr × Obj)} {σ : St} {H:Hp} {s:Shared} {E:Value→Shared→Prop}
theorem Inv.wish (I:Inv X pins σ H s) (E:Value→Shared→Prop):Inv (X.wish E) pins σ H s:=⟨I.ok.wish E,I.os,I.bare,I.base,I.loc,I.cell,I.free,I.freeC,I.pin,I.hok,I.len⟩
theorem Inv.unwish (I:Inv (X.wish E) pins σ H s):Inv X pins σ H s:=⟨I.ok.unwish,I.os,I.bare,I.base,I.loc,I.cell,I.free,I.freeC,I.pin,I.hok,I.len⟩
theorem SP.unwish {D:Ends} {f:Flow} {s':Shared} (h:SP (X.wish E) pins D f s'):SP X pins D f s':=by
  cases f with
  | next=>obtain ⟨σ',H',I,q⟩:=h;exact ⟨σ',H',I.unwish,q⟩
  | brk=>obtain ⟨σ',H',I,q⟩:=h;exact ⟨σ',H',I.unwish,q⟩
  | cont=>obtain ⟨σ',H',I,q⟩:=h;exact ⟨σ',H',I.unwish,q⟩
  | ret u=>obtain ⟨v, σ',H',I,r,q⟩:=h;exact ⟨v, σ',H',I.unwish,r,q⟩
theorem PSs.nox {st:List Stmt} {t:TS} (h:PSs X.nox st t):PSs X st t:=fun pins s σ H D I hw =>
  wpAny_mono (h pins s σ H D (I.wish _) hw) (fun _ _ q=>q.unwish) fun _ _ z=>False.elim z
end

section
variable {X:Cx} {st:Stmt} {rest:List Stmt} {t u:TS} {e:Expr} {te:TE} {pos:Pos}
noncomputable def tNext:TS:=fun D σ H=>D.nx σ H
noncomputable def tSeq (t u:TS):TS:=fun D σ H=>t { D with nx:=u D } σ H
theorem pss_nil:PSs X [] tNext:=fun _ _ σ H _ I h=>wpAny_execs_nil ⟨σ,H,I,h⟩
theorem pss_cons (h1:PS X st t) (h2:PSs X rest u):PSs X (st :: rest) (tSeq t u):=by
  intro pins s σ H D I h
  refine wpAny_execs_cons (thn (h1 pins s σ H { D with nx:=u D } I h) fun f s1 q => ?_)
  cases f with
  | next =>
    obtain ⟨σ',H',I',q⟩:=q
    exact h2 pins s1 σ' H' D I' q
  | ret v=>exact q
  | brk=>exact q
  | cont=>exact q
theorem pss_one (h1:PS X st t):PSs X [st] t:=by
  intro pins s σ H D I h
  refine wpAny_execs_cons (thn (h1 pins s σ H D I h) fun f s1 q => ?_)
  cases f with
  | next=>exact wpAny_execs_nil q
  | ret v=>exact q
  | brk=>exact q
  | cont=>exact q
theorem ps_pass:PS X (.Pass pos) tNext:=fun _ _ σ H _ I h=>wpAny_Pass ⟨σ,H,I,h⟩
theorem Inv.quiet {pins:List (Addr × Obj)} {σ : St} {H:Hp} {s:Shared} (I:Inv X pins σ H s):interactive X.env=false:=by simp [interactive,I.ok.kind]
noncomputable def tDrop (te:TE):TS:=fun D σ H=>te σ H fun _ H1=>D.nx σ H1
theorem ps_expr (he:PE X e te) (hs:swapsWith e none pos.line X.env=pure false:=by rfl):PS X (.Expr e pos) (tDrop te):=by
  intro pins s σ H D I h
  exact wpAny_Expr_any (thn (he pins s σ H _ I h) fun v s1 ⟨x,H1,I1,r1,q1⟩=>⟨σ,H1,I1,q1⟩) I.quiet hs
noncomputable def tRet (te:TE):TS:=fun D σ H=>te σ H D.rt
theorem ps_ret (he:PE X e te):PS X (.Return (some e) pos) (tRet te):=by
  intro pins s σ H D I h
  exact wpAny_Return_some (thn (he pins s σ H _ I h) fun v s1 ⟨x,H1,I1,r1,q1⟩=>⟨x, σ,H1,I1,r1,q1⟩)
noncomputable def tIfS (c:TT) (t u:TS):TS:=fun D σ H=>c σ H fun b H1=>if b=true then t D σ H1 else u D σ H1
theorem ps_if {c:Expr} {a b:List Stmt} {tc:TT} (hc:PT X c tc) (ha:PSs X a t) (hb:PSs X b u):PS X (.If c a b pos) (tIfS tc t u):=by
  intro pins s σ H D I h
  refine wpAny_If (thn (hc pins s σ H _ I h) fun d s1 ⟨H1,I1,q1⟩ => ?_)
  cases d with
  | true=>exact ha pins s1 σ H1 D I1 q1
  | false=>exact hb pins s1 σ H1 D I1 q1
end

noncomputable abbrev TG:=V→St→Hp→(St→Hp→Prop)→Prop
noncomputable abbrev TGs:=List V→St→Hp→(St→Hp→Prop)→Prop
noncomputable def PG (X:Cx) (target:Expr) (t:TG):Prop :=
  ∀ (pins:List (Addr × Obj)) (s:Shared) (σ : St) (H:Hp) (v:V) (u:Value) (Q:St→Hp→Prop),Inv X pins σ H s→RelV v u→t v σ H Q →
    wpAny (model X.prog X.w) X.A (assign target X.env u) (fun _ s'=>∃ σ' H',Inv X pins σ' H' s'∧Q σ' H') X.xe s
noncomputable def PGs (X:Cx) (ts:List Expr) (t:TGs):Prop :=
  ∀ (pins:List (Addr × Obj)) (s:Shared) (σ : St) (H:Hp) (vs:List V) (us:List Value) (Q:St→Hp→Prop),Inv X pins σ H s→Vals vs us→t vs σ H Q →
    wpAny (model X.prog X.w) X.A (assignInOrder ((assignEach ts X.env).map (·.2)) us) (fun _ s'=>∃ σ' H',Inv X pins σ' H' s'∧Q σ' H') X.xe s
noncomputable abbrev TSet:=V→V→V→Hp→(Hp→Prop)→Prop
noncomputable def PSet (X:Cx) (t:TSet):Prop :=
  ∀ (pins:List (Addr × Obj)) (s:Shared) (σ : St) (H:Hp) (o i v:V) (ov iv u:Value) (Q:Hp→Prop),Inv X pins σ H s→RelV o ov→RelV i iv→RelV v u→t o i v H Q →
    wpAny (model X.prog X.w) X.A (setItem ov iv u) (fun _ s'=>∃ H',Inv X pins σ H' s'∧Q H') X.xe s
section
variable {X:Cx} {pos:Pos}
noncomputable def gName (i:Nat):TG:=fun v σ H Q=>Q (σ.set i (some v)) H
theorem pg_name {i:Nat} {x:Str} (hN:X.N.Nodup) (hi:X.N[i]? = some x) (hx:Loc X.env.scope x) (hf:X.fn x=true∨X.env.scope.names.lookup x=some .local:=by first | exact .inl rfl | exact .inr rfl | assumption):PG X (.Name x pos) (gName i):=by
  intro pins s σ H v u Q I r h
  exact wpAny_assign_Name (store_ok I hN hi hx r (fun s' I'=>⟨_,H,I',h⟩) hf)
noncomputable def gNil:TGs:=fun vs σ H Q=>vs = []∧Q σ H
inductive J_gCons (t:TG) (u:TGs) (vs:List V) (σ : St) (H:Hp) (Q:St→Hp→Prop):Prop
  | mk:∀ v r,(vs=v :: r)→(t v σ H fun σ' H'=>u r σ' H' Q)→J_gCons t u vs σ H Q
noncomputable def gCons (t:TG) (u:TGs):TGs:=fun vs σ H Q=>J_gCons t u vs σ H Q
theorem pgs_nil:PGs X [] gNil:=by
  intro pins s σ H vs us Q I r h
  obtain ⟨e,h⟩:=h
  subst e
  cases r
  exact assignInOrder_nil ⟨σ,H,I,h⟩
theorem pgs_cons {e:Expr} {es:List Expr} {t:TG} {u:TGs} (h1:PG X e t) (h2:PGs X es u)
    (hs:(assignEach (e :: es) X.env).map (·.2)=assign e X.env :: (assignEach es X.env).map (·.2):=by rfl):PGs X (e :: es) (gCons t u):=by
  intro pins s σ H vs us Q I r h
  obtain ⟨v,vr,e1,h⟩:=h
  subst e1
  cases r with
  | cons r rr =>
    rw [hs]
    refine assignInOrder_cons (thn (h1 pins s σ H _ _ _ I r h) fun _ s1 ⟨σ1,H1,I1,q1⟩ => ?_)
    exact h2 pins s1 σ1 H1 _ _ Q I1 rr q1
inductive J_gTup (K:PySem.W.Frag) (n:Nat) (t:TGs) (v:V) (σ : St) (H:Hp) (Q:St→Hp→Prop):Prop
  | mk:∀ a xs,(v = .ref a)→(SqT K H a xs)→(xs.length=n)→(t xs σ H Q)→J_gTup K n t v σ H Q
noncomputable def gTup (K:PySem.W.Frag) (n:Nat) (t:TGs):TG:=fun v σ H Q=>J_gTup K n t v σ H Q
theorem pg_tup {es:List Expr} {k:Nat} {t:TGs} {n:Nat} (hc:X.calm=true) (h:PGs X es t)
    (hn:(assignEach es X.env).length=n:=by rfl) (hst:(assignEach es X.env).findIdx? (·.1)=none:=by rfl):PG X (.Tuple es k pos) (gTup X.K n t):=by
  intro pins s σ H v u Q I r hw
  obtain ⟨a,xs,e1,hq,hl,hw⟩:=hw
  subst e1
  cases r
  obtain ⟨its,rv,ht,hz⟩:=I.tuple hq
  refine assign_Tuple_tuple (I.ok.hd hc) ht (by simp [hn, ← hl,rv.length]) hst fun h' hx => ?_
  have I1:Inv X pins σ H { s with heap:=h' }:=I.kept (t':=s.toks) fun b o e=>hx b o (Nat.ne_of_lt (Heap.lt_size e)) e
  exact h pins _ σ H xs _ Q I1 (by simpa using rv) hw
noncomputable def gSub (to ti:TE) (t:TSet):TG:=fun v σ H Q=>to σ H fun o H1=>ti σ H1 fun i H2=>t o i v H2 fun H3=>Q σ H3
theorem pg_sub {o i:Expr} {to ti:TE} {t:TSet} (ho:PE X o to) (hi:PE X i ti) (hs:PSet X t)
    (ha:∀ v,assign (.Subscript o i pos) X.env v=(do
      let ov ← holding [v] (eval o X.env)
      let iv ← holding [v,ov] (eval i X.env)
      standAt pos
      holding [v,ov,iv] (setItem ov iv v)
      release [v,ov,iv] []):=by intro _;rfl):PG X (.Subscript o i pos) (gSub to ti t):=by
  intro pins s σ H v u Q I r h
  rw [ha]
  refine wpAny_bind (wpAny_holding (thn (ho pins s σ H _ I h) fun ov s1 ⟨x,H1,I1,r1,q1⟩ => ?_))
  refine wpAny_bind (wpAny_holding (thn (hi pins s1 σ H1 _ I1 q1) fun iv s2 ⟨y,H2,I2,r2,q2⟩ => ?_))
  refine wpAny_bind (wpAny_standAt (wpAny_bind (wpAny_holding (thn (hs pins s2 σ H2 x y v ov iv u _ I2 r1 r2 r q2) fun _ s3 ⟨H3,I3,q3⟩ => ?_))))
  exact wpAny_release ⟨σ,H3,I3,q3⟩
noncomputable def tAsg (te:TE) (g:TG):TS:=fun D σ H=>te σ H fun x H1=>g x σ H1 D.nx
theorem ps_asg {tg e:Expr} {te:TE} {g:TG} (he:PE X e te) (hg:PG X tg g) (hs:swapsWithSole [tg] e pos.line X.env=pure false:=by rfl) (hw:swappedStores [tg] e X.env=pure none:=by rfl)
    (h1:(assignEach [tg] X.env).map (·.2) = [assign tg X.env]:=by rfl):PS X (.Assign [tg] e pos) (tAsg te g):=by
  intro pins s σ H D I h
  refine wpAny_Assign_stores (thn (he pins s σ H _ I h) fun v s1 ⟨x,H1,I1,r1,q1⟩ => ?_) hs hw
  rw [h1]
  exact thn (hg pins s1 σ H1 x v _ I1 r1 q1) fun _ s2 q=>q
theorem ps_set {i:Nat} {x:Str} {e:Expr} {te:TE} {pos':Pos} (hN:X.N.Nodup) (hi:X.N[i]? = some x) (hx:Loc X.env.scope x) (he:PE X e te) (hs:swapsWith e (some (.Name x pos')) pos.line X.env=pure false:=by rfl) (hf:X.fn x=true∨X.env.scope.names.lookup x=some .local:=by first | exact .inl rfl | exact .inr rfl | assumption) :
    PS X (.Assign [.Name x pos'] e pos) (tAsg te (gName i)):=by
  intro pins s σ H D I h
  refine wpAny_Assign_Name (thn (he pins s σ H _ I h) fun v s1 ⟨y,H1,I1,r1,q1⟩ => ?_) hs
  exact store_ok I1 hN hi hx r1 (fun s2 I2=>⟨_,H1,I2,q1⟩) hf
end

section
variable {X:Cx} {pos:Pos}
noncomputable def tWhile (c:TT) (tb:TS):TS:=fun D σ H=>∃ W:Nat→St→Hp→Prop,(∃ m,W m σ H)∧∀ m σ H,W m σ H →
  c σ H fun b H1=>if b=true then ∃ N:St→Hp→Prop,(∀ σ' H',N σ' H'→∃ m',m' < m∧W m' σ' H')∧tb { D with nx:=N,ct:=N,bk:=D.nx } σ H1 else D.nx σ H1
theorem ps_while {c:Expr} {body:List Stmt} {tc:TT} {tb:TS} (hp:PassesOwn (model X.prog X.w) X.A X.env X.xe) (hc:PT X c tc) (hb:PSs X body tb):PS X (.While c body [] pos) (tWhile tc tb):=by
  intro pins s σ H D I h
  obtain ⟨W,⟨m0,w0⟩,turn⟩:=h
  refine wpAny_While (codeAny_whileLoop (fun n s'=>∃ σ' H',Inv X pins σ' H' s'∧W n σ' H') ?_ m0 ⟨σ,H,I,w0⟩)
  rintro n s1 ⟨σ1,H1,I1,w1⟩
  refine wpAny_passesOwn hp (thn (hc pins s1 σ1 H1 _ I1 (turn n σ1 H1 w1)) fun b s2 ⟨H2,I2,q2⟩ => ?_)
  cases b with
  | true =>
    obtain ⟨N,hN,q2⟩:=q2
    rw [if_pos rfl]
    refine wpAny_passesOwn hp (thn (hb pins s2 σ1 H2 _ I2 q2) fun f s3 q3 => ?_)
    cases f with
    | next =>
      obtain ⟨σ3,H3,I3,n3⟩:=q3
      obtain ⟨m',hm,w3⟩:=hN σ3 H3 n3
      exact ⟨m',hm, σ3,H3,I3,w3⟩
    | cont =>
      obtain ⟨σ3,H3,I3,n3⟩:=q3
      obtain ⟨m',hm,w3⟩:=hN σ3 H3 n3
      exact ⟨m',hm, σ3,H3,I3,w3⟩
    | brk=>exact q3
    | ret v=>exact q3
  | false =>
    rw [if_neg Bool.false_ne_true]
    exact wpAny_execs_nil ⟨σ1,H2,I2,q2⟩
end

structure It where
  go:Nat→Hp→Prop
  yld:Nat→Hp→V→Hp→Prop
  stop:Nat→Hp→Prop
noncomputable def FpOk (X:Cx) (pins:List (Addr × Obj)) (H:Hp) (b:Addr):Prop :=
  H b=none∧b≠X.env.locals∧b ∉ X.fs∧(b∈X.ex∨X.s₀.heap.objs.size≤b)∧(∀ x c,X.env.cells.lookup x=some c→c≠b)∧∀ p∈X.pn ++ pins,p.1≠b
theorem Inv.fpOk {X:Cx} {pins:List (Addr × Obj)} {σ : St} {H H':Hp} {s:Shared} {b:Addr} (I:Inv X pins σ H s) (hb:s.heap.objs.size≤b) (hn:H' b=none):FpOk X pins H' b:=by
  refine ⟨hn,Nat.ne_of_gt (Nat.lt_of_lt_of_le I.lt hb),I.nofs hb,.inr (Nat.le_trans I.sz hb),fun x c e z => ?_,fun p hp z => ?_⟩
  · obtain ⟨v,q⟩:=I.cell x c e
    exact absurd (Nat.lt_of_lt_of_le q.lt (by rw [z];exact hb)) (Nat.lt_irrefl _)
  · exact absurd (Nat.lt_of_lt_of_le (Heap.lt_size (I.pin p hp).1) (by rw [z];exact hb)) (Nat.lt_irrefl _)
structure Turn (P:Program) (w:World) (K:PySem.W.Frag) (tg:Expr) (J:It) (fp:List Addr) (it:Addr) (tn:Nat→Heap→Prop):Prop where
  mem:it∈fp
  obj:∀ i h,tn i h→∀ b∈fp,∃ o,h.get? b=some o∧∀ v,o.data ≠ .cell v
  keep:∀ i h h',tn i h→(∀ b∈fp,∀ o,h.get? b=some o→h'.get? b=some o)→tn i h'
  item:∀ (X:Cx),X.prog=P→X.w=w→X.K=K→X.calm=true→∀ (i:Nat) (pins:List (Addr × Obj)) (s:Shared) (σ : St) (H:Hp) (E:Value→Shared→Prop),Inv X pins σ H s→(∀ b∈fp,FpOk X pins H b)→tn i s.heap→J.go i H →
    wpAny (model P w) X.A (pyNext (.ref it)) (fun r s1=>∃ u,r=some u ∧
      wpAny (model P w) X.A (letOwnedTupleGo tg (.ref it) u) (fun _ s2=>∃ x H',Inv X pins σ H' s2∧RelV x u∧J.yld i H x H'∧tn (i+1) s2.heap∧∀ b∈fp,H' b=none) E s1) E s
  done:∀ (X:Cx),X.prog=P→X.w=w→X.K=K→X.calm=true→∀ (i:Nat) (pins:List (Addr × Obj)) (s:Shared) (σ : St) (H:Hp) (E:Value→Shared→Prop),Inv X pins σ H s→(∀ b∈fp,FpOk X pins H b)→tn i s.heap→J.stop i H →
    wpAny (model P w) X.A (pyNext (.ref it)) (fun r s1=>r=none∧Inv X pins σ H s1) E s
  self:∀ (A:Around) (i:Nat) (s:Shared) (Q:Value→Shared→Prop) (E:Value→Shared→Prop),tn i s.heap→Q (.ref it) s→wpAny (model P w) A (pyIter (.ref it)) Q E s
noncomputable abbrev TI:=St→Hp→(It→Hp→Prop)→Prop
noncomputable def PIE (X:Cx) (pins:List (Addr × Obj)) (σ : St) (tg:Expr) (R:It→Hp→Prop) (itv:Value) (s2:Shared):Prop :=
  ∃ (it:Addr) (fp:List Addr) (tn:Nat→Heap→Prop) (J:It) (H':Hp),itv = .ref it∧Inv X pins σ H' s2∧Turn X.prog X.w X.K tg J fp it tn∧tn 0 s2.heap∧(∀ b∈fp,FpOk X pins H' b)∧R J H'
noncomputable def PI (X:Cx) (tg iter:Expr) (wi:TI):Prop :=
  ∀ (pins:List (Addr × Obj)) (s:Shared) (σ : St) (H:Hp) (R:It→Hp→Prop),Inv X pins σ H s→wi σ H R →
    wpAny (model X.prog X.w) X.A (eval iter X.env) (fun v s1=>wpAny (model X.prog X.w) X.A (pyIter v) (PIE X pins σ tg R) X.xe s1) X.xe s

theorem go_of {M:Model} {A:Around} {E:Value→Shared→Prop} {s:Shared} {tg:Expr} {it:Addr} {u:Value} {o:Obj} {n:String} {vs:Array Value} {Q:Unit→Shared→Prop} (ho:s.heap.get? it=some o) (hc:o.cls = .type n) (hd:o.data = .fields vs)
    (hn : ["enumerate", "zip", "dict_itemiterator", "dict_reverseitemiterator", "odict_iterator", "itertools.zip_longest", "itertools.pairwise"].contains n=false) (hQ:Q () s):wpAny M A (letOwnedTupleGo tg (.ref it) u) Q E s:=by
  unfold letOwnedTupleGo
  cases tg <;> first
    | exact wpAny_pure hQ
    | (cases u <;> first
        | exact wpAny_pure hQ
        | (refine wpAny_bind (wpAny_load ho ?_)
           rw [hc,hd]
           show wpAny M A (if (["enumerate", "zip", "dict_itemiterator", "dict_reverseitemiterator", "odict_iterator", "itertools.zip_longest", "itertools.pairwise"].contains n && vs[0]? == some (rawInt _))=true then _ else _) Q E s
           rw [if_neg (by intro h;rw [hn,Bool.false_and] at h;cases h)]
           exact wpAny_pure hQ))

noncomputable def Itl (K:PySem.W.Frag) (a:Addr):It :=
  ⟨fun i H=>∃ xs x,SqL K H a xs∧xs[i]? = some x,fun i H x H'=>H'=H∧∀ xs,SqL K H a xs→xs[i]? = some x,fun i H=>∃ xs,SqL K H a xs∧xs.length≤i⟩
noncomputable def Itt (K:PySem.W.Frag) (a:Addr):It :=
  ⟨fun i H=>∃ xs x,SqT K H a xs∧xs[i]? = some x,fun i H x H'=>H'=H∧∀ xs,SqT K H a xs→xs[i]? = some x,fun i H=>∃ xs,SqT K H a xs∧xs.length≤i⟩
noncomputable def Itr (lo:Int) (n:Nat):It:=⟨fun i _=>i < n,fun i H x H'=>H'=H∧x = .int (lo+i),fun i _=>n≤i⟩
theorem turn_list {P:Program} {w:World} {K:PySem.W.Frag} {tg:Expr} (a it:Addr):Turn P w K tg (Itl K a) [it] it (fun i h=>h.IsListIter it a i) where
  mem:=by simp
  obj:=fun i h st b hb=>by
    have e:b=it:=by simpa using hb
    subst e
    obtain ⟨o,e,c,d⟩:=st
    exact ⟨o,e,fun v z=>by rw [d] at z;cases z⟩
  keep:=fun i h h' st k=>st.at fun o e=>k it (by simp) o e
  item:=by
    intro X hP hw hK hc i pins s σ H E I hf st hg
    subst hP hw hK
    obtain ⟨xs,x,hq,hx⟩:=hg
    obtain ⟨its,rv,p,hz⟩:=I.list hq
    obtain ⟨u,hu,ru⟩:=rv.get hx
    obtain ⟨f0,f1,f2,f3,f4,f5⟩:=hf it (by simp)
    refine wpAny_pyNext_list_item st p.isList (x:=u) (by simpa using hu) fun h' st' sb => ?_
    have I1:Inv X pins σ H { s with heap:=h' }:=I.turned (t':=s.toks) (fun b o hb e=>(sb.2 b hb).trans e) f0 f1 f3 f4 f5
    obtain ⟨o,e,c,d⟩:=id st'
    exact ⟨u,rfl,go_of (s := { s with heap:=h' }) e c d (by decide) ⟨x,H,I1,ru,⟨rfl,fun ys hy=>by rw [I.list_inj hy hq];exact hx⟩,st',fun b hb=>(hf b hb).1⟩⟩
  done:=by
    intro X hP hw hK hc i pins s σ H E I hf st hg
    subst hP hw hK
    obtain ⟨xs,hq,hx⟩:=hg
    obtain ⟨its,rv,p,hz⟩:=I.list hq
    obtain ⟨f0,f1,f2,f3,f4,f5⟩:=hf it (by simp)
    have hl:=rv.length
    exact wpAny_pyNext_list_end (I.ok.hd hc) st p.isList (by simp;omega) fun h' eb=>⟨rfl,I.turned (t':=s.toks) (fun b o hb e=>eb b o hb e) f0 f1 f3 f4 f5⟩
  self:=fun _ _ _ _ _ st h=>wpAny_pyIter_listiter st h
theorem turn_tuple {P:Program} {w:World} {K:PySem.W.Frag} {tg:Expr} (a it:Addr):Turn P w K tg (Itt K a) [it] it (fun i h=>h.IsTupleIter it a i) where
  mem:=by simp
  obj:=fun i h st b hb=>by
    have e:b=it:=by simpa using hb
    subst e
    obtain ⟨o,e,c,d⟩:=st
    exact ⟨o,e,fun v z=>by rw [d] at z;cases z⟩
  keep:=fun i h h' st k=>st.at fun o e=>k it (by simp) o e
  item:=by
    intro X hP hw hK hc i pins s σ H E I hf st hg
    subst hP hw hK
    obtain ⟨xs,x,hq,hx⟩:=hg
    obtain ⟨its,rv,p,hz⟩:=I.tuple hq
    obtain ⟨u,hu,ru⟩:=rv.get hx
    obtain ⟨f0,f1,f2,f3,f4,f5⟩:=hf it (by simp)
    refine wpAny_pyNext_tuple_item st (show s.heap.IsTuple a its.toArray from p) (x:=u) (by simpa using hu) fun h' st' sb => ?_
    have I1:Inv X pins σ H { s with heap:=h' }:=I.turned (t':=s.toks) (fun b o hb e=>(sb.2 b hb).trans e) f0 f1 f3 f4 f5
    obtain ⟨o,e,c,d⟩:=id st'
    exact ⟨u,rfl,go_of (s := { s with heap:=h' }) e c d (by decide) ⟨x,H,I1,ru,⟨rfl,fun ys hy=>by rw [I.tuple_inj hy hq];exact hx⟩,st',fun b hb=>(hf b hb).1⟩⟩
  done:=by
    intro X hP hw hK hc i pins s σ H E I hf st hg
    subst hP hw hK
    obtain ⟨xs,hq,hx⟩:=hg
    obtain ⟨its,rv,p,hz⟩:=I.tuple hq
    obtain ⟨f0,f1,f2,f3,f4,f5⟩:=hf it (by simp)
    have hl:=rv.length
    exact wpAny_pyNext_tuple_end (I.ok.hd hc) st (show s.heap.IsTuple a its.toArray from p) (by simp;omega) fun h' eb=>⟨rfl,I.turned (t':=s.toks) (fun b o hb e=>eb b o hb e) f0 f1 f3 f4 f5⟩
  self:=fun _ _ _ _ _ st h=>wpAny_pyIter_tupleiter st h
theorem turn_range {P:Program} {w:World} {K:PySem.W.Frag} {tg:Expr} (it:Addr) (lo:Int) (n:Nat):Turn P w K tg (Itr lo n) [it] it (fun i h=>IsRangeIter h it (lo+(i:Nat) * 1) ((n:Int) - (i:Nat)) 1) where
  mem:=by simp
  obj:=fun i h st b hb=>by
    have e:b=it:=by simpa using hb
    subst e
    exact ⟨_,st,fun v z=>by
      have z':Data.fields _=Data.cell v:=z
      cases z'⟩
  keep:=fun i h h' st k=>k it (by simp) _ st
  item:=by
    intro X hP hw hK hc i pins s σ H E I hf st hg
    subst hP hw hK
    obtain ⟨f0,f1,f2,f3,f4,f5⟩:=hf it (by simp)
    have W:=Walks.range (prog:=X.prog) (w:=X.w) (I.ok.hd hc) it lo 1 n
    refine W.item i s _ _ hg st fun v h' tk hv st' kk => ?_
    obtain ⟨t,rfl⟩:=hv
    have I1:Inv X pins σ H { s with heap:=h',toks:=tk }:=I.turned (fun b o hb e=>kk b o (by simpa using hb) e) f0 f1 f3 f4 f5
    refine ⟨_,rfl,go_of (s := { s with heap:=h',toks:=tk }) (n := "range_iterator") st' rfl rfl (by decide) ⟨.int (lo+i),H,I1,⟨t,?_⟩,⟨rfl,rfl⟩,st',fun b hb=>(hf b hb).1⟩⟩
    rw [Int.mul_one]
  done:=by
    intro X hP hw hK hc i pins s σ H E I hf st hg
    subst hP hw hK
    obtain ⟨f0,f1,f2,f3,f4,f5⟩:=hf it (by simp)
    exact wpAny_pyNext_range_end (I.ok.hd hc) st (by have:n≤i:=hg;omega) fun h' eb=>⟨rfl,I.turned (t':=s.toks) (fun b o hb e=>eb b o hb e) f0 f1 f3 f4 f5⟩
  self:=fun _ _ _ _ _ st h=>wpAny_pyIter_rangeiter st h
end L2

namespace L2
open PySem PySem.Spec PyProof.Rows
section
variable {X:Cx} {tg:Expr}
inductive J_iList (K:PySem.W.Frag) (R:It→Hp→Prop) (x:V) (H1:Hp):Prop
  | mk:∀ a,(x = .ref a)→((∃ xs,SqL K H1 a xs))→(R (Itl K a) H1)→J_iList K R x H1
noncomputable def iList (K:PySem.W.Frag) (tl:TE):TI:=fun σ H R=>tl σ H fun x H1=>J_iList K R x H1
inductive J_iTup (K:PySem.W.Frag) (R:It→Hp→Prop) (x:V) (H1:Hp):Prop
  | mk:∀ a,(x = .ref a)→((∃ xs,SqT K H1 a xs))→(R (Itt K a) H1)→J_iTup K R x H1
noncomputable def iTup (K:PySem.W.Frag) (tl:TE):TI:=fun σ H R=>tl σ H fun x H1=>J_iTup K R x H1
theorem pi_list {l:Expr} {tl:TE} (hl:PE X l tl):PI X tg l (iList X.K tl):=by
  intro pins s σ H R I h
  refine thn (hl pins s σ H _ I h) fun v s1 ⟨x,H1,I1,r1,q1⟩ => ?_
  obtain ⟨a,e,⟨xs,hq⟩,q⟩:=q1
  subst e
  cases r1
  obtain ⟨its,rv,p,hz⟩:=I1.list hq
  refine wpAny_pyIter_list p.isList ?_
  refine ⟨s1.heap.objs.size, [s1.heap.objs.size],_,_,H1,rfl,I1.kept (t':=s1.toks) fun b o e=>Heap.get?_push_of_some _ e,turn_list a _,⟨_,Heap.get?_push_size _ rfl,rfl,rfl⟩,fun b hb => ?_,q⟩
  have e:b=s1.heap.objs.size:=by simpa using hb
  subst e
  exact I1.fpOk (Nat.le_refl _) (I1.hok.fresh (Nat.le_refl _))
theorem pi_tup {l:Expr} {tl:TE} (hl:PE X l tl):PI X tg l (iTup X.K tl):=by
  intro pins s σ H R I h
  refine thn (hl pins s σ H _ I h) fun v s1 ⟨x,H1,I1,r1,q1⟩ => ?_
  obtain ⟨a,e,⟨xs,hq⟩,q⟩:=q1
  subst e
  cases r1
  obtain ⟨its,rv,p,hz⟩:=I1.tuple hq
  refine wpAny_pyIter_tuple (show s1.heap.IsTuple a its.toArray from p) ?_
  refine ⟨s1.heap.objs.size, [s1.heap.objs.size],_,_,H1,rfl,I1.kept (t':=s1.toks) fun b o e=>Heap.get?_push_of_some _ e,turn_tuple a _,⟨_,Heap.get?_push_size _ rfl,rfl,rfl⟩,fun b hb => ?_,q⟩
  have e:b=s1.heap.objs.size:=by simpa using hb
  subst e
  exact I1.fpOk (Nat.le_refl _) (I1.hok.fresh (Nat.le_refl _))
theorem range_it {pins:List (Addr × Obj)} {σ : St} {H:Hp} {s:Shared} {R:It→Hp→Prop} {E:Value→Shared→Prop} {lo hi:Int} {t u v:Tok} {tk:Nat} (I:Inv X pins σ H s) (h1 : -(2 ^ 62)≤lo) (h2:lo < 2 ^ 62) (h3 : -(2 ^ 62)≤hi) (h4:hi < 2 ^ 62)
    (q:R (Itr lo (hi - lo).toNat) H):wpAny (model X.prog X.w) X.A (pyIter (.ref s.heap.objs.size)) (PIE X pins σ tg R) E { s with heap:=s.heap.push { cls := .type "range",data := .fields #[.int lo t,.int hi u,.int 1 v] },toks:=tk }:=by
  refine wpAny_pyIter_range (IsRange.new ..) (small_one h1 h2 h3 h4) ?_
  have I1:Inv X pins σ H { s with heap:=s.heap.push { cls := .type "range",data := .fields #[.int lo t,.int hi u,.int 1 v] },toks:=tk }:=I.kept fun b o e=>Heap.get?_push_of_some _ e
  refine ⟨(s.heap.push { cls := .type "range",data := .fields #[.int lo t,.int hi u,.int 1 v] }).objs.size, [(s.heap.push { cls := .type "range",data := .fields #[.int lo t,.int hi u,.int 1 v] }).objs.size],_,_,H,rfl,
    I1.kept (t':=tk) fun b o e=>Heap.get?_push_of_some _ e,turn_range _ lo (hi - lo).toNat,?_,fun b hb => ?_,q⟩
  · have e1:lo+((0:Nat):Int) * 1=lo:=by simp
    have e2:(((hi - lo).toNat:Nat):Int) - ((0:Nat):Int)=Builtin.Range.rangeSize lo hi 1:=by rw [rangeSize_one];split <;> omega
    show IsRangeIter _ _ (lo+((0:Nat):Int) * 1) ((((hi - lo).toNat:Nat):Int) - ((0:Nat):Int)) 1
    rw [e1,e2]
    exact Heap.get?_push_size _ rfl
  · have e:b=(s.heap.push { cls := .type "range",data := .fields #[.int lo t,.int hi u,.int 1 v] }).objs.size:=by simpa using hb
    subst e
    exact I1.fpOk (Nat.le_refl _) (I1.hok.fresh (Nat.le_refl _))
inductive J_iRng1 (R:It→Hp→Prop) (vs:List V) (H1:Hp):Prop
  | mk:∀ (j:Int),(vs = [.int j])→(-(2 ^ 62)≤j)→(j < 2 ^ 62)→(R (Itr 0 j.toNat) H1)→J_iRng1 R vs H1
noncomputable def iRng1 (ta:TA):TI:=fun σ H R=>ta σ H fun vs H1=>J_iRng1 R vs H1
inductive J_iRng2 (R:It→Hp→Prop) (vs:List V) (H1:Hp):Prop
  | mk:∀ (i j:Int),(vs = [.int i,.int j])→((-(2 ^ 62)≤i∧i < 2 ^ 62 ∧ -(2 ^ 62)≤j∧j < 2 ^ 62))→(R (Itr i (j - i).toNat) H1)→J_iRng2 R vs H1
noncomputable def iRng2 (ta:TA):TI:=fun σ H R=>ta σ H fun vs H1=>J_iRng2 R vs H1
theorem pi_range1 {a:Expr} {ta:TA} {p pos:Pos} (hg:Gl X "range") (hm:X.mg "range" = none) (ha:PA X [a] ta) (hs:starEach [a] X.env = [(false,eval a X.env)]:=by rfl):PI X tg (.Call (.Name "range" p) [a] [] pos) (iRng1 ta):=by
  intro pins s σ H R I h
  refine Call_ (ld_blt I hg hm boot_range (PyProof.Rows.callWith_type1 (thn (ha pos pins s σ H _ I h) fun us s1 ⟨vs,H1,I1,r1,q1⟩ => ?_) hs rfl))
  obtain ⟨j,e,q1,q2,q⟩:=q1
  subst e
  cases r1 with
  | cons r rr =>
    cases rr
    obtain ⟨t,rfl⟩:=r
    exact call_range_1 (range_it I1 (by omega) (by omega) q1 q2 (by simpa using q))
theorem pi_range2 {a b:Expr} {ta:TA} {p pos:Pos} (hg:Gl X "range") (hm:X.mg "range" = none) (ha:PA X [a,b] ta) (hs:starEach [a,b] X.env = [(false,eval a X.env),(false,eval b X.env)]:=by rfl) (hs2:starEach [b] X.env = [(false,eval b X.env)]:=by rfl) :
    PI X tg (.Call (.Name "range" p) [a,b] [] pos) (iRng2 ta):=by
  intro pins s σ H R I h
  refine Call_ (ld_blt I hg hm boot_range (PyProof.Rows.callWith_type1 (thn (ha pos pins s σ H _ I h) fun us s1 ⟨vs,H1,I1,r1,q1⟩ => ?_) (by rw [hs,hs2]) (by rw [hs2];rfl)))
  obtain ⟨i,j,e,⟨q1,q2,q3,q4⟩,q⟩:=q1
  subst e
  cases r1 with
  | cons r rr =>
    cases rr with
    | cons r' rr =>
      cases rr
      obtain ⟨t,rfl⟩:=r
      obtain ⟨t',rfl⟩:=r'
      exact call_range_2 (range_it I1 q1 q2 q3 q4 q)

noncomputable def tFor (wi:TI) (g:TG) (tb:TS):TS:=fun D σ H=>wi σ H fun J H1=>∃ W:Nat→Nat→St→Hp→Prop,(∃ m,W 0 m σ H1)∧∀ i m σ H,W i m σ H →
  (J.stop i H∧D.nx σ H)∨(J.go i H∧∃ N:St→Hp→Prop,(∀ σ' H',N σ' H'→∃ m',m' < m∧W (i+1) m' σ' H')∧∀ x H',J.yld i H x H'→g x σ H' fun σ2 H2=>tb { D with nx:=N,ct:=N,bk:=D.nx } σ2 H2)
noncomputable def pinsAt (fp:List Addr) (h:Heap):List (Addr × Obj):=fp.filterMap fun b=>(h.get? b).map fun o=>(b,o)
theorem mem_pinsAt {fp:List Addr} {h:Heap} {b:Addr} {o:Obj} (hb:b∈fp) (e:h.get? b=some o):(b,o)∈pinsAt fp h:=List.mem_filterMap.mpr ⟨b,hb,by rw [e];rfl⟩
theorem of_pinsAt {fp:List Addr} {h:Heap} {p:Addr × Obj} (hp:p∈pinsAt fp h):p.1∈fp∧h.get? p.1=some p.2:=by
  obtain ⟨b,hb,e⟩:=List.mem_filterMap.mp hp
  cases q:h.get? b with
  | none=>rw [q] at e;cases e
  | some o =>
    rw [q] at e
    have e':(b,o)=p:=Option.some.inj e
    subst e'
    exact ⟨hb,q⟩
theorem Inv.pinned {pins:List (Addr × Obj)} {σ : St} {H:Hp} {s:Shared} {fp:List Addr} (I:Inv X pins σ H s) (hf:∀ b∈fp,FpOk X pins H b) (ho:∀ b∈fp,∃ o,s.heap.get? b=some o∧∀ v,o.data ≠ .cell v):Inv X (pins ++ pinsAt fp s.heap) σ H s :=
  I.pins_of fun p hp=>(List.mem_append.mp hp).elim (fun z=>I.pin p (List.mem_append_right _ z)) fun z=>by
    obtain ⟨hb,e⟩:=of_pinsAt z
    obtain ⟨f0,f1,f2,_⟩:=hf p.1 hb
    obtain ⟨o,e',d⟩:=ho p.1 hb
    rw [e] at e';cases e'
    exact ⟨e,f0,f1,f2,d⟩
theorem Inv.unpinned {pins pl:List (Addr × Obj)} {σ : St} {H:Hp} {s:Shared} (I:Inv X (pins ++ pl) σ H s):Inv X pins σ H s:=I.pins_of fun p hp=>I.pin p (List.mem_append_right _ (List.mem_append_left _ hp))
theorem ps_for {iter:Expr} {body:List Stmt} {wi:TI} {g:TG} {tb:TS} {pos:Pos} (hp:PassesOwn (model X.prog X.w) X.A X.env X.xe) (hc:X.calm=true) (hi:PI X tg iter wi) (hg:PG X tg g) (hb:PSs X body tb)
    (hs:∀ x,foldedSetIterable iter X.env x=pure x:=by intro _;rfl):PS X (.For tg iter body [] pos) (tFor wi g tb):=by
  intro pins s σ H D I h
  refine wpAny_For (thn (hi pins s σ H _ I h) fun v s1 h1=>thn h1 fun itv s2 h2 => ?_) hs
  obtain ⟨it,fp,tn,J,H2,e,I2,T,st2,f2,W,⟨m0,w0⟩,turn⟩:=h2
  subst e
  -- what stays true of the iterator's objects through the loop
  have stat:∀ {H':Hp},(∀ b∈fp,H' b=none)→∀ b∈fp,FpOk X pins H' b:=fun hn b hb=>⟨hn b hb,(f2 b hb).2⟩
  refine codeAny_forLoop_any (fun n s'=>∃ i σ' H',Inv X pins σ' H' s'∧tn i s'.heap∧(∀ b∈fp,H' b=none)∧W i n σ' H') ?_ m0 ⟨0, σ,H2,I2,st2,fun b hb=>(f2 b hb).1,w0⟩
  rintro n s3 ⟨i, σ3,H3,I3,st3,fr3,w3⟩
  rcases turn i n σ3 H3 w3 with ⟨stop,qn⟩ | ⟨go,N,hN,step⟩
  · refine wpAny_passesOwn hp (thn (T.done X rfl rfl rfl hc i pins s3 σ3 H3 X.xe I3 (stat fr3) st3 stop) fun r s4 ⟨hr,I4⟩ => ?_)
    subst hr
    exact wpAny_execs_nil ⟨σ3,H3,I4,qn⟩
  · refine wpAny_passesOwn hp (thn (T.item X rfl rfl rfl hc i pins s3 σ3 H3 X.xe I3 (stat fr3) st3 go) fun r s4 ⟨u,hr,h4⟩ => ?_)
    subst hr
    refine wpAny_passesOwn hp (thn h4 fun _ s5 ⟨x,H5,I5,r5,y5,st5,fr5⟩ => ?_)
    have I5':=I5.pinned (stat fr5) (T.obj _ _ st5)
    refine wpAny_passesOwn hp (thn (hg _ s5 σ3 H5 x u _ I5' r5 (step x H5 y5)) fun _ s6 ⟨σ6,H6,I6,q6⟩ => ?_)
    refine wpAny_passesOwn hp (thn (hb _ s6 σ6 H6 _ I6 q6) fun f s7 q7 => ?_)
    have again:∀ {σ7:St} {H7:Hp},Inv X (pins ++ pinsAt fp s5.heap) σ7 H7 s7→N σ7 H7→∃ m,m < n∧∃ i σ' H',Inv X pins σ' H' s7∧tn i s7.heap∧(∀ b∈fp,H' b=none)∧W i m σ' H':=fun {σ7 H7} I7 n7=>by
      obtain ⟨m',hm,w7⟩:=hN σ7 H7 n7
      refine ⟨m',hm,i+1, σ7,H7,I7.unpinned,T.keep _ _ _ st5 fun b hb o e=>(I7.pin (b,o) (List.mem_append_right _ (List.mem_append_right _ (mem_pinsAt hb e)))).1,fun b hb => ?_,w7⟩
      obtain ⟨o,e,d⟩:=T.obj _ _ st5 b hb
      exact (I7.pin (b,o) (List.mem_append_right _ (List.mem_append_right _ (mem_pinsAt hb e)))).2.1
    cases f with
    | next=>obtain ⟨σ7,H7,I7,n7⟩:=q7;exact again I7 n7
    | cont=>obtain ⟨σ7,H7,I7,n7⟩:=q7;exact again I7 n7
    | brk=>obtain ⟨σ7,H7,I7,q7⟩:=q7;exact ⟨σ7,H7,I7.unpinned,q7⟩
    | ret v=>obtain ⟨x7, σ7,H7,I7,r7,q7⟩:=q7;exact ⟨x7, σ7,H7,I7.unpinned,r7,q7⟩
end

theorem for_list {K:PySem.W.Frag} {a:Addr} {xs:List V} {g:TG} {tb:TS} {D:Ends} {σ : St} {H:Hp} (Pv:Nat→St→Hp→Prop) (h0:Pv 0 σ H) (hl:∀ i σ H,i≤xs.length→Pv i σ H→SqL K H a xs)
    (hs:∀ i x σ H,xs[i]? = some x→Pv i σ H→g x σ H fun σ2 H2=>tb { D with nx:=Pv (i+1),ct:=Pv (i+1),bk:=D.nx } σ2 H2) (hd:∀ σ H,Pv xs.length σ H→D.nx σ H) :
    ∃ W:Nat→Nat→St→Hp→Prop,(∃ m,W 0 m σ H)∧∀ i m σ H,W i m σ H →
      ((Itl K a).stop i H∧D.nx σ H)∨((Itl K a).go i H∧∃ N:St→Hp→Prop,(∀ σ' H',N σ' H'→∃ m',m' < m∧W (i+1) m' σ' H')∧∀ x H',(Itl K a).yld i H x H'→g x σ H' fun σ2 H2=>tb { D with nx:=N,ct:=N,bk:=D.nx } σ2 H2):=by
  refine ⟨fun i m σ H=>m=xs.length - i∧i≤xs.length∧Pv i σ H,⟨xs.length,by simp,Nat.zero_le _,h0⟩,?_⟩
  rintro i m σ H ⟨rfl,hi,p⟩
  have q:=hl i σ H hi p
  by_cases hlt:i < xs.length
  · refine .inr ⟨⟨xs,xs[i],q,by simp [hlt]⟩,Pv (i+1),fun σ' H' p'=>⟨xs.length - (i+1),by omega,rfl,hlt,p'⟩,fun x H' y => ?_⟩
    obtain ⟨e,y⟩:=y
    subst e
    exact hs i x σ _ (y xs q) p
  · have e:i=xs.length:=by omega
    subst e
    exact .inl ⟨⟨xs,q,Nat.le_refl _⟩,hd σ H p⟩
theorem for_tup {K:PySem.W.Frag} {a:Addr} {xs:List V} {g:TG} {tb:TS} {D:Ends} {σ : St} {H:Hp} (Pv:Nat→St→Hp→Prop) (h0:Pv 0 σ H) (hl:∀ i σ H,i≤xs.length→Pv i σ H→SqT K H a xs)
    (hs:∀ i x σ H,xs[i]? = some x→Pv i σ H→g x σ H fun σ2 H2=>tb { D with nx:=Pv (i+1),ct:=Pv (i+1),bk:=D.nx } σ2 H2) (hd:∀ σ H,Pv xs.length σ H→D.nx σ H) :
    ∃ W:Nat→Nat→St→Hp→Prop,(∃ m,W 0 m σ H)∧∀ i m σ H,W i m σ H →
      ((Itt K a).stop i H∧D.nx σ H)∨((Itt K a).go i H∧∃ N:St→Hp→Prop,(∀ σ' H',N σ' H'→∃ m',m' < m∧W (i+1) m' σ' H')∧∀ x H',(Itt K a).yld i H x H'→g x σ H' fun σ2 H2=>tb { D with nx:=N,ct:=N,bk:=D.nx } σ2 H2):=by
  refine ⟨fun i m σ H=>m=xs.length - i∧i≤xs.length∧Pv i σ H,⟨xs.length,by simp,Nat.zero_le _,h0⟩,?_⟩
  rintro i m σ H ⟨rfl,hi,p⟩
  have q:=hl i σ H hi p
  by_cases hlt:i < xs.length
  · refine .inr ⟨⟨xs,xs[i],q,by simp [hlt]⟩,Pv (i+1),fun σ' H' p'=>⟨xs.length - (i+1),by omega,rfl,hlt,p'⟩,fun x H' y => ?_⟩
    obtain ⟨e,y⟩:=y
    subst e
    exact hs i x σ _ (y xs q) p
  · have e:i=xs.length:=by omega
    subst e
    exact .inl ⟨⟨xs,q,Nat.le_refl _⟩,hd σ H p⟩
theorem for_range {lo:Int} {n:Nat} {g:TG} {tb:TS} {D:Ends} {σ : St} {H:Hp} (Pv:Nat→St→Hp→Prop) (h0:Pv 0 σ H)
    (hs:∀ i σ H,i < n→Pv i σ H→g (.int (lo+i)) σ H fun σ2 H2=>tb { D with nx:=Pv (i+1),ct:=Pv (i+1),bk:=D.nx } σ2 H2) (hd:∀ σ H,Pv n σ H→D.nx σ H) :
    ∃ W:Nat→Nat→St→Hp→Prop,(∃ m,W 0 m σ H)∧∀ i m σ H,W i m σ H →
      ((Itr lo n).stop i H∧D.nx σ H)∨((Itr lo n).go i H∧∃ N:St→Hp→Prop,(∀ σ' H',N σ' H'→∃ m',m' < m∧W (i+1) m' σ' H')∧∀ x H',(Itr lo n).yld i H x H'→g x σ H' fun σ2 H2=>tb { D with nx:=N,ct:=N,bk:=D.nx } σ2 H2):=by
  refine ⟨fun i m σ H=>m=n - i∧i≤n∧Pv i σ H,⟨n,by simp,Nat.zero_le _,h0⟩,?_⟩
  rintro i m σ H ⟨rfl,hi,p⟩
  by_cases hlt:i < n
  · refine .inr ⟨hlt,Pv (i+1),fun σ' H' p'=>⟨n - (i+1),by omega,rfl,hlt,p'⟩,fun x H' y => ?_⟩
    obtain ⟨e,y⟩:=y
    subst e y
    exact hs i σ _ hlt p
  · have e:i=n:=by omega
    subst e
    exact .inl ⟨Nat.le_refl _,hd σ H p⟩
end L2

namespace L2
open PySem PySem.Spec PyProof.Rows

noncomputable abbrev R2:=V→V→Hp→VK→Prop
noncomputable def OpR (X:Cx) (f:Value→Value→Sem Value) (r:R2):Prop :=
  ∀ (pins:List (Addr × Obj)) (s:Shared) (σ : St) (H:Hp) (x y:V) (v u:Value) (Q:VK),Inv X pins σ H s→RelV x v→RelV y u→r x y H Q →
    wpAny (model X.prog X.w) X.A (f v u) (EP X pins σ Q) X.xe s
noncomputable def UnR (X:Cx) (f:Value→Sem Value) (r:V→Hp→VK→Prop):Prop :=
  ∀ (pins:List (Addr × Obj)) (s:Shared) (σ : St) (H:Hp) (x:V) (v:Value) (Q:VK),Inv X pins σ H s→RelV x v→r x H Q →
    wpAny (model X.prog X.w) X.A (f v) (EP X pins σ Q) X.xe s
noncomputable def CallR (X:Cx) (f:Value) (r:List V→Hp→VK→Prop):Prop :=
  ∀ (pins:List (Addr × Obj)) (s:Shared) (σ : St) (H:Hp) (xs:List V) (us:List Value) (Q:VK),Inv X pins σ H s→Vals xs us→r xs H Q →
    wpAny (model X.prog X.w) X.A (call f us) (EP X pins σ Q) X.xe s

noncomputable def tOp (r:R2) (ta tb:TE):TE:=fun σ H Q=>ta σ H fun x H1=>tb σ H1 fun y H2=>r x y H2 Q
noncomputable def tUn (r:V→Hp→VK→Prop) (ta:TE):TE:=fun σ H Q=>ta σ H fun x H1=>r x H1 Q
inductive RI (C:Int→Int→Prop) (g:Int→Int→V) (x y:V) (H:Hp) (Q:VK):Prop
  | mk (i j:Int) (hx:x = .int i) (hy:y = .int j) (hc:C i j) (q:Q (g i j) H):RI C g x y H Q
noncomputable def rI (C:Int→Int→Prop) (g:Int→Int→V):R2:=fun x y H Q=>RI C g x y H Q
inductive RI0 (g:Int→Int→V) (x y:V) (H:Hp) (Q:VK):Prop
  | mk (i j:Int) (hx:x = .int i) (hy:y = .int j) (q:Q (g i j) H):RI0 g x y H Q
noncomputable def rI0 (g:Int→Int→V):R2:=fun x y H Q=>RI0 g x y H Q
inductive RU (g:Int→V) (x:V) (H:Hp) (Q:VK):Prop
  | mk (i:Int) (hx:x = .int i) (q:Q (g i) H):RU g x H Q
noncomputable def rU (g:Int→V):V→Hp→VK→Prop:=fun x H Q=>RU g x H Q

section
variable {X:Cx} {a b c:Expr} {ta tb tc:TE} {pos:Pos}

theorem binT (ha:PE X a ta) (hb:PE X b tb) {pins:List (Addr × Obj)} {s:Shared} {σ : St} {H:Hp} {R:V→V→Hp→Prop} (I:Inv X pins σ H s)
    (h:ta σ H fun x H1=>tb σ H1 fun y H2=>R x y H2) {Q:Value→Shared→Prop} {f:Value→Value→Sem Value}
    (hf:∀ v u s2 x y H2,Inv X pins σ H2 s2→RelV x v→RelV y u→R x y H2→wpAny (model X.prog X.w) X.A (f v u) Q X.xe s2) :
    wpAny (model X.prog X.w) X.A (eval a X.env) (fun v s₁ => wpAny (model X.prog X.w) X.A (eval b X.env) (fun u s₂ => wpAny (model X.prog X.w) X.A (f v u) Q X.xe s₂) X.xe s₁) X.xe s:=by
  refine thn (ha pins s σ H _ I h) fun v s1 ⟨x,H1,I1,r1,q1⟩ => ?_
  refine thn (hb pins s1 σ H1 _ I1 q1) fun u s2 ⟨y,H2,I2,r2,q2⟩ => ?_
  exact hf v u s2 x y H2 I2 r1 r2 q2

theorem pe_op {op:Operator} {r:R2} (ho:OpR X (binaryOp op) r) (ha:PE X a ta) (hb:PE X b tb):PE X (.BinOp a op b pos) (tOp r ta tb):=by
  intro pins s σ H Q I h
  exact wpAny_BinOp (binT ha hb I h fun v u s2 x y H2 I2 rx ry q=>ho pins s2 σ H2 x y v u Q I2 rx ry q)
theorem pe_un {op:UnaryOp} {r:V→Hp→VK→Prop} (ho:UnR X (unaryOp op) r) (ha:PE X a ta):PE X (.UnaryOp op a pos) (tUn r ta):=by
  intro pins s σ H Q I h
  exact UnaryOp_ (thn (ha pins s σ H _ I h) fun v s1 ⟨x,H1,I1,r1,q1⟩=>ho pins s1 σ H1 x v Q I1 r1 q1)

theorem opI {f:Value→Value→Sem Value} {C:Int→Int→Prop} {g:Int→Int→Int}
    (rule:∀ (i j:Int) (t u:Tok) (s:Shared) (Q:Value→Shared→Prop) (E:Value→Shared→Prop),C i j→Q (.int (g i j) s.toks) { s with toks:=s.toks+1 }→wpAny (model X.prog X.w) X.A (f (.int i t) (.int j u)) Q E s) :
    OpR X f (rI C fun i j => .int (g i j)):=by
  intro pins s σ H x y v u Q I rx ry h
  obtain ⟨i,j,rfl,rfl,hc,q⟩:=h
  obtain ⟨t,rfl⟩:=rx
  obtain ⟨t',rfl⟩:=ry
  exact rule i j t t' s _ _ hc ⟨.int (g i j),H,I.tok _,⟨_,rfl⟩,q⟩
theorem opI0 {f:Value→Value→Sem Value} {g:Int→Int→Int}
    (rule:∀ (i j:Int) (t u:Tok) (s:Shared) (Q:Value→Shared→Prop) (E:Value→Shared→Prop),Q (.int (g i j) s.toks) { s with toks:=s.toks+1 }→wpAny (model X.prog X.w) X.A (f (.int i t) (.int j u)) Q E s) :
    OpR X f (rI0 fun i j => .int (g i j)):=by
  intro pins s σ H x y v u Q I rx ry h
  obtain ⟨i,j,rfl,rfl,q⟩:=h
  obtain ⟨t,rfl⟩:=rx
  obtain ⟨t',rfl⟩:=ry
  exact rule i j t t' s _ _ ⟨.int (g i j),H,I.tok _,⟨_,rfl⟩,q⟩
theorem opB0 {f:Value→Value→Sem Value} {g:Int→Int→Bool}
    (rule:∀ (i j:Int) (t u:Tok) (s:Shared) (Q:Value→Shared→Prop) (E:Value→Shared→Prop),Q (.bool (g i j)) s→wpAny (model X.prog X.w) X.A (f (.int i t) (.int j u)) Q E s) :
    OpR X f (rI0 fun i j => .bl (g i j)):=by
  intro pins s σ H x y v u Q I rx ry h
  obtain ⟨i,j,rfl,rfl,q⟩:=h
  obtain ⟨t,rfl⟩:=rx
  obtain ⟨t',rfl⟩:=ry
  exact rule i j t t' s _ _ ⟨.bl (g i j),H,I,rfl,q⟩

noncomputable def CDiv (i j:Int):Prop:=0 < j∧j < 1073741824
noncomputable def CPow (i j:Int):Prop:=0≤j∧j≤1000000∧i.natAbs < 2 ^ 64
noncomputable def CMul (i j:Int):Prop:=(-(2 ^ 64) < i∧i < 2 ^ 64)∨(-(2 ^ 64) < j∧j < 2 ^ 64)
theorem CMul.ok {i j:Int} (h:CMul i j):IntMulOk i j:=by
  rcases h with ⟨h1,h2⟩ | ⟨h1,h2⟩
  · exact .of_left (intBits_le_64 h1 h2)
  · exact .of_right (intBits_le_64 h1 h2)

theorem op_add:OpR X (binaryOp .Add) (rI0 fun i j => .int (i+j)):=opI0 fun _ _ _ _ _ _ _ q=>add_int q
theorem op_sub:OpR X (binaryOp .Sub) (rI0 fun i j => .int (i - j)):=opI0 fun _ _ _ _ _ _ _ q=>sub_int q
theorem op_mul:OpR X (binaryOp .Mult) (rI CMul fun i j => .int (i * j)):=opI fun _ _ _ _ _ _ _ hc q=>mul_int q hc.ok
theorem op_fdiv:OpR X (binaryOp .FloorDiv) (rI CDiv fun i j => .int (i / j)):=opI fun i j _ _ _ _ _ hc q=>by
  have h1:(0:Int) < j:=hc.1
  have h2:j < 1073741824:=hc.2
  exact floordiv_int (by omega) (by rw [Int.fdiv_eq_ediv_of_nonneg i (by omega)];exact q) (.inl (PyProof.noPylong_small (by omega)))
theorem op_mod:OpR X (binaryOp .Mod) (rI (fun _ j=>0 < j) fun i j => .int (i % j)):=opI fun i j _ _ _ _ _ hc q=>by
  have h1:(0:Int) < j:=hc
  exact mod_int' (by omega) (by rw [Int.fmod_eq_emod_of_nonneg i (by omega)];exact q)
theorem op_pow:OpR X (binaryOp .Pow) (rI CPow fun i j => .int (i ^ j.toNat)):=opI fun _ _ _ _ _ _ _ hc q=>pow_int_small hc.1 hc.2.1 hc.2.2 q


theorem unI {f:Value→Sem Value} {g:Int→Int}
    (rule:∀ (i:Int) (t:Tok) (s:Shared) (Q:Value→Shared→Prop) (E:Value→Shared→Prop),Q (.int (g i) s.toks) { s with toks:=s.toks+1 }→wpAny (model X.prog X.w) X.A (f (.int i t)) Q E s) :
    UnR X f (rU fun i => .int (g i)):=by
  intro pins s σ H x v Q I rx h
  obtain ⟨i,rfl,q⟩:=h
  obtain ⟨t,rfl⟩:=rx
  exact rule i t s _ _ ⟨.int (g i),H,I.tok _,⟨_,rfl⟩,q⟩
theorem un_neg:UnR X (unaryOp .USub) (rU fun i => .int (-i)):=unI fun _ _ _ _ _ q=>neg_int q

end

noncomputable def scal:V→V→Bool
  | .non,.non=>true | .non,.int _=>true | .int _,.non=>true | .non,.bl _=>true | .bl _,.non=>true | .non,.str _=>true | .str _,.non=>true
  | .int _,.int _=>true | .bl _,.bl _=>true | .str _,.str _=>true | .byt _,.byt _=>true
  | .int _,.str _=>true | .str _,.int _=>true | .bl _,.str _=>true | .str _,.bl _=>true
  | _,_=>false
noncomputable def rEq:R2:=fun x y H Q=>scal x y=true∧Q (.bl (decide (x=y))) H
noncomputable def rNe:R2:=fun x y H Q=>scal x y=true∧Q (.bl (!decide (x=y))) H

theorem dec_int {i j:Int}:decide (V.int i=V.int j)=(i == j):=by
  rw [Bool.eq_iff_iff]
  simp
theorem dec_bl {i j:Bool}:decide (V.bl i=V.bl j)=(i == j):=by
  rw [Bool.eq_iff_iff]
  simp
theorem dec_str {i j:Str}:decide (V.str i=V.str j)=(i == j):=by
  rw [Bool.eq_iff_iff]
  simp
theorem dec_byt {i j:Array UInt8}:decide (V.byt i=V.byt j)=(i.toList == j.toList):=by
  rw [Bool.eq_iff_iff]
  cases i
  cases j
  simp

section
variable {X:Cx} {a b c:Expr} {ta tb tc:TE} {pos:Pos}
theorem fin_bl {pins:List (Addr × Obj)} {σ : St} {H:Hp} {s:Shared} {Q:VK} {k k':Bool} (I:Inv X pins σ H s) (q:Q (.bl k) H) (e:k=k'):EP X pins σ Q (.bool k') s:=by
  subst e
  exact ⟨.bl k,H,I,rfl,q⟩
theorem op_eq:OpR X (compareOp .Eq) rEq:=by
  intro pins s σ H x y v u Q I rx ry h
  obtain ⟨hs,q⟩:=h
  cases x with
  | non =>
    cases rx
    cases y with
    | non=>cases ry;exact PySem.EqNone.eq_none_none (fin_bl I q (by simp))
    | bl j=>cases ry;exact PySem.EqNone.eq_none_bool (fin_bl I q (by simp))
    | int j=>obtain ⟨t',rfl⟩:=ry;exact PySem.EqNone.eq_none_int (fin_bl I q (by simp))
    | str j=>obtain ⟨t',rfl⟩:=ry;exact PySem.EqNone.eq_none_str (fin_bl I q (by simp))
    | _=>exact absurd (show false=true from hs) Bool.false_ne_true
  | bl i =>
    cases rx
    cases y with
    | non=>cases ry;exact PySem.EqNone.eq_bool_none (fin_bl I q (by simp))
    | bl j=>cases ry;exact eq_bool (fin_bl I q dec_bl)
    | str j=>obtain ⟨t',rfl⟩:=ry;exact PySem.EqMixed.eq_bool_str (fin_bl I q (by simp))
    | _=>exact absurd (show false=true from hs) Bool.false_ne_true
  | int i =>
    obtain ⟨t,rfl⟩:=rx
    cases y with
    | non=>cases ry;exact PySem.EqNone.eq_int_none (fin_bl I q (by simp))
    | int j=>obtain ⟨t',rfl⟩:=ry;exact eq_int (fin_bl I q dec_int)
    | str j=>obtain ⟨t',rfl⟩:=ry;exact PySem.EqMixed.eq_int_str (fin_bl I q (by simp))
    | _=>exact absurd (show false=true from hs) Bool.false_ne_true
  | str i =>
    obtain ⟨t,rfl⟩:=rx
    cases y with
    | non=>cases ry;exact PySem.EqNone.eq_str_none (fin_bl I q (by simp))
    | bl j=>cases ry;exact PySem.EqMixed.eq_str_bool (fin_bl I q (by simp))
    | int j=>obtain ⟨t',rfl⟩:=ry;exact PySem.EqMixed.eq_str_int (fin_bl I q (by simp))
    | str j=>obtain ⟨t',rfl⟩:=ry;exact eq_str (fin_bl I q dec_str)
    | _=>exact absurd (show false=true from hs) Bool.false_ne_true
  | byt i =>
    obtain ⟨t,rfl⟩:=rx
    cases y with
    | byt j=>obtain ⟨t',rfl⟩:=ry;exact PySem.W.eq_bytes (fin_bl I q dec_byt)
    | _=>exact absurd (show false=true from hs) Bool.false_ne_true
  | _=>cases y <;> exact absurd (show false=true from hs) Bool.false_ne_true
theorem op_ne:OpR X (compareOp .NotEq) rNe:=by
  intro pins s σ H x y v u Q I rx ry h
  obtain ⟨hs,q⟩:=h
  cases x with
  | non =>
    cases rx
    cases y with
    | non=>cases ry;exact PySem.EqNone.ne_none_none (fin_bl I q (by simp))
    | bl j=>cases ry;exact PySem.EqNone.ne_none_bool (fin_bl I q (by simp))
    | int j=>obtain ⟨t',rfl⟩:=ry;exact PySem.EqNone.ne_none_int (fin_bl I q (by simp))
    | str j=>obtain ⟨t',rfl⟩:=ry;exact PySem.EqNone.ne_none_str (fin_bl I q (by simp))
    | _=>exact absurd (show false=true from hs) Bool.false_ne_true
  | bl i =>
    cases rx
    cases y with
    | non=>cases ry;exact PySem.EqNone.ne_bool_none (fin_bl I q (by simp))
    | bl j=>cases ry;exact ne_bool (fin_bl I q (congrArg not dec_bl))
    | str j=>obtain ⟨t',rfl⟩:=ry;exact PySem.EqMixed.ne_bool_str (fin_bl I q (by simp))
    | _=>exact absurd (show false=true from hs) Bool.false_ne_true
  | int i =>
    obtain ⟨t,rfl⟩:=rx
    cases y with
    | non=>cases ry;exact PySem.EqNone.ne_int_none (fin_bl I q (by simp))
    | int j=>obtain ⟨t',rfl⟩:=ry;exact ne_int (fin_bl I q (congrArg not dec_int))
    | str j=>obtain ⟨t',rfl⟩:=ry;exact PySem.EqMixed.ne_int_str (fin_bl I q (by simp))
    | _=>exact absurd (show false=true from hs) Bool.false_ne_true
  | str i =>
    obtain ⟨t,rfl⟩:=rx
    cases y with
    | non=>cases ry;exact PySem.EqNone.ne_str_none (fin_bl I q (by simp))
    | bl j=>cases ry;exact PySem.EqMixed.ne_str_bool (fin_bl I q (by simp))
    | int j=>obtain ⟨t',rfl⟩:=ry;exact PySem.EqMixed.ne_str_int (fin_bl I q (by simp))
    | str j=>obtain ⟨t',rfl⟩:=ry;exact ne_str (fin_bl I q (congrArg not dec_str))
    | _=>exact absurd (show false=true from hs) Bool.false_ne_true
  | byt i =>
    obtain ⟨t,rfl⟩:=rx
    cases y with
    | byt j=>obtain ⟨t',rfl⟩:=ry;exact PySem.W.ne_bytes (fin_bl I q (congrArg not dec_byt))
    | _=>exact absurd (show false=true from hs) Bool.false_ne_true
  | _=>cases y <;> exact absurd (show false=true from hs) Bool.false_ne_true

theorem op_lt:OpR X (compareOp .Lt) (rI0 fun i j => .bl (decide (i < j))):=opB0 fun _ _ _ _ _ _ _ q=>lt_int q
theorem op_gt:OpR X (compareOp .Gt) (rI0 fun i j => .bl (decide (j < i))):=opB0 fun _ _ _ _ _ _ _ q=>gt_int q
theorem op_ge:OpR X (compareOp .GtE) (rI0 fun i j => .bl (decide (j≤i))):=opB0 fun _ _ _ _ _ _ _ q=>ge_int q




theorem nomark (b:Expr) {op:CmpOp} (h:op ≠ .In:=by decide) (h2:op ≠ .NotIn:=by decide):behindInMarks op b=false:=by
  have e1:(op == CmpOp.In)=false:=by cases op <;> first | rfl | exact absurd rfl h
  have e2:(op == CmpOp.NotIn)=false:=by cases op <;> first | rfl | exact absurd rfl h2
  cases b <;> simp [behindInMarks,e1,e2]
theorem pe_cmpR {op:CmpOp} {r:R2} (ho:OpR X (compareOp op) r) (ha:PE X a ta) (hb:PE X b tb) (hm:behindInMarks op b=false):PE X (.Compare a [op] [b] pos) (tOp r ta tb):=by
  intro pins s σ H Q I h
  exact wpAny_Compare1 (binT ha hb I h fun v u s2 x y H2 I2 rx ry q=>ho pins s2 σ H2 x y v u Q I2 rx ry q) hm
inductive RTest (x:V) (H:Hp) (Q:Bool→Hp→Prop):Prop
  | mk (k:Bool) (hx:x = .bl k) (q:Q k H):RTest x H Q
noncomputable def tTest (t:TE):TT:=fun σ H Q=>t σ H fun x H'=>RTest x H' Q
theorem pt_cmpR {op:CmpOp} {r:R2} (ho:OpR X (compareOp op) r) (ha:PE X a ta) (hb:PE X b tb) (hm:behindInMarks op b=false):PT X (.Compare a [op] [b] pos) (tTest (tOp r ta tb)):=by
  intro pins s σ H Q I h
  refine wpAny_isTrue_Compare1 (thn (ha pins s σ H _ I h) fun v s1 ⟨x,H1,I1,r1,q1⟩=>thn (hb pins s1 σ H1 _ I1 q1) fun u s2 ⟨y,H2,I2,r2,q2⟩ =>
    thn (ho pins s2 σ H2 x y v u _ I2 r1 r2 q2) fun c s3 ⟨z,H3,I3,r3,k,e,q3⟩ => ?_) hm
  subst e
  cases r3
  exact wpAny_truthy_bool ⟨H3,I3,q3⟩

theorem line63:(sizeLine:Nat) < 2 ^ 63:=by rw [sizeLine_eq];decide

inductive J_op_add_str (x:V) (y:V) (H:Hp) (Q:VK):Prop
  | mk:∀ i j,(x = .str i)→(y = .str j)→(i.length+j.length≤sizeLine)→(Q (.str (i ++ j)) H)→J_op_add_str x y H Q
theorem op_add_str:OpR X (binaryOp .Add) (fun x y H Q=>J_op_add_str x y H Q):=by
  intro pins s σ H x y v u Q I rx ry h
  obtain ⟨i,j,rfl,rfl,hz,q⟩:=h
  obtain ⟨t,rfl⟩:=rx
  obtain ⟨t',rfl⟩:=ry
  exact add_str (fun t' tk=>⟨.str (i ++ j),H,I.tok _,⟨_,rfl⟩,q⟩) hz


theorem vals1 {x:V} {us:List Value} (r:Vals [x] us):∃ u,us = [u]∧RelV x u:=by
  cases r with
  | cons r1 r2=>cases r2;exact ⟨_,rfl,r1⟩
theorem vals2 {x y:V} {us:List Value} (r:Vals [x,y] us):∃ u w',us = [u,w']∧RelV x u∧RelV y w':=by
  cases r with
  | cons r1 r2 =>
    cases r2 with
    | cons r3 r4=>cases r4;exact ⟨_,_,rfl,r1,r3⟩
inductive J_call_max2 (xs:List V) (H:Hp) (Q:VK):Prop
  | mk:∀ i j,(xs = [.int i,.int j])→(Q (.int (if j > i then j else i)) H)→J_call_max2 xs H Q
theorem call_max2 (hc:X.calm=true):CallR X (.builtin "max") (fun xs H Q=>J_call_max2 xs H Q):=by
  intro pins s σ H xs us Q I r h
  obtain ⟨i,j,rfl,q⟩:=h
  obtain ⟨u,w',rfl,⟨t,rfl⟩,⟨t',rfl⟩⟩:=vals2 r
  refine max_two_ints (I.ok.hd hc) fun h' tk k=>⟨_,H,I.kept k,?_,q⟩
  by_cases hj:j > i
  · rw [if_pos hj,if_pos hj];exact ⟨_,rfl⟩
  · rw [if_neg hj,if_neg hj];exact ⟨_,rfl⟩
inductive J_call_min2 (xs:List V) (H:Hp) (Q:VK):Prop
  | mk:∀ i j,(xs = [.int i,.int j])→(Q (.int (if j < i then j else i)) H)→J_call_min2 xs H Q
theorem call_min2 (hc:X.calm=true):CallR X (.builtin "min") (fun xs H Q=>J_call_min2 xs H Q):=by
  intro pins s σ H xs us Q I r h
  obtain ⟨i,j,rfl,q⟩:=h
  obtain ⟨u,w',rfl,⟨t,rfl⟩,⟨t',rfl⟩⟩:=vals2 r
  refine min_two_ints (I.ok.hd hc) fun h' tk k=>⟨_,H,I.kept k,?_,q⟩
  by_cases hj:j < i
  · rw [if_pos hj,if_pos hj];exact ⟨_,rfl⟩
  · rw [if_neg hj,if_neg hj];exact ⟨_,rfl⟩
end
end L2

namespace L2
open PySem PySem.Spec PyProof.Rows

structure ObjM (h:Heap) (x dx C:Addr) (mA:Str→Option Value):Prop where
  obj:h.get? x=some (PySem.W.instObj C dx)
  ns:h.Ns1 dx mA
  ne:dx≠x

theorem lookIn_ns {h:Heap} {dx:Addr} {mA:Str→Option Value} (n:h.Ns1 dx mA):∃ od,h.get? dx=some od∧∀ name,PySem.W.lookIn name od=some (mA name):=by
  obtain ⟨o,es,ep,ho,hd,hk,_,hm⟩:=n
  refine ⟨o,ho,fun name => ?_⟩
  have e:=hm name
  unfold nsFind findBy at e
  rw [← Array.find?_toList] at e
  unfold PySem.W.lookIn
  rw [hd]
  dsimp only
  split
  · rename_i y q
    rw [q] at e
    exact congrArg some e
  · rename_i q
    rw [q] at e
    have a:es.toList.any (·.refKey)=false:=by
      rw [List.any_eq_false]
      intro y hy
      obtain ⟨z,t,hkey⟩:=hk y (Array.mem_toList_iff.mp hy)
      simp [DictEntry.refKey,hkey]
    have a':¬ es.toList.any (·.refKey)=true:=by rw [a];exact Bool.false_ne_true
    rw [if_neg a']
    exact congrArg some e

theorem ObjM.look {h:Heap} {x dx C:Addr} {mA:Str→Option Value} (I:ObjM h x dx C mA):∃ od,PySem.W.InstAt h x (PySem.W.instObj C dx) C (some od)∧∀ name,PySem.W.lookIn name od=some (mA name) :=
  let ⟨od,ho,hl⟩:=lookIn_ns I.ns
  ⟨od,⟨I.obj,rfl,rfl,ho⟩,hl⟩

section
variable {prog:Program} {w:World} {A:Around} {E:Value→Shared→Prop} {s:Shared} {K:PySem.W.Frag} {x dx C f:Addr} {mA:Str→Option Value} {name:Str} {v:Value}

theorem get_map {expr:Bool} {Q:Value→Shared→Prop} (X:K.In s.heap) (I:ObjM s.heap x dx C mA) (hg:PySem.W.plainGet K C name=true) (hh:PySem.W.hasDictIn K C=true)
    (ha:PySem.W.findIn K (.ref C) name=some none) (hv:mA name=some v) (hv':PySem.W.handedIn v=true) (h:Q v { s with toks:=s.toks+1 }) :
    wpAny (model prog w) A (getAttr (.ref x) name expr) Q E s:=by
  obtain ⟨od,J,hl⟩:=I.look
  exact PySem.W.get_value X J (PySem.W.plainGet_of hg).1 (PySem.W.findObj_own hh ha rfl (by rw [hl,hv])) hv' h


theorem get_meth {pl:Sem Bool} {Q:Value × List Value→Shared→Prop} (X:K.In s.heap) (I:ObjM s.heap x dx C mA) (hg:PySem.W.plainGet K C name=true)
    (hf:PySem.W.findIn K (.ref C) name=some (some (.ref f))) (ht:PySem.W.isFn K (.ref f)=true) (hv:mA name=none) (h:Q (.ref f, [.ref x]) s) :
    wpAny (model prog w) A (getMethod (.ref x) name pl) Q E s:=by
  obtain ⟨od,J,hl⟩:=I.look
  exact PySem.W.method_fn X J (PySem.W.plainGet_of hg).1 (PySem.W.plainGet_of hg).2 hf (beq_iff_eq.mp ht) (by show (PySem.W.lookIn name od).map (·.isSome)=some false;rw [hl,hv];rfl) h

theorem set_map {ns:List Str} {Q:Unit→Shared→Prop} (X:K.In s.heap) (I:ObjM s.heap x dx C mA)
    (hs:PySem.W.findIn K (.ref C) "__setattr__" = some (some (.builtin "object.__setattr__"))) (hp:PySem.W.plainOver K C=true) (ht:PySem.W.takerIn K C name=some none) (hh:PySem.W.hasDictIn K C=true)
    (hw:PySem.Within mA ns) (hsz:ns.length≤sizeLine)
    (h:∀ h',ObjM h' x dx C (fun y=>if y=name then some v else mA y)→Heap.SameBut dx s.heap h'→Q () { s with heap:=h',toks:=s.toks+2 }) :
    wpAny (model prog w) A (setAttr (.ref x) name v) Q E s:=by
  obtain ⟨od,J,hl⟩:=I.look
  refine PySem.W.set_plain X J hs (PySem.W.osa_open (s := { s with toks:=s.toks+1 }) (r:=none) X J hp ht fun b => ?_)
  obtain ⟨cd,hc,hd'⟩:=PySem.W.any_some hh
  have hx:s.heap.get? x=some ⟨.ref C,some dx,.plain, #[]⟩:=I.obj
  refine wpAny_bind (wpAny_pure (wpAny_bind (wpAny_bind (wpAny_loadPart hx (wpAny_bind (PySem.W.Looks.here (s := { s with toks:=s.toks+1 }) (PySem.W.looks_clsIn X hc) ?_))))))
  rw [hd']
  refine wpAny_pure (a:=some dx) (wpAny_bind (wpAny_pure (wpAny_bind ?_)))
  refine wpAny_nsSet1 (s := { s with toks:=s.toks+1 }) I.ns fun h' hn2 hs2 => ?_
  obtain ⟨oD,esD,epD,hoD,hdD,hcD⟩:=hn2.count (PySem.Within.cons name v hw)
  refine wpAny_bind (wpAny_lookBehind hoD (by rw [hdD];exact pastItsLine_dict (Nat.le_trans hcD (by rw [List.length_cons];omega))) ?_)
  exact wpAny_pure (h _ ⟨(hs2.2 _ (Ne.symm I.ne)).trans I.obj,hn2,I.ne⟩ hs2)

theorem make_map {R:Result→Shared→Prop} {vs:List Value} {kw:List (Str × Value)} (X:K.In s.heap) (hm:PySem.W.makesIn K C=true)
    (hi:PySem.W.findIn K (.ref C) "__init__" = some (some (.ref f))) (hf:PySem.W.typeIn K (.ref f)=some (.type "function"))
    (h:codeAny (model prog w) (A.under (.builtin "type.__call__" ⟨.ref C :: vs,kw⟩)) (.call (.ref f) ⟨.ref (s.heap.objs.size+1) :: vs,kw⟩) (PySem.W.InitBack (s.heap.objs.size+1) R)
      { s with heap:=(s.heap.push PySem.W.emptyDict).push (PySem.W.instObj C s.heap.objs.size) }) :
    codeAny (model prog w) A (.call (.ref C) ⟨vs,kw⟩) R s:=by
  obtain ⟨hh,g,d,t,os⟩:=s
  exact PySem.W.make_core (PySem.W.makes_of X hm) (PySem.W.looks_findIn X hi) (fun self=>PySem.W.bind_fn X self hf) (.inl rfl) h
end

noncomputable def putF (f:Str) (v:V):List (Str × V)→List (Str × V)
  | [] => [(f,v)]
  | (g,x) :: r=>if g=f then (g,v) :: r else (g,x) :: putF f v r
theorem lookup_putF (f g:Str) (v:V):∀ fs:List (Str × V),(putF f v fs).lookup g=if g=f then some v else fs.lookup g
  | []=>by
    show List.lookup g [(f,v)]=_
    by_cases h:g=f
    · have hb:(g == f)=true:=beq_iff_eq.mpr h
      simp only [List.lookup,hb,if_pos h]
    · have hb:(g == f)=false:=beq_eq_false_iff_ne.mpr h
      simp only [List.lookup,hb,if_neg h]
  | (k,x) :: r=>by
    have ih:=lookup_putF f g v r
    rw [show putF f v ((k,x) :: r)=(if k=f then (k,v) :: r else (k,x) :: putF f v r) from rfl]
    by_cases hk:k=f
    · rw [if_pos hk]
      by_cases h:g=k
      · have hb:(g == k)=true:=beq_iff_eq.mpr h
        simp only [List.lookup,hb,if_pos (h.trans hk)]
      · have hb:(g == k)=false:=beq_eq_false_iff_ne.mpr h
        simp only [List.lookup,hb,if_neg (fun e:g=f=>h (e.trans hk.symm))]
    · rw [if_neg hk]
      by_cases h:g=k
      · have hb:(g == k)=true:=beq_iff_eq.mpr h
        simp only [List.lookup,hb,if_neg (fun e:g=f=>hk (h.symm.trans e))]
      · have hb:(g == k)=false:=beq_eq_false_iff_ne.mpr h
        simp only [List.lookup,hb]
        exact ih
theorem keys_putF (f:Str) (v:V):∀ fs:List (Str × V),f∈(putF f v fs).map (·.1)∧∀ g,g∈fs.map (·.1)→g∈(putF f v fs).map (·.1)
  | []=>⟨by simp [putF],fun g h=>by simp at h⟩
  | (k,x) :: r=>by
    obtain ⟨i1,i2⟩:=keys_putF f v r
    rw [show putF f v ((k,x) :: r)=(if k=f then (k,v) :: r else (k,x) :: putF f v r) from rfl]
    by_cases hk:k=f
    · rw [if_pos hk]
      subst hk
      exact ⟨by simp,fun g h=>by simpa using h⟩
    · rw [if_neg hk]
      refine ⟨?_,fun g h => ?_⟩
      · rw [List.map_cons]
        exact List.mem_cons_of_mem _ i1
      · rw [List.map_cons] at h ⊢
        rcases List.mem_cons.mp h with e | e
        · exact List.mem_cons.mpr (.inl e)
        · exact List.mem_cons_of_mem _ (i2 g e)
theorem length_putF (f:Str) (v:V):∀ fs:List (Str × V),(putF f v fs).length≤fs.length+1
  | []=>by simp [putF]
  | (k,x) :: r=>by
    have ih:=length_putF f v r
    rw [show putF f v ((k,x) :: r)=(if k=f then (k,v) :: r else (k,x) :: putF f v r) from rfl]
    by_cases hk:k=f
    · rw [if_pos hk,List.length_cons,List.length_cons];omega
    · rw [if_neg hk,List.length_cons,List.length_cons];omega

theorem RelO.some_of {v:V} {o:Option Value} (r:RelO (some v) o):∃ u,o=some u∧RelV v u:=by
  cases o with
  | none=>exact (show False from r).elim
  | some u=>exact ⟨u,rfl,r⟩
theorem RelO.none_of {o:Option Value} (r:RelO none o):o=none:=by
  cases o with
  | none=>rfl
  | some u=>exact (show False from r).elim
theorem handed_of {v:V} {u:Value} (r:RelV v u):PySem.W.handedIn u=true:=by
  cases v with
  | non=>cases (show u=Value.none from r);rfl
  | bl b=>cases (show u=Value.bool b from r);rfl
  | int i=>obtain ⟨t,e⟩:=(show ∃ t,u=Value.int i t from r);cases e;rfl
  | str x=>obtain ⟨t,e⟩:=(show ∃ t,u=Value.str x t from r);cases e;rfl
  | byt b=>obtain ⟨t,e⟩:=(show ∃ t,u=Value.bytes b t from r);cases e;rfl
  | flt b=>obtain ⟨t,e⟩:=(show ∃ t,u=Value.float b t from r);cases e;rfl
  | ref a=>cases (show u=Value.ref a from r);rfl
  | ty n=>cases (show u=Value.type n from r);rfl

section
variable {P:Program} {w:World} {H H':Hp} {h h':Heap} {a C dx:Addr} {fs fs':List (Str × V)}
theorem ins_get (hok:HOk P w H h) (e:H a=some (.ins C dx fs)):∃ mA,ObjM h a dx C mA∧(∀ f,RelO (fs.lookup f) (mA f))∧PySem.Within mA (fs.map (·.1))∧fs.length≤1000∧H dx=some (.own a):=by
  obtain ⟨d,z,ne,ob,mA,n,r,q⟩:=(show ObjOk P w H h a (.ins C dx fs) from hok a _ e)
  exact ⟨mA,⟨ob,n,ne⟩,r,q,z,d⟩
end

structure Cls (K:PySem.W.Frag) (C:Addr):Prop where
  pg:PySem.W.plainGet K C Str.empty=true
  hd:PySem.W.hasDictIn K C=true
  po:PySem.W.plainOver K C=true
  sa:PySem.W.findIn K (.ref C) "__setattr__" = some (some (.builtin "object.__setattr__"))
theorem Cls.get {K:PySem.W.Frag} {C:Addr} (c:Cls K C) (f:Str):PySem.W.plainGet K C f=true:=c.pg
noncomputable def NoAttr (K:PySem.W.Frag) (C:Addr) (f:Str):Prop:=PySem.W.findIn K (.ref C) f=some none
theorem NoAttr.taker {K:PySem.W.Frag} {C:Addr} {f:Str} (n:NoAttr K C f):PySem.W.takerIn K C f=some none:=by
  unfold PySem.W.takerIn
  rw [show PySem.W.findIn K (.ref C) f=some none from n]
  rfl
structure Meth (K:PySem.W.Frag) (C:Addr) (m:Str) (f:Addr):Prop where
  at_:PySem.W.findIn K (.ref C) m=some (some (.ref f))
  fn:PySem.W.isFn K (.ref f)=true
  kp:PySem.W.keepIn K (.ref f)=true

section
variable {X:Cx} {pins:List (Addr × Obj)} {σ : St} {H:Hp} {s:Shared} {a C dx:Addr} {fs:List (Str × V)} {f:Str} {v:V} {A:Around} {E:Value→Shared→Prop}

theorem getattr_ok {b:Bool} {Q:Value→Shared→Prop} (I:Inv X pins σ H s) (e:H a=some (.ins C dx fs)) (c:Cls X.K C) (n:NoAttr X.K C f) (l:fs.lookup f=some v)
    (h:∀ u s',Inv X pins σ H s'→RelV v u→Q u s'):wpAny (model X.prog X.w) A (getAttr (.ref a) f b) Q E s:=by
  obtain ⟨mA,O,r,_,_,_⟩:=ins_get I.hok e
  obtain ⟨u,hu,ru⟩:=RelO.some_of (v:=v) (o:=mA f) (by rw [← l];exact r f)
  exact get_map I.kIn O (c.get f) c.hd n hu (handed_of ru) (h u _ (I.tok _) ru)


theorem getmeth_ok {m:Str} {g:Addr} {pl:Sem Bool} {Q:Value × List Value→Shared→Prop} (I:Inv X pins σ H s) (e:H a=some (.ins C dx fs)) (c:Cls X.K C) (k:Meth X.K C m g) (l:fs.lookup m=none)
    (h:Q (.ref g, [.ref a]) s):wpAny (model X.prog X.w) A (getMethod (.ref a) m pl) Q E s:=by
  obtain ⟨mA,O,r,_,_,_⟩:=ins_get I.hok e
  have hn:mA m=none:=RelO.none_of (by rw [← l];exact r m)
  exact get_meth I.kIn O (c.get m) k.at_ k.fn hn h

theorem setattr_ok {y:V} {u:Value} {Q:Unit→Shared→Prop} (I:Inv X pins σ H s) (e:H a=some (.ins C dx fs)) (c:Cls X.K C) (n:NoAttr X.K C f) (hl:fs.length < 1000) (ry:RelV y u)
    (h:∀ s',Inv X pins σ (upd H a (.ins C dx (putF f y fs))) s'→Q () s'):wpAny (model X.prog X.w) A (setAttr (.ref a) f u) Q E s:=by
  obtain ⟨mA,O,r,wi,_,ho⟩:=ins_get I.hok e
  have hz:(fs.map (·.1)).length≤sizeLine:=by rw [List.length_map,sizeLine_eq];omega
  refine set_map I.kIn O c.sa c.po n.taker c.hd wi hz fun h' O' sb=>h _ ?_
  have hd:∃ o,h'.get? dx=some o:=let ⟨o,_,_,e',_⟩:=O'.ns; ⟨o,e'⟩
  refine I.write (x:=a) (e:=dx) (by rw [e];exact True.intro) (.inr ho) (fun b q hb z=>(sb.2 b hb).trans z) hd ?_
  refine ⟨by rw [upd_ne O.ne];exact ho,?_,O.ne,O'.obj,_,O'.ns,fun g => ?_,fun g hg => ?_⟩
  · have:=length_putF f y fs;omega
  · show RelO ((putF f y fs).lookup g) (if g=f then some u else mA g)
    rw [lookup_putF]
    by_cases q:g=f
    · rw [if_pos q,if_pos q];exact ry
    · rw [if_neg q,if_neg q];exact r g
  · by_cases q:g=f
    · rw [q];exact (keys_putF f y fs).1
    · refine (keys_putF f y fs).2 g (wi g fun z=>hg ?_)
      show (if g=f then some u else mA g)=none
      rw [if_neg q];exact z

theorem Inv.made (I:Inv X pins σ H s):Inv X pins σ (upd (upd H s.heap.objs.size (.own (s.heap.objs.size+1))) (s.heap.objs.size+1) (.ins C s.heap.objs.size []))
    { s with heap:=(s.heap.push PySem.W.emptyDict).push (PySem.W.instObj C s.heap.objs.size) }:=by
  have e1:(s.heap.push PySem.W.emptyDict).get? s.heap.objs.size=some PySem.W.emptyDict:=Heap.get?_push_size s.heap rfl
  have e2:((s.heap.push PySem.W.emptyDict).push (PySem.W.instObj C s.heap.objs.size)).get? (s.heap.objs.size+1)=some (PySem.W.instObj C s.heap.objs.size):=by
    have:=Heap.get?_push_size (s.heap.push PySem.W.emptyDict) (o:=PySem.W.instObj C s.heap.objs.size) rfl
    rwa [Heap.size_push] at this
  have e3:(s.heap.push PySem.W.emptyDict).Ns s.heap.objs.size (fun _=>none):=⟨PySem.W.emptyDict, #[],_,e1,rfl,(fun e he=>absurd he (by simp)),fun _=>rfl⟩
  have I1:=I.laid (a:=s.heap.objs.size) (o := .own (s.heap.objs.size+1)) (h':=s.heap.push PySem.W.emptyDict) (t':=s.toks) (fun b u q=>Heap.get?_push_of_some _ q) (Nat.le_refl _) ⟨_,e1⟩
  refine I1.laid (a:=s.heap.objs.size+1) (o := .ins C s.heap.objs.size []) (t':=s.toks) (fun b u q=>Heap.get?_push_of_some _ q) (Nat.le_of_eq (Heap.size_push _ _)) ?_
  have ne:s.heap.objs.size≠s.heap.objs.size+1:=Nat.ne_of_lt (Nat.lt_succ_self _)
  refine ⟨by rw [upd_ne ne,upd_same],Nat.zero_le _,ne,e2,fun _=>none,(Heap.Ns1.of_empty e3).at fun o q=>Heap.get?_push_of_some _ q,fun _=>True.intro,fun y hy=>absurd rfl hy⟩

theorem attr_of {prog:Program} {w:World} {env:Env} {e:Expr} {f:Str} {pos:Pos} {s:Shared} {Q:Value→Shared→Prop} (hb:attributeBase e f env (eval e env)=eval e env)
    (h:wpAny (model prog w) A (eval e env) (fun o s₁ => wpAny (model prog w) A (getAttr o f true) Q E s₁) E s):wpAny (model prog w) A (eval (.Attribute e f pos) env) Q E s :=
  Attribute_any_ h (by rw [arm_eval_Attribute,hb])
end

inductive RFld (K:PySem.W.Frag) (f:Str) (x:V) (H:Hp) (Q:VK):Prop
  | mk (a C dx:Addr) (fs:List (Str × V)) (v:V) (hx:x = .ref a) (h:H a=some (.ins C dx fs)) (c:Cls K C) (n:NoAttr K C f) (l:fs.lookup f=some v) (q:Q v H):RFld K f x H Q
noncomputable def tFld (K:PySem.W.Frag) (ta:TE) (f:Str):TE:=fun σ H Q=>ta σ H fun x H1=>RFld K f x H1 Q
inductive J_sFld (K:PySem.W.Frag) (f:Str) (D:Ends) (σ : St) (y:V) (x:V) (H2:Hp):Prop
  | mk:∀ a C dx fs,(x = .ref a)→(H2 a=some (.ins C dx fs))→(Cls K C)→(NoAttr K C f)→(fs.length < 1000)→(D.nx σ (upd H2 a (.ins C dx (putF f y fs))))→J_sFld K f D σ y x H2
noncomputable def sFld (K:PySem.W.Frag) (ta tv:TE) (f:Str):TS:=fun D σ H=>tv σ H fun y H1=>ta σ H1 fun x H2=>J_sFld K f D σ y x H2

section
variable {X:Cx} {o e value:Expr} {f:Str} {pos pos' tpos:Pos} {ta tv:TE}
theorem pe_fld (he:PE X e ta) (hb:attributeBase e f X.env (eval e X.env)=eval e X.env):PE X (.Attribute e f pos) (tFld X.K ta f):=by
  intro pins s σ H Q I h
  refine attr_of hb (thn (he pins s σ H _ I h) fun u s1 ⟨x,H1,I1,rx,a,C,dx,fs,v,ex,ea,c,n,l,q⟩ => ?_)
  subst ex
  obtain rfl:u=Value.ref a:=rx
  exact getattr_ok I1 ea c n l fun u' s2 I2 ru=>⟨v,H1,I2,ru,q⟩
theorem ps_fld (ha:PE X o ta) (hv:PE X value tv) (hs:swapsWith value (some (.Attribute o f pos')) pos.line X.env=pure false):PS X (.Assign [.Attribute o f pos'] value pos) (sFld X.K ta tv f):=by
  intro pins s σ H D I h
  refine plainObj_wpAny_Assign_Attribute (thn (hv pins s σ H _ I h) fun u s1 ⟨y,H1,I1,ry,q⟩=>thn (ha pins s1 σ H1 _ I1 q) fun ov s2 ⟨x,H2,I2,rx,a,C,dx,fs,ex,ea,c,n,l,q2⟩ => ?_) hs
  subst ex
  obtain rfl:ov=Value.ref a:=rx
  exact setattr_ok I2 ea c n l ry fun s3 I3=>⟨σ,_,I3,q2⟩

end

section
variable {X:Cx} {pins:List (Addr × Obj)} {σ : St} {H:Hp} {s:Shared} {A:Around} {E:Value→Shared→Prop} {Q:Value→Shared→Prop} {c:Value} {b:Bool}
inductive TyOf (K:PySem.W.Frag) (H:Hp):V→Value→Prop where
  | non:TyOf K H .non (.type "NoneType")
  | bl (x:Bool):TyOf K H (.bl x) (.type "bool")
  | int (i:Int):TyOf K H (.int i) (.type "int")
  | str (x:Str):TyOf K H (.str x) (.type "str")
  | flt (x:UInt64):TyOf K H (.flt x) (.type "float")
  | lst {a:Addr} {xs:List V} (e:H a=some (.lst xs)):TyOf K H (.ref a) (.type "list")
  | frz {a:Addr} {o:Obj} {xs:List V} (e:H a=some (.frz o (.lst xs))):TyOf K H (.ref a) (.type "list")
  | tup {a:Addr} {xs:List V} (e:H a=some (.tup xs)):TyOf K H (.ref a) (.type "tuple")
  | dK {a:Addr} {kvs:List (Key × V)} (e:H a=some (.dK kvs)):TyOf K H (.ref a) (.type "dict")
  | dT {a:Addr} {kvs:List (List Key × V)} (e:H a=some (.dT kvs)):TyOf K H (.ref a) (.type "dict")
  | ins {a C dx:Addr} {fs:List (Str × V)} (e:H a=some (.ins C dx fs)) (cl:Cls K C) (ha:PySem.W.findIn K (.ref C) "__class__" = some (some (.builtin "object.__class__")))
      (hn:PySem.W.specialIn K (.builtin "object.__class__") "__get__" = some (some (.builtin "getset_descriptor.__get__"))) (htk:PySem.W.takesIn K (.builtin "object.__class__")=some true)
      (hm:PySem.W.mroIn K C (.type "object")=some true):TyOf K H (.ref a) (.ref C)
theorem isinst_ok {x:V} {u t:Value} (I:Inv X pins σ H s) (rx:RelV x u) (ty:TyOf X.K H x t) (e:PySem.W.kitOne X.K t c=some b) (h:∀ tk,Q (.bool b) { s with toks:=tk }) :
    wpAny (model X.prog X.w) A (call (.builtin "isinstance") [u,c]) Q E s:=by
  cases ty with
  | non=>cases (show u=Value.none from rx);exact PySem.W.kia_one PySem.W.kitx_none I.kIn True.intro e (fun z=>nomatch z) h
  | bl y=>cases (show u=Value.bool y from rx);exact PySem.W.kia_one PySem.W.kitx_bool I.kIn True.intro e (fun z=>nomatch z) h
  | int i=>obtain ⟨t,q⟩:=(show ∃ t,u=Value.int i t from rx);cases q;exact PySem.W.kia_one PySem.W.kitx_int I.kIn True.intro e (fun z=>nomatch z) h
  | str y=>obtain ⟨t,q⟩:=(show ∃ t,u=Value.str y t from rx);cases q;exact PySem.W.kia_one PySem.W.kitx_str I.kIn True.intro e (fun z=>nomatch z) h
  | flt y=>obtain ⟨t,q⟩:=(show ∃ t,u=Value.float y t from rx);cases q;exact PySem.W.kia_one PySem.W.kitx_float I.kIn True.intro e (fun z=>nomatch z) h
  | @lst a xs ea =>
    cases (show u=Value.ref a from rx)
    obtain ⟨_,_,n,_,h1⟩:=(show ObjOk X.prog X.w H s.heap a (.lst xs) from I.hok a _ ea)
    exact PySem.W.kia_one PySem.W.kitx_list I.kIn ⟨_,h1,rfl⟩ e (fun z=>nomatch z) h
  | @frz a ob xs ea =>
    cases (show u=Value.ref a from rx)
    obtain ⟨_,_,_,n,_,h1⟩:=(show ObjOk X.prog X.w H s.heap a (.frz ob (.lst xs)) from I.hok a _ ea)
    exact PySem.W.kia_one PySem.W.kitx_list I.kIn ⟨_,h1,rfl⟩ e (fun z=>nomatch z) h
  | @tup a xs ea =>
    cases (show u=Value.ref a from rx)
    obtain ⟨_,_,_,p⟩:=(show ObjOk X.prog X.w H s.heap a (.tup xs) from I.hok a _ ea)
    obtain ⟨o,h1,h2,_⟩:=p
    exact PySem.W.kia_one PySem.W.kitx_tuple I.kIn ⟨o,h1,h2⟩ e (fun z=>nomatch z) h
  | @dK a kvs ea =>
    cases (show u=Value.ref a from rx)
    obtain ⟨_,_,vs,_,p⟩:=(show ObjOk X.prog X.w H s.heap a (.dK kvs) from I.hok a _ ea)
    obtain ⟨o,es,ep,h1,h2,_⟩:=p
    exact PySem.W.kia_one PySem.W.kitx_dict I.kIn ⟨o,h1,h2.1⟩ e (fun z=>nomatch z) h
  | @dT a kvs ea =>
    cases (show u=Value.ref a from rx)
    obtain ⟨_,_,xs,_,o,es,ep,h1,h2,_⟩:=(show ObjOk X.prog X.w H s.heap a (.dT kvs) from I.hok a _ ea)
    exact PySem.W.kia_one PySem.W.kitx_dict I.kIn ⟨o,h1,h2.1⟩ e (fun z=>nomatch z) h
  | @ins a C dx fs ea cl ha hn htk hm =>
    cases (show u=Value.ref a from rx)
    obtain ⟨mA,O,_⟩:=ins_get I.hok ea
    obtain ⟨od,J,_⟩:=O.look
    exact PySem.W.kia_one (PySem.W.kitx_own (cl.get _) cl.hd ha hn htk hm) I.kIn J e (fun z=>nomatch z) h
end
end L2

namespace L2
open PySem PySem.Spec PyProof.Rows

structure Room (k:Nat) (A:Around):Prop where
  hd:A.handled=none
  dp:A.depth+3 * k+5 < recursionLimit
  un:A.units+16 * k+200 < cLine
theorem Room.mono {j k:Nat} {A:Around} (r:Room k A) (h:j≤k):Room j A:=⟨r.hd,by have:=r.dp;omega,by have:=r.un;omega⟩
theorem Room.deeper {k:Nat} {A:Around} (r:Room (k+1) A) (env:Env):Room k (A.deeper env) :=
  ⟨r.hd,by have:=r.dp;show A.depth+1+3 * k+5 < _;omega,by have:=r.un;show A.units+3+16 * k+200 < _;omega⟩
theorem make_depth {A:Around} {C:Addr} {us:List Value} {kw:List (Str × Value)}:(A.under (.builtin "type.__call__" ⟨.ref C :: us,kw⟩)).depth=A.depth+1:=by
  first | rfl | simp [Around.under,Code.weight,Code.isCreation,Code.isGuard,Code.isCaller,Code.frames,Code.isFrame,guardIds]
theorem make_units {A:Around} {C:Addr} {us:List Value} {kw:List (Str × Value)}:(A.under (.builtin "type.__call__" ⟨.ref C :: us,kw⟩)).units=A.units+1:=by
  first | rfl | simp [Around.under,Code.cUnits,Code.frames,Code.isFrame]
theorem Room.make {k:Nat} {A:Around} (r:Room (k+1) A) (C:Addr) (us:List Value) (kw:List (Str × Value)):Room k (A.under (.builtin "type.__call__" ⟨.ref C :: us,kw⟩)) :=
  ⟨r.hd,by have:=r.dp;rw [make_depth];omega,by have:=r.un;rw [make_units];omega⟩
theorem Room.depth {k:Nat} {A:Around} (r:Room k A):A.depth < recursionLimit:=by have:=r.dp;omega
theorem Room.units {k:Nat} {A:Around} (r:Room k A):A.units+64 < cLine:=by have:=r.un;omega

noncomputable def tNil:TA:=fun _ H Q=>Q [] H
noncomputable def tCons (ta:TE) (tr:TA):TA:=fun σ H Q=>ta σ H fun x H1=>tr σ H1 fun xs H2=>Q (x :: xs) H2
section
variable {X:Cx} {e:Expr} {es:List Expr} {te:TE} {t:TA} {pos:Pos}
theorem pa_nil:PA X [] tNil:=fun _ _ _ _ H Q I h=>Calls.spliced_nil ⟨[],H,I,.nil,h⟩
theorem pa_cons (ha:PE X e te) (hr:PA X es t) (hs:starEach (e :: es) X.env=(false,eval e X.env) :: starEach es X.env:=by rfl):PA X (e :: es) (tCons te t):=by
  intro pos pins s σ H Q I h
  rw [hs]
  show wpAny _ _ (spliced ((false,eval e X.env) :: backTo pos (starEach es X.env))) _ _ s
  refine Calls.spliced_cons (thn (ha pins s σ H _ I h) fun u s1 ⟨x,H1,I1,r1,q1⟩ => ?_)
  exact thn (hr pos pins s1 σ H1 _ I1 q1) fun us s2 ⟨xs,H2,I2,r2,q2⟩=>⟨x :: xs,H2,I2,.cons r1 r2,q2⟩

noncomputable def tTup (t:TA):TE:=fun σ H Q=>t σ H fun xs H1=>xs.length≤sizeLine∧∀ p,H1 p=none→Q (.ref p) (upd H1 p (.tup xs))
noncomputable def tLst (t:TA):TE:=fun σ H Q=>t σ H fun xs H1=>xs.length≤sizeLine∧∀ p,H1 p=none→Q (.ref p) (upd H1 p (.lst xs))
theorem pe_tup {x1} (h:PA X es t):PE X (.Tuple es x1 pos) (tTup t):=by
  intro pins s σ H Q I hq
  refine wpAny_Tuple_spliced (thn (h pos pins s σ H _ I hq) fun us s1 ⟨xs,H1,I1,r,z,q⟩=>⟨by rw [← r.length];exact z,?_⟩)
  have hf:H1 s1.heap.objs.size=none:=I1.hok.fresh (Nat.le_refl _)
  refine ⟨.ref s1.heap.objs.size,upd H1 s1.heap.objs.size (.tup xs),I1.laid (t':=s1.toks) (fun b u e=>Heap.get?_push_of_some _ e) (Nat.le_refl _) ?_,rfl,q _ hf⟩
  exact ⟨z,us,r,⟨_,Heap.get?_push_size _ rfl,rfl,_,rfl,rfl⟩⟩
theorem pe_lst (h:PA X es t):PE X (.List es pos) (tLst t):=by
  intro pins s σ H Q I hq
  refine wpAny_List_spliced (thn (h pos pins s σ H _ I hq) fun us s1 ⟨xs,H1,I1,r,z,q⟩=>⟨by rw [← r.length];exact z,?_⟩)
  have hf:H1 s1.heap.objs.size=none:=I1.hok.fresh (Nat.le_refl _)
  refine ⟨.ref s1.heap.objs.size,upd H1 s1.heap.objs.size (.lst xs),I1.laid (t':=s1.toks) (fun b u e=>Heap.get?_push_of_some _ e) (Nat.le_refl _) ?_,rfl,q _ hf⟩
  exact ⟨z,us,0,r,Heap.get?_push_size _ rfl⟩
end

noncomputable abbrev Sp:=List V→Hp→VK→XK→Prop
noncomputable abbrev CXT:=List Env→Hp→Shared→XK→Value→Shared→Prop

structure Env0 (P:Program) (w:World) (K:PySem.W.Frag) (mg:Str→Option Value) (base:Heap) (A:Around) (outer:List Env) (s:Shared) (H:Hp):Prop where
  frames:A.frames=some outer
  mod:Mod K mg base
  bs:∀ b o,base.get? b=some o→s.heap.get? b=some o∧H b=none
  bsz:base.objs.size≤s.heap.objs.size
  funs:s.heap.FunFrames base outer
  frf:∀ b∈frs outer,H b=none
  hok:HOk P w H s.heap
  bare:AllBare s.gens
noncomputable def CE (outer:List Env) (P:Program) (w:World) (H:Hp) (s:Shared) (Q:VK) (u:Value) (s':Shared):Prop :=
  ∃ v H',s'.os=s.os∧AllBare s'.gens∧Un (frs outer) [] H H' s.heap s'.heap∧HOk P w H' s'.heap∧RelV v u∧Q v H'
noncomputable def CR (CX:CXT) (outer:List Env) (P:Program) (w:World) (H:Hp) (s:Shared) (Q:VK) (E:XK) (r:Result) (s':Shared):Prop :=
  match r with
  | .ok (.ret u)=>CE outer P w H s Q u s'
  | .ok _=>False
  | .error e=>CX outer H s E e s'
structure FnOk (P:Program) (w:World) (K:PySem.W.Frag) (mg:Str→Option Value) (base:Heap) (CX:CXT) (k:Nat) (f:Addr) (fd:FuncData) (ps:List Str) (sp:Sp):Prop where
  len:∀ vs H Q E,sp vs H Q E→vs.length=ps.length
  run:∀ (A:Around) (outer:List Env) (s:Shared) (H:Hp) (args:Args) (us:List Value) (vs:List V) (Q:VK) (E:XK),Room k A→Env0 P w K mg base A outer s H→BindsTo s fd args (ps.zip us)→Vals vs us→sp vs H Q E →
    codeAny (model P w) A (.call (.ref f) args) (CR CX outer P w H s Q E) s

theorem Env0.make {P:Program} {w:World} {K:PySem.W.Frag} {mg:Str→Option Value} {base:Heap} {A:Around} {outer:List Env} {s:Shared} {H:Hp} (e:Env0 P w K mg base A outer s H) (C:Addr) (us:List Value) (kw:List (Str × Value)) :
    Env0 P w K mg base (A.under (.builtin "type.__call__" ⟨.ref C :: us,kw⟩)) outer s H:=⟨by first | exact e.frames | (simpa [Around.under,Code.envs,Code.isFrame,pushEnvs] using e.frames),e.mod,e.bs,e.bsz,e.funs,e.frf,e.hok,e.bare⟩

section
variable {X:Cx} {pins:List (Addr × Obj)} {σ : St} {H:Hp} {s s':Shared}
theorem Inv.env0 (I:Inv X pins σ H s):Env0 X.prog X.w X.K X.mg X.base X.A X.stack s H :=
  ⟨I.ok.frames,I.ok.mod,I.bs,Nat.le_trans I.ok.bsz I.sz,I.stack,I.stkFree,I.hok,I.bare⟩
theorem Inv.after {Q:VK} {u:Value} (I:Inv X pins σ H s) (h:CE X.stack X.prog X.w H s Q u s'):EP X pins σ Q u s':=by
  obtain ⟨v,H',os,bare,un,hok,r,q⟩:=h
  obtain ⟨hh,g,d,t,os'⟩:=s'
  obtain rfl:os'=s.os:=os
  exact ⟨v,H',I.call (h':=hh) (g':=g) (d':=d) (t':=t) (ch := []) un hok bare (fun b z=>absurd z (by simp)),r,q⟩
end

noncomputable def tCall (sp:Sp) (dvs:List V) (E:XK) (t:TA):TE:=fun σ H Q=>t σ H fun vs H1=>sp (vs ++ dvs) H1 Q E
inductive J_tMeth (C:Addr) (m:Str) (sp:Sp) (dvs:List V) (E:XK) (t:TA) (σ : St) (Q:VK) (x:V) (H1:Hp):Prop
  | mk:∀ a dx fs,(x = .ref a)→(H1 a=some (.ins C dx fs))→(fs.lookup m=none)→(t σ H1 fun vs H2=>sp (x :: (vs ++ dvs)) H2 Q E)→J_tMeth C m sp dvs E t σ Q x H1
noncomputable def tMeth (C:Addr) (m:Str) (sp:Sp) (dvs:List V) (E:XK) (ta:TE) (t:TA):TE:=fun σ H Q=>ta σ H fun x H1=>J_tMeth C m sp dvs E t σ Q x H1
noncomputable def tMake (C:Addr) (sp:Sp) (dvs:List V) (E:XK) (t:TA):TE:=fun σ H Q=>t σ H fun vs H1=>∀ x dx,H1 x=none→H1 dx=none→dx≠x →
  sp (.ref x :: (vs ++ dvs)) (upd (upd H1 dx (.own x)) x (.ins C dx [])) (fun v H2=>v = .non∧Q (.ref x) H2) E

noncomputable def Binds (K:PySem.W.Frag) (fd:FuncData) (ps:List Str) (ds:List Value):Prop :=
  ∀ (s:Shared) (us:List Value),K.In s.heap→(us ++ ds).length=ps.length→BindsTo s fd ⟨us, []⟩ (ps.zip (us ++ ds))
theorem Binds.all {K:PySem.W.Frag} {fd:FuncData} {ps:List Str} (h:∀ us:List Value,us.length=ps.length→bindArgs fd ⟨us, []⟩=pure (ps.zip us)):Binds K fd ps []:=fun s us _ hl=>by
  rw [List.append_nil] at hl ⊢
  exact .of_eq (h us hl)

noncomputable def Passes (CX:CXT) (X:Cx) (E:XK):Prop := ∀ (pins:List (Addr × Obj)) (σ : St) (H:Hp) (s:Shared) (e:Value) (s':Shared),Inv X pins σ H s→CX X.stack H s E e s'→X.xe e s'

section
variable {X:Cx} {CX:CXT} {k:Nat} {f C:Addr} {fd:FuncData} {ps:List Str} {sp:Sp} {dvs:List V} {ds:List Value} {E:XK} {x m:Str} {p pos apos:Pos} {e o:Expr} {es:List Expr} {ta:TE} {t:TA}

theorem run_fn {pins:List (Addr × Obj)} {σ : St} {H:Hp} {s:Shared} {Q:VK} {us:List Value} {vs:List V} (F:FnOk X.prog X.w X.K X.mg X.base CX k f fd ps sp) (hr:Room k X.A) (hb:Binds X.K fd ps ds) (hd:Vals dvs ds) (hx:Passes CX X E)
    (I:Inv X pins σ H s) (r:Vals vs us) (h:sp (vs ++ dvs) H Q E):wpAny (model X.prog X.w) X.A (call (.ref f) us) (EP X pins σ Q) X.xe s:=by
  have r2:Vals (vs ++ dvs) (us ++ ds):=r.append hd
  have hl:(us ++ ds).length=ps.length:=by rw [← r2.length];exact F.len _ _ _ _ h
  refine wpAny_call (codeAny_mono (F.run X.A X.stack s H ⟨us, []⟩ (us ++ ds) (vs ++ dvs) Q E hr I.env0 (hb s us I.kIn hl) r2 h) fun r s' hq => ?_)
  cases r with
  | error e=>exact hx pins σ H s e s' I hq
  | ok fl =>
    cases fl with
    | ret u=>exact I.after hq
    | next=>exact False.elim hq
    | brk=>exact False.elim hq
    | cont=>exact False.elim hq

theorem pe_call (F:FnOk X.prog X.w X.K X.mg X.base CX k f fd ps sp) (hr:Room k X.A) (hg:Gl X x) (hm:X.mg x=some (.ref f)) (hk:PySem.W.keepIn X.K (.ref f)=true) (hb:Binds X.K fd ps ds) (hd:Vals dvs ds) (hx:Passes CX X E)
    (ha:PA X (e :: es) t) (hdb:(x == ("__debug__" : Str))=false:=by decide) (he:starEach (e :: es) X.env=(false,eval e X.env) :: starEach es X.env:=by rfl) (hpl:(backTo pos (starEach es X.env)).any (·.1)=false:=by rfl) :
    PE X (.Call (.Name x p) (e :: es) [] pos) (tCall sp dvs E t):=by
  intro pins s σ H Q I h
  refine wpAny_Call_Name_kw (ld_glob I hg hm ?_ hdb)
  refine PySem.W.callWith_K (h₀ := X.base) I.ok.mod.kin hk (thn (ha pos pins s σ H _ I h) fun us s1 ⟨vs,H1,I1,r,q⟩=>⟨I1.kIn,?_⟩) he hpl
  exact run_fn F hr hb hd hx I1 r q

theorem pe_meth {pl:Sem Bool} (he:PE X o ta) (c:Cls X.K C) (hm:Meth X.K C m f) (F:FnOk X.prog X.w X.K X.mg X.base CX k f fd ps sp) (hr:Room k X.A) (hb:Binds X.K fd ps ds) (hd:Vals dvs ds) (hx:Passes CX X E) (ha:PA X (e :: es) t)
    (hst:starEach (e :: es) X.env=(false,eval e X.env) :: starEach es X.env:=by rfl) (hpl:(backTo pos (starEach es X.env)).any (·.1)=false:=by rfl)
    (ht:eval (.Call (.Attribute o m apos) (e :: es) [] pos) X.env=(do
      let ov ← eval o X.env
      standAt apos.atName
      let (f,first) ← holding [ov] (getMethod ov m pl)
      callWith pos f first (backTo pos (starEach (e :: es) X.env)) (backToKw pos (keywordEach [] X.env))):=by rfl) :
    PE X (.Call (.Attribute o m apos) (e :: es) [] pos) (tMeth C m sp dvs E ta t):=by
  intro pins s σ H Q I h
  refine PySem.W.methodCall_KW (pl:=pl) (thn (he pins s σ H _ I h) fun u s1 ⟨x,H1,I1,rx,a,dx,fs,ex,ea,l,q⟩ => ?_) ht
  subst ex
  obtain rfl:u=Value.ref a:=rx
  refine getmeth_ok I1 ea c hm l ?_
  refine PySem.W.callWith_K (first := [.ref a]) (h₀ := X.base) I.ok.mod.kin hm.kp (thn (ha pos pins s1 σ H1 _ I1 q) fun us s2 ⟨vs,H2,I2,r,q2⟩=>⟨I2.kIn,?_⟩) hst hpl
  exact run_fn (us := .ref a :: us) (vs := .ref a :: vs) F hr hb hd hx I2 (.cons rfl r) q2

structure Mk (K:PySem.W.Frag) (C f:Addr):Prop where
  makes:PySem.W.makesIn K C=true
  init:PySem.W.findIn K (.ref C) "__init__" = some (some (.ref f))
  fn:PySem.W.isFn K (.ref f)=true
  kp:PySem.W.keepIn K (.ref C)=true

theorem run_make {pins:List (Addr × Obj)} {σ : St} {H:Hp} {s:Shared} {Q:VK} {us:List Value} {vs:List V} (M:Mk X.K C f) (F:FnOk X.prog X.w X.K X.mg X.base CX k f fd ps sp) (hr:Room (k+1) X.A) (hb:Binds X.K fd ps ds) (hd:Vals dvs ds)
    (hx:Passes CX X E) (I:Inv X pins σ H s) (r:Vals vs us)
    (h:∀ x dx,H x=none→H dx=none→dx≠x→sp (.ref x :: (vs ++ dvs)) (upd (upd H dx (.own x)) x (.ins C dx [])) (fun v H2=>v = .non∧Q (.ref x) H2) E) :
    wpAny (model X.prog X.w) X.A (call (.ref C) us) (EP X pins σ Q) X.xe s:=by
  have hq:=h (s.heap.objs.size+1) s.heap.objs.size (I.hok.fresh (Nat.le_succ _)) (I.hok.fresh (Nat.le_refl _)) (Nat.ne_of_lt (Nat.lt_succ_self _))
  have I2:=Inv.made (C:=C) I
  have r2:Vals (V.ref (s.heap.objs.size+1) :: (vs ++ dvs)) (Value.ref (s.heap.objs.size+1) :: (us ++ ds)) := .cons rfl (r.append hd)
  have hl:(Value.ref (s.heap.objs.size+1) :: us ++ ds).length=ps.length:=by
    have e:=r2.length
    rw [F.len _ _ _ _ hq] at e
    exact e.symm
  refine wpAny_call (make_map (f:=f) I.kIn M.makes M.init (beq_iff_eq.mp M.fn) (codeAny_mono (F.run _ X.stack _ _ ⟨Value.ref (s.heap.objs.size+1) :: us, []⟩ (Value.ref (s.heap.objs.size+1) :: (us ++ ds)) _ _ E (hr.make C us [])
    (I2.env0.make C us []) (hb _ (Value.ref (s.heap.objs.size+1) :: us) I2.kIn hl) r2 hq) fun r s' hq' => ?_))
  cases r with
  | error e=>exact hx pins σ _ _ e s' I2 hq'
  | ok fl =>
    cases fl with
    | ret u =>
      obtain ⟨v,H',I3,rv,ev,q3⟩:=I2.after hq'
      subst ev
      exact ⟨rv,⟨V.ref (s.heap.objs.size+1),H',I3,rfl,q3⟩⟩
    | next=>exact False.elim hq'
    | brk=>exact False.elim hq'
    | cont=>exact False.elim hq'
theorem pe_make (M:Mk X.K C f) (F:FnOk X.prog X.w X.K X.mg X.base CX k f fd ps sp) (hr:Room (k+1) X.A) (hg:Gl X x) (hm:X.mg x=some (.ref C)) (hb:Binds X.K fd ps ds) (hd:Vals dvs ds) (hx:Passes CX X E)
    (ha:PA X (e :: es) t) (hdb:(x == ("__debug__" : Str))=false:=by decide) (he:starEach (e :: es) X.env=(false,eval e X.env) :: starEach es X.env:=by rfl) (hpl:(backTo pos (starEach es X.env)).any (·.1)=false:=by rfl) :
    PE X (.Call (.Name x p) (e :: es) [] pos) (tMake C sp dvs E t):=by
  intro pins s σ H Q I h
  refine wpAny_Call_Name_kw (ld_glob I hg hm ?_ hdb)
  refine PySem.W.callWith_K (h₀ := X.base) I.ok.mod.kin M.kp (thn (ha pos pins s σ H _ I h) fun us s1 ⟨vs,H1,I1,r,q⟩=>⟨I1.kIn,?_⟩) he hpl
  exact run_make M F hr hb hd hx I1 r q
end

noncomputable def PK (X:Cx) (kws:List Keyword) (t:TA):Prop :=
  ∀ (pos:Pos) (pins:List (Addr × Obj)) (s:Shared) (σ : St) (H:Hp) (Q:List V→Hp→Prop),Inv X pins σ H s→t σ H Q→wpAny (model X.prog X.w) X.A (evalAll ((backToKw pos (keywordEach kws X.env)).map (·.2))) (AP X pins σ Q) X.xe s
section
variable {X:Cx} {CX:CXT} {k:Nat} {f C:Addr} {fd:FuncData} {ps ks:List Str} {sp:Sp} {E:XK} {x m:Str} {p pos apos kpos:Pos} {e o:Expr} {es:List Expr} {kws:List Keyword} {te ta:TE} {t tk:TA} {nm:Option Str}
theorem pk_nil:PK X [] tNil:=fun _ _ _ _ H Q I h=>wpAny_evalAll_nil ⟨[],H,I,.nil,h⟩
theorem pk_cons (ha:PE X e te) (hr:PK X kws t):PK X (⟨nm,e,kpos⟩ :: kws) (tCons te t):=by
  intro pos pins s σ H Q I h
  show wpAny _ _ (evalAll ((do let v ← eval e X.env;standAt pos;pure v) :: (backToKw pos (keywordEach kws X.env)).map (·.2))) _ _ s
  refine wpAny_evalAll_cons (wpAny_bind (thn (ha pins s σ H _ I h) fun u s1 ⟨x,H1,I1,r1,q1⟩=>wpAny_bind (wpAny_standAt (wpAny_pure ?_))))
  exact thn (hr pos pins s1 σ H1 _ I1 q1) fun us s2 ⟨xs,H2,I2,r2,q2⟩=>⟨x :: xs,H2,I2,.cons r1 r2,q2⟩

structure KBinds (K:PySem.W.Frag) (fd:FuncData) (ps ks:List Str) (g:List Value→List Value→List Value) (gV:List V→List V→List V):Prop where
  to:∀ (s:Shared) (us ws:List Value),K.In s.heap→(g us ws).length=ps.length→BindsTo s fd ⟨us,ks.zip ws⟩ (ps.zip (g us ws))
  rel:∀ {vs:List V} {us:List Value} {zs:List V} {ws:List Value},Vals vs us→Vals zs ws→Vals (gV vs zs) (g us ws)
variable {g:List Value→List Value→List Value} {gV:List V→List V→List V}
theorem run_fnk {pins:List (Addr × Obj)} {σ : St} {H:Hp} {s:Shared} {Q:VK} {us ws:List Value} {vs zs:List V} (F:FnOk X.prog X.w X.K X.mg X.base CX k f fd ps sp) (hr:Room k X.A) (hb:KBinds X.K fd ps ks g gV) (hx:Passes CX X E)
    (I:Inv X pins σ H s) (r:Vals vs us) (rz:Vals zs ws) (h:sp (gV vs zs) H Q E):wpAny (model X.prog X.w) X.A (call (.ref f) us (ks.zip ws)) (EP X pins σ Q) X.xe s:=by
  have r2:=hb.rel r rz
  have hl:(g us ws).length=ps.length:=by rw [← r2.length];exact F.len _ _ _ _ h
  refine wpAny_call (codeAny_mono (F.run X.A X.stack s H ⟨us,ks.zip ws⟩ (g us ws) (gV vs zs) Q E hr I.env0 (hb.to s us ws I.kIn hl) r2 h) fun r s' hq => ?_)
  cases r with
  | error e=>exact hx pins σ H s e s' I hq
  | ok fl =>
    cases fl with
    | ret u=>exact I.after hq
    | next=>exact False.elim hq
    | brk=>exact False.elim hq
    | cont=>exact False.elim hq
end

structure FnScope (N P:List Str) (sc:Scope):Prop where
  kind:sc.kind = .function
  co:sc.isCoroutine=false
  gen:sc.isGenerator=false
  nd:N.Nodup
  pre:N.take P.length=P
  par:∀ x∈P,sc.names.lookup x=some .local∨sc.names.lookup x=some .cell
  nofree:∀ y∈sc.names,y.2 ≠ .free

theorem bindL_out {kindOf:Str→Option NameKind} {x:Str}:∀ {binds:List (Str × Value)} {m:Str→Option Value},(∀ v,(x,v) ∉ binds)→bindL kindOf binds m x=m x
  | [],_,_=>rfl
  | (n,v) :: r,m,h=>by
    unfold bindL
    rw [bindL_out fun w hw=>h w (List.mem_cons_of_mem _ hw)]
    split
    · have:x≠n:=by rintro rfl;exact h v List.mem_cons_self
      simp [this]
    · rfl
theorem bindC_out {kindOf:Str→Option NameKind} {x:Str}:∀ {binds:List (Str × Value)} {m:Str→Option Value},(∀ v,(x,v) ∉ binds)→bindC kindOf binds m x=m x
  | [],_,_=>rfl
  | (n,v) :: r,m,h=>by
    unfold bindC
    rw [bindC_out fun w hw=>h w (List.mem_cons_of_mem _ hw)]
    split
    · rfl
    · have:x≠n:=by rintro rfl;exact h v List.mem_cons_self
      simp [this]
theorem bindL_get {kindOf:Str→Option NameKind} {x:Str} {v:Value}:∀ {P:List Str} {vs:List Value} {i:Nat} {m:Str→Option Value},P.Nodup→P[i]? = some x→vs[i]? = some v→kindOf x=some .local →
    bindL kindOf (P.zip vs) m x=some v
  | [],_,_,_,_,h,_,_=>by simp at h
  | _ :: _, [],_,_,_,_,h,_=>by simp at h
  | p :: P,w :: vs,0,m,nd,h1,h2,hk=>by
    simp at h1 h2;subst h1;subst h2
    show bindL kindOf ((p,w) :: P.zip vs) m p=_
    unfold bindL
    rw [bindL_out fun v hv=>(List.nodup_cons.mp nd).1 (List.of_mem_zip hv).1,if_pos hk]
    simp
  | p :: P,w :: vs,i+1,m,nd,h1,h2,hk=>by
    show bindL kindOf ((p,w) :: P.zip vs) m x=_
    unfold bindL
    exact bindL_get (i:=i) (List.nodup_cons.mp nd).2 (by simpa using h1) (by simpa using h2) hk
theorem bindC_get {kindOf:Str→Option NameKind} {x:Str} {v:Value}:∀ {P:List Str} {vs:List Value} {i:Nat} {m:Str→Option Value},P.Nodup→P[i]? = some x→vs[i]? = some v→kindOf x≠some .local →
    bindC kindOf (P.zip vs) m x=some v
  | [],_,_,_,_,h,_,_=>by simp at h
  | _ :: _, [],_,_,_,_,h,_=>by simp at h
  | p :: P,w :: vs,0,m,nd,h1,h2,hk=>by
    simp at h1 h2;subst h1;subst h2
    show bindC kindOf ((p,w) :: P.zip vs) m p=_
    unfold bindC
    rw [bindC_out fun v hv=>(List.nodup_cons.mp nd).1 (List.of_mem_zip hv).1,if_neg hk]
    simp
  | p :: P,w :: vs,i+1,m,nd,h1,h2,hk=>by
    show bindC kindOf ((p,w) :: P.zip vs) m x=_
    unfold bindC
    exact bindC_get (i:=i) (List.nodup_cons.mp nd).2 (by simpa using h1) (by simpa using h2) hk

noncomputable def start (N:List Str) (vs:List V):St:=vs.map some ++ List.replicate (N.length - vs.length) none

noncomputable def cxOf (CX:CXT) (P:Program) (w:World) (K:PySem.W.Frag) (mg:Str→Option Value) (base:Heap) (N:List Str) (qual:Str) (scope:Scope) (f:Addr) (cd:Value) (A:Around) (outer:List Env) (s:Shared) (H:Hp) (E:XK):Cx where
  prog:=P
  w:=w
  K:=K
  mg:=mg
  base:=base
  A:=A.deeper (envOfC qual scope s.heap.objs.size f cd)
  N:=N
  s₀ := s
  H₀ := H
  env:=envOfC qual scope s.heap.objs.size f cd
  outer:=outer
  stack:=envOfC qual scope s.heap.objs.size f cd :: outer
  ex := []
  calm:=true
  fn:=fun _=>true
  pn := []
  xe:=fun e s'=>wpAny (model P w) (A.deeper (envOfC qual scope s.heap.objs.size f cd)) (leaving (envOfC qual scope s.heap.objs.size f cd) e) (fun _ s''=>CX outer H s E e s'') (fun e' s''=>CX outer H s E e' s'') s'

theorem cell_has {sc:Scope} {n:Nat} {x:Str} (h:sc.names.lookup x=some .cell):∃ c,(cellsFrom n sc.names []).lookup x=some c:=by
  have q:=PySem.W.cellsFrom_some sc.names n [] (.inl h)
  exact Option.isSome_iff_exists.mp q

theorem inv_start {CX:CXT} {P:Program} {w:World} {K:PySem.W.Frag} {mg:Str→Option Value} {base:Heap} {N ps:List Str} {qual:Str} {scope:Scope} {f:Addr} {cd:Value} {A:Around} {outer:List Env} {s s1:Shared} {H:Hp} {E:XK} {us:List Value} {vs:List V}
    (S:FnScope N ps scope) (hd:A.handled=none) (e0:Env0 P w K mg base A outer s H) (hl:vs.length=ps.length) (r:Vals vs us)
    (x:InCallC s s.heap.objs.size (bindL (envOfC qual scope s.heap.objs.size f cd).kindOf (ps.zip us) fun _=>none) (cellsFrom (s.heap.objs.size+1) scope.names []) (bindC (envOfC qual scope s.heap.objs.size f cd).kindOf (ps.zip us) fun _=>none) s1) :
    Inv (cxOf CX P w K mg base N qual scope f cd A outer s H E) [] (start N vs) H s1:=by
  have hpl:ps.length≤N.length:=by have:=congrArg List.length S.pre;rw [List.length_take] at this;omega
  obtain ⟨h1,tk,rfl,hk⟩:=x.done
  have noA:∀ b:Addr,b ∉ (cxOf CX P w K mg base N qual scope f cd A outer s H E).ex:=fun b z=>absurd (show b∈([]:List Addr) from z) (by simp)
  refine ⟨⟨e0.mod,S.kind,rfl,rfl,Nat.le_refl _,fun y z c h1 h2 => ?_,fun y hy => ?_,fun y c _ h => ?_,fun _=>hd,Around.frames_deeper e0.frames,.inr ⟨rfl,rfl⟩,fun b z=>absurd z (noA b),e0.bs,e0.bsz,fun b _ _=>noA b,fun b z=>absurd z (noA b),e0.funs,e0.frf⟩,
    rfl,e0.bare,Un.kept hk,⟨_,x.toInCall.ns,fun i y v h1 h2 h3 => ?_⟩,fun y c h=>⟨_,x.cell y c h⟩,e0.hok.fresh (Nat.le_refl _),fun y c h => ?_,fun p hp=>absurd (show p∈([]:List (Addr × Obj)) from hp) (by simp),e0.hok.kept hk,?_⟩
  · exact name_of_addr x.apart (PySem.mem_of_lookup h1) (PySem.mem_of_lookup h2)
  · have hy:scope.names.lookup y=some .cell∨scope.names.lookup y=some .free:=hy
    rcases hy with hy | hy
    · exact cell_has hy
    · exact absurd rfl (S.nofree _ (PySem.mem_of_lookup hy))
  · exact Nat.le_of_lt (x.above y c (PySem.mem_of_lookup h))
  · have hi:i < vs.length:=by
      unfold start at h2
      by_cases hi:i < vs.length
      · exact hi
      · rw [List.getElem?_append_right (by simpa using hi)] at h2
        rw [List.getElem?_replicate] at h2
        split at h2 <;> cases h2
    have ha:vs[i]? = some v:=by
      unfold start at h2
      rw [List.getElem?_append_left (by simpa using hi),List.getElem?_map] at h2
      cases e:vs[i]? with
      | none=>rw [e] at h2;cases h2
      | some a=>rw [e] at h2;cases h2;rfl
    obtain ⟨u,hu,rv⟩:=r.get ha
    have hp:ps[i]? = some y:=by
      rw [← S.pre,List.getElem?_take_of_lt (by omega)];exact h1
    have ndP:ps.Nodup:=by rw [← S.pre];exact S.nd.sublist (List.take_sublist _ _)
    refine ⟨u,rv,?_⟩
    rcases S.par y (List.mem_of_getElem? hp) with k | k
    · exact .inl ⟨k,bindL_get ndP hp hu k⟩
    · obtain ⟨c,e⟩:=cell_has (n:=s.heap.objs.size+1) k
      refine .inr ⟨.inl k,c,e,?_⟩
      have q:=x.cell y c e
      rw [bindC_get ndP hp hu (by show scope.names.lookup y≠_;rw [k];decide)] at q
      exact q
  · exact e0.hok.fresh (Nat.le_of_lt (x.above y c (PySem.mem_of_lookup h)))
  · unfold start
    show _=N.length
    rw [List.length_append,List.length_map,List.length_replicate]
    omega

theorem fn_of {CX:CXT} {P:Program} {w:World} {K:PySem.W.Frag} {mg:Str→Option Value} {base:Heap} {k:Nat} {f:Addr} {name qual:Str} {params:Arguments} {body:List Stmt} {scope:Scope} {dV kV doc pm cdv ct oc:Value} {an od:Option Addr}
    {osl:Array (Option Value)} {N ps:List Str} {sp:Sp} (lk:K.lookup f=some ⟨oc,od,.func (PySem.W.fnOf name qual params body scope dV kV doc pm an cdv ct),osl⟩) (hcd:PySem.W.codeIn K cdv qual=true) (S:FnScope N ps scope)
    (len:∀ vs H Q E,sp vs H Q E→vs.length=ps.length)
    (hbody:∀ (A:Around) (outer:List Env) (s:Shared) (H:Hp) (vs:List V) (Q:VK) (E:XK),Room k (A.deeper (envOfC qual scope s.heap.objs.size f cdv))→sp vs H Q E →
      ∃ t,PSs (cxOf CX P w K mg base N qual scope f cdv A outer s H E) body t∧t { nx:=fun _ H'=>Q .non H',rt:=Q } (start N vs) H) :
    FnOk P w K mg base CX (k+1) f (PySem.W.fnOf name qual params body scope dV kV doc pm an cdv ct) ps sp:=by
  refine ⟨len,fun A outer s H args us vs Q E hr e0 hb r hsp => ?_⟩
  have hl:=len _ _ _ _ hsp
  have KX:K.In s.heap:=e0.mod.kin.keeps fun b o e=>(e0.bs b o e).1
  have lim:s.heap.NoLimit:=e0.mod.nolimit.keeps fun b o e=>(e0.bs b o e).1
  have hkind:∀ y∈ps.zip us,scope.names.lookup y.1=some .local∨(scope.names.lookup y.1=some .cell∧((cellsFrom (s.heap.objs.size+1) scope.names []).lookup y.1).isSome=true):=fun ⟨n,v⟩ hy=>by
    rcases S.par n (List.of_mem_zip hy).1 with q | q
    · exact .inl q
    · exact .inr ⟨q,PySem.W.cellsFrom_some _ _ _ (.inl q)⟩
  refine codeAny_call_function hr.depth (KX _ _ lk) rfl S.co S.gen rfl (PySem.W.codeRec_of KX hcd) (hb _ _ _ _ ?_)
  refine wpAny_newFunctionEnv_cells S.kind hkind fun env he s1 x => ?_
  subst he
  refine ⟨lim.keeps x.toInCall.keep,codeAny_func ?_⟩
  obtain ⟨t,ht,hq⟩:=hbody A outer s H vs Q E (hr.deeper _) hsp
  have I:Inv (cxOf CX P w K mg base N qual scope f cdv A outer s H E) [] (start N vs) H s1:=inv_start S hr.hd e0 hl r x
  refine wpAny_mono (ht [] s1 (start N vs) H _ I hq) (fun fl s' hs => ?_) fun e s' hs=>hs
  have fin:∀ {σ':St} {H':Hp} {v:V} {u:Value},Inv (cxOf CX P w K mg base N qual scope f cdv A outer s H E) [] σ' H' s'→RelV v u→Q v H'→CE outer P w H s Q u s' :=
    fun {σ' H' v u} J rv q=>⟨v,H',J.os,J.bare,J.base,J.hok,rv,q⟩
  cases fl with
  | ret u =>
    obtain ⟨v, σ',H',J,rv,q⟩:=hs
    exact fin J rv q
  | next =>
    obtain ⟨σ',H',J,q⟩:=hs
    exact fin (v:=V.non) (u:=Value.none) J rfl q
  | brk =>
    obtain ⟨_,_,_,q⟩:=hs
    exact False.elim q
  | cont =>
    obtain ⟨_,_,_,q⟩:=hs
    exact False.elim q
end L2

namespace L2
open PySem PySem.Spec PyProof.Rows
section
variable {X:Cx} {x:Str} {p pos:Pos} {e:Expr} {es:List Expr} {t:TA} {id T:String} {r:List V→Hp→VK→Prop}

noncomputable def tCB (r:List V→Hp→VK→Prop) (t:TA):TE:=fun σ H Q=>t σ H fun vs H1=>r vs H1 Q
theorem pe_callB (hc:CallR X (.builtin id) r) (hg:Gl X x) (hm:X.mg x=none) (hv:bootBuiltins x=some (.builtin id)) (ha:PA X (e :: es) t) (hn:x ≠ "__name__" := by decide) (hdb:(x == ("__debug__" : Str))=false:=by decide)
    (he:starEach (e :: es) X.env=(false,eval e X.env) :: starEach es X.env:=by rfl) (hpl:(backTo pos (starEach es X.env)).any (·.1)=false:=by rfl):PE X (.Call (.Name x p) (e :: es) [] pos) (tCB r t):=by
  intro pins s σ H Q I h
  refine wpAny_Call_Name_kw (ld_blt I hg hm hv ?_ hn hdb)
  exact PyProof.Rows.callWith_builtin1 (thn (ha pos pins s σ H _ I h) fun us s1 ⟨vs,H1,I1,r1,q1⟩=>hc pins s1 σ H1 vs us Q I1 r1 q1) he hpl
theorem pe_callTy (hc:CallR X (.type T) r) (hg:Gl X x) (hm:X.mg x=none) (hv:bootBuiltins x=some (.type T)) (ha:PA X (e :: es) t) (hn:x ≠ "__name__" := by decide) (hdb:(x == ("__debug__" : Str))=false:=by decide)
    (he:starEach (e :: es) X.env=(false,eval e X.env) :: starEach es X.env:=by rfl) (hpl:(backTo pos (starEach es X.env)).any (·.1)=false:=by rfl):PE X (.Call (.Name x p) (e :: es) [] pos) (tCB r t):=by
  intro pins s σ H Q I h
  refine wpAny_Call_Name_kw (ld_blt I hg hm hv ?_ hn hdb)
  exact PyProof.Rows.callWith_type1 (thn (ha pos pins s σ H _ I h) fun us s1 ⟨vs,H1,I1,r1,q1⟩=>hc pins s1 σ H1 vs us Q I1 r1 q1) he hpl
end
end L2

namespace HT
open PySem PyProof.Rows



section
open PySem.SeqAt
open PySem.AutoSeq1 (wpAny_loadPart')
open PySem.MeetsSeq PySem.MeetsSeq2 PySem.MeetsSeq3

end

section
variable {prog:Program} {w:World} {A:Around} {E:Value→Shared→Prop} {s:Shared}



noncomputable def sIx (n d:Nat):Option Int→Nat
  | none=>d
  | some v=>if v < 0 then (v+(n:Int)).toNat else min v.toNat n
theorem sIx_none (n d:Nat):sIx n d none=d:=rfl
theorem sIx_nat (n d k:Nat):sIx n d (some (k:Int))=min k n:=by
  show (if (k:Int) < 0 then ((k:Int)+(n:Int)).toNat else min (k:Int).toNat n)=min k n
  rw [if_neg (by omega),Int.toNat_natCast]
theorem sIx_le (n d:Nat) (hd:d≤n) (o:Option Int):sIx n d o≤n:=by
  cases o with
  | none=>exact hd
  | some v =>
    show (if v < 0 then (v+(n:Int)).toNat else min v.toNat n)≤n
    by_cases hv:v < 0
    · rw [if_pos hv];omega
    · rw [if_neg hv];exact Nat.min_le_right _ _

end
end HT

namespace L2
open PySem PySem.Spec PyProof.Rows

noncomputable abbrev TO:=St→Hp→(Option Int→Hp→Prop)→Prop
noncomputable def PO (X:Cx) (e:Option Expr) (t:TO):Prop :=
  ∀ (pins:List (Addr × Obj)) (s:Shared) (σ : St) (H:Hp) (Q:Option Int→Hp→Prop),Inv X pins σ H s→t σ H Q →
    wpAny (model X.prog X.w) X.A (evalPart e X.env) (fun u s'=>∃ o H',Inv X pins σ H' s'∧IsPart u o∧Q o H') X.xe s
noncomputable def tNoPart:TO:=fun _ H Q=>Q none H
inductive J_tPart (Q:Option Int→Hp→Prop) (x:V) (H1:Hp):Prop
  | mk:∀ i,(x = .int i)→(Q (some i) H1)→J_tPart Q x H1
noncomputable def tPart (t:TE):TO:=fun σ H Q=>t σ H fun x H1=>J_tPart Q x H1

theorem intsAre_of {ns:List Int}:∀ {us:List Value},Vals (ns.map V.int) us→IntsAre us ns:=by
  induction ns with
  | nil=>intro us r;rw [List.map_nil] at r;cases r;exact .nil
  | cons n ns ih =>
    intro us r
    rw [List.map_cons] at r
    cases r with
    | cons r1 r2 =>
      obtain ⟨t,e⟩:=r1
      subst e
      exact .cons n t (ih r2)

section
variable {X:Cx} {e:Expr} {te:TE} {lo hi:Option Expr} {tl th:TO} {pos p2:Pos}

theorem po_none:PO X none tNoPart:=by
  intro pins s σ H Q I h
  rw [evalPart_none]
  exact wpAny_pure ⟨none,H,I,.none,h⟩
theorem po_some (h:PE X e te):PO X (some e) (tPart te):=by
  intro pins s σ H Q I hw
  rw [evalPart_some]
  refine thn (h pins s σ H _ I hw) fun u s1 ⟨x,H1,I1,r1,q1⟩ => ?_
  obtain ⟨i,rfl,q⟩:=q1
  obtain ⟨t,rfl⟩:=r1
  exact ⟨some i,H1,I1,.int i t,q⟩

noncomputable def SlR (X:Cx) (r:V→Option Int→Option Int→Hp→VK→Prop):Prop :=
  ∀ (pins:List (Addr × Obj)) (s:Shared) (σ : St) (H:Hp) (x:V) (v vl vu:Value) (lo hi:Option Int) (sl:Addr) (Q:VK),Inv X pins σ H s→RelV x v→s.heap.IsSliceOf sl vl vu .none→IsPart vl lo→IsPart vu hi→r x lo hi H Q →
    ∃ T id,typeLookup (.type T) "__getitem__" = pure (some (.builtin id))∧s.TypeIs v T∧wpAny (model X.prog X.w) X.A (getItem v (.ref sl)) (EP X pins σ Q) X.xe s
noncomputable def tSl (r:V→Option Int→Option Int→Hp→VK→Prop) (te:TE) (tl th:TO):TE:=fun σ H Q=>te σ H fun x H1=>tl σ H1 fun l H2=>th σ H2 fun u H3=>r x l u H3 Q
theorem pe_slice {r:V→Option Int→Option Int→Hp→VK→Prop} (hr:SlR X r) (he:PE X e te) (hl:PO X lo tl) (hu:PO X hi th):PE X (.Subscript e (.Slice lo hi none p2) pos) (tSl r te tl th):=by
  intro pins s σ H Q I h
  refine Subscript_ (thn (he pins s σ H _ I h) fun v s1 ⟨x,H1,I1,r1,q1⟩ => ?_)
  refine wpAny_Slice (thn (hl pins s1 σ H1 _ I1 q1) fun vl s2 ⟨l,H2,I2,pl,q2⟩=>thn (hu pins s2 σ H2 _ I2 q2) fun vu s3 ⟨u,H3,I3,pu,q3⟩ => ?_)
  rw [evalPart_none]
  refine wpAny_pure ?_
  have I4:Inv X pins σ H3 { s3 with heap:=s3.heap.push { cls := .type "slice",data := .fields #[vl,vu,.none] } }:=I3.kept (t':=s3.toks) fun b ob q=>Heap.get?_push_of_some _ q
  obtain ⟨T,id,hT,ht,hg⟩:=hr pins { s3 with heap:=s3.heap.push { cls := .type "slice",data := .fields #[vl,vu,.none] } } σ H3 x v vl vu l u s3.heap.objs.size Q I4 r1 (Heap.IsSliceOf.new ..) pl pu q3
  show wpAny (model X.prog X.w) X.A (subscriptTail e (.Slice lo hi none p2) v (.ref s3.heap.objs.size)) (EP X pins σ Q) X.xe { s3 with heap:=s3.heap.push { cls := .type "slice",data := .fields #[vl,vu,.none] } }
  exact tail_any (ops := [.ref s3.heap.objs.size,v]) ht hT hg (by with_unfolding_all rfl)

noncomputable def cutV (xs:List V) (lo hi:Option Int):List V:=(xs.drop (HT.sIx xs.length 0 lo)).take (HT.sIx xs.length xs.length hi - HT.sIx xs.length 0 lo)
theorem cutV_length (xs:List V) (lo hi:Option Int):(cutV xs lo hi).length≤xs.length:=by
  unfold cutV
  rw [List.length_take,List.length_drop]
  omega

end
end L2

namespace L2
open PySem PySem.Spec PyProof.Rows

noncomputable def ixN (n:Nat) (i:Int):Option Nat:=if 0≤i then (if i < n then some i.toNat else none) else if -(n:Int)≤i then some (i+n).toNat else none
noncomputable def atI {α : Type} (xs:List α) (i:Int):Option α := (ixN xs.length i).bind fun j=>xs[j]?
theorem ixN_seq {n:Nat} {i:Int} {j:Nat} (h:ixN n i=some j):seqIndex? i n=some j∧j < n ∧ -(n:Int)≤i∧i < n:=by
  unfold ixN at h
  by_cases h0:0≤i
  · rw [if_pos h0] at h
    by_cases h1:i < n
    · rw [if_pos h1] at h
      have e:i.toNat=j:=Option.some.inj h
      exact ⟨by rw [seqIndex_of h0 h1,e],by omega,by omega,h1⟩
    · rw [if_neg h1] at h;cases h
  · rw [if_neg h0] at h
    by_cases h1 : -(n:Int)≤i
    · rw [if_pos h1] at h
      have e:(i+n).toNat=j:=Option.some.inj h
      exact ⟨by rw [seqIndex_neg (by omega) h1,e],by omega,h1,by omega⟩
    · rw [if_neg h1] at h;cases h
theorem atI_get {α : Type} {xs:List α} {i:Int} {v : α} (h:atI xs i=some v):∃ j,seqIndex? i xs.length=some j∧xs[j]? = some v∧j < xs.length ∧ -(xs.length:Int)≤i∧i < xs.length:=by
  unfold atI at h
  cases e:ixN xs.length i with
  | none=>rw [e] at h;cases h
  | some j =>
    rw [e] at h
    obtain ⟨h1,h2,h3,h4⟩:=ixN_seq e
    exact ⟨j,h1,h,h2,h3,h4⟩
theorem atI_nat {α : Type} {xs:List α} {j:Nat} {v : α} (h:xs[j]? = some v):atI xs (j:Int)=some v:=by
  have hj:j < xs.length:=(List.getElem?_eq_some_iff.mp h).1
  have e:ixN xs.length (j:Int)=some j:=by
    unfold ixN
    rw [if_pos (by omega),if_pos (by omega)];simp
  unfold atI;rw [e];exact h

noncomputable def PlainIx (b:Expr):Prop := ∀ o i,subscripted b false o i=operate [o,i] (getItem o i)
noncomputable def IxR (X:Cx) (r:R2):Prop :=
  ∀ (value slice:Expr) (pins:List (Addr × Obj)) (s:Shared) (σ : St) (H:Hp) (x y:V) (v u:Value) (Q:VK),Inv X pins σ H s→RelV x v→RelV y u→r x y H Q →
    subscripted slice false v u=operate [v,u] (getItem v u)→wpAny (model X.prog X.w) X.A (subscriptTail value slice v u) (EP X pins σ Q) X.xe s
noncomputable def MtR (X:Cx) (id:String) (r:V→List V→Hp→VK→Prop):Prop :=
  ∀ (pins:List (Addr × Obj)) (s:Shared) (σ : St) (H:Hp) (x:V) (xs:List V) (v:Value) (us:List Value) (Q:VK),Inv X pins σ H s→RelV x v→Vals xs us→r x xs H Q →
    wpAny (model X.prog X.w) X.A (call (.builtin id) (v :: us)) (EP X pins σ Q) X.xe s
section
variable {X:Cx} {a b:Expr} {ta tb:TE} {pos:Pos}
theorem pe_ix {r:R2} (hr:IxR X r) (ha:PE X a ta) (hb:PE X b tb) (hs:PlainIx b):PE X (.Subscript a b pos) (tOp r ta tb):=by
  intro pins s σ H Q I h
  exact Subscript_ (binT ha hb I h fun v u s2 x y H2 I2 rx ry q=>hr a b pins s2 σ H2 x y v u Q I2 rx ry q (hs _ _))

inductive RIxL (K:PySem.W.Frag) (x y:V) (H:Hp) (Q:VK):Prop
  | mk (p:Addr) (xs:List V) (i:Int) (v:V) (hx:x = .ref p) (hy:y = .int i) (hS:SqL K H p xs) (he:atI xs i=some v) (q:Q v H):RIxL K x y H Q
noncomputable def rIxL (K:PySem.W.Frag):R2:=fun x y H Q=>RIxL K x y H Q
inductive RIxT (K:PySem.W.Frag) (x y:V) (H:Hp) (Q:VK):Prop
  | mk (p:Addr) (xs:List V) (i:Int) (v:V) (hx:x = .ref p) (hy:y = .int i) (hS:SqT K H p xs) (he:atI xs i=some v) (q:Q v H):RIxT K x y H Q
noncomputable def rIxT (K:PySem.W.Frag):R2:=fun x y H Q=>RIxT K x y H Q
inductive J_rIxS (x:V) (y:V) (H:Hp) (Q:VK):Prop
  | mk:∀ z i c,(x = .str z)→(y = .int i)→(z.length≤sizeLine)→(atI z.cps.toList i=some c)→(Q (.str ⟨#[c]⟩) H)→J_rIxS x y H Q
noncomputable def rIxS:R2:=fun x y H Q=>J_rIxS x y H Q
theorem ix_list:IxR X (rIxL X.K):=by
  intro value slice pins s σ H x y v u Q I rx ry h hs
  obtain ⟨p,xs,i,z,rfl,rfl,hq,he,q⟩:=h
  cases rx
  obtain ⟨t,rfl⟩:=ry
  obtain ⟨its,r,pl,hz⟩:=I.list hq
  obtain ⟨j,h1,h2,h3,h4,h5⟩:=atI_get he
  obtain ⟨w,ew,rw'⟩:=r.get h2
  have hl:=r.length
  have hn:=line63
  have fin:EP X pins σ Q w s:=⟨z,H,I,rw',q⟩
  by_cases h0:0≤i
  · have hj:i.toNat=j:=by
      rw [seqIndex_of h0 h5] at h1
      exact Option.some.inj h1
    exact item_listR pl.isList h0 (by omega) (by rw [hj];simpa using ew) fin hs
  · have hj:(i+(its.toArray.size:Int)).toNat=j:=by
      rw [seqIndex_neg (by omega) h4] at h1
      rw [List.size_toArray, ← hl]
      exact Option.some.inj h1
    exact subscriptTail_builtinR (x:=w) pl.isList.typeIs slot_list_getitem.lookup
      (wpAny_getItem_list_neg (Q:=fun r s'=>r=w∧EP X pins σ Q r s') pl.isList (by omega) (by rw [List.size_toArray] <;> omega) (by omega) (by rw [hj];simpa using ew) ⟨rfl,fin⟩) hs
theorem ix_tup:IxR X (rIxT X.K):=by
  intro value slice pins s σ H x y v u Q I rx ry h hs
  obtain ⟨p,xs,i,z,rfl,rfl,hq,he,q⟩:=h
  cases rx
  obtain ⟨t,rfl⟩:=ry
  obtain ⟨its,r,pl,hz⟩:=I.tuple hq
  obtain ⟨j,h1,h2,h3,h4,h5⟩:=atI_get he
  obtain ⟨w,ew,rw'⟩:=r.get h2
  have hl:=r.length
  have hn:=line63
  have fin:EP X pins σ Q w s:=⟨z,H,I,rw',q⟩
  exact subscriptTail_builtinR (x:=w) pl.typeIs slot_tuple_getitem.lookup
    (getItem_tuple (j:=j) (Q:=fun r s'=>r=w∧EP X pins σ Q r s') pl (by omega) (by omega) (by rw [List.size_toArray, ← hl];exact h1) (by simpa using ew) ⟨rfl,fin⟩) hs
theorem ix_str:IxR X rIxS:=by
  intro value slice pins s σ H x y v u Q I rx ry h hs
  obtain ⟨z,i,c,rfl,rfl,hz,he,q⟩:=h
  obtain ⟨t,rfl⟩:=rx
  obtain ⟨t',rfl⟩:=ry
  obtain ⟨j,h1,h2,h3,h4,h5⟩:=atI_get he
  have hl:z.cps.toList.length=z.length:=by simp [Str.length]
  rw [hl] at h1 h4 h5
  have hn:=line63
  exact tail_any (typeIs_str s z t) slot_str_getitem.lookup (getItem_str (c:=c) (by
    have e1:decide (i < -(2 ^ 63:Int))=false:=decide_eq_false (by omega)
    have e2:decide (i ≥ 2 ^ 63)=false:=decide_eq_false (by omega)
    rw [e1,e2,Bool.or_false]) (by rw [h1];simpa using h2) ⟨.str ⟨#[c]⟩,H,I.tok _,⟨_,rfl⟩,q⟩) hs

theorem mapSeq_set (its:List Value) (n j:Nat) (u:Value):Obj.mapSeq (·.setIfInBounds j u) { cls := .type "list",data := .seq its.toArray n }={ cls := .type "list",data := .seq (its.set j u).toArray n }:=by
  simp [Obj.mapSeq]
theorem Inv.lst {pins:List (Addr × Obj)} {σ : St} {H:Hp} {s:Shared} {p:Addr} {xs:List V} (I:Inv X pins σ H s) (h:H p=some (.lst xs)) :
    ∃ (its:List Value) (n:Nat),Vals xs its∧s.heap.get? p=some { cls := .type "list",data := .seq its.toArray n }∧xs.length≤sizeLine:=by
  obtain ⟨z,its,n,r,e⟩:=I.hok p _ h
  exact ⟨its,n,r,e,z⟩
theorem Inv.lstUpd {pins:List (Addr × Obj)} {σ : St} {H:Hp} {s:Shared} {p:Addr} {xs ys:List V} {its its':List Value} {n n':Nat} {f:Obj→Obj} (I:Inv X pins σ H s) (h:H p=some (.lst xs))
    (ho:s.heap.get? p=some { cls := .type "list",data := .seq its.toArray n }) (hf:f { cls := .type "list",data := .seq its.toArray n }={ cls := .type "list",data := .seq its'.toArray n' }) (r:Vals ys its') (hz:ys.length≤sizeLine) (t:Nat) :
    Inv X pins σ (upd H p (.lst ys)) { s with heap:=s.heap.update p f,toks:=t }:=by
  have e:(s.heap.update p f).get? p=some { cls := .type "list",data := .seq its'.toArray n' }:=by
    rw [Heap.get?_update_self f ho (by rw [hf] <;> rfl),hf]
  refine I.write (x:=p) (e:=p) (by rw [h];trivial) (.inl rfl) (fun b u hb q=>(Heap.get?_update_other _ _ (Ne.symm hb)).trans q) ⟨_,e⟩ ?_
  exact ⟨hz,its',n',r,e⟩
inductive J_rSetL (o:V) (i:V) (v:V) (H:Hp) (Q:Hp→Prop):Prop
  | mk:∀ p xs k j,(o = .ref p)→(i = .int k)→(H p=some (.lst xs))→(ixN xs.length k=some j)→(Q (upd H p (.lst (xs.set j v))))→J_rSetL o i v H Q
noncomputable def rSetL:V→V→V→Hp→(Hp→Prop)→Prop:=fun o i v H Q=>J_rSetL o i v H Q
theorem set_list:PSet X rSetL:=by
  intro pins s σ H o i v ov iv u Q I ro ri rv h
  obtain ⟨p,xs,k,j,rfl,rfl,hp,hj,q⟩:=h
  cases ro
  obtain ⟨t,rfl⟩:=ri
  obtain ⟨its,n,r,ho,hz⟩:=I.lst hp
  obtain ⟨h1,h2,h3,h4⟩:=ixN_seq hj
  have hl:=r.length
  have hn:=line63
  have I':Inv X pins σ (upd H p (.lst (xs.set j v))) { s with heap:=s.heap.update p (Obj.mapSeq (·.setIfInBounds j u)) } :=
    I.lstUpd hp ho (mapSeq_set its n j u) (r.set rv j) (by rw [List.length_set];exact hz) s.toks
  by_cases h0:0≤k
  · have hk:k.toNat=j:=by
      rw [seqIndex_of h0 h4] at h1
      exact Option.some.inj h1
    exact PySem.W.ki_setAt ho h0 (by omega) (by rw [List.size_toArray, ← hl];exact h4) (by rw [hk];exact ⟨_,I',q⟩)
  · have hk:(k+(its.toArray.size:Int)).toNat=j:=by
      rw [seqIndex_neg (by omega) h3] at h1
      rw [List.size_toArray, ← hl]
      exact Option.some.inj h1
    exact PySem.W.ki_setBack ho (by omega) (by rw [List.size_toArray, ← hl];exact h3) (by omega) (by rw [hk];exact ⟨_,I',q⟩)

theorem slice_bounds (lo hi:Option Int) (n:Nat):(sliceBounds lo hi none n).1=((HT.sIx n 0 lo:Nat):Int)∧(sliceBounds lo hi none n).2.1=((HT.sIx n n hi:Nat):Int)∧(sliceBounds lo hi none n).2.2=1:=by
  refine ⟨?_,?_,rfl⟩
  · cases lo with
    | none=>simp [sliceBounds,HT.sIx]
    | some i =>
      simp only [sliceBounds,HT.sIx,Option.getD_none,show (1:Int) > 0 by decide,if_true]
      by_cases h:i < 0
      · simp only [h,if_true] <;> omega
      · simp only [h,if_false] <;> omega
  · cases hi with
    | none=>simp [sliceBounds,HT.sIx]
    | some i =>
      simp only [sliceBounds,HT.sIx,Option.getD_none,show (1:Int) > 0 by decide,if_true]
      by_cases h:i < 0
      · simp only [h,if_true] <;> omega
      · simp only [h,if_false] <;> omega
theorem slicePick_cut (its:List Value) (lo hi:Option Int):slicePick its.toArray lo hi none=((its.drop (HT.sIx its.length 0 lo)).take (HT.sIx its.length its.length hi - HT.sIx its.length 0 lo)).toArray:=by
  obtain ⟨h1,h2,h3⟩:=slice_bounds lo hi its.toArray.size
  unfold slicePick
  rw [h1,h2,h3]
  simp only [sliceRange_one,pick_run,List.size_toArray] <;> rfl
inductive J_rSlL (K:PySem.W.Frag) (x:V) (lo:Option Int) (hi:Option Int) (H:Hp) (Q:VK):Prop
  | mk:∀ a xs,(x = .ref a)→(SqL K H a xs)→(∀ p,H p=none→Q (.ref p) (upd H p (.lst (cutV xs lo hi))))→J_rSlL K x lo hi H Q
noncomputable def rSlL (K:PySem.W.Frag):V→Option Int→Option Int→Hp→VK→Prop:=fun x lo hi H Q=>J_rSlL K x lo hi H Q
theorem sl_list:SlR X (rSlL X.K):=by
  intro pins s σ H x v vl vu lo hi sl Q I rx hs pl pu h
  obtain ⟨a,xs,rfl,hx,q⟩:=h
  cases rx
  obtain ⟨its,r,ht,hz⟩:=I.list hx
  have hlen:=r.length
  refine ⟨"list",_,slot_list_getitem.lookup,ht.isList.typeIs,?_⟩
  refine wpAny_getItem_list_slice ht.isList hs pl pu .none (by simp) ?_ (by rw [List.size_toArray] <;> omega)
  rw [slicePick_cut, ← hlen]
  refine ⟨.ref s.heap.objs.size,_,I.laid (t':=s.toks) (o := .lst (cutV xs lo hi)) (fun b ob q=>Heap.get?_push_of_some _ q) (Nat.le_refl _) ?_,rfl,q _ (I.hok.fresh (Nat.le_refl _))⟩
  exact ⟨Nat.le_trans (cutV_length xs lo hi) hz,_,0,(r.drop (HT.sIx xs.length 0 lo)).take (HT.sIx xs.length xs.length hi - HT.sIx xs.length 0 lo),Heap.get?_push_size _ rfl⟩


inductive J_len (K:PySem.W.Frag) (xs:List V) (H:Hp) (Q:VK):Prop
  | mk:∀ p ys,(xs = [.ref p])→(SqL K H p ys∨SqT K H p ys)→(Q (.int ys.length) H)→J_len K xs H Q
theorem call_len_seq:CallR X (.builtin "len") (fun xs H Q=>J_len X.K xs H Q):=by
  intro pins s σ H xs us Q I r h
  obtain ⟨p,ys,rfl,hq,q⟩:=h
  obtain ⟨u,rfl,rx⟩:=vals1 r
  cases rx
  have hn:=line63
  rcases hq with hq | hq
  · obtain ⟨its,r',pl,hz⟩:=I.list hq
    have hlen:=r'.length
    exact Calls.call_len_list pl.isList (by simp only [List.size_toArray] <;> omega) ⟨.int ys.length,H,I.tok _,⟨s.toks+1,by rw [List.size_toArray,hlen]⟩,q⟩
  · obtain ⟨its,r',pl,hz⟩:=I.tuple hq
    have hlen:=r'.length
    exact len_tuple pl (by simp only [List.size_toArray] <;> omega) ⟨.int ys.length,H,I.tok _,⟨s.toks+1,by rw [List.size_toArray,hlen]⟩,q⟩
inductive J_call_len_str (xs:List V) (H:Hp) (Q:VK):Prop
  | mk:∀ z,(xs = [.str z])→(z.length≤sizeLine)→(Q (.int z.length) H)→J_call_len_str xs H Q
theorem call_len_str:CallR X (.builtin "len") (fun xs H Q=>J_call_len_str xs H Q):=by
  intro pins s σ H xs us Q I r h
  obtain ⟨z,rfl,hz,q⟩:=h
  obtain ⟨u,rfl,t,rfl⟩:=vals1 r
  have hn:=line63
  exact len_str (by omega) ⟨.int z.length,H,I.tok _,⟨_,rfl⟩,q⟩
inductive J_call_list_of (kK:PySem.W.Frag) (xs:List V) (H:Hp) (Q:VK):Prop
  | mk:∀ p ys,(xs = [.ref p])→((SqL kK H p ys∨SqT kK H p ys))→(∀ l,H l=none→Q (.ref l) (upd H l (.lst ys)))→J_call_list_of kK xs H Q
theorem call_list_of:CallR X (.type "list") (fun xs H Q=>J_call_list_of X.K xs H Q):=by
  intro pins s σ H xs us Q I r h
  obtain ⟨p,ys,rfl,hq,q⟩:=h
  obtain ⟨u,rfl,rx⟩:=vals1 r
  cases rx
  have fin:∀ (its:List Value),Vals ys its→ys.length≤sizeLine→∀ (h':Heap) (c':Nat),(∀ b o',s.heap.get? b=some o'→h'.get? b=some o') →
      h'.get? s.heap.objs.size=some { cls := .type "list",dict:=none,data := .seq its.toArray c',slots := #[] }→EP X pins σ Q (.ref s.heap.objs.size) { s with heap:=h' }:=fun its r' hz h' c' kp e =>
    ⟨.ref s.heap.objs.size,_,I.laid (t':=s.toks) kp (Nat.le_refl _) (show ObjOk X.prog X.w _ h' _ (.lst ys) from ⟨hz,its,c',r',e⟩),rfl,q _ (I.hok.fresh (Nat.le_refl _))⟩
  rcases hq with hq | hq
  · obtain ⟨its,r',pl,hz⟩:=I.list hq
    have hlen:=r'.length
    obtain ⟨o,ho,hc,n,hd⟩:=pl.isList
    exact call_list_seq p (.inl rfl) ho hc hd (fun h' c' kp e=>fin its r' hz h' c' kp e) (by simp only [List.size_toArray] <;> omega)
  · obtain ⟨its,r',pl,hz⟩:=I.tuple hq
    have hlen:=r'.length
    obtain ⟨o,ho,hc,n,hd⟩:=pl
    exact call_list_seq p (.inr rfl) ho hc hd (fun h' c' kp e=>fin its r' hz h' c' kp e) (by simp only [List.size_toArray] <;> omega)
inductive J_call_tuple_of (kK:PySem.W.Frag) (xs:List V) (H:Hp) (Q:VK):Prop
  | mk:∀ p ys,(xs = [.ref p])→(((SqL kK H p ys∧∀ l,H l=none→Q (.ref l) (upd H l (.tup ys)))∨(SqT kK H p ys∧Q (.ref p) H)))→J_call_tuple_of kK xs H Q
theorem call_tuple_of:CallR X (.type "tuple") (fun xs H Q=>J_call_tuple_of X.K xs H Q):=by
  intro pins s σ H xs us Q I r h
  obtain ⟨p,ys,rfl,h⟩:=h
  obtain ⟨u,rfl,rx⟩:=vals1 r
  cases rx
  rcases h with ⟨hq,q⟩ | ⟨hq,q⟩
  · obtain ⟨its,r',pl,hz⟩:=I.list hq
    have hlen:=r'.length
    refine call_tuple_list pl.isList (fun h' kp => ?_) (by simp only [List.size_toArray] <;> omega)
    have I1:Inv X pins σ H { s with heap:=h' }:=I.kept (t':=s.toks) kp
    have I2:Inv X pins σ (upd H h'.objs.size (.tup ys)) { s with heap:=h'.push { cls := .type "tuple",data := .seq its.toArray } } :=
      I1.laid (t':=s.toks) (fun b o e=>Heap.get?_push_of_some _ e) (Nat.le_refl _) (show ObjOk X.prog X.w _ _ _ (.tup ys) from ⟨hz,its,r',IsTupN.new _ _⟩)
    exact ⟨.ref h'.objs.size,_,I2,rfl,q _ (I1.hok.fresh (Nat.le_refl _))⟩
  · obtain ⟨its,r',pl,hz⟩:=I.tuple hq
    exact call_tuple_same pl ⟨.ref p,H,I,rfl,q⟩

noncomputable def tyV (K:PySem.W.Frag) (T:String) (x:V) (H:Hp):Prop:=match x with
  | .str _=>T = "str"
  | .int _=>T = "int"
  | .ref p=>(T = "list" ∧ ∃ xs,SqL K H p xs)∨(T = "tuple" ∧ ((∃ o,K.lookup p=some o∧o.cls = .type "tuple" ∧ o.dict=none)∨∃ xs,H p=some (.tup xs))) ∨
      (T = "dict" ∧ ((∃ kvs,H p=some (.dK kvs))∨∃ kvs,H p=some (.dT kvs)))∨(T = "set" ∧ ∃ S n,H p=some (.set S n))
  | _=>False
theorem tyV_is {pins:List (Addr × Obj)} {σ : St} {H:Hp} {s:Shared} {T:String} {x:V} {v:Value} (I:Inv X pins σ H s) (r:RelV x v) (ty:tyV X.K T x H) :
    s.TypeIs v T∧∀ a,v = .ref a→∃ ob,s.heap.get? a=some ob∧ob.dict=none:=by
  cases x with
  | str z =>
    obtain ⟨t,rfl⟩:=r
    cases (show T = "str" from ty)
    exact ⟨typeIs_str s z t,fun _ e=>nomatch e⟩
  | int i =>
    obtain ⟨t,rfl⟩:=r
    cases (show T = "int" from ty)
    exact ⟨typeIs_int s i t,fun _ e=>nomatch e⟩
  | ref p =>
    cases r
    rcases ty with ⟨rfl,xs,hq⟩ | ⟨rfl,⟨o,hk,hc,hd⟩ | ⟨xs,hk⟩⟩ | ⟨rfl,hk⟩ | ⟨rfl,S,n,hk⟩
    · obtain ⟨its,_,pl,_⟩:=I.list hq
      refine ⟨pl.isList.typeIs,fun a e => ?_⟩
      cases e
      obtain ⟨o,n,e,c,hd,_⟩:=pl
      exact ⟨o,e,hd⟩
    · refine ⟨⟨o,I.kIn p o hk,hc⟩,fun a e => ?_⟩
      cases e
      exact ⟨o,I.kIn _ o hk,hd⟩
    · obtain ⟨_,_,_,o,e,c,n,d,hd⟩:=I.hok p _ hk
      refine ⟨⟨o,e,c⟩,fun a e2 => ?_⟩
      cases e2
      exact ⟨o,e,hd⟩
    · have z:∃ o,s.heap.get? p=some o∧o.ExactDict:=by
        rcases hk with ⟨kvs,hk⟩ | ⟨kvs,hk⟩
        · obtain ⟨_,_,_,_,o,_,_,e,ex,_⟩:=I.hok p _ hk
          exact ⟨o,e,ex⟩
        · obtain ⟨_,_,_,_,o,_,_,e,ex,_⟩:=I.hok p _ hk
          exact ⟨o,e,ex⟩
      obtain ⟨o,e,ex⟩:=z
      refine ⟨⟨o,e,ex.1⟩,fun a e2 => ?_⟩
      cases e2
      exact ⟨o,e,ex.2.1⟩
    · obtain ⟨o,_,_,_,e,ex,_⟩:=I.hok p _ hk
      refine ⟨⟨o,e,ex.1⟩,fun a e2 => ?_⟩
      cases e2
      exact ⟨o,e,ex.2.1⟩
  | _=>exact False.elim ty
noncomputable def tBM0 (K:PySem.W.Frag) (T:String) (r:V→List V→Hp→VK→Prop) (to:TE):TE:=fun σ H Q=>to σ H fun x H1=>tyV K T x H1∧r x [] H1 Q
noncomputable def tBM (K:PySem.W.Frag) (T:String) (r:V→List V→Hp→VK→Prop) (to:TE) (t:TA):TE:=fun σ H Q=>to σ H fun x H1=>tyV K T x H1∧t σ H1 fun xs H2=>r x xs H2 Q
variable {o e:Expr} {es:List Expr} {to:TE} {t:TA} {name:Str} {apos cpos:Pos} {T id:String} {r:V→List V→Hp→VK→Prop}
theorem pe_bm0 (pa:PlainAttrs T) (slot:Slot T name id) (hty:typeOf (.builtin id)=pure (.type "method_descriptor")) (hm:MtR X id r) (ho:PE X o to)
    (hbase:attributeBase o name X.env (eval o X.env)=eval o X.env:=by rfl) (hline:(apos.endLine == cpos.line)=true:=by rfl):PE X (.Call (.Attribute o name apos) [] [] cpos) (tBM0 X.K T r to):=by
  intro pins s σ H Q I h
  refine wpAny_Call_method0_late hbase hline (thn (ho pins s σ H _ I h) fun v s1 ⟨x,H1,I1,r1,ty,q1⟩ => ?_)
  obtain ⟨h1,h2⟩:=tyV_is I1 r1 ty
  exact ⟨T,id,pa,slot,hty,h1,h2,Calls.callWith_builtin rfl (PySem.evalArgs_none (hm pins s1 σ H1 x [] v [] Q I1 r1 .nil q1))⟩
theorem pe_bm (pa:PlainAttrs T) (slot:Slot T name id) (hty:typeOf (.builtin id)=pure (.type "method_descriptor")) (hm:MtR X id r) (ho:PE X o to) (ha:PA X (e :: es) t)
    (hbase:attributeBase o name X.env (eval o X.env)=eval o X.env:=by rfl)
    (hfew:((backTo cpos (starEach (e :: es) X.env)).all (fun x => !x.1) && (backToKw cpos (keywordEach [] X.env)).all (fun x=>x.1.isSome)
      && decide ((e :: es).length+([]:List Keyword).length+(if ([]:List Keyword).isEmpty then 0 else 1) < 30))=true:=by rfl)
    (hline:(apos.endLine == cpos.line)=true:=by rfl) (hs:starEach (e :: es) X.env=(false,eval e X.env) :: starEach es X.env:=by rfl) (hplain:(backTo cpos (starEach es X.env)).any (·.1)=false:=by rfl) :
    PE X (.Call (.Attribute o name apos) (e :: es) [] cpos) (tBM X.K T r to t):=by
  intro pins s σ H Q I h
  refine wpAny_Call_method_late hbase hfew hline rfl (thn (ho pins s σ H _ I h) fun v s1 ⟨x,H1,I1,r1,ty,q1⟩ => ?_)
  obtain ⟨h1,h2⟩:=tyV_is I1 r1 ty
  refine ⟨T,id,pa,slot,hty,h1,h2,?_⟩
  have hA:=ha cpos pins s1 σ H1 _ I1 q1
  rw [hs] at hA ⊢
  refine Calls.callWith_builtin (by show (false || (backTo cpos (starEach es X.env)).any (·.1))=false;rw [hplain] <;> rfl) (Calls.evalArgs_plain ?_)
  exact thn hA fun us s2 ⟨vs,H2,I2,r2,q2⟩=>hm pins s2 σ H2 x vs v us Q I2 r1 r2 q2
/- xs.append(e),list.index on a module's tuple .. are MtR facts of 06m -/
end
end L2

namespace L2
open PySem PySem.Spec PyProof.Rows

noncomputable def MtM (X:Cx) (id:String) (r:V→List V→Hp→VK→Prop):Prop :=
  ∀ (pins:List (Addr × Obj)) (s:Shared) (σ : St) (H:Hp) (x:V) (xs:List V) (v:Value) (us:List Value) (Q:VK),Inv X pins σ H s→RelV x v→Vals xs us→r x xs H Q →
    wpAny (model X.prog X.w) X.A (call (.builtin id) (v :: us)) (EP X pins σ Q) X.xe s

theorem Vals.one:∀ {x:V} {us:List Value},Vals [x] us→∃ u,us = [u]∧RelV x u
  | _,_,.cons r .nil=>⟨_,rfl,r⟩
theorem Vals.zero:∀ {us:List Value},Vals [] us→us = []
  | _,.nil=>rfl
theorem Vals.dropLast {xs:List V} {us:List Value} (h:Vals xs us):Vals xs.dropLast us.dropLast:=by
  induction h with
  | nil=>exact .nil
  | cons r t ih =>
    cases t with
    | nil=>exact .nil
    | cons q t'=>exact .cons r ih
theorem erase_last {α : Type} (l:List α):l.eraseIdx (l.length - 1)=l.dropLast:=by
  induction l with
  | nil=>rfl
  | cons a r ih =>
    cases r with
    | nil=>rfl
    | cons b r =>
      have e:(a :: b :: r).length - 1=((b :: r).length - 1)+1:=by
        have h1:(a :: b :: r).length=r.length+2:=rfl
        have h2:(b :: r).length=r.length+1:=rfl
        omega
      rw [e,List.eraseIdx_cons_succ,ih]
      all_goals rfl

section
variable {X:Cx} {pins:List (Addr × Obj)} {σ : St} {H:Hp} {s:Shared} {l b:Addr} {xs ys zs:List V}

theorem Inv.lset {its its':List Value} {n:Nat} {f:Array Value→Array Value} {t':Nat} (I:Inv X pins σ H s) (hH:H l=some (.lst xs))
    (e:s.heap.get? l=some { cls := .type "list",data := .seq its.toArray n }) (hf:f its.toArray=its'.toArray) (hv:Vals ys its') (hz:ys.length≤sizeLine) :
    Inv X pins σ (upd H l (.lst ys)) { s with heap:=s.heap.update l (Obj.mapSeq f),toks:=t' }:=by
  have q:=PySem.IsL.update e f
  rw [hf] at q
  refine I.write (x:=l) (e:=l) (by rw [hH];exact trivial) (.inl rfl) (fun b' u hb hu=>(Heap.get?_update_other s.heap (Obj.mapSeq f) (Ne.symm hb)).trans hu) ⟨_,q⟩ ?_
  exact ⟨hz,its',_,hv,q⟩
theorem Inv.lnew {its:List Value} {t':Nat} (I:Inv X pins σ H s) (hv:Vals ys its) (hz:ys.length≤sizeLine) :
    Inv X pins σ (upd H s.heap.objs.size (.lst ys)) { s with heap:=s.heap.push { cls := .type "list",data := .seq its.toArray },toks:=t' } :=
  I.laid (fun _ _ q=>Heap.get?_push_of_some _ q) (Nat.le_refl _) ⟨hz,its,0,hv,Heap.get?_push_size _ rfl⟩
theorem Inv.lstM (I:Inv X pins σ H s) (hH:H l=some (.lst xs)):xs.length≤sizeLine∧∃ (its:List Value) (n:Nat),Vals xs its∧xs.length=its.length∧s.heap.get? l=some { cls := .type "list",data := .seq its.toArray n }:=by
  obtain ⟨z,its,n,r,e⟩:=I.hok l _ hH
  exact ⟨z,its,n,r,r.length,e⟩

theorem notLongL {n:Nat} (h:n≤sizeLine):Builtin.List.listTooLong n=false:=by
  unfold Builtin.List.listTooLong
  exact decide_eq_false (by omega)
end

section
variable {X:Cx}

inductive J_rAppend (x:V) (vs:List V) (H:Hp) (Q:VK):Prop
  | mk:∀ l xs y,(x = .ref l)→(vs = [y])→(H l=some (.lst xs))→(xs.length < sizeLine)→(Q .non (upd H l (.lst (xs ++ [y]))))→J_rAppend x vs H Q
noncomputable def rAppend:V→List V→Hp→VK→Prop:=fun x vs H Q=>J_rAppend x vs H Q
theorem mt_append:MtM X "list.append" rAppend:=by
  intro pins s σ H x vs v us Q I rx rv h
  obtain ⟨l,xs,y,rfl,rfl,hH,hz,q⟩:=h
  cases rx
  obtain ⟨u,rfl,ru⟩:=rv.one
  obtain ⟨z,its,n,r,hl,e⟩:=I.lstM hH
  refine call_meets F.slot_list_append ⟨_,e,rfl⟩ F.entry_list_append (F.args_list_append_2 _ _) (PySem.list_append l its.toArray n u (by rw [List.size_toArray];omega)) ⟨e,?_⟩
  refine ⟨.non,_,I.lset (its':=its ++ [u]) hH e (by simp) (r.append (.cons ru .nil)) ?_,rfl,q⟩
  rw [List.length_append,List.length_singleton]
  omega

inductive J_rExtend (x:V) (vs:List V) (H:Hp) (Q:VK):Prop
  | mk:∀ l b xs zs,(x = .ref l)→(vs = [.ref b])→(H l=some (.lst xs))→(H b=some (.lst zs))→(xs.length+zs.length≤sizeLine)→(Q .non (upd H l (.lst (xs ++ zs))))→J_rExtend x vs H Q
noncomputable def rExtend:V→List V→Hp→VK→Prop:=fun x vs H Q=>J_rExtend x vs H Q
theorem mt_extend:MtM X "list.extend" rExtend:=by
  intro pins s σ H x vs v us Q I rx rv h
  obtain ⟨l,b,xs,zs,rfl,rfl,hH,hB,hz,q⟩:=h
  cases rx
  obtain ⟨u,rfl,ru⟩:=rv.one
  cases ru
  obtain ⟨z,its,n,r,hl,e⟩:=I.lstM hH
  obtain ⟨z2,its2,n2,r2,hl2,e2⟩:=I.lstM hB
  have hsz:its.toArray.size+its2.toArray.size≤sizeLine:=by rw [List.size_toArray,List.size_toArray];omega
  have hlong:¬ (!its.toArray.isEmpty && Builtin.List.listTooLong (its.toArray.size+its2.toArray.size))=true:=by
    rw [notLongL hsz,Bool.and_false]
    exact Bool.false_ne_true
  refine call_meets F.slot_list_extend ⟨_,e,rfl⟩ F.entry_list_extend (F.args_list_extend_2 _ _)
    (AutoSeq1.list_extend_list_list_0 l its.toArray n b its2.toArray n2 hlong (by rw [List.size_toArray];omega) (by omega)) ⟨e,e2,?_⟩
  refine ⟨.non,_,I.lset (its':=its ++ its2) hH e (by simp) (r.append r2) ?_,rfl,q⟩
  rw [List.length_append]
  omega

inductive J_rPop (x:V) (vs:List V) (H:Hp) (Q:VK):Prop
  | mk:∀ l xs y,(x = .ref l)→(vs = [])→(H l=some (.lst xs))→(xs[xs.length - 1]? = some y)→(Q y (upd H l (.lst xs.dropLast)))→J_rPop x vs H Q
noncomputable def rPop:V→List V→Hp→VK→Prop:=fun x vs H Q=>J_rPop x vs H Q
theorem mt_pop:MtM X "list.pop" rPop:=by
  intro pins s σ H x vs v us Q I rx rv h
  obtain ⟨l,xs,y,rfl,rfl,hH,hy,q⟩:=h
  cases rx
  have hus:=rv.zero
  subst hus
  obtain ⟨z,its,n,r,hl,e⟩:=I.lstM hH
  obtain ⟨u,hu,ru⟩:=r.get hy
  have hy':its.toArray[its.toArray.size - 1]? = some u:=by
    show its.toArray[its.length - 1]? = some u
    rw [← Array.getElem?_toList, ← hl]
    exact hu
  refine call_meets F.slot_list_pop ⟨_,e,rfl⟩ F.entry_list_pop (F.args_list_pop_1 _) (MeetsSeq.list_pop_last l its.toArray n u hy' (by rw [List.size_toArray];omega)) ⟨e,?_⟩
  refine ⟨y,_,I.lset (its':=its.dropLast) hH e ?_ r.dropLast ?_,ru,q⟩
  · show its.toArray.eraseIdxIfInBounds (its.toArray.size - 1)=its.dropLast.toArray
    rw [List.size_toArray,List.eraseIdxIfInBounds_toArray,erase_last]
  · rw [List.length_dropLast]
    omega



noncomputable def rClear:V→List V→Hp→VK→Prop:=fun x vs H Q=>∃ l xs,x = .ref l∧vs = []∧H l=some (.lst xs)∧Q .non (upd H l (.lst []))
theorem mt_clear:MtM X "list.clear" rClear:=by
  intro pins s σ H x vs v us Q I rx rv h
  obtain ⟨l,xs,rfl,rfl,hH,q⟩:=h
  cases rx
  have hus:=rv.zero
  subst hus
  obtain ⟨z,its,n,r,hl,e⟩:=I.lstM hH
  refine call_meets F.slot_list_clear ⟨_,e,rfl⟩ F.entry_list_clear (F.args_list_clear_1 _) (AutoSeq1.list_clear_list_0 l its.toArray n (by rw [List.size_toArray];omega)) ⟨e,?_⟩
  exact ⟨.non,_,I.lset (its' := []) (ys := []) hH e rfl .nil (Nat.zero_le _),rfl,q⟩


end

section
variable {prog:Program} {w:World} {A:Around} {E:Value→Shared→Prop} {s:Shared}
end

section
variable {X:Cx}
end
end L2

namespace Att
open PySem PySem.W PySem.Calls PyProof.Rows

theorem ints_of_wellAll {P:Params} {h:Heap}:∀ (ns:List Int) (vs:List Value),WellAll P h vs (ns.map WData.int)→IntsAre vs ns:=by
  intro ns
  induction ns with
  | nil =>
    intro vs w
    rw [List.map_nil] at w
    cases w
    exact .nil
  | cons n ns ih =>
    intro vs w
    rw [List.map_cons] at w
    cases w with
    | cons a b =>
      cases a
      exact .cons _ _ (ih _ b)

theorem script_of {l:OpenLaw} {n:Nat} (hn:l.most=some n) {P:Params} {h:Heap} {args:List WData} {vals:List Value}
    (hpre:l.row.toRowW.claim.pre args=true) (hwl:WellAll P h vals args) :
    ∃ a vs ns,vals = [Value.ref a]∧args = [WData.list (ns.map WData.int)]∧h.get? a=some { cls := .type "list",data := .seq vs.toArray }∧IntsAre vs ns∧ns.length≤n:=by
  have hsh:WShape.hasAll [] args [.list .int]=true:=(pre_splitW hpre).1
  have hc:l.pre.holds [] { args:=args }=true:=(pre_splitW hpre).2
  obtain ⟨d,r,rfl,h1,h2⟩:=hasAllW_cons hsh
  obtain rfl:=hasAllW_nil h2
  obtain ⟨xs,rfl,h3⟩:=hasW_list h1
  obtain ⟨ns,rfl⟩:=items_int h3
  have hlen:ns.length≤n:=by
    unfold OpenLaw.pre at hc
    have h4:(WTm.not (.lt (.lit (.int (n:Int))) (.len (.arg 0)))).holds [] { args := [.list (ns.map .int)] }=true:=by
      have h4:=(holds_andW hc).1
      rw [hn] at h4
      exact h4
    have h5:=condW_of h4 (w_not (w_lt w_lit (w_len_list (w_arg rfl))))
    rw [List.length_map] at h5
    refine Nat.le_of_not_lt fun q => ?_
    have q':(n:Int) < ((ns.length:Nat):Int):=by omega
    first
      | (rw [decide_eq_true q'] at h5;exact absurd h5 (by decide))
      | (simp at h5;omega)
  cases hwl with
  | cons w1 w2 =>
    cases w2
    cases w1 with
    | list ho hall=>exact ⟨_,_,ns,rfl,rfl,ho,ints_of_wellAll ns _ hall,hlen⟩

theorem post_true (l:OpenLaw) (args:List WData):l.row.toRowW.claim.post args (.bool true) args=true :=
  postW_of (r:=l.row.toRowW) (X:=(true == true))
    (show WShape.has [] (.bool true) .bool=true by first | rfl | decide | simp [WShape.has,WShape.arms,WShape.armsAll])
    (show (WTm.eq .res (.lit (.bool true))).value [] { args:=args,res:=some (.bool true),after:=args }=some (.bool (true == true)) from w_eq_bool (w_res rfl) w_lit) rfl




section
variable {prog:Program} {w:World} {A:Around} {E:Value→Shared→Prop} {s:Shared} {K:Frag}






end
end Att

namespace L2
open PySem PySem.Spec PyProof.Rows

theorem vals_ints:∀ {vs:List Value} {ns:List Int},IntsAre vs ns→Vals (ns.map V.int) vs
  | _,_,.nil => .nil
  | _,_,.cons n t h => .cons ⟨t,rfl⟩ (vals_ints h)

noncomputable def Only (H:Hp):Prop := ∀ b,H b=none∨∃ o xs,H b=some (.frz o (.lst xs))

theorem law_call {P:Program} {w:World} {K:PySem.W.Frag} {mg mb:Str→Option Value} {CX:CXT} {k:Nat} {fa a:Addr} {fd:FuncData} {x:Str} {sp:Sp} {s₁ : Shared} {vs:List Value} {ns:List Int}
    (KX:K.In s₁.heap) (hns:s₁.heap.Ns mainGlobals mg) (hb:s₁.heap.Ns builtinsNs mb) (hbb:∀ x:Str,x ≠ "__name__" → mb x=bootBuiltins x) (hlim:s₁.heap.NoLimit) (hg:s₁.gens = #[])
    (ha:s₁.heap.get? a=some { cls := .type "list",data := .seq vs.toArray }) (hi:IntsAre vs ns) (hl:ns.length≤sizeLine) (hr:Room k callerA)
    (F:∀ base:Heap,K.In base→base.Ns mainGlobals mg→FnOk P w K mg base CX k fa fd [x] sp) (hbind:∀ (s:Shared) (u:Value),BindsTo s fd ⟨[u], []⟩ [(x,u)])
    (hsp:∀ H:Hp,Only H→SqL K H a (ns.map V.int)→sp [.ref a] H (fun v _=>v = .bl true) fun _ _ _=>False)
    (hCX:∀ H e s',CX [] H s₁ (fun _ _ _=>False) e s'→False) :
    codeAny (model P w) callerA (.call (.ref fa) ⟨[.ref a], []⟩) (fun r s'=>r = .ok (.ret (.bool true))∧OldK s₁.heap s'.heap∧s'.os=s₁.os∧AllBare s'.gens) s₁ := by
  have rv:=vals_ints hi
  have lenV:=hi.length
  -- from an abstract heap in which nothing but the script may be tracked
  have core:∀ H:Hp,Only H→SqL K H a (ns.map V.int)→HOk P w H s₁.heap→(∀ b,H b≠none→b=a)→(H a≠none→K.lookup a=none) →
      codeAny (model P w) callerA (.call (.ref fa) ⟨[.ref a], []⟩) (fun r s'=>r = .ok (.ret (.bool true))∧OldK s₁.heap s'.heap∧s'.os=s₁.os∧AllBare s'.gens) s₁ := by
    intro H hO hS hok hA hK
    have base_of:∀ {b:Addr} {o:Obj},s₁.heap.get? b=some o→H b=none→(hidT s₁.heap H).get? b=some o:=fun e n=>hidT_get e n
    have noA:∀ {b:Addr} {o:Obj} {es:Array DictEntry} {ep:Nat},s₁.heap.get? b=some o→o.data = .dict es ep→H b=none:=fun {b o es ep} e d=>by
      cases q:H b with
      | none=>rfl
      | some u =>
        have e':b=a:=hA b (by rw [q];simp)
        subst e'
        rw [ha] at e;cases e
        have d':Data.seq vs.toArray _=Data.dict es ep:=d
        cases d'
    have nsK:∀ {b:Addr} {m:Str→Option Value},s₁.heap.Ns b m→(hidT s₁.heap H).Ns b m:=fun {b m} ⟨o,es,ep,e,d,r⟩=>⟨o,es,ep,base_of e (noA e d),d,r⟩
    have hKb:K.In (hidT s₁.heap H):=fun b o e=>base_of (KX b o e) (by
      cases q:H b with
      | none=>rfl
      | some u =>
        have e':b=a:=hA b (by rw [q];simp)
        subst e'
        rw [hK (by rw [q];simp)] at e;cases e)
    have hM:Mod K mg (hidT s₁.heap H):=⟨hKb,nsK hns,⟨mb,nsK hb,hbb⟩,let ⟨mc,h1,h2⟩:=hlim; ⟨mc,nsK h1,h2⟩⟩
    have e0:Env0 P w K mg (hidT s₁.heap H) callerA [] s₁ H:=⟨rfl,hM,fun b o e=>of_hidT e,Nat.le_of_eq (hidT_size _ _),trivial,fun b hb=>absurd (show b∈([]:List Addr) from hb) (by simp),hok,.of_eq hg⟩
    refine codeAny_mono ((F _ hKb (nsK hns)).run callerA [] s₁ H ⟨[.ref a], []⟩ [.ref a] [.ref a] _ _ hr e0 (hbind s₁ (.ref a)) (.cons rfl .nil) (hsp H hO hS)) fun r s' h => ?_
    cases r with
    | error e=>exact (hCX H e s' h).elim
    | ok fl =>
      cases fl with
      | next=>exact False.elim h
      | brk=>exact False.elim h
      | cont=>exact False.elim h
      | ret u =>
        obtain ⟨v,H',os,bare,un,hok',r',q⟩:=h
        have q':v = .bl true:=q
        subst q'
        obtain rfl:u=Value.bool true:=r'
        refine ⟨rfl,OldK.of_keep fun b o e => ?_,os,bare⟩
        cases q:H b with
        | none=>exact un.keep b o e q (by intro z;exact absurd (show b∈([]:List Addr) from z) (by simp)) (by simp)
        | some u =>
          rcases hO b with z | ⟨ob,xs,z⟩
          · rw [q] at z;cases z
          · have z2:=un.frzs b ob _ z
            obtain ⟨e1,_⟩:=hok b _ z
            obtain ⟨e2,_⟩:=hok' b _ z2
            rw [e] at e1;cases e1
            exact e2
  cases hk:K.lookup a with
  | some o =>
    -- the script is one of the module's own objects
    have e:=KX a o hk
    rw [ha] at e
    cases e
    refine core (fun _=>none) (fun _ => .inl rfl) (.inr ⟨_,vs.toArray,_,hk,rfl,rfl,rfl,by rw [List.size_toArray,lenV];exact hl,by simpa using rv⟩) (fun b u z=>by have z':(none:Option HO)=some u:=z;cases z') (fun b z=>absurd rfl z) fun z=>absurd rfl z
  | none =>
    refine core (fun b=>if b=a then some (.frz { cls := .type "list",data := .seq vs.toArray } (.lst (ns.map V.int))) else none) (fun b => ?_) (.inl (.inr ⟨{ cls := .type "list",data := .seq vs.toArray },if_pos rfl⟩)) (fun b u z => ?_) (fun b z => ?_) fun _=>hk
    · by_cases hb:b=a
      · exact .inr ⟨_,_,if_pos hb⟩
      · exact .inl (if_neg hb)
    · by_cases hb:b=a
      · have z':=(if_pos hb).symm.trans z
        cases z'
        subst hb
        exact ⟨ha,by rw [List.length_map];exact hl,vs,_,rv,ha⟩
      · have z':=(if_neg hb).symm.trans z
        cases z'
    · by_cases hb:b=a
      · exact hb
      · exact absurd (if_neg hb) z
end L2

namespace L2
open PySem PySem.Spec PyProof.Rows


end L2



namespace L2
open PySem PySem.Spec PyProof.Rows

noncomputable def inClass (s:Stmt) (j:Nat):Stmt:=match s with
  | .ClassDef _ _ _ body _ _ _ _ _ _ _=>body.getD j (.Pass ⟨0,0,0,0⟩)
  | _ => .Pass ⟨0,0,0,0⟩
noncomputable def defArgs (s:Stmt):Arguments:=match s with
  | .FunctionDef _ a _ _ _ _ _ _ _ _=>a
  | _=>{ posonlyargs := [],args := [],vararg:=none,kwonlyargs := [],kw_defaults := [],kwarg:=none,defaults := [] }
noncomputable def defBody (s:Stmt):List Stmt:=match s with
  | .FunctionDef _ _ b _ _ _ _ _ _ _=>b
  | _ => []
noncomputable def defScope (s:Stmt):Scope:=match s with
  | .FunctionDef _ _ _ _ _ _ sc _ _ _=>sc
  | _=>{ kind := .function,names := [],isGenerator:=false,isCoroutine:=false }

noncomputable abbrev CX0:CXT:=fun _ _ _ _ _ _=>False
noncomputable abbrev E0:XK:=fun _ _ _=>False
theorem pass0 {X:Cx}:Passes CX0 X E0:=fun _ _ _ _ _ _ _ h=>h.elim

structure Fun (K:PySem.W.Frag) (x qual:Str) (st:Stmt) (f:Addr) (fd:FuncData):Prop where
  ex:∃ (oc:Value) (od:Option Addr) (kV doc pm:Value) (an:Option Addr) (cdv ct:Value) (osl:Array (Option Value)),
    fd=PySem.W.fnOf x qual (defArgs st) (defBody st) (defScope st) .none kV doc pm an cdv ct∧K.lookup f=some ⟨oc,od,.func fd,osl⟩∧PySem.W.codeIn K cdv qual=true
  kp:PySem.W.keepIn K (.ref f)=true
section
variable {P:Program} {w:World} {K:PySem.W.Frag} {mg:Str→Option Value} {base:Heap}
theorem Fun.ok {x qual:Str} {st:Stmt} {f:Addr} {fd:FuncData} {N ps:List Str} {k:Nat} {sp:Sp} (F:Fun K x qual st f fd) (S:FnScope N ps (defScope st)) (len:∀ vs H Q E,sp vs H Q E→vs.length=ps.length)
    (hbody:∀ (cdv:Value) (A:Around) (outer:List Env) (s:Shared) (H:Hp) (vs:List V) (Q:VK) (E:XK),Room k (A.deeper (envOfC qual (defScope st) s.heap.objs.size f cdv))→sp vs H Q E →
      ∃ t,PSs (cxOf CX0 P w K mg base N qual (defScope st) f cdv A outer s H E).nox (defBody st) t∧t { nx:=fun _ H'=>Q .non H',rt:=Q } (start N vs) H):FnOk P w K mg base CX0 (k+1) f fd ps sp:=by
  obtain ⟨oc,od,kV,doc,pm,an,cdv,ct,osl,rfl,lk,hcd⟩:=F.ex
  refine fn_of lk hcd S len fun A outer s H vs Q E hr hsp => ?_
  obtain ⟨t,h,q⟩:=hbody cdv A outer s H vs Q E hr hsp
  exact ⟨t,h.nox,q⟩
theorem Fun.binds {x qual:Str} {st:Stmt} {f:Addr} {fd:FuncData} {ps:List Str} (F:Fun K x qual st f fd)
    (h:∀ (kV doc pm:Value) (an:Option Addr) (cdv ct:Value) (us:List Value),us.length=ps.length→bindArgs (PySem.W.fnOf x qual (defArgs st) (defBody st) (defScope st) .none kV doc pm an cdv ct) ⟨us, []⟩=pure (ps.zip us)):Binds K fd ps []:=by
  obtain ⟨oc,od,kV,doc,pm,an,cdv,ct,osl,rfl,lk,hcd⟩:=F.ex
  exact .all (h kV doc pm an cdv ct)
theorem fun_mk {x qual:Str} {st:Stmt} {f:Addr} {oc:Value} {od an:Option Addr} {osl:Array (Option Value)} {kV doc pm cdv ct:Value} (l:K.lookup f=some ⟨oc,od,.func (PySem.W.fnOf x qual (defArgs st) (defBody st) (defScope st) .none kV doc pm an cdv ct),osl⟩)
    (c:PySem.W.codeIn K cdv qual=true) (k:PySem.W.keepIn K (.ref f)=true):Fun K x qual st f (PySem.W.fnOf x qual (defArgs st) (defBody st) (defScope st) .none kV doc pm an cdv ct):=⟨⟨oc,od,kV,doc,pm,an,cdv,ct,osl,rfl,l,c⟩,k⟩
end
theorem hu_of {A:Around} {k:Nat} (hr:Room k A):A.units+1 < cLine:=Nat.lt_of_le_of_lt (Nat.add_le_add_left (by decide:1≤64) _) hr.units
theorem small1000 {n:Nat} (h:n≤1000):n < sizeLine:=Nat.lt_of_le_of_lt h (by decide)

section
variable {X:Cx}
theorem pv (i:Nat) {x:Str} {pos:Pos} (hN:X.N[i]? = some x:=by rfl) (hv:Vis X.env.scope x:=by first | exact Or.inl rfl | exact Or.inr (Or.inl rfl) | exact Or.inr (Or.inr rfl)) (hd:(x == ("__debug__" : Str))=false:=by decide)
    (hcd:(x == ("__classdict__" : Str))=false:=by decide):PE X (.Name x pos) (tVar i):=pe_var hN hv hd hcd
end

theorem iteF {A B:Prop} (h:B):if false=true then A else B:=by
  rw [if_neg Bool.false_ne_true]
  exact h
theorem iteT {A B:Prop} (h:A):if true=true then A else B:=by
  rw [if_pos rfl]
  exact h

noncomputable def Same (H H':Hp):Prop := ∀ b o,H b=some o→H' b=some o
theorem Same.refl (H:Hp):Same H H:=fun _ _ h=>h
theorem Same.trans {H H1 H2:Hp} (a:Same H H1) (b:Same H1 H2):Same H H2:=fun c o h=>b c o (a c o h)
theorem Same.free {H H':Hp} (e:Same H H') {l:Addr} (h:H' l=Option.none):H l=Option.none:=by
  cases q:H l with
  | none=>rfl
  | some o =>
    rw [e l o q] at h
    cases h
theorem Same.seq {K:PySem.W.Frag} {H H':Hp} {a:Addr} {xs:List V} (e:Same H H') (h:SqL K H a xs):SqL K H' a xs:=by
  rcases h with (h | ⟨o,h⟩) | h
  · exact .inl (.inl (e _ _ h))
  · exact .inl (.inr ⟨o,e _ _ h⟩)
  · exact .inr h

end L2
namespace L2
open PySem PySem.Spec PyProof.Rows

section
variable {X:Cx} {pins:List (Addr × Obj)} {σ : St} {H:Hp} {s:Shared} {h':Heap}
theorem Inv.turnedLaid {ch:List Addr} {a:Addr} {o:HO} {t':Nat} (I:Inv X pins σ H s) (k:∀ b u,b ∉ ch→s.heap.get? b=some u→h'.get? b=some u)
    (hch:∀ b∈ch,FpOk X pins H b) (hp:s.heap.objs.size≤a) (new:ObjOk X.prog X.w (upd H a o) h' a o):Inv X pins σ (upd H a o) { s with heap:=h',toks:=t' }:=by
  have hfr:H a=none:=I.hok.fresh hp
  have old:∀ b ob,s.heap.get? b=some ob→b≠a:=fun b ob e z=>by subst z;exact absurd (Nat.lt_of_lt_of_le (Heap.lt_size e) hp) (Nat.lt_irrefl _)
  have tr:∀ b u,H b=some u→b≠a:=fun b u e z=>by rw [z,hfr] at e;cases e
  have trc:∀ b u,H b=some u→b ∉ ch:=fun b u e z=>by rw [(hch b z).1] at e;cases e
  refine I.step (g':=s.gens) (d':=s.drawn) (ch:=ch) (fun b hb => ?_) (fun b ob _ _ hc e _=>k b ob hc e) (fun b ob _ _ hc e _=>⟨ob.slots,k b ob hc e⟩) (fun b ob _ e n => ?_)
    (fun b ob hc e=>⟨ob,k b ob hc e⟩) (fun b xs e => ?_) (fun b ob u e => ?_) (fun b ps e=>⟨#[],?_⟩) (fun m hm => ?_) (fun b u e => ?_) I.bare
  · obtain ⟨_,f1,_,f3,f4,f5⟩:=hch b hb
    exact ⟨f3,f1,f4,f5⟩
  · rw [upd_ne (old b ob e)];exact n
  · rw [upd_ne (tr b _ e)];exact e
  · rw [upd_ne (tr b _ e)];exact e
  · rw [upd_ne (tr b _ e),e];simp
  · obtain ⟨ob,es,ep,ho,r⟩:=hm
    exact ⟨ob,es,ep,k _ ob (fun z=>(hch _ z).2.1 rfl) ho,r⟩
  · by_cases hb:b=a
    · subst hb
      rw [upd_same] at e;cases e
      exact new
    · rw [upd_ne hb] at e
      refine (I.hok b u e).stay (fun c v hc q=>k c v ?_ q) (fun c q=>by rw [upd_ne (tr c _ q)];exact q) fun c xs q=>by rw [upd_ne (tr c _ q)];exact q
      rcases hc with z | z
      · rw [z];exact trc b u e
      · exact trc c _ z
end

noncomputable def Ite (K:PySem.W.Frag) (a:Addr):It :=
  ⟨fun i H=>∃ xs x,SqL K H a xs∧xs[i]? = some x,
   fun i H x H'=>∃ p v,H p=none∧x = .ref p∧(∀ xs,SqL K H a xs→xs[i]? = some v)∧H'=upd H p (.tup [.int (i:Int),v]),
   fun i H=>∃ xs,SqL K H a xs∧xs.length=i⟩
theorem turn_enum {P:Program} {w:World} {K:PySem.W.Frag} {elts:List Expr} {k:Nat} {tp:Pos} (a e it:Addr) (hne:e≠it) :
    Turn P w K (.Tuple elts k tp) (Ite K a) [e,it] e (fun i h=>(∃ old,IsEnum h e it (i:Int) old)∧h.IsListIter it a i) where
  mem:=by simp
  obj:=fun i h st b hb=>by
    obtain ⟨⟨old,he⟩,hit⟩:=st
    rcases List.mem_cons.mp hb with rfl | hb
    · exact ⟨_,he,fun v z=>by
        have z':Data.fields _=Data.cell v:=z
        cases z'⟩
    · have e:b=it:=by simpa using hb
      subst e
      obtain ⟨o,e,c,d⟩:=hit
      exact ⟨o,e,fun v z=>by rw [d] at z;cases z⟩
  keep:=fun i h h' st k=>by
    obtain ⟨⟨old,he⟩,hit⟩:=st
    exact ⟨⟨old,k e (by simp) _ he⟩,hit.at fun o q=>k it (by simp) o q⟩
  item:=by
    intro X hP hw hK hc i pins s σ H E I hf st hg
    subst hP hw hK
    obtain ⟨⟨old,he⟩,hit⟩:=st
    obtain ⟨xs,x,hq,hx⟩:=hg
    obtain ⟨its,rv,p,hz⟩:=I.list hq
    obtain ⟨u,hu,ru⟩:=rv.get hx
    have hai:a≠it:=fun z=>by
      obtain ⟨o,n,e1,c1,_⟩:=p
      obtain ⟨o',e2,c2,_⟩:=hit
      rw [z,e2] at e1;cases e1
      rw [c1] at c2
      exact absurd (Value.type.inj c2) (by decide)
    have hae:a≠e:=fun z=>by
      obtain ⟨o,n,e1,c1,_⟩:=p
      rw [z,he] at e1;cases e1
      exact absurd (Value.type.inj c1) (by decide)
    have hlt:i < its.toArray.size:=by
      rw [List.size_toArray]
      exact (List.getElem?_eq_some_iff.mp hu).1
    have hel:e < s.heap.objs.size:=Heap.lt_size he
    have hil:it < s.heap.objs.size:=by obtain ⟨o,q,_⟩:=hit;exact Heap.lt_size q
    refine wpAny_pyNext_enum_itemD (Draws.list (A:=X.A.in1) (I.ok.hd hc) it a hai its.toArray) he ⟨hit,p.isList⟩ hlt hne (by
      intro z
      rcases List.mem_cons.mp z with z | z
      · exact hne z
      · exact hae (List.mem_singleton.mp z).symm) fun y h1 tk hy ho hs1 hT hsz hk => ?_
    have hyu:y=u:=by
      have e1:its[i]? = some y:=by simpa using hy
      rw [hu] at e1
      exact (Option.some.inj e1).symm
    subst hyu
    refine ⟨_,rfl,wpAny_letOwnedTupleGo_enum ho fun h2 he2 hs2 => ?_⟩
    have kk:∀ b o,b ∉ [e,it]→s.heap.get? b=some o→h2.get? b=some o:=fun b o hb q=>by
      have b1:b≠e:=fun z=>hb (by simp [z])
      have b2:b≠it:=fun z=>hb (by simp [z])
      exact (hs2.2 b b1).trans (hk b o b1 b2 q)
    have hTe:s.heap.objs.size≠e:=Nat.ne_of_gt hel
    refine ⟨.ref s.heap.objs.size,upd H s.heap.objs.size (.tup [.int (i:Int),x]),?_,rfl,⟨_,x,I.hok.fresh (Nat.le_refl _),rfl,fun ys hy=>by rw [I.list_inj hy hq];exact hx,rfl⟩,
      ⟨⟨_,by simpa using he2⟩,hs1.1.at fun o q=>(hs2.2 it (Ne.symm hne)).trans q⟩,fun b hb => ?_⟩
    · refine I.turnedLaid (ch := [e,it]) (t':=tk+1) kk hf (Nat.le_refl _) ⟨by show 2≤sizeLine;decide, [.int (i:Int) tk,y],.cons ⟨_,rfl⟩ (.cons ru .nil),?_⟩
      exact ⟨_,(hs2.2 _ hTe).trans hT,rfl,_,rfl,rfl⟩
    · have hb':=hf b hb
      have:b≠s.heap.objs.size:=by
        rcases List.mem_cons.mp hb with rfl | hb
        · exact Nat.ne_of_lt hel
        · rw [List.mem_singleton.mp hb];exact Nat.ne_of_lt hil
      rw [upd_ne this]
      exact hb'.1
  done:=by
    intro X hP hw hK hc i pins s σ H E I hf st hg
    subst hP hw hK
    obtain ⟨⟨old,he⟩,hit⟩:=st
    obtain ⟨xs,hq,hx⟩:=hg
    obtain ⟨its,rv,p,hz⟩:=I.list hq
    have hai:a≠it:=fun z=>by
      obtain ⟨o,n,e1,c1,_⟩:=p
      obtain ⟨o',e2,c2,_⟩:=hit
      rw [z,e2] at e1;cases e1
      rw [c1] at c2
      exact absurd (Value.type.inj c2) (by decide)
    have hl:=rv.length
    have hi:i=its.toArray.size:=by rw [List.size_toArray];omega
    subst hi
    obtain ⟨f0,f1,f2,f3,f4,f5⟩:=hf it (by simp)
    exact wpAny_pyNext_enum_endD (Draws.list (A:=X.A.in1) (I.ok.hd hc) it a hai its.toArray) he ⟨hit,p.isList⟩ fun h1 eb=>⟨rfl,I.turned (t':=s.toks) (fun b o hb q=>eb b o hb q) f0 f1 f3 f4 f5⟩
  self:=fun _ _ _ _ _ st h=>by
    obtain ⟨⟨old,he⟩,_⟩:=st
    exact wpAny_pyIter_enum he h
inductive J_iEnum (K:PySem.W.Frag) (R:It→Hp→Prop) (vs:List V) (H1:Hp):Prop
  | mk:∀ a,(vs = [.ref a])→((∃ xs,SqL K H1 a xs))→(R (Ite K a) H1)→J_iEnum K R vs H1
noncomputable def iEnum (K:PySem.W.Frag) (ta:TA):TI:=fun σ H R=>ta σ H fun vs H1=>J_iEnum K R vs H1
theorem boot_enum:bootBuiltins "enumerate" = some (.type "enumerate"):=by decide +kernel
section
variable {X:Cx}
theorem pi_enum {l:Expr} {ta:TA} {elts:List Expr} {k:Nat} {tp p pos:Pos} (hg:Gl X "enumerate") (hm:X.mg "enumerate" = none) (ha:PA X [l] ta) (hs:starEach [l] X.env = [(false,eval l X.env)]:=by rfl) :
    PI X (.Tuple elts k tp) (.Call (.Name "enumerate" p) [l] [] pos) (iEnum X.K ta):=by
  intro pins s σ H R I h
  refine Call_ (ld_blt I hg hm boot_enum (PyProof.Rows.callWith_type1 (thn (ha pos pins s σ H _ I h) fun us s1 ⟨vs,H1,I1,r1,q1⟩ => ?_) hs rfl))
  obtain ⟨a,e,⟨xs,hq⟩,q⟩:=q1
  subst e
  obtain ⟨u,rfl,ru⟩:=vals1 r1
  cases ru
  obtain ⟨its,rv,pl,hz⟩:=I1.list hq
  refine call_enumerate_list pl.isList fun h1 he hit hsz hk => ?_
  have I2:Inv X pins σ H1 { s1 with heap:=h1 }:=I1.kept (t':=s1.toks) hk
  have hne:s1.heap.objs.size+1≠s1.heap.objs.size:=Nat.succ_ne_self _
  refine wpAny_pyIter_enum (s := { s1 with heap:=h1 }) he ⟨_, [s1.heap.objs.size+1,s1.heap.objs.size],_,_,H1,rfl,I2,turn_enum a _ _ hne,⟨⟨_,he⟩,hit⟩,fun b hb => ?_,q⟩
  rcases List.mem_cons.mp hb with rfl | hb
  · exact I1.fpOk (Nat.le_succ _) (I1.hok.fresh (Nat.le_succ _))
  · rw [List.mem_singleton.mp hb]
    exact I1.fpOk (Nat.le_refl _) (I1.hok.fresh (Nat.le_refl _))

end

theorem for_enum {K:PySem.W.Frag} {a:Addr} {xs:List V} {g:TG} {tb:TS} {D:Ends} {σ : St} {H:Hp} (Pv:Nat→St→Hp→Prop) (h0:Pv 0 σ H) (hl:∀ i σ H,i≤xs.length→Pv i σ H→SqL K H a xs)
    (hs:∀ i x p σ H,xs[i]? = some x→Pv i σ H→H p=none→g (.ref p) σ (upd H p (.tup [.int (i:Int),x])) fun σ2 H2=>tb { D with nx:=Pv (i+1),ct:=Pv (i+1),bk:=D.nx } σ2 H2) (hd:∀ σ H,Pv xs.length σ H→D.nx σ H) :
    ∃ W:Nat→Nat→St→Hp→Prop,(∃ m,W 0 m σ H)∧∀ i m σ H,W i m σ H →
      ((Ite K a).stop i H∧D.nx σ H)∨((Ite K a).go i H∧∃ N:St→Hp→Prop,(∀ σ' H',N σ' H'→∃ m',m' < m∧W (i+1) m' σ' H')∧∀ x H',(Ite K a).yld i H x H'→g x σ H' fun σ2 H2=>tb { D with nx:=N,ct:=N,bk:=D.nx } σ2 H2):=by
  refine ⟨fun i m σ H=>m=xs.length - i∧i≤xs.length∧Pv i σ H,⟨xs.length,by simp,Nat.zero_le _,h0⟩,?_⟩
  rintro i m σ H ⟨rfl,hi,p⟩
  have q:=hl i σ H hi p
  by_cases hlt:i < xs.length
  · refine .inr ⟨⟨xs,xs[i],q,by simp [hlt]⟩,Pv (i+1),fun σ' H' p'=>⟨xs.length - (i+1),by omega,rfl,hlt,p'⟩,fun x H' y => ?_⟩
    obtain ⟨pa,v,hpa,rfl,hv,rfl⟩:=y
    exact hs i v pa σ H (hv xs q) p hpa
  · have e:i=xs.length:=by omega
    subst e
    exact .inl ⟨⟨xs,q,rfl⟩,hd σ H p⟩

section
variable {X:Cx}
inductive J_rSlS (x:V) (lo:Option Int) (hi:Option Int) (H:Hp) (Q:VK):Prop
  | mk:∀ z,(x = .str z)→(z.length≤sizeLine)→(Q (.str (Txt.slice z lo hi)) H)→J_rSlS x lo hi H Q
noncomputable def rSlS:V→Option Int→Option Int→Hp→VK→Prop:=fun x lo hi H Q=>J_rSlS x lo hi H Q
theorem sl_str:SlR X rSlS:=by
  intro pins s σ H x v vl vu lo hi sl Q I rx hs pl pu h
  obtain ⟨z,rfl,hz,q⟩:=h
  obtain ⟨t,rfl⟩:=rx
  refine ⟨"str",_,F.slot_str_getitem.lookup,typeIs_str _ _ _,?_⟩
  obtain ⟨o,ho,hc,hd⟩:=hs
  have fin:∀ t' k,EP X pins σ Q (.str (Txt.slice z lo hi) t') { s with toks:=k }:=fun t' k=>⟨.str _,H,I.tok _,⟨_,rfl⟩,q⟩
  cases pl with
  | none =>
    cases pu with
    | none=>exact wpAny_getItem_str_slice (l:=none) (u:=none) (st:=none) ⟨o,ho,hc,hd⟩ rfl (post_val_or_str ⟨Nat.le_trans (Txt.slice_le z _ _) hz,fin⟩)
    | int j uj=>exact wpAny_getItem_str_slice (l:=none) (u:=some (j,uj)) (st:=none) ⟨o,ho,hc,hd⟩ rfl (post_val_or_str ⟨Nat.le_trans (Txt.slice_le z _ _) hz,fin⟩)
  | int i ui =>
    cases pu with
    | none=>exact wpAny_getItem_str_slice (l:=some (i,ui)) (u:=none) (st:=none) ⟨o,ho,hc,hd⟩ rfl (post_val_or_str ⟨Nat.le_trans (Txt.slice_le z _ _) hz,fin⟩)
    | int j uj=>exact wpAny_getItem_str_slice (l:=some (i,ui)) (u:=some (j,uj)) (st:=none) ⟨o,ho,hc,hd⟩ rfl (post_val_or_str ⟨Nat.le_trans (Txt.slice_le z _ _) hz,fin⟩)
inductive J_call_maxL (kK:PySem.W.Frag) (xs:List V) (H:Hp) (Q:VK):Prop
  | mk:∀ (p:Addr) (ns:List Int),(xs = [.ref p])→(SqL kK H p (ns.map V.int))→(0 < ns.length)→(∀ M,M∈ns→(∀ a∈ns,a≤M)→Q (.int M) H)→J_call_maxL kK xs H Q
theorem call_maxL (hc:X.calm=true):CallR X (.builtin "max") (fun xs H Q=>J_call_maxL X.K xs H Q):=by
  intro pins s σ H xs us Q I r h
  obtain ⟨p,ns,rfl,hq,hne,q⟩:=h
  obtain ⟨u,rfl,ru⟩:=vals1 r
  cases ru
  obtain ⟨its,rv,pl,hz⟩:=I.list hq
  have hi:IntsAre its ns:=intsAre_of rv
  obtain ⟨ys,e⟩:=hi.allInts.items
  have hns:ns=ys.toList.map (·.1):=by
    rw [← hi.numsOf, ← nums_intItems, ← e]
  have hsz:0 < ys.size:=by
    have h3:=hne;rw [hns,List.length_map,Array.length_toList] at h3;exact h3
  have hl':s.heap.IsList p (intItems ys):=e ▸ pl.isList
  refine max_intList (I.ok.hd hc) hl' hsz fun v h' tk hv hk => ?_
  obtain ⟨t,rfl⟩:=intItems_at hv
  obtain ⟨h1,h2⟩:=argBest_gt (numAt ys) (ys.size - 1)
  refine ⟨.int _,H,I.kept hk,⟨t,rfl⟩,q _ ?_ fun a ha => ?_⟩
  · rw [hns,numAt_eq];exact getD_mem (by rw [List.length_map,Array.length_toList];omega)
  · rw [hns] at ha
    obtain ⟨j,hj,rfl⟩:=mem_getD ha
    rw [List.length_map,Array.length_toList] at hj
    rw [← numAt_eq];exact h2 j (by omega)
inductive J_call_isT (kK:PySem.W.Frag) (xs:List V) (H:Hp) (Q:VK):Prop
  | mk:∀ x T t b,(xs = [x,.ty T])→(TyOf kK H x t)→(PySem.W.kitOne kK t (.type T)=some b)→(Q (.bl b) H)→J_call_isT kK xs H Q
theorem call_isT:CallR X (.builtin "isinstance") (fun xs H Q=>J_call_isT X.K xs H Q):=by
  intro pins s σ H xs us Q I r h
  obtain ⟨x,T,t,b,rfl,ty,e,q⟩:=h
  obtain ⟨u,w',rfl,rx,ry⟩:=vals2 r
  cases ry
  exact isinst_ok I rx ty e fun tk=>⟨.bl b,H,I.tok _,rfl,q⟩
end
end L2
namespace L2
open PySem PySem.Spec PyProof.Rows

noncomputable def capsOf (cells:List (Str × Addr)):List (Str × NameKind)→List (Str × Addr)→List (Str × Addr)
  | [],acc=>acc
  | (n,k) :: r,acc=>if k == .free then (match cells.lookup n with | some c=>capsOf cells r ((n,c) :: acc) | none=>capsOf cells r acc) else capsOf cells r acc
theorem capsOf_cells {cells:List (Str × Addr)}:∀ {names:List (Str × NameKind)} {acc:List (Str × Addr)} {x:Str} {c:Addr},(∀ x c,acc.lookup x=some c→cells.lookup x=some c)→(capsOf cells names acc).lookup x=some c→cells.lookup x=some c
  | [],_,x,c,ha,h=>ha x c h
  | (n,k) :: r,acc,x,c,ha,h=>by
    unfold capsOf at h
    by_cases hk:(k == NameKind.free)=true
    · rw [if_pos hk] at h
      cases e:cells.lookup n with
      | none =>
        rw [e] at h
        exact capsOf_cells ha h
      | some d =>
        rw [e] at h
        refine capsOf_cells (fun y z hy => ?_) h
        rw [List.lookup_cons] at hy
        cases q:y == n with
        | true =>
          rw [q] at hy
          have:y=n:=by simpa using q
          rw [this,e];exact hy
        | false =>
          rw [q] at hy
          exact ha y z hy
    · rw [if_neg hk] at h
      exact capsOf_cells ha h
theorem capsOf_acc {cells:List (Str × Addr)}:∀ {names:List (Str × NameKind)} {acc:List (Str × Addr)} {x:Str},(acc.lookup x).isSome=true→((capsOf cells names acc).lookup x).isSome=true
  | [],_,_,h=>h
  | (n,k) :: r,acc,x,h=>by
    unfold capsOf
    by_cases hk:(k == NameKind.free)=true
    · rw [if_pos hk]
      cases e:cells.lookup n with
      | none=>exact capsOf_acc h
      | some d =>
        refine capsOf_acc ?_
        rw [List.lookup_cons]
        cases q:x == n with
        | true=>rfl
        | false=>exact h
    · rw [if_neg hk];exact capsOf_acc h
theorem capsOf_has {cells:List (Str × Addr)}:∀ {names:List (Str × NameKind)} {acc:List (Str × Addr)} {x:Str},(x,NameKind.free)∈names→(cells.lookup x).isSome=true→((capsOf cells names acc).lookup x).isSome=true
  | [],_,_,h,_=>nomatch h
  | (n,k) :: r,acc,x,h,hc=>by
    unfold capsOf
    rcases List.mem_cons.mp h with e | h
    · cases e
      rw [if_pos (show (NameKind.free == NameKind.free)=true from rfl)]
      cases e:cells.lookup n with
      | none=>rw [e] at hc;cases hc
      | some d =>
        refine capsOf_acc ?_
        rw [List.lookup_cons]
        simp
    · by_cases hk:(k == NameKind.free)=true
      · rw [if_pos hk]
        cases e:cells.lookup n with
        | none=>exact capsOf_has h hc
        | some d=>exact capsOf_has h hc
      · rw [if_neg hk];exact capsOf_has h hc
theorem caps_cells {cells:List (Str × Addr)} {names:List (Str × NameKind)} {x:Str} {c:Addr} (h:(capsOf cells names []).lookup x=some c):cells.lookup x=some c :=
  capsOf_cells (fun _ _ z=>by simp at z) h
theorem forIn_caps {env:Env}:∀ (names:List (Str × NameKind)) (acc:List (Str × Addr)),(∀ y∈names,y.2 = .free→∃ c,env.cells.lookup y.1=some c) →
    (forIn names acc fun x r=>match x with
      | (name,kind)=>if (kind == NameKind.free)=true then (do let c ← cellOf env name;pure (ForInStep.yield ((name,c) :: r))) else pure (ForInStep.yield r):Sem (List (Str × Addr)))=pure (capsOf env.cells names acc)
  | [],acc,_=>rfl
  | (n,k) :: r,acc,h=>by
    have hr:∀ y∈r,y.2 = .free→∃ c,env.cells.lookup y.1=some c:=fun y hy=>h y (List.mem_cons_of_mem _ hy)
    rw [List.forIn_cons]
    by_cases hk:(k == NameKind.free)=true
    · have ek:k = .free:=by simpa using hk
      obtain ⟨c,hc⟩:=h (n,k) List.mem_cons_self ek
      have e1:cellOf env n=pure c:=by
        have hc':env.cells.lookup n=some c:=hc
        unfold cellOf
        rw [hc']
      unfold capsOf
      rw [if_pos hk]
      have hc':env.cells.lookup n=some c:=hc
      rw [hc']
      simp only [hk,if_true,e1]
      exact forIn_caps r ((n,c) :: acc) hr
    · unfold capsOf
      rw [if_neg hk]
      simp only [hk]
      exact forIn_caps r acc hr
theorem closure_caps {scope:Scope} {env:Env} (h:∀ y∈scope.names,y.2 = .free→∃ c,env.cells.lookup y.1=some c):closureFor scope env=pure (capsOf env.cells scope.names []):=by
  have e:=forIn_caps scope.names [] h
  unfold closureFor
  show (Bind.bind (forIn scope.names [] fun x r=>match x with
      | (name,kind)=>if (kind == NameKind.free)=true then (do let c ← cellOf env name;pure (ForInStep.yield ((name,c) :: r))) else pure (ForInStep.yield r):Sem (List (Str × Addr))) fun r=>pure r)=_
  rw [e]
  rfl

theorem relabel_free {scope:Scope} {env:Env} {x:Str} (hc:∀ y∈scope.names,y.2 ≠ .cell) (h:(relabel scope env).names.lookup x=some .cell∨(relabel scope env).names.lookup x=some .free):(x,NameKind.free)∈scope.names:=by
  unfold relabel at h
  simp only at h
  generalize scope.names=names at h hc
  induction names with
  | nil=>rcases h with h | h <;> cases h
  | cons y r ih =>
    obtain ⟨n,k⟩:=y
    have hr:∀ y∈r,y.2≠NameKind.cell:=fun y hy=>hc y (List.mem_cons_of_mem _ hy)
    rw [List.map_cons] at h
    by_cases hk:(k == NameKind.free && env.scope.kind == .function && env.kindOf n == some .cell)=true
    · simp only [hk,if_true,List.lookup_cons] at h
      cases q:x == n with
      | true =>
        have e:x=n:=by simpa using q
        have ek:k = .free:=by
          have:=(Bool.and_eq_true_iff.mp (Bool.and_eq_true_iff.mp hk).1).1
          simpa using this
        rw [e,ek];exact List.mem_cons_self
      | false =>
        rw [q] at h
        exact List.mem_cons_of_mem _ (ih h hr)
    · simp only [hk,Bool.false_eq_true,if_false,List.lookup_cons] at h
      cases q:x == n with
      | true =>
        rw [q] at h
        have e:x=n:=by simpa using q
        have hk0:k ≠ .cell:=hc (n,k) List.mem_cons_self
        rcases h with h | h
        · exact absurd (Option.some.inj h) hk0
        · rw [e,Option.some.inj h];exact List.mem_cons_self
      | false =>
        rw [q] at h
        exact List.mem_cons_of_mem _ (ih h hr)

theorem relabel_of_free {scope:Scope} {env:Env} {x:Str} (h:scope.names.lookup x=some .free):(relabel scope env).names.lookup x=some .cell∨(relabel scope env).names.lookup x=some .free:=by
  unfold relabel
  simp only
  generalize scope.names=names at h
  induction names with
  | nil=>cases h
  | cons y r ih =>
    obtain ⟨n,k⟩:=y
    rw [List.map_cons]
    rw [List.lookup_cons] at h
    by_cases hk:(k == NameKind.free && env.scope.kind == .function && env.kindOf n == some .cell)=true
    · simp only [hk,if_true,List.lookup_cons]
      cases q:x == n with
      | true=>exact .inl rfl
      | false=>rw [q] at h;exact ih h
    · simp only [hk,Bool.false_eq_true,if_false,List.lookup_cons]
      cases q:x == n with
      | true=>rw [q] at h;exact .inr h
      | false=>rw [q] at h;exact ih h

noncomputable def cxComp (X:Cx) (scope:Scope) (N:List Str) (fp:List Addr) (s:Shared) (H:Hp):Cx :=
  { X with N:=N,s₀ := s,H₀ := H,env:=compEnvC scope (capsOf X.env.cells scope.names []) s.heap.objs.size X.env,outer:=X.stack,ex:=fp,fn:=fun _=>false,pn := [],xe:=fun _ _=>False }

structure CompScope (X:Cx) (scope:Scope) (own:List Str) (caps:List (Str × Nat)):Prop where
  kind:scope.kind = .function
  nocell:∀ y∈scope.names,y.2 ≠ .cell
  locs:∀ y∈scope.names,y.2 = .local→scope.names.lookup y.1=some .local
  frees:∀ y∈scope.names,y.2 = .free→X.env.kindOf y.1=some .cell
  own:∀ x∈own,scope.names.lookup x=some .local
  caps:∀ p∈caps,X.N[p.2]? = some p.1∧X.env.kindOf p.1=some .cell∧scope.names.lookup p.1=some .free

noncomputable def capt (σ : St) (caps:List (Str × Nat)):St:=caps.map fun p=>(σ[p.2]?).join
section
variable {X:Cx} {scope:Scope} {own:List Str} {caps:List (Str × Nat)} {pins:List (Addr × Obj)} {σ : St} {H:Hp} {s:Shared} {fp:List Addr}
theorem comp_ok (S:CompScope X scope own caps) (I:Inv X pins σ H s) (hf:∀ b∈fp,FpOk X pins H b) (hl:∀ b∈fp,b < s.heap.objs.size):(cxComp X scope (own ++ caps.map (·.1)) fp s H).Ok where
  mod:=I.ok.mod
  kind:=S.kind
  glob:=I.ok.glob
  blt:=I.ok.blt
  above:=Nat.le_refl _
  inj:=fun x y c h1 h2=>I.ok.inj x y c (caps_cells h1) (caps_cells h2)
  has:=fun x h=>by
    have hm:=relabel_free S.nocell h
    obtain ⟨c,hc⟩:=I.ok.has x (.inl (S.frees _ hm rfl))
    exact Option.isSome_iff_exists.mp (capsOf_has hm (by rw [hc];rfl))
  cab:=fun x c h _=>nomatch h
  hd:=I.ok.hd
  frames:=I.ok.frames
  stk := .inl rfl
  exf:=fun b hb=>⟨Nat.ne_of_lt (hl b hb),fun x c h=>(hf b hb).2.2.2.2.1 x c (caps_cells h)⟩
  bs:=I.bs
  bsz:=Nat.le_trans I.ok.bsz I.sz
  noex:=fun b o e hb=>by
    rcases (hf b hb).2.2.2.1 with z | z
    · exact I.ok.noex b o e z
    · exact absurd (Nat.lt_of_lt_of_le (Nat.lt_of_lt_of_le (Heap.lt_size e) I.ok.bsz) z) (Nat.lt_irrefl _)
  exfs:=fun b hb z=>by
    rcases List.mem_cons.mp (I.stkSub b z) with e | e
    · exact (hf b hb).2.1 e
    · exact (hf b hb).2.2.1 e
  funs:=I.stack
  frf:=I.stkFree
theorem comp_start (S:CompScope X scope own caps) (I:Inv X pins σ H s) (hf:∀ b∈fp,FpOk X pins H b) (hl:∀ b∈fp,b < s.heap.objs.size) {h1:Heap} {m:Str→Option Value} {t:Nat} (hn:h1.Ns s.heap.objs.size m)
    (hk:∀ b o,s.heap.get? b=some o→h1.get? b=some o):Inv (cxComp X scope (own ++ caps.map (·.1)) fp s H) [] (List.replicate own.length none ++ capt σ caps) H { s with heap:=h1,toks:=t }:=by
  refine ⟨comp_ok S I hf hl,rfl,I.bare,Un.kept hk,⟨m,hn,fun i y v e1 e2 e3 => ?_⟩,fun x c e => ?_,I.hok.fresh (Nat.le_refl _),fun x c e=>I.freeC x c (caps_cells e),(fun p hp=>by cases hp),I.hok.kept hk,?_⟩
  · have hi:own.length≤i:=by
      by_cases hi:i < own.length
      · rw [List.getElem?_append_left (by simpa using hi),List.getElem?_replicate,if_pos hi] at e2
        cases e2
      · omega
    rw [List.getElem?_append_right (by simpa using hi),List.length_replicate] at e2
    unfold capt at e2
    rw [List.getElem?_map] at e2
    have e1':(own ++ caps.map (·.1))[i]? = some y:=e1
    rw [List.getElem?_append_right hi,List.getElem?_map] at e1'
    cases q:caps[i - own.length]? with
    | none=>rw [q] at e2;cases e2
    | some p =>
      rw [q] at e1' e2
      have ey:p.1=y:=Option.some.inj e1'
      have ev:(σ[p.2]?).join=some v:=Option.some.inj e2
      have eσ : σ[p.2]? = some (some v):=by
        cases z : σ[p.2]? with
        | none=>rw [z] at ev;cases ev
        | some w'=>rw [z] at ev;rw [show w'=some v from ev]
      obtain ⟨hN,hkind,hfree⟩:=S.caps p (List.mem_of_getElem? q)
      rw [ey] at hN hkind hfree
      obtain ⟨mX,hnX,hlX⟩:=I.loc
      obtain ⟨u,ru,lk⟩:=hlX p.2 y v hN eσ (.inr (.inl hkind))
      refine ⟨u,ru,?_⟩
      rcases lk with ⟨k1,_⟩ | ⟨_,c,hc,hcell⟩
      · rw [hkind] at k1;cases k1
      · have hm:=relabel_free S.nocell (relabel_of_free (env:=X.env) hfree)
        obtain ⟨c',hc'⟩:=Option.isSome_iff_exists.mp (capsOf_has (acc := []) hm (by rw [hc];rfl))
        have:=caps_cells hc'
        rw [hc] at this;cases this
        obtain ⟨o,ho,hd⟩:=hcell
        exact .inr ⟨relabel_of_free (env:=X.env) hfree,c,hc',⟨o,hk _ _ ho,hd⟩⟩
  · obtain ⟨v,o,ho,hd⟩:=I.cell x c (caps_cells e)
    exact ⟨v,o,hk _ _ ho,hd⟩
  · show _=(own ++ caps.map (·.1)).length
    simp [capt]
theorem comp_back {N:List Str} {τ : St} {H':Hp} {s':Shared} (I:Inv X pins σ H s) (J:Inv (cxComp X scope N fp s H) [] τ H' s') (hf:∀ b∈fp,FpOk X pins H b):Inv X pins σ H' s' :=
  I.call' (ch:=fp) J.os J.base J.hok J.bare fun b hb=>by
    obtain ⟨_,f1,_,f3,f4,f5⟩:=hf b hb
    exact ⟨f3,f1,f4,f5⟩
theorem comp_go {prog:Program} {w:World} {A:Around} {R:Result→Shared→Prop} {elt target iter:Expr} {pos:Pos} {it acc:Value} {env:Env} (Iv:Nat→Shared→Prop)
    (turn:∀ n s,Iv n s→wpAny (model prog w) A (pyNext it) (fun r s₁ => match r with
      | none=>R (.ok .next) s₁
      | some v=>wpAny (model prog w) A (letOwnedTupleGo target it v) (fun _ s₂ => wpAny (model prog w) A (assign target env v) (fun _ s₃ => wpAny (model prog w) A (eval elt env) (fun x s₄ =>
              wpAny (model prog w) A (call (.builtin "list.append") [acc,x]) (fun _ s₅ => ∃ m,m < n∧Iv m s₅) (fun _ _=>False) s₄) (fun _ _=>False) s₃) (fun _ _=>False) s₂) (fun _ _=>False) s₁) (fun _ _=>False) s)
    (n:Nat) (h:Iv n s):codeAny (model prog w) A (.compLoop (.ListComp elt [⟨target,iter, [],0⟩] scope pos) 0 it acc env) R s:=by
  refine codeAny_loop rfl Iv (fun n s hI => ?_) n h
  show wpAny _ A ((compTurn (.ListComp elt [⟨target,iter, [],0⟩] scope pos) 0 it acc env).onRaise (fun x=>do noteFrame x env;theTreesLotGoes x)) _ _ s
  refine wpAny_noted ?_
  rw [compTurn_list]
  refine wpAny_bind (wpAny_standAt (wpAny_bind (wpAny_mono (turn n s hI) (fun r s₁ h₁ => ?_) fun _ _ z=>z.elim)))
  cases r with
  | none=>exact wpAny_pure h₁
  | some v =>
    refine wpAny_bind (wpAny_mono h₁ (fun _ s₂ h₂ => wpAny_bind (wpAny_mono h₂ (fun _ s₃ h₃ => wpAny_bind (wpAny_tests_nil ?_)) fun _ _ z=>z.elim)) fun _ _ z=>z.elim)
    exact wpAny_bind (wpAny_bind (wpAny_mono h₃ (fun x s₄ h₄ => wpAny_bind (wpAny_mono h₄ (fun _ s₅ h₅ => wpAny_pure (wpAny_pure ⟨rfl,h₅⟩)) fun _ _ z=>z.elim)) fun _ _ z=>z.elim))

noncomputable def CompBody (J:It) (g:TG) (te:TE) (τ0:St) (H1:Hp) (Q:VK):Prop := ∀ D,H1 D=none→∃ W:Nat→Nat→St→List V→Hp→Prop,
  (∃ m,W 0 m τ0 [] (upd H1 D (.lst []))) ∧
  ∀ i m τ ys H,W i m τ ys H→H D=some (.lst ys)∧((J.stop i H∧Q (.ref D) H)∨(J.go i H∧ys.length < sizeLine∧∀ x H',J.yld i H x H'→g x τ H' fun τ2 H2=>te τ2 H2 fun y H3 =>
    H3 D=some (.lst ys)∧∃ m',m' < m∧W (i+1) m' τ2 (ys ++ [y]) (upd H3 D (.lst (ys ++ [y])))))
noncomputable def tComp (wi:TI) (g:TG) (te:TE) (k:Nat) (caps:List (Str × Nat)):TE:=fun σ H Q=>wi σ H fun J H1=>CompBody J g te (List.replicate k none ++ capt σ caps) H1 Q

theorem comp_core {tg elt iter:Expr} {wi:TI} {g:TG} {te:TE} {pos p2:Pos} {use:Option (Value→Sem Unit)} {Q:VK} {Q':Value→Shared→Prop} (S:CompScope X scope own caps) (hi:PI X tg iter wi) (hc:X.calm=true)
    (hg:∀ fp s H,PG (cxComp X scope (own ++ caps.map (·.1)) fp s H) tg g) (he:∀ fp s H,PE (cxComp X scope (own ++ caps.map (·.1)) fp s H) elt te)
    (I:Inv X pins σ H s) (h:tComp wi g te own.length caps σ H Q)
    (fin:∀ D C H5 s5,Inv X pins σ H5 s5→Q (.ref D) H5→(∃ m,s5.heap.Ns C m)→H5 C=none→C≠X.env.locals→X.s₀.heap.objs.size≤C→(∀ x c,X.env.cells.lookup x=some c→c≠C)→(∀ p∈X.pn ++ pins,p.1≠C) →
      compPost (model X.prog X.w) X.A X.xe use Q' (.ref D) C (.ok .next) s5)
    (hs:∀ x,foldedSetIterable iter X.env x=pure x:=by intro _;rfl) :
    wpAny (model X.prog X.w) X.A (comprehension (.ListComp elt [⟨tg,iter, [],0⟩] scope pos) scope X.env p2 (newList []) false (eval iter X.env) use) Q' X.xe s:=by
  have hclos:closureFor scope X.env=pure (capsOf X.env.cells scope.names []):=closure_caps fun y hy hk=>I.ok.has y.1 (.inl (S.frees y hy hk))
  refine wpAny_comprehension_free (g:=⟨tg,iter, [],0⟩) (gs := []) rfl hs hclos S.kind S.locs (thn (hi pins s σ H _ I h) fun v s1 h1=>thn h1 fun itv s2 h2 => ?_)
  obtain ⟨it,fp,tn,J,H2,e,I2,T,st2,f2,R⟩:=h2
  subst e
  refine wpAny_newObj_type (wpAny_newFunctionEnv S.nocell (by intro y hy;simp at hy) (fun h₁ hns₁ hsb₁ => ?_) S.kind)
  have fr2:H2 s2.heap.objs.size=none:=I2.hok.fresh (Nat.le_refl _)
  obtain ⟨W,⟨m0,w0⟩,turn⟩:=R s2.heap.objs.size fr2
  have I3:Inv X pins σ (upd H2 s2.heap.objs.size (.lst [])) { s2 with heap:=s2.heap.push { cls := .type "list",dict:=none,data := .seq ([]:List Value).toArray } }:=I2.lnew (its := []) (t':=s2.toks) .nil (Nat.zero_le _)
  have lt2:∀ b∈fp,b < s2.heap.objs.size:=fun b hb=>by
    obtain ⟨o,ho,_⟩:=T.obj _ _ st2 b hb
    exact Heap.lt_size ho
  have f3:∀ b∈fp,FpOk X pins (upd H2 s2.heap.objs.size (.lst [])) b:=fun b hb=>⟨by rw [upd_ne (Nat.ne_of_lt (lt2 b hb))];exact (f2 b hb).1,(f2 b hb).2⟩
  generalize hs3:({ s2 with heap:=s2.heap.push { cls := .type "list",dict:=none,data := .seq ([]:List Value).toArray } }:Shared)=s3 at I3
  have hz3:s3.heap.objs.size=s2.heap.objs.size+1:=by rw [← hs3];exact Heap.size_push _ _
  have kp23:∀ b o,s2.heap.get? b=some o→s3.heap.get? b=some o:=fun b o e=>by rw [← hs3];exact Heap.get?_push_of_some _ e
  have lt3:∀ b∈fp,b < s3.heap.objs.size:=fun b hb=>by rw [hz3];exact Nat.lt_succ_of_lt (lt2 b hb)
  have hns₁':h₁.Ns s3.heap.objs.size (fun x=>([]:List (Str × Value)).reverse.lookup x):=by rw [← hs3];exact hns₁
  have kp31:∀ b o,s3.heap.get? b=some o→h₁.get? b=some o:=fun b o e=>by
    have hb:b≠s3.heap.objs.size:=Nat.ne_of_lt (Heap.lt_size e)
    rw [← hs3] at e hb
    exact hsb₁.extBut b o hb (Heap.get?_push_of_some _ e)
  have J1:=comp_start S I3 f3 lt3 (t:=s2.toks+([]:List (Str × Value)).length) hns₁' kp31
  have st1:tn 0 h₁ := T.keep _ _ _ st2 fun b hb o e=>kp31 b o (kp23 b o e)
  -- the loop
  have loop:∀ s₃ : Shared,s₃ = { s3 with heap:=h₁,toks:=s2.toks+([]:List (Str × Value)).length } →
      codeAny (model X.prog X.w) X.A (.compLoop (.ListComp elt [⟨tg,iter, [],0⟩] scope pos) 0 (.ref it) (.ref s2.heap.objs.size) (cxComp X scope (own ++ caps.map (·.1)) fp s3 (upd H2 s2.heap.objs.size (.lst []))).env)
        (compPost (model X.prog X.w) X.A X.xe use Q' (.ref s2.heap.objs.size) s3.heap.objs.size) s₃ := by
    rintro s₃ rfl
    refine comp_go (fun n s'=>∃ i τ ys H',Inv (cxComp X scope (own ++ caps.map (·.1)) fp s3 (upd H2 s2.heap.objs.size (.lst []))) [] τ H' s'∧tn i s'.heap∧(∀ b∈fp,H' b=none)∧W i n τ ys H') ?_ m0
      ⟨0,_, [],_,J1,st1,fun b hb=>(f3 b hb).1,w0⟩
    rintro n s' ⟨i, τ,ys,H',J',st',fr',w'⟩
    have fY:∀ {H'':Hp},(∀ b∈fp,H'' b=none)→∀ b∈fp,FpOk (cxComp X scope (own ++ caps.map (·.1)) fp s3 (upd H2 s2.heap.objs.size (.lst []))) [] H'' b:=fun hn b hb =>
      ⟨hn b hb,Nat.ne_of_lt (lt3 b hb),fun z=>by
          rcases List.mem_cons.mp (I3.stkSub b z) with e | e
          · exact (f3 b hb).2.1 e
          · exact (f3 b hb).2.2.1 e,.inl hb,fun x c e=>(f3 b hb).2.2.2.2.1 x c (caps_cells e),(fun p hp=>by cases hp)⟩
    obtain ⟨hD,tt⟩:=turn i n τ ys H' w'
    rcases tt with ⟨stop,qn⟩ | ⟨go,hlen,step⟩
    · refine thn (T.done (cxComp X scope (own ++ caps.map (·.1)) fp s3 (upd H2 s2.heap.objs.size (.lst []))) rfl rfl rfl hc i [] s' τ H' (fun _ _=>False) J' (fY fr') st' stop) fun r s4 ⟨hr,J4⟩ => ?_
      subst hr
      obtain ⟨m4,hn4,_⟩:=J4.loc
      have I5:=comp_back I3 J4 f3
      refine fin _ _ _ s4 I5 qn ⟨m4,hn4⟩ J4.free ?_ ?_ (fun x c e z => ?_) fun p hp z => ?_
      · exact Nat.ne_of_gt I3.lt
      · exact I3.sz
      · obtain ⟨v,q⟩:=I3.cell x c e
        rw [z] at q
        exact absurd q.lt (Nat.lt_irrefl _)
      · have q:=(I3.pin p hp).1
        rw [z] at q
        exact absurd (Heap.lt_size q) (Nat.lt_irrefl _)
    · refine thn (T.item (cxComp X scope (own ++ caps.map (·.1)) fp s3 (upd H2 s2.heap.objs.size (.lst []))) rfl rfl rfl hc i [] s' τ H' (fun _ _=>False) J' (fY fr') st' go) fun r s4 ⟨u,hr,h4⟩ => ?_
      subst hr
      refine thn h4 fun _ s5 ⟨x,H5,J5,r5,y5,st5,fr5⟩ => ?_
      have J5':=J5.pinned (fY fr5) (T.obj _ _ st5)
      refine thn (hg fp s3 _ _ s5 τ H5 x u _ J5' r5 (step x H5 y5)) fun _ s6 ⟨τ6,H6,J6,q6⟩ => ?_
      refine thn (he fp s3 _ _ s6 τ6 H6 _ J6 q6) fun yv s7 ⟨y,H7,J7,r7,hD7,m',hm',w7⟩ => ?_
      refine thn (mt_append (X:=cxComp X scope (own ++ caps.map (·.1)) fp s3 (upd H2 s2.heap.objs.size (.lst []))) _ s7 τ6 H7 (.ref s2.heap.objs.size) [y] _ [yv] (fun _ H8=>H8=upd H7 s2.heap.objs.size (.lst (ys ++ [y]))) J7 rfl (.cons r7 .nil) ⟨_,ys,y,rfl,rfl,hD7,hlen,rfl⟩) fun _ s8 ⟨_,H8,J8,_,e8⟩ => ?_
      subst e8
      refine ⟨m',hm',i+1, τ6,ys ++ [y],_,J8.unpinned,T.keep _ _ _ st5 fun b hb o e=>(J8.pin (b,o) (List.mem_append_right _ (List.mem_append_right _ (mem_pinsAt hb e)))).1,fun b hb => ?_,w7⟩
      obtain ⟨o,e,d⟩:=T.obj _ _ st5 b hb
      exact (J8.pin (b,o) (List.mem_append_right _ (List.mem_append_right _ (mem_pinsAt hb e)))).2.1
  have hloop:=loop _ rfl
  subst hs3
  exact codeAny_compStart_list hloop (T.self _ 0 _ _ _ st1 hloop)
theorem pe_comp {tg elt iter:Expr} {wi:TI} {g:TG} {te:TE} {pos:Pos} (S:CompScope X scope own caps) (hi:PI X tg iter wi) (hc:X.calm=true)
    (hg:∀ fp s H,PG (cxComp X scope (own ++ caps.map (·.1)) fp s H) tg g) (he:∀ fp s H,PE (cxComp X scope (own ++ caps.map (·.1)) fp s H) elt te)
    (hs:∀ x,foldedSetIterable iter X.env x=pure x:=by intro _;rfl):PE X (.ListComp elt [⟨tg,iter, [],0⟩] scope pos) (tComp wi g te own.length caps):=by
  intro pins s σ H Q I h
  rw [eval_ListComp]
  refine comp_core (use:=none) (Q:=Q) S hi hc hg he I h (fun D C H5 s5 I5 q ⟨m,hn⟩ hC hL hz hcell hpin => ?_) hs
  refine ⟨m,hn,fun h' hs' => ?_⟩
  exact ⟨.ref D,H5,I5.turned (t':=s5.toks) (fun b o hb e=>(hs'.2 b hb).trans e) hC hL (.inr hz) hcell hpin,rfl,q⟩
end
end L2
namespace L2
open PySem PySem.Spec PyProof.Rows

structure Has (P:Program) (w:World) (K:PySem.W.Frag) (mg:Str→Option Value) (base:Heap) (k:Nat) (x:Str) (ps:List Str) (sp:Sp):Prop where
  ex:∃ f fd,FnOk P w K mg base CX0 k f fd ps sp∧mg x=some (.ref f)∧PySem.W.keepIn K (.ref f)=true∧Binds K fd ps []
section
variable {X:Cx} {k k':Nat} {x:Str} {ps:List Str} {sp:Sp} {p pos:Pos} {e:Expr} {es:List Expr} {t:TA}
theorem pe_callH (h:Has X.prog X.w X.K X.mg X.base k x ps sp) (hr:Room k' X.A) (hk:k≤k') (hg:Gl X x) (ha:PA X (e :: es) t) (hdb:(x == ("__debug__" : Str))=false:=by decide)
    (he:starEach (e :: es) X.env=(false,eval e X.env) :: starEach es X.env:=by rfl) (hpl:(backTo pos (starEach es X.env)).any (·.1)=false:=by rfl) :
    PE X (.Call (.Name x p) (e :: es) [] pos) (tCall sp [] E0 t):=by
  obtain ⟨f,fd,F,hm,hkp,hb⟩:=h.ex
  exact pe_call F (hr.mono hk) hg hm hkp hb .nil pass0 ha hdb he hpl
end
structure Def (K:PySem.W.Frag) (mg:Str→Option Value) (x:Str) (st:Stmt) (ps:List Str):Prop where
  ex:∃ f fd,Fun K x x st f fd∧mg x=some (.ref f)∧Binds K fd ps []
theorem Def.has {P:Program} {w:World} {K:PySem.W.Frag} {mg:Str→Option Value} {base:Heap} {x:Str} {st:Stmt} {N ps:List Str} {k:Nat} {sp:Sp} (D:Def K mg x st ps) (S:FnScope N ps (defScope st)) (len:∀ vs H Q E,sp vs H Q E→vs.length=ps.length)
    (hbody:∀ (f:Addr) (cdv:Value) (A:Around) (outer:List Env) (s:Shared) (H:Hp) (vs:List V) (Q:VK) (E:XK),Room k (A.deeper (envOfC x (defScope st) s.heap.objs.size f cdv))→sp vs H Q E →
      ∃ t,PSs (cxOf CX0 P w K mg base N x (defScope st) f cdv A outer s H E).nox (defBody st) t∧t { nx:=fun _ H'=>Q .non H',rt:=Q } (start N vs) H):Has P w K mg base (k+1) x ps sp:=by
  obtain ⟨f,fd,F,hm,hb⟩:=D.ex
  exact ⟨f,fd,F.ok S len (hbody f),hm,F.kp,hb⟩

theorem same_new {H:Hp} {p:Addr} (h:H p=none) (o:HO):Same H (upd H p o):=fun b u q=>by rw [upd_ne (ne_of_none q h)];exact q
theorem Same.tup {K:PySem.W.Frag} {H H':Hp} {a:Addr} {xs:List V} (e:Same H H') (h:SqT K H a xs):SqT K H' a xs:=by
  rcases h with (h | ⟨o,h⟩) | h
  · exact .inl (.inl (e _ _ h))
  · exact .inl (.inr ⟨o,e _ _ h⟩)
  · exact .inr h
theorem Same.put {H0 H:Hp} {p:Addr} {o:HO} (e:Same H0 H) (h:H0 p=none):Same H0 (upd H p o):=fun b u q=>by rw [upd_ne (ne_of_none q h)];exact e b u q

noncomputable def checkComp (xsc:Scope) (xN:List Str) (scope:Scope) (own:List Str) (caps:List (Str × Nat)):Bool :=
  scope.names.all (fun y=>y.2 != .cell) && scope.names.all (fun y=>y.2 != .local || scope.names.lookup y.1 == some .local) && scope.names.all (fun y=>y.2 != .free || xsc.names.lookup y.1 == some .cell)
    && own.all (fun x=>scope.names.lookup x == some .local) && caps.all (fun p=>xN[p.2]? == some p.1 && xsc.names.lookup p.1 == some .cell && scope.names.lookup p.1 == some .free)
theorem comp_scope {X:Cx} {scope:Scope} {own:List Str} {caps:List (Str × Nat)} (xsc:Scope) (xN:List Str) (hx:X.env.scope=xsc) (hN:X.N=xN) (hk:scope.kind = .function) (c:checkComp xsc xN scope own caps=true):CompScope X scope own caps:=by
  unfold checkComp at c
  simp only [Bool.and_eq_true,List.all_eq_true,Bool.or_eq_true,bne_iff_ne,beq_iff_eq,ne_eq] at c
  obtain ⟨⟨⟨⟨c1,c2⟩,c3⟩,c4⟩,c5⟩:=c
  refine ⟨hk,c1,fun y hy e => ?_,fun y hy e => ?_,c4,fun p hp => ?_⟩
  · rcases c2 y hy with z | z
    · exact absurd e z
    · exact z
  · rcases c3 y hy with z | z
    · exact absurd e z
    · show X.env.scope.names.lookup y.1=_
      rw [hx];exact z
  · obtain ⟨⟨z1,z2⟩,z3⟩:=c5 p hp
    refine ⟨by rw [hN];exact z1,?_,z3⟩
    show X.env.scope.names.lookup p.1=_
    rw [hx];exact z2
structure Blt (mg:Str→Option Value):Prop where
  len_:mg "len" = none
  min_:mg "min" = none
  max_:mg "max" = none
  sum_:mg "sum" = none
  range_:mg "range" = none
  enumerate_:mg "enumerate" = none
  isinstance_:mg "isinstance" = none
  tuple_:mg "tuple" = none
  int_:mg "int" = none
  bool_:mg "bool" = none
  str_:mg "str" = none
  list_:mg "list" = none
theorem boot_min_:bootBuiltins "min" = some (.builtin "min"):=by decide +kernel
theorem boot_max_:bootBuiltins "max" = some (.builtin "max"):=by decide +kernel
theorem boot_isinstance_:bootBuiltins "isinstance" = some (.builtin "isinstance"):=by decide +kernel
theorem boot_tuple_:bootBuiltins "tuple" = some (.type "tuple"):=by decide +kernel
theorem boot_int_:bootBuiltins "int" = some (.type "int"):=by decide +kernel
theorem boot_bool_:bootBuiltins "bool" = some (.type "bool"):=by decide +kernel
theorem boot_list_:bootBuiltins "list" = some (.type "list"):=by decide +kernel
theorem pos' {j:Int} (h:decide (0 < j)=true:=by decide):0 < j:=of_decide_eq_true h
theorem div' {i j:Int} (h:(decide (0 < j) && decide (j < 1073741824))=true:=by decide):CDiv i j :=
  ⟨of_decide_eq_true (Bool.and_eq_true_iff.mp h).1,of_decide_eq_true (Bool.and_eq_true_iff.mp h).2⟩
theorem iteD {c A B:Prop} [Decidable c] (h1:c→A) (h2:¬ c→B):if decide c=true then A else B:=by
  by_cases h:c
  · rw [decide_eq_true h];exact iteT (h1 h)
  · rw [decide_eq_false h];exact iteF (h2 h)
theorem iteDN {c A B:Prop} [Decidable c] (h1:¬ c→A) (h2:c→B):if (!decide c)=true then A else B:=by
  by_cases h:c
  · rw [decide_eq_true h];exact iteF (h2 h)
  · rw [decide_eq_false h];exact iteT (h1 h)
end L2
namespace L2
open PySem PySem.Spec PyProof.Rows

noncomputable def F2 (h:Heap) (e:Addr) (x:Value):Prop := ∃ o vs,h.get? e=some o∧o.data = .fields vs∧vs[2]? = some x
noncomputable def Ctx0 (h:Heap) (e:Addr):Prop:=F2 h e .none
noncomputable def ctxV:Option Addr→Value
  | none => .none
  | some a => .ref a
noncomputable def Chn (h:Heap) (e:Addr):Prop:=Ctx0 h e∨∃ a,a≠e∧F2 h e (.ref a)∧Ctx0 h a
theorem F2.other {h:Heap} {e b:Addr} {x:Value} {f:Obj→Obj} (c:F2 h e x) (n:b≠e):F2 (h.update b f) e x:=by
  obtain ⟨o,vs,a,d,i⟩:=c
  exact ⟨o,vs,(Heap.get?_update_other _ _ n).trans a,d,i⟩
section
variable {M:Model} {A:Around} {E:Value→Shared→Prop} {s:Shared}
inductive Entered (l:List Env) (e:Addr) (oe:Obj) (L:Addr) (h h':Heap):Prop
  | mk (T:Addr) (oT:Obj) (ts:Array Value) (old:∀ b o,b≠e→b ∉ l.filterMap (·.frame)→h.get? b=some o→h'.get? b=some o) (slots:∀ b o,b≠e→h.get? b=some o→∃ sl,h'.get? b=some { o with slots:=sl })
    (own:h'.get? e=some (oe.mapFields (·.setIfInBounds 1 (.ref T)))) (new:h.get? T=none) (ne:T≠e) (size:h.objs.size≤T) (there:h'.get? T=some oT) (data:oT.data = .fields ts) (fl:ts[3]? = some (rawInt L)):Entered l e oe L h h'
theorem entry_on {base:Heap} {env:Env} {outer:List Env} {L e:Addr} {oe:Obj} {vs:Array Value} {hd:Value} {nx:Bool} {Q:Unit→Shared→Prop}
    (af:A.frames=some (env :: outer)) (ff:s.heap.FunFrames base (env :: outer)) (fL:env.frame=some L) (ge:s.heap.get? e=some oe) (gd:oe.data = .fields vs) (gz:1 < vs.size)
    (k:∀ h',Entered (env :: outer) e oe L s.heap h'→Q () { s with heap:=h' }) :
    wpAny M A (do let a ← frameOf env;let pl ← entryPlaceOf L nx;let b ← EntryCells.newEntry hd a .none (rawInt L) .none pl;setField (.ref e) 1 b) Q E s:=by
  have hne:e ∉ (env :: outer).filterMap (·.frame):=fun m=>by
    obtain ⟨_,o,q,nf⟩:=ff.mem m
    rw [ge] at q
    cases q
    exact nf vs gd
  refine wpAny_bind (wpAny_frameOf_fun af ff fL fun h1 sl => ?_)
  refine wpAny_bind (wpAny_entryPlaceOf fun pl hp => ?_)
  unfold EntryCells.newEntry newFields
  refine wpAny_bind (wpAny_newObj_type ?_ (hp.sizeOk5 _ _ _ _ _))
  have g1:h1.get? e=some oe:=(sl.2.1 e hne).trans ge
  generalize hO:({ cls := .type "traceback",dict:=none,data := .fields ([hd,.ref L,.none,rawInt L,.none] ++ (if pl.isEmpty then List.replicate 6 Value.none else pl)).toArray }:Obj)=oT
  have g2:=Heap.get?_push_of_some (h:=h1) oT g1
  refine wpAny_setField g2 gd gz (k _ ?_)
  have nT:h1.objs.size≠e:=Nat.ne_of_gt (Heap.lt_size g1)
  have dd:=Obj.data_mapFields gd (·.setIfInBounds 1 (Value.ref h1.objs.size))
  have up:∀ b o,b≠e→h1.get? b=some o→((h1.push oT).update e (Obj.mapFields (·.setIfInBounds 1 (Value.ref h1.objs.size)))).get? b=some o:=fun b o n q=>by
    rw [Heap.get?_update_other _ _ (Ne.symm n)]
    exact Heap.get?_push_of_some _ q
  refine ⟨h1.objs.size,oT,_,fun b o n m q=>up b o n ((sl.2.1 b m).trans q),fun b o n q => ?_,Heap.get?_update_self _ g2 (Obj.isFreed_of_fields dd),Heap.get?_none_of_le (Nat.le_of_eq sl.1.symm),nT,Nat.le_of_eq sl.1.symm,?_,(by rw [← hO]),?_⟩
  · obtain ⟨x,q'⟩:=sl.2.2 b o q
    exact ⟨x,up b _ n q'⟩
  · rw [Heap.get?_update_other _ _ (Ne.symm nT)]
    exact Heap.get?_push_size h1 (by rw [← hO];rfl)
  · first
      | (simp;done)
      | (rcases hp with rfl | ⟨_,_,_,_,_,_,_,rfl⟩ <;> simp)
theorem Entered.noted {base:Heap} {l:List Env} {e L:Addr} {oe:Obj} {vs:Array Value} {a0:Value} {h h':Heap} (x:Entered l e oe L h h') (kb:base.StaysIn h) (be:base.get? e=none) (ff:h.FunFrames base l) (gd:oe.data = .fields vs) (gz:1 < vs.size) (g0:vs[0]? = some a0) (ge:h.get? e=some oe) :
    Heap.NotedW base l e oe.cls a0 (rawInt L) h h':=by
  obtain ⟨T,oT,ts,old,slots,own,new,ne,size,there,data,fl⟩:=x
  have nr:∀ b o,h.get? b=some o→(∀ ws,o.data ≠ .fields ws)→b≠e:=fun b o q nf z=>by
    rw [z,ge] at q
    cases q
    exact nf vs gd
  refine ⟨fun b o q=>old b o (fun z=>by rw [z,be] at q;cases q) (fun m=>by rw [(ff.mem m).1] at q;cases q) (kb b o q),ff.of_keeps fun b o q nf => ?_,?_,fun b o q nf=>slots b o (nr b o q nf) q⟩
  · obtain ⟨sl,q'⟩:=slots b o (nr b o q nf) q
    exact ⟨_,q',rfl⟩
  · refine ⟨_,_,T,oT,ts,own,⟨Obj.cls_mapFields _ _,?_⟩,Obj.data_mapFields gd _,by simp [gz],?_,ne,there,data,fl⟩
    · rw [Array.getElem?_setIfInBounds_ne (by decide)];exact g0
    · cases q:base.get? T with
      | none=>rfl
      | some o=>have:=kb _ _ q;rw [new] at this;cases this
theorem Entered.ctx {l:List Env} {e L:Addr} {oe:Obj} {vs:Array Value} {h h':Heap} {y:Value} (x:Entered l e oe L h h') (gd:oe.data = .fields vs) (ge:h.get? e=some oe) (c:F2 h e y):F2 h' e y:=by
  obtain ⟨T,oT,ts,old,slots,own,new,ne,size,there,data,fl⟩:=x
  obtain ⟨o,ws,q1,q2,q3⟩:=c
  rw [ge] at q1
  cases q1
  rw [gd] at q2
  cases q2
  exact ⟨_,_,own,Obj.data_mapFields gd _,by rw [Array.getElem?_setIfInBounds_ne (by decide)];exact q3⟩
theorem note_new {base:Heap} {env:Env} {outer:List Env} {L e:Addr} {oe:Obj} {vs:Array Value} {a0:Value} {Q:Unit→Shared→Prop} (af:A.frames=some (env :: outer)) (ff:s.heap.FunFrames base (env :: outer)) (fL:env.frame=some L)
    (ge:s.heap.get? e=some oe) (kb:base.StaysIn s.heap) (be:base.get? e=none) (gd:oe.data = .fields vs) (g1:vs[1]? = some .none) (g0:vs[0]? = some a0)
    (k:∀ h',Heap.HeldW base (env :: outer) e oe.cls a0 L h'→s.heap.UpToSlots h'→(∀ y,F2 s.heap e y→F2 h' e y)→Q () { s with heap:=h' }):wpAny M A (noteFrame (.ref e) env) Q E s:=by
  have gz:=(Array.getElem?_eq_some_iff.mp g1).1
  unfold noteFrame
  simp only [fL]
  refine wpAny_bind (wpAny_field ge gd g1 ?_)
  rw [if_neg (by decide)]
  refine entry_on af ff fL ge gd gz fun h' x => ?_
  obtain ⟨n1,n2,n3,n4⟩:=x.noted kb be ff gd gz g0 ge
  exact k h' ⟨n1,be,n2,n3⟩ n4 fun y c=>x.ctx gd ge c
theorem note_on {base:Heap} {env:Env} {outer:List Env} {L e:Addr} {cls a0:Value} {Q:Unit→Shared→Prop} (af:A.frames=some (env :: outer)) (fL:env.frame=some L) (fl:Heap.FlyingW base (env :: outer) e cls a0 s.heap)
    (k:∀ h',Heap.HeldW base (env :: outer) e cls a0 L h'→s.heap.UpToSlots h'→(∀ y,F2 s.heap e y→F2 h' e y)→Q () { s with heap:=h' }):wpAny M A (noteFrame (.ref e) env) Q E s:=by
  obtain ⟨kb,be,ff,oe,vs,Tr,oT,ts,ge,⟨gc,g0⟩,gd,g1,bT,nTe,gT,dT,g3⟩:=fl
  subst gc
  have gz:=(Array.getElem?_eq_some_iff.mp g1).1
  unfold noteFrame
  simp only [fL]
  refine wpAny_bind (wpAny_field ge gd g1 ?_)
  rw [if_pos (show (Value.ref Tr != Value.none)=true by simp)]
  refine wpAny_bind (wpAny_field gT dT g3 ?_)
  rw [if_neg (show ¬ ((Value.none == rawInt L)=true) by simp [rawInt])]
  refine wpAny_bind (wpAny_setField gT dT (Array.getElem?_eq_some_iff.mp g3).1 ?_)
  have ot:∀ b,b≠Tr→(s.heap.update Tr (Obj.mapFields (·.setIfInBounds 3 Value.none))).get? b=s.heap.get? b:=fun b n=>Heap.get?_update_other _ _ (Ne.symm n)
  have nr:∀ b o,s.heap.get? b=some o→(∀ ws,o.data ≠ .fields ws)→b≠Tr:=fun b o q nf z=>by
    rw [z,gT] at q
    cases q
    exact nf ts dT
  have ff1:=ff.of_keeps (h':=s.heap.update Tr (Obj.mapFields (·.setIfInBounds 3 Value.none))) fun b o q nf=>⟨o,(ot b (nr b o q nf)).trans q,rfl⟩
  have kb1:base.StaysIn (s.heap.update Tr (Obj.mapFields (·.setIfInBounds 3 Value.none))):=fun b o q=>(ot b fun z=>by rw [z,bT] at q;cases q).trans (kb b o q)
  have ge1:=(ot e (Ne.symm nTe)).trans ge
  refine entry_on (s := { s with heap:=_ }) af ff1 fL ge1 gd gz fun h' x => ?_
  obtain ⟨n1,n2,n3,n4⟩:=x.noted kb1 be ff1 gd gz g0 ge1
  exact k h' ⟨n1,be,n2,n3⟩ (fun b o q nf=>n4 b o ((ot b (nr b o q nf)).trans q) nf) fun y c=>x.ctx gd ge1 (c.other nTe)
theorem flight_off {base:Heap} {l:List Env} {e:Addr} {cls a0 m:Value} {Q:Unit→Shared→Prop} (kb:base.StaysIn s.heap) (be:base.get? e=none) (ff:s.heap.FunFrames base l) (tr:s.heap.TracedAtW base e cls a0 m)
    (k:∀ h',Heap.FlyingW base l e cls a0 h'→s.heap.UpToSlots h'→(∀ y,F2 s.heap e y→F2 h' e y)→Q () { s with heap:=h' }):wpAny M A (setFlight (.ref e) none) Q E s:=by
  obtain ⟨oe,vs,Tr,oT,ts,ge,gc,gd,g1,bT,nTe,gT,dT,g3⟩:=tr
  have z3:=(Array.getElem?_eq_some_iff.mp g3).1
  have ot:∀ b,b≠Tr→(s.heap.update Tr (Obj.mapFields (·.setIfInBounds 3 ((none:Option Addr).elim Value.none fun f=>rawInt f)))).get? b=s.heap.get? b:=fun b n=>Heap.get?_update_other _ _ (Ne.symm n)
  have nr:∀ b o,s.heap.get? b=some o→(∀ ws,o.data ≠ .fields ws)→b≠Tr:=fun b o q nf z=>by
    rw [z,gT] at q
    cases q
    exact nf ts dT
  unfold setFlight
  refine wpAny_bind (wpAny_field ge gd g1 ?_)
  rw [if_pos (show (Value.ref Tr != Value.none)=true by simp)]
  refine wpAny_setField gT dT z3 (k _ ⟨fun b o q=>(ot b fun z=>by rw [z,bT] at q;cases q).trans (kb b o q),be,ff.of_keeps fun b o q nf=>⟨o,(ot b (nr b o q nf)).trans q,rfl⟩,?_⟩ (fun b o q nf=>⟨o.slots,(ot b (nr b o q nf)).trans q⟩) fun y c=>c.other nTe)
  exact ⟨oe,vs,Tr,_,_,(ot e (Ne.symm nTe)).trans ge,gc,gd,g1,bT,nTe,Heap.get?_update_self _ gT (Obj.isFreed_of_fields (Obj.data_mapFields dT _)),Obj.data_mapFields dT _,by simp [z3]⟩
theorem leave_on {base:Heap} {env:Env} {outer:List Env} {L e:Addr} {cls a0:Value} {Q:Unit→Shared→Prop} (af:A.frames=some (env :: outer)) (fL:env.frame=some L) (fl:Heap.FlyingW base (env :: outer) e cls a0 s.heap)
    (k:∀ h',Heap.FlyingW base outer e cls a0 h'→s.heap.UpToSlots h'→(∀ y,F2 s.heap e y→F2 h' e y)→Q () { s with heap:=h' }):wpAny M A (leaving env (.ref e)) Q E s:=by
  unfold leaving
  refine wpAny_bind (note_on af fL fl fun h1 hh sl c1 => ?_)
  obtain ⟨n1,n2,n3,n4⟩:=hh
  refine flight_off (s := { s with heap:=h1 }) n1 n2 n3 n4 fun h2 f2 sl2 c2 => ?_
  obtain ⟨m1,m2,⟨_,_,m3⟩,m4⟩:=f2
  exact k h2 ⟨m1,m2,m3,m4⟩ (sl.trans sl2) fun y c=>c2 y (c1 y c)
theorem leave_new {base:Heap} {env:Env} {outer:List Env} {L e:Addr} {oe:Obj} {vs:Array Value} {a0:Value} {Q:Unit→Shared→Prop} (af:A.frames=some (env :: outer)) (ff:s.heap.FunFrames base (env :: outer)) (fL:env.frame=some L)
    (ge:s.heap.get? e=some oe) (kb:base.StaysIn s.heap) (be:base.get? e=none) (gd:oe.data = .fields vs) (g1:vs[1]? = some .none) (g0:vs[0]? = some a0)
    (k:∀ h',Heap.FlyingW base outer e oe.cls a0 h'→s.heap.UpToSlots h'→(∀ y,F2 s.heap e y→F2 h' e y)→Q () { s with heap:=h' }):wpAny M A (leaving env (.ref e)) Q E s:=by
  unfold leaving
  refine wpAny_bind (note_new af ff fL ge kb be gd g1 g0 fun h1 hh sl c1 => ?_)
  obtain ⟨n1,n2,n3,n4⟩:=hh
  refine flight_off (s := { s with heap:=h1 }) n1 n2 n3 n4 fun h2 f2 sl2 c2 => ?_
  obtain ⟨m1,m2,⟨_,_,m3⟩,m4⟩:=f2
  exact k h2 ⟨m1,m2,m3,m4⟩ (sl.trans sl2) fun y c=>c2 y (c1 y c)
end
end L2
namespace L2
open PySem PySem.Spec PyProof.Rows

section
variable {P:Program} {w:World} {H H':Hp} {h h':Heap} {a:Addr} {o:HO}
theorem ObjOk.there (x:ObjOk P w H h a o):∃ ob,h.get? a=some ob:=by
  cases o with
  | lst xs=>obtain ⟨_,_,_,_,e⟩:=x;exact ⟨_,e⟩
  | tup xs=>obtain ⟨_,_,_,_,e,_⟩:=x;exact ⟨_,e⟩
  | dK kvs=>obtain ⟨_,_,_,_,o,_,_,e,_⟩:=x;exact ⟨_,e⟩
  | dT kvs=>obtain ⟨_,_,_,_,o,_,_,e,_⟩:=x;exact ⟨_,e⟩
  | set S n=>obtain ⟨o,_,_,_,e,_⟩:=x;exact ⟨_,e⟩
  | ins C dx fs=>obtain ⟨_,_,_,e,_⟩:=x;exact ⟨_,e⟩
  | own y=>exact x
  | xd fs=>obtain ⟨_,⟨_,_,_,e,_⟩,_⟩:=x;exact ⟨_,e⟩
  | rng lo hi=>obtain ⟨_,_,_,e⟩:=x;exact ⟨_,e⟩
  | frz ob u=>obtain ⟨e,_⟩:=x;exact ⟨_,e⟩
  | tbl ps=>exact ⟨_,(show h.get? a=some _ from x)⟩
  | met f y=>exact ⟨_,(show h.get? a=some _ from x)⟩
  | ext φ => obtain ⟨_,e,_⟩:=x;exact e
theorem HOk.notThere (x:HOk P w H h) (e:h.get? a=none):H a=none:=by
  cases q:H a with
  | none=>rfl
  | some u=>obtain ⟨ob,z⟩:=(x a u q).there;rw [e] at z;cases z
theorem HOk.part (x:HOk P w H h) (k:∀ b u v,H b=some u→h.get? b=some v→h'.get? b=some v):HOk P w H h':=fun a o e =>
  (x a o e).stay (fun b u hb q=>by
    rcases hb with z | z
    · subst z;exact k _ _ _ e q
    · exact k _ _ _ z q) (fun _ q=>q) fun _ _ q=>q
end
theorem Un.fly {fs:List Addr} {L:Addr} {H₀ H H':Hp} {h0 h h1 h2 B:Heap} (U1:Un fs [] H₀ H h0 h) (U2:Un (L :: fs) [] H H' h h1) (hL:h0.get? L=none)
    (cov:∀ b o,h.get? b=some o→b ∉ L :: fs→∃ o',B.get? b=some o') (k1:∀ b o,B.get? b=some o→h1.get? b=some o) (k2:∀ b o,B.get? b=some o→h2.get? b=some o)
    (sl:h1.UpToSlots h2) (nf:∀ b∈fs,∃ o,h1.get? b=some o∧∀ vs,o.data ≠ .fields vs):Un fs [] H₀ H' h0 h2:=by
  have nL:∀ b o,h0.get? b=some o→b ∉ fs→b ∉ L :: fs:=fun b o q hb z=>by
    rcases List.mem_cons.mp z with z | z
    · rw [z,hL] at q;cases q
    · exact hb z
  refine ⟨fun b o q n hb hx => ?_,fun b o q n hb hx => ?_,fun b o q n hx => ?_,fun b o q hx => ?_,fun b xs q=>U2.tups _ _ (U1.tups _ _ q),fun b o u q=>U2.frzs _ _ _ (U1.frzs _ _ _ q),fun b ps q => ?_⟩
  · have q1:=U1.keep b o q n hb hx
    have q2:=U2.keep b o q1 (U1.free b o q n hx) (nL b o q hb) hx
    obtain ⟨o',e⟩:=cov b o q1 (nL b o q hb)
    have e1:=k1 _ _ e
    rw [q2] at e1
    cases e1
    exact k2 _ _ e
  · obtain ⟨s1,q1⟩:=U1.slot b o q n hb hx
    obtain ⟨s2,q2⟩:=U2.slot b _ q1 (U1.free b o q n hx) (List.mem_cons_of_mem _ hb) hx
    obtain ⟨ob,q3,d⟩:=nf b hb
    rw [q2] at q3
    cases q3
    obtain ⟨s4,q4⟩:=sl b _ q2 d
    exact ⟨s4,q4⟩
  · obtain ⟨o1,q1⟩:=U1.there b o q hx
    exact U2.free b o1 q1 (U1.free b o q n hx) hx
  · by_cases hb:b∈fs
    · obtain ⟨ob,q3,d⟩:=nf b hb
      obtain ⟨s4,q4⟩:=sl b _ q3 d
      exact ⟨_,q4⟩
    · obtain ⟨o1,q1⟩:=U1.there b o q hx
      obtain ⟨o',e⟩:=cov b o1 q1 (nL b o q hb)
      exact ⟨_,k2 _ _ e⟩
  · obtain ⟨m1,e1⟩:=U1.tbls b ps q
    obtain ⟨m2,e2⟩:=U2.tbls b _ e1
    exact ⟨m1 ++ m2,by rw [e2,Array.append_assoc]⟩

noncomputable def CXE (P:Program) (w:World):CXT:=fun outer H s E e s'=>∃ (ea C:Addr) (a0:Value) (B:Heap) (H':Hp),e = .ref ea∧Heap.FlyingW B outer ea (.ref C) a0 s'.heap∧s'.os=s.os∧AllBare s'.gens ∧
  HOk P w H' B∧Un (frs outer) [] H H' s.heap s'.heap∧(∀ b o,s.heap.get? b=some o→b ∉ frs outer→∃ o',B.get? b=some o')∧∃ m:Option Addr,F2 s'.heap ea (ctxV m)∧E (.ref C) m H'

section
variable {P:Program} {w:World} {K:PySem.W.Frag} {mg:Str→Option Value} {base:Heap} {N:List Str} {qual:Str} {scope:Scope} {f:Addr} {cdv:Value} {A:Around} {outer:List Env} {s0 s:Shared} {H0 H:Hp} {E E':XK}
  {pins:List (Addr × Obj)} {σ : St} {CX:CXT}
theorem stack_frs {e:Env} {L:Addr} {l:List Env} (h:e.frame=some L):frs (e :: l)=L :: frs l:=by
  unfold frs
  rw [List.filterMap_cons,h]
theorem flies {h':Heap} {e C:Addr} {args:List Value} (I:Inv (cxOf (CXE P w) P w K mg base N qual scope f cdv A outer s0 H0 E) pins σ H s) (hx:Heap.MadeExcOf s.heap h' e (.ref C) args) (q:E (.ref C) none H) :
    (cxOf (CXE P w) P w K mg base N qual scope f cdv A outer s0 H0 E).xe (.ref e) { s with heap:=h' }:=by
  have fr:s.heap.FunFrames base (envOfC qual scope s0.heap.objs.size f cdv :: outer):=I.stack
  have sf:∀ b∈frs (envOfC qual scope s0.heap.objs.size f cdv :: outer),H b=none:=I.stkFree
  have hin:∀ env∈(envOfC qual scope s0.heap.objs.size f cdv :: outer),∀ b,env.frame=some b→b∈frs (envOfC qual scope s0.heap.objs.size f cdv :: outer):=fun env he b hb=>List.mem_filterMap.mpr ⟨env,he,hb⟩
  have es:frs (envOfC qual scope s0.heap.objs.size f cdv :: outer)=s0.heap.objs.size :: frs outer:=stack_frs rfl
  show wpAny _ _ (leaving _ _) _ _ _
  obtain ⟨t,gt,_,_⟩:=hx.there
  have ff:=(PySem.W.funFrames_hide fr hin).of_keeps (h':=h') fun b o z _=>⟨o,hx.keeps b o z,rfl⟩
  have kb:(PySem.W.hideAll s.heap (frs (envOfC qual scope s0.heap.objs.size f cdv :: outer))).StaysIn h':=fun b o z=>hx.keeps b o (PySem.W.of_hideAll _ z)
  have be:(PySem.W.hideAll s.heap (frs (envOfC qual scope s0.heap.objs.size f cdv :: outer))).get? e=none:=by
    cases z:(PySem.W.hideAll s.heap (frs (envOfC qual scope s0.heap.objs.size f cdv :: outer))).get? e with
    | none=>rfl
    | some o=>have:=PySem.W.of_hideAll _ z;rw [hx.new] at this;cases this
  refine leave_new (s := { s with heap:=h' }) (a0 := .ref t) I.ok.frames ff rfl gt kb be rfl rfl rfl ?_
  intro h'' x1 x4 x5
  have cov:∀ b o,s.heap.get? b=some o→b ∉ s0.heap.objs.size :: frs outer→(PySem.W.hideAll s.heap (frs (envOfC qual scope s0.heap.objs.size f cdv :: outer))).get? b=some o:=fun b o z hb=>PySem.W.hideAll_get _ z (by rw [es];exact hb)
  have Ib:Un (frs outer) [] H0 H s0.heap s.heap:=I.base
  refine ⟨e,C,.ref t,_,H,rfl,x1,I.os,I.bare,HOk.part I.hok fun b u v z1 z2=>PySem.W.hideAll_get _ z2 fun hm => ?_,?_,?_,none,x5 _ ⟨_,_,gt,rfl,rfl⟩,q⟩
  · rw [sf b hm] at z1;cases z1
  · refine Un.fly (h:=s.heap) (h1:=h') (L:=s0.heap.objs.size) Ib (Un.kept hx.keeps) (Heap.get?_none_of_le (Nat.le_refl _)) (fun b o z hb=>⟨o,cov b o z hb⟩) (fun b o z=>hx.keeps _ _ (PySem.W.of_hideAll _ z)) x1.1 x4 fun b hb => ?_
    obtain ⟨_,o,z,d⟩:=fr.mem (b:=b) (by show b∈frs _;rw [es];exact List.mem_cons_of_mem _ hb)
    exact ⟨o,hx.keeps _ _ z,d⟩
  · intro b o z hb
    obtain ⟨o1,z1⟩:=Ib.there b o z (by simp)
    refine ⟨o1,cov b o1 z1 fun hm => ?_⟩
    rcases List.mem_cons.mp hm with y | y
    · rw [y,Heap.get?_none_of_le (Nat.le_refl _)] at z;cases z
    · exact hb y
theorem passE (hE:∀ c m H',E' c m H'→E c m H'):Passes (CXE P w) (cxOf (CXE P w) P w K mg base N qual scope f cdv A outer s0 H0 E) E':=by
  intro pins σ H s e s' I h
  obtain ⟨ea,C,a0,B,H',rfl,fl,os,bare,hok,un,cov,m,hm,q⟩:=h
  have es:frs (envOfC qual scope s0.heap.objs.size f cdv :: outer)=s0.heap.objs.size :: frs outer:=stack_frs rfl
  have Ib:Un (frs outer) [] H0 H s0.heap s.heap:=I.base
  have un':Un (s0.heap.objs.size :: frs outer) [] H H' s.heap s'.heap:=by rw [← es];exact un
  have cov':∀ b o,s.heap.get? b=some o→b ∉ s0.heap.objs.size :: frs outer→∃ o',B.get? b=some o':=fun b o z hb=>cov b o z (by show b ∉ frs (envOfC qual scope s0.heap.objs.size f cdv :: outer);rw [es];exact hb)
  show wpAny _ _ (leaving _ _) _ _ _
  refine leave_on I.ok.frames rfl fl fun h'' x1 x2 x3 => ?_
  refine ⟨ea,C,a0,B,H',rfl,x1,os.trans I.os,bare,hok,?_,?_,m,x3 _ hm,hE _ _ _ q⟩
  · refine Un.fly Ib un' (Heap.get?_none_of_le (Nat.le_refl _)) cov' fl.1 x1.1 x2 fun b hb => ?_
    obtain ⟨_,o,z,d⟩:=fl.2.2.1.mem (b:=b) (by show b∈frs (envOfC qual scope s0.heap.objs.size f cdv :: outer);rw [es];exact List.mem_cons_of_mem _ hb)
    exact ⟨o,z,d⟩
  · intro b o z hb
    obtain ⟨o1,z1⟩:=Ib.there b o z (by simp)
    refine cov' b o1 z1 fun hm => ?_
    rcases List.mem_cons.mp hm with y | y
    · rw [y,Heap.get?_none_of_le (Nat.le_refl _)] at z;cases z
    · exact hb y
end

structure Exc (K:PySem.W.Frag) (mg:Str→Option Value) (x:Str) (C:Addr):Prop where
  glob:mg x=some (.ref C)
  here:PySem.W.excIn K C [.type "ValueError",.type "Exception",.type "BaseException",.type "object"] "ValueError.__new__" = true
theorem Exc.own {K:PySem.W.Frag} {mg:Str→Option Value} {x:Str} {C:Addr} {h:Heap} (e:Exc K mg x C) (X:K.In h):OwnCls x C [.type "ValueError",.type "Exception",.type "BaseException",.type "object"] "ValueError.__new__" mg h:=by
  refine ⟨e.glob,?_⟩
  have q:=e.here
  unfold PySem.W.excIn at q
  split at q
  · rename_i dd cd sl ho
    split at q
    · rename_i C' bm k0 k1 k2 k3 n k5 hm hs
      simp only [Bool.and_eq_true,beq_iff_eq,Bool.not_eq_true'] at q
      obtain ⟨⟨⟨⟨⟨rfl,rfl⟩,hdel⟩,ht⟩,hok⟩,hni⟩:=q
      obtain ⟨nm,bs,mro,ns,qn,hd,sn,sub,ab,col,del⟩:=cd
      dsimp only at hm hdel hok hni
      subst hm hdel
      have hsl:sl = #[k0,k1,k2,k3,some (.builtin "ValueError.__new__"),k5]:=by
        obtain ⟨l⟩:=sl
        simp only at hs
        rw [hs]
      subst hsl
      exact ⟨bm,ns,nm,qn,bs,hd,sn,sub,ab,col,dd,k0,k1,k2,k3,k5,_,X _ _ ho,.of_isNs (PySem.W.isNs_of_in X hok),PySem.W.nsMap_none_of_in X hok hni,PySem.W.tail_of_in X ht⟩
    · cases q
  · cases q
noncomputable def Flies (X:Cx) (C:Addr) (E:XK):Prop := ∀ (pins:List (Addr × Obj)) (σ : St) (H:Hp) (s:Shared) (h':Heap) (e:Addr) (args:List Value),Inv X pins σ H s→Heap.MadeExcOf s.heap h' e (.ref C) args→E (.ref C) none H→X.xe (.ref e) { s with heap:=h' }
noncomputable def tRaise (C:Addr) (E:XK) (t:TA):TS:=fun _ σ H=>t σ H fun vs H1=>vs.length≤sizeLine∧E (.ref C) none H1
theorem ps_raise {X:Cx} {x:Str} {C:Addr} {E:XK} {e₀ : Expr} {rest:List Expr} {t:TA} {np cpos pos:Pos} (O:Exc X.K X.mg x C) (hc:X.calm=true) (F:Flies X C E) (ha:PA X (e₀ :: rest) t) (hg:Gl X x)
    (he:starEach (e₀ :: rest) X.env=(false,eval e₀ X.env) :: starEach rest X.env:=by rfl) (hplain:(backTo cpos (starEach rest X.env)).any (·.1)=false:=by rfl) (hd:(x == ("__debug__" : Str))=false:=by decide) :
    PS X (.Raise (some (.Call (.Name x np) (e₀ :: rest) [] cpos)) none pos) (tRaise C E t):=by
  intro pins s σ H D I h
  obtain ⟨tl,N,nm,q,bs,hdct,sn,sub,ab,col,dd,k0,k1,k2,k3,k5,mN,hC,hN,hni,T⟩:=(O.own I.ok.mod.kin).obj
  refine wpAny_Raise_call_subT (C:=C) (nm:=nm) (q:=q) (N:=N) (bs:=bs) (bm:=tl) (hdct:=hdct) (sn:=sn) (sub:=sub) (ab:=ab) (col:=col) (dd:=dd) (k0:=k0) (k1:=k1) (k2:=k2) (k3:=k3) (k5:=k5)
    PySem.F.excBase_ValueError (mN:=mN) (T.hasType PySem.F.excBase_ValueError.hasBase) (I.ok.hd hc) (by rw [he];show (false || (backTo cpos (starEach rest X.env)).any (·.1))=false;rw [hplain];rfl) hni (ld_glob I hg O.glob ⟨rfl,?_⟩ hd)
  have h₂ := ha cpos pins s σ H _ I h
  rw [he] at h₂ ⊢
  exact Calls.evalArgs_plain (wpAny_mono h₂ (fun vs s₂ ⟨xs,H1,I1,r,hl,hq⟩=>⟨rfl,by rw [← r.length];exact hl,I1.bk _ _ hC,hN.keeps I1.bk,T.keeps I1.bk,fun h' e hm=>F pins σ H1 s₂ h' e vs I1 hm hq⟩) fun _ _ y=>y)
end L2
namespace L2
open PySem PySem.Spec PyProof.Rows PySem.W

section
variable {prog:Program} {w:World} {A:Around} {E:Value→Shared→Prop} {h:Heap} {g:Array GenState} {d:Drawn} {t:Nat} {os:OsState} {a:Addr} {o:Obj}
  {nm q:Str} {C N:Addr} {bs bm:List Value} {hdct:Bool} {sn:List Str} {sub:List Value} {ab:Bool} {col:Option Bool} {dd:Option Addr} {k0 k1 k2 k3 k5:Option Value} {newId:String}

theorem xc_get {R:Result→Shared→Prop} (hC:h.get? C=some (excClassObj nm q C N bs bm hdct sn sub ab col dd k0 k1 k2 k3 k5 newId)) (hb:bm.contains (.type "object")=true)
    (hx:h.get? a=some o) (hc:o.cls = .ref C) (hq:R (.ok (.ret (.ref C))) ⟨h,g,d,t,os⟩) :
    codeAny (model prog w) A (.call (.builtin "getset_descriptor.__get__") ⟨[.builtin "object.__class__",.ref a,.ref C], []⟩) R ⟨h,g,d,t,os⟩:=by
  have hT5:(⟨h,g,d,t,os⟩:Shared).TypeIs (.builtin "object.__class__") "getset_descriptor" := F.typeOf_object_class
  have hcB:(Value.ref C :: bm).contains (.type (".".intercalate ("object.__class__".cutAt '.').dropLast))=true:=by
    rw [F.owner_object_class,List.contains_cons,hb];rfl
  refine codeAny_call_builtin F.slot_gs_get.plain F.entry_gs_get (F.slot_gs_get.check _ _ _ _ _ _ _ _ hT5 (F.args_gs_get _ _ _) ?_)
  repeat (any_goals (first | assumption | (with_reducible refine wpAny_loadPart_at hx ?_;rw [hc]) | (with_reducible refine wpAny_isSubtype_exc hC ?_;rw [hcB]) | wp_step))
  refine ⟨Code.quiet_builtin _ (by decide +kernel),codeAny_builtin F.entry_object_class ?_⟩
  repeat (any_goals (first | assumption | (with_reducible refine wpAny_loadPart_at hx ?_;rw [hc]) | wp_step))

theorem xc_check {M:Model} {nameV:Value} {Q:Unit→Shared→Prop} (hC:h.get? C=some (excClassObj nm q C N bs bm hdct sn sub ab col dd k0 k1 k2 k3 k5 newId)) (hb:bm.contains (.type "BaseException")=true)
    (hx:h.get? a=some o) (hc:o.cls = .ref C) (hq:Q () ⟨h,g,d,t,os⟩):wpAny M A (checkBuiltinCall "BaseException.__getattribute__" ⟨[.ref a,nameV], []⟩) Q E ⟨h,g,d,t,os⟩:=by
  have hk:builtinKind "BaseException.__getattribute__" = some .slot:=by decide +kernel
  have hsplit:splitId "BaseException.__getattribute__" = some ("BaseException", "__getattribute__"):=by decide +kernel
  have hcB:(Value.ref C :: bm).contains (.type "BaseException")=true:=by rw [List.contains_cons,hb];rfl
  have ha:=F.args_bexc_ga (.ref a) nameV
  simp only [checkBuiltinCall,hk,hsplit]
  refine wpAny_bind ?_
  · unfold isInstance
    repeat (first | (with_reducible refine wpAny_loadPart_at hx ?_;rw [hc]) | (with_reducible refine wpAny_isSubtype_exc hC ?_;rw [hcB]) | wp_step)
    exact hq

theorem xc_entry {tk:Tok} {Q:Fin→Shared→Prop} (hC:h.get? C=some (excClassObj nm q C N bs bm hdct sn sub ab col dd k0 k1 k2 k3 k5 newId)) (hb:bm.contains (.type "object")=true)
    (lk:Looks (model prog w) h (typeLookup (.ref C) "__class__") (some (.builtin "object.__class__"))) (hx:h.get? a=some o) (hc:o.cls = .ref C) (hq:Q (.done (.ret (.ref C))) ⟨h,g,d,t,os⟩) :
    wpAny (model prog w) A (Builtin.«object.__getattribute__» ⟨[.ref a,.str "__class__" tk], []⟩) Q E ⟨h,g,d,t,os⟩:=by
  have hT5:(⟨h,g,d,t,os⟩:Shared).TypeIs (.builtin "object.__class__") "getset_descriptor" := F.typeOf_object_class
  have f5:=F.typeOf_object_class
  have f6:=F.slot_gs_get.lookup
  have f7:=F.slot_gs_set.lookup
  repeat (any_goals (first | assumption | (with_reducible refine wpAny_loadPart_at hx ?_;rw [hc]) | with_reducible refine lk.at ?_ | wp_step))
  refine xc_get hC hb hx hc ?_
  repeat (any_goals (first | assumption | wp_step))

theorem xc_by {tk:Tok} {fill expr:Bool} {Q:Value→Shared→Prop} (hC:h.get? C=some (excClassObj nm q C N bs bm hdct sn sub ab col dd k0 k1 k2 k3 k5 newId)) (hb:bm.contains (.type "object")=true) (hb2:bm.contains (.type "BaseException")=true)
    (lk:Looks (model prog w) h (typeLookup (.ref C) "__class__") (some (.builtin "object.__class__"))) (lg:Looks (model prog w) h (typeLookup (.ref C) "__getattribute__") (some (.builtin "BaseException.__getattribute__")))
    (ln:Looks (model prog w) h (typeLookup (.ref C) "__getattr__") none) (hx:h.get? a=some o) (hc:o.cls = .ref C) (hq:Q (.ref C) ⟨h,g,d,t,os⟩) :
    wpAny (model prog w) A (getAttrBy (.ref a) (.str "__class__" tk) fill expr) Q E ⟨h,g,d,t,os⟩:=by
  have FB:=F.attrBase_ValueError
  have f3:=FB.ga.bind (.ref a)
  have hx0:(expr && onTheHeap (Value.builtin "BaseException.__getattribute__"))=false:=by cases expr <;> rfl
  have hx2:(Value.builtin "BaseException.__getattribute__" == Value.builtin "object.__getattribute__")=false:=by decide +kernel
  have hx1:(onTheHeap (Value.ref C) && Value.builtin "BaseException.__getattribute__" == Value.builtin "object.__getattribute__")=false:=by rw [hx2];rfl
  repeat (any_goals (first | assumption | (with_reducible refine wpAny_loadPart_at hx ?_;rw [hc]) | with_reducible refine lg.at ?_ | with_reducible refine ln.at ?_ | wp_step))
  refine codeAny_call_builtin FB.ga.plain F.entry_bexc_ga (xc_check hC hb2 hx hc (xc_entry hC hb lk hx hc ?_))
  repeat (any_goals (first | assumption | wp_step))

theorem xc_attr {Q:Option Value→Shared→Prop} (hC:h.get? C=some (excClassObj nm q C N bs bm hdct sn sub ab col dd k0 k1 k2 k3 k5 newId)) (hb:bm.contains (.type "object")=true) (hb2:bm.contains (.type "BaseException")=true)
    (lk:Looks (model prog w) h (typeLookup (.ref C) "__class__") (some (.builtin "object.__class__"))) (lg:Looks (model prog w) h (typeLookup (.ref C) "__getattribute__") (some (.builtin "BaseException.__getattribute__")))
    (ln:Looks (model prog w) h (typeLookup (.ref C) "__getattr__") none) (hx:h.get? a=some o) (hc:o.cls = .ref C) (hq:Q (some (.ref C)) ⟨h,g,d,t+1,os⟩) :
    wpAny (model prog w) A (getAttr? (.ref a) "__class__") Q E ⟨h,g,d,t,os⟩:=by
  unfold getAttr? getAttrBy?
  repeat (any_goals (first | assumption | with_reducible apply xc_by hC hb hb2 lk lg ln hx hc | wp_step))
end
end L2
namespace L2
open PySem PySem.Spec PyProof.Rows

noncomputable def XO (ea C:Addr):HO := .ext fun h=>∃ o,h.get? ea=some o∧o.cls = .ref C
noncomputable abbrev Cx.uncalm (X:Cx) (A:Around) (xe:Value→Shared→Prop):Cx := { X with A:=A,calm:=false,xe:=xe }
section
variable {X:Cx} {pins:List (Addr × Obj)} {σ : St} {H:Hp} {s:Shared} {xe:Value→Shared→Prop} {A:Around}
theorem Inv.uncalm (I:Inv X pins σ H s) (hf:A.frames=X.A.frames):Inv (X.uncalm A xe) pins σ H s :=
  ⟨⟨I.ok.mod,I.ok.kind,I.ok.glob,I.ok.blt,I.ok.above,I.ok.inj,I.ok.has,I.ok.cab,(fun h=>absurd (show false=true from h) (by decide)),hf.trans I.ok.frames,I.ok.stk,I.ok.exf,I.ok.bs,I.ok.bsz,I.ok.noex,I.ok.exfs,I.ok.funs,I.ok.frf⟩,
    I.os,I.bare,I.base,I.loc,I.cell,I.free,I.freeC,I.pin,I.hok,I.len⟩
theorem Inv.recalm (I:Inv (X.uncalm A xe) pins σ H s) (hd:X.calm=true→X.A.handled=none) (hf:X.A.frames=A.frames):Inv X pins σ H s :=
  ⟨⟨I.ok.mod,I.ok.kind,I.ok.glob,I.ok.blt,I.ok.above,I.ok.inj,I.ok.has,I.ok.cab,hd,hf.trans I.ok.frames,I.ok.stk,I.ok.exf,I.ok.bs,I.ok.bsz,I.ok.noex,I.ok.exfs,I.ok.funs,I.ok.frf⟩,
    I.os,I.bare,I.base,I.loc,I.cell,I.free,I.freeC,I.pin,I.hok,I.len⟩
end
theorem Un.on {fs:List Addr} {H H':Hp} {h h1 h2 B:Heap} (U:Un fs [] H H' h h1) (cov:∀ b o,h.get? b=some o→b ∉ fs→∃ o',B.get? b=some o') (k1:∀ b o,B.get? b=some o→h1.get? b=some o) (k2:∀ b o,B.get? b=some o→h2.get? b=some o)
    (sl:h1.UpToSlots h2) (nf:∀ b∈fs,∃ o,h1.get? b=some o∧∀ vs,o.data ≠ .fields vs):Un fs [] H H' h h2:=by
  refine ⟨fun b o q n hb hx => ?_,fun b o q n hb hx => ?_,U.free,fun b o q hx => ?_,U.tups,U.frzs,U.tbls⟩
  · have q2:=U.keep b o q n hb hx
    obtain ⟨o',e⟩:=cov b o q hb
    have e1:=k1 _ _ e
    rw [q2] at e1
    cases e1
    exact k2 _ _ e
  · obtain ⟨s1,q1⟩:=U.slot b o q n hb hx
    obtain ⟨ob,q3,d⟩:=nf b hb
    rw [q1] at q3
    cases q3
    obtain ⟨s4,q4⟩:=sl b _ q1 d
    exact ⟨s4,q4⟩
  · by_cases hb:b∈fs
    · obtain ⟨ob,q3,d⟩:=nf b hb
      obtain ⟨s4,q4⟩:=sl b _ q3 d
      exact ⟨_,q4⟩
    · obtain ⟨o',e⟩:=cov b o q hb
      exact ⟨_,k2 _ _ e⟩
theorem Un.more {fs:List Addr} {H H':Hp} {h h2:Heap} {a:Addr} {o:HO} (U:Un fs [] H H' h h2) (hn:h.get? a=none) (hH:H' a=none):Un fs [] H (upd H' a o) h h2:=by
  have ne:∀ b u,h.get? b=some u→b≠a:=fun b u q z=>by rw [z,hn] at q;cases q
  refine ⟨U.keep,U.slot,fun b u q n hx=>by rw [upd_ne (ne b u q)];exact U.free b u q n hx,U.there,fun b xs q => ?_,fun b u xs q => ?_,fun b ps q => ?_⟩
  · have e:=U.tups b xs q
    rw [upd_ne (ne_of_none e hH)];exact e
  · have e:=U.frzs b u xs q
    rw [upd_ne (ne_of_none e hH)];exact e
  · obtain ⟨m,e⟩:=U.tbls b ps q
    exact ⟨m,by rw [upd_ne (ne_of_none e hH)];exact e⟩
section
variable {X:Cx} {pins:List (Addr × Obj)} {σ : St} {H0 H':Hp} {s0 s':Shared} {ea C:Addr} {a0:Value} {B h5:Heap} {env:Env} {outer:List Env}
theorem caught_inv (I:Inv X pins σ H0 s0) (fl:Heap.FlyingW B X.stack ea (.ref C) a0 s'.heap) (os:s'.os=s0.os) (bare:AllBare s'.gens) (hok:HOk X.prog X.w H' B) (un:Un (frs X.stack) [] H0 H' s0.heap s'.heap)
    (cov:∀ b o,s0.heap.get? b=some o→b ∉ frs X.stack→∃ o',B.get? b=some o') (k5:∀ b o,B.get? b=some o→h5.get? b=some o) (sl:s'.heap.UpToSlots h5) (he:∃ o vs,h5.get? ea=some o∧o.cls = .ref C∧o.data = .fields vs) :
    Inv X pins σ (upd H' ea (XO ea C)) { s' with heap:=h5 }∧H' ea=none:=by
  have hn:H' ea=none:=hok.notThere fl.2.1
  have fm:∀ b∈frs X.stack,∃ o,s'.heap.get? b=some o∧∀ vs,o.data ≠ .fields vs:=fun b hb=>(fl.2.2.1.mem hb).2
  obtain ⟨oe,vs,h1,h2,h3⟩:=he
  have new:s0.heap.get? ea=none:=by
    cases q:s0.heap.get? ea with
    | none=>rfl
    | some o =>
      by_cases hb:ea∈frs X.stack
      · obtain ⟨ob,q3,d⟩:=fm ea hb
        obtain ⟨s4,q4⟩:=sl ea _ q3 d
        rw [h1] at q4
        cases q4
        exact absurd h3 (d vs)
      · obtain ⟨o',e⟩:=cov ea o q hb
        rw [fl.2.1] at e;cases e
  refine ⟨Inv.call' (s' := { s' with heap:=h5 }) I os ((un.on cov fl.1 k5 sl fm).more new hn) ?_ bare (fun b z=>absurd z (by simp)),hn⟩
  intro b u e
  have tup:∀ c xs,H' c=some (.tup xs)→upd H' ea (XO ea C) c=some (.tup xs):=fun c xs z=>by rw [upd_ne (ne_of_none z hn)];exact z
  have own:∀ c y,H' c=some (.own y)→upd H' ea (XO ea C) c=some (.own y):=fun c y z=>by rw [upd_ne (ne_of_none z hn)];exact z
  by_cases hb:b=ea
  · subst hb
    rw [upd_same] at e
    cases e
    refine ⟨⟨oe,h1,h2⟩,⟨oe,h1⟩,fun g1 g2 ⟨o,z1,z2⟩ k=>⟨o,k o z1,z2⟩⟩
  · rw [upd_ne hb] at e
    exact (hok b u e).stay (fun c v hc q=>k5 _ _ q) (fun c z=>own c b z) tup
end
theorem gone_ok {X:Cx} {pins:List (Addr × Obj)} {σ : St} {H:Hp} {s:Shared} {M:Model} {A:Around} {E:Value→Shared→Prop} {i:Nat} {n:Str} {pos:Pos} {Q:Unit→Shared→Prop} (I:Inv X pins σ H s) (hN:X.N.Nodup) (hi:X.N[i]? = some n)
    (hk:X.env.scope.names.lookup n=some .local) (h:∀ s',Inv X pins (σ.set i none) H s'→Q () s'):wpAny M A (do bindName X.env n .none;unbindBehindTheSuite X.env n pos) Q E s:=by
  obtain ⟨m,hn,hl⟩:=id I.loc
  have hcls:(X.env.scope.kind == .class || (X.env.scope.kind == .module && X.env.locals != X.env.globals))=false:=by rw [I.ok.kind];rfl
  have hiσ : i < σ.length:=by rw [I.len];exact (List.getElem?_eq_some_iff.mp hi).1
  have cne:=I.cne
  obtain ⟨oL,_,_,hoL,_⟩:=id hn
  refine wpAny_nameGoes_keeps hk hn hcls fun h' v hn' hs => ?_
  refine h _ ⟨I.ok,I.os,I.bare,⟨fun b o e n hb hx => ?_,fun b o e n hb hx => ?_,I.base.free,fun b o e hx => ?_,I.base.tups,I.base.frzs,I.base.tbls⟩,⟨_,hn',fun j y v' e1 e2 e3 => ?_⟩,fun y c e => ?_,I.free,I.freeC,fun p hp => ?_,fun b ob e => ?_,by simpa using I.len⟩
  · exact (hs.2 b (Nat.ne_of_lt (Nat.lt_of_lt_of_le (Heap.lt_size e) I.ok.above))).trans (I.base.keep b o e n hb hx)
  · obtain ⟨sl,e1⟩:=I.base.slot b o e n hb hx
    exact ⟨sl,(hs.2 b (Nat.ne_of_lt (Nat.lt_of_lt_of_le (Heap.lt_size e) I.ok.above))).trans e1⟩
  · obtain ⟨o',e1⟩:=I.base.there b o e hx
    exact ⟨o',(hs.2 b (Nat.ne_of_lt (Nat.lt_of_lt_of_le (Heap.lt_size e) I.ok.above))).trans e1⟩
  · by_cases hj:j=i
    · subst hj
      rw [List.getElem?_set_self hiσ] at e2
      cases e2
    · rw [List.getElem?_set_ne (Ne.symm hj)] at e2
      obtain ⟨u',r',q⟩:=hl j y v' e1 e2 e3
      refine ⟨u',r',?_⟩
      rcases q with ⟨k,e⟩ | ⟨k,c,e,z⟩
      · refine .inl ⟨k,?_⟩
        have:y≠n:=fun e=>hj (nodup_ix hN e1 (e ▸ hi))
        simp [this,e]
      · exact .inr ⟨k,c,e,z.sameBut hs (cne y c e)⟩
  · obtain ⟨w',z⟩:=I.cell y c e
    exact ⟨w',z.sameBut hs (cne y c e)⟩
  · obtain ⟨e,n,ne,nf,d⟩:=I.pin p hp
    exact ⟨(hs.2 p.1 ne).trans e,n,ne,nf,d⟩
  · refine (I.hok b ob e).stay (fun c w' hc q=>(hs.2 c ?_).trans q) (fun _ q=>q) fun _ _ q=>q
    rintro rfl
    rcases hc with rfl | hc
    · rw [I.free] at e;cases e
    · rw [I.free] at hc;cases hc

noncomputable def Wish (X:Cx) (pins:List (Addr × Obj)) (σ : St) (E:XK) (xe:Value→Shared→Prop):Prop := ∀ (H0:Hp) (s0:Shared) (e:Value) (s':Shared),Inv X pins σ H0 s0→CXE X.prog X.w X.stack H0 s0 E e s'→xe e s'
noncomputable def PEt (X:Cx) (e:Expr) (t:XK→TE):Prop := ∀ (E:XK) (pins:List (Addr × Obj)) (s:Shared) (σ : St) (H:Hp) (Q:VK) (xe:Value→Shared→Prop),Wish X pins σ E xe→Inv X pins σ H s→t E σ H Q →
  wpAny (model X.prog X.w) X.A (eval e X.env) (EP X pins σ Q) xe s
noncomputable def PSt (X:Cx) (st:List Stmt) (t:XK→TS):Prop := ∀ (E:XK) (pins:List (Addr × Obj)) (s:Shared) (σ : St) (H:Hp) (D:Ends) (xe:Value→Shared→Prop),Wish X pins σ E xe→Inv X pins σ H s→t E D σ H →
  wpAny (model X.prog X.w) X.A (execs st X.env) (SP X pins D) xe s
section
variable {X:Cx} {k:Nat} {f:Addr} {fd:FuncData} {ps:List Str} {sp:Sp} {dvs:List V} {ds:List Value} {x:Str} {p pos:Pos} {e:Expr} {es:List Expr} {t:TA}
theorem run_fnX {CX:CXT} {E:XK} {xe:Value→Shared→Prop} {pins:List (Addr × Obj)} {σ : St} {H:Hp} {s:Shared} {Q:VK} {us:List Value} {vs:List V} (F:FnOk X.prog X.w X.K X.mg X.base CX k f fd ps sp) (hr:Room k X.A) (hb:Binds X.K fd ps ds) (hd:Vals dvs ds)
    (I:Inv X pins σ H s) (hx:∀ e s',CX X.stack H s E e s'→xe e s') (r:Vals vs us) (h:sp (vs ++ dvs) H Q E):wpAny (model X.prog X.w) X.A (call (.ref f) us) (EP X pins σ Q) xe s:=by
  have r2:Vals (vs ++ dvs) (us ++ ds):=r.append hd
  have hl:(us ++ ds).length=ps.length:=by rw [← r2.length];exact F.len _ _ _ _ h
  refine wpAny_call (codeAny_mono (F.run X.A X.stack s H ⟨us, []⟩ (us ++ ds) (vs ++ dvs) Q E hr I.env0 (hb s us I.kIn hl) r2 h) fun r s' hq => ?_)
  cases r with
  | error e=>exact hx e s' hq
  | ok fl =>
    cases fl with
    | ret u=>exact I.after hq
    | next=>exact False.elim hq
    | brk=>exact False.elim hq
    | cont=>exact False.elim hq
theorem pet_call (F:FnOk X.prog X.w X.K X.mg X.base (CXE X.prog X.w) k f fd ps sp) (hr:Room k X.A) (hg:Gl X x) (hm:X.mg x=some (.ref f)) (hk:PySem.W.keepIn X.K (.ref f)=true) (hb:Binds X.K fd ps ds) (hd:Vals dvs ds)
    (ha:PA X.nox (e :: es) t) (hdb:(x == ("__debug__" : Str))=false:=by decide) (he:starEach (e :: es) X.env=(false,eval e X.env) :: starEach es X.env:=by rfl) (hpl:(backTo pos (starEach es X.env)).any (·.1)=false:=by rfl) :
    PEt X (.Call (.Name x p) (e :: es) [] pos) (fun E=>tCall sp dvs E t):=by
  intro E pins s σ H Q xe W I h
  refine wpAny_Call_Name_kw (ld_glob I hg hm ?_ hdb)
  refine PySem.W.callWith_K (h₀ := X.base) I.ok.mod.kin hk (wpAny_mono (ha pos pins s σ H _ (I.wish _) h) (fun us s1 ⟨vs,H1,I1,r,q⟩=>⟨I1.unwish.kIn,?_⟩) fun _ _ z=>False.elim z) he hpl
  exact run_fnX F hr hb hd I1.unwish (fun e s' hq=>W H1 s1 e s' I1.unwish hq) r q
theorem pst_set {i:Nat} {y:Str} {te:XK→TE} {pos':Pos} (hN:X.N.Nodup) (hi:X.N[i]? = some y) (hx:Loc X.env.scope y) (he:PEt X e te) (hs:swapsWith e (some (.Name y pos')) pos.line X.env=pure false:=by rfl)
    (hf:X.fn y=true∨X.env.scope.names.lookup y=some .local:=by first | exact .inl rfl | exact .inr rfl | assumption):PSt X [.Assign [.Name y pos'] e pos] (fun E=>tAsg (te E) (gName i)):=by
  intro E pins s σ H D xe W I h
  refine wpAny_execs_cons (wpAny_Assign_Name (thn (he E pins s σ H _ xe W I h) fun v s1 ⟨z,H1,I1,r1,q1⟩ => ?_) hs)
  exact store_ok I1 hN hi hx r1 (fun s2 I2=>wpAny_execs_nil ⟨_,H1,I2,q1⟩) hf
end
noncomputable def tTry (K:PySem.W.Frag) (CH:Addr) (i:Nat) (tb:XK→TS) (th:TS):TS:=fun D σ H =>
  tb (fun cls _ H'=>∃ C,cls = .ref C∧PySem.W.exmOne K (.ref C) (.ref CH)=some true∧∀ ea,H' ea=none →
    th { nx:=fun σ' H''=>D.nx (σ'.set i none) H'',rt:=D.rt,bk:=fun σ' H''=>D.bk (σ'.set i none) H'',ct:=fun σ' H''=>D.ct (σ'.set i none) H'' } (σ.set i (some (.ref ea))) (upd H' ea (XO ea C))) D σ H
theorem ps_try {X:Cx} {body:List Stmt} {tb:XK→TS} {th:TS} {x n:Str} {i:Nat} {CH:Addr} {b₀ : Stmt} {suite:List Stmt} {np hpos pos:Pos} (hst:X.stack=X.env :: X.outer∧X.env.frame=some X.env.locals)
    (hN:X.N.Nodup) (hi:X.N[i]? = some n) (hl:X.env.scope.names.lookup n=some .local) (hg:Gl X x) (hm:X.mg x=some (.ref CH)) (hb:PSt X body tb)
    (hh:∀ ea:Addr,PSs (X.uncalm (X.A.mark (some (.ref ea))) fun _ _=>False) (b₀ :: suite) th) (hd:(x == ("__debug__" : Str))=false:=by decide) :
    PS X (.Try body [.ExceptHandler (some (.Name x np)) (some n) (b₀ :: suite) hpos] [] [] pos) (tTry X.K CH i tb th):=by
  intro pins s σ H D I h
  refine wpAny_Try_except (wpAny_mono (hb _ pins s σ H D _ ?W I h) (fun f s1 q => ?_) fun _ _ z=>z)
  case W =>
    intro H0 s0 e s' I0 hx
    obtain ⟨ea,C,a0,B,H',rfl,fl,os,bare,hok,un,cov,_,_,C',hc,hex,hth⟩:=hx
    cases hc
    have hfr:X.A.frames=some (X.env :: X.outer):=by rw [I0.ok.frames,hst.1]
    have fl0:Heap.FlyingW B (X.env :: X.outer) ea (.ref C) a0 s'.heap:=by rw [← hst.1];exact fl
    refine wpAny_looks_onW hfr hst.2 fl0 fun h₄ held₄ sm₄ => ?_
    refine wpAny_landsW held₄ fun h₅ fl₅ sm₅ => ?_
    obtain ⟨o5,vs5,g1,g2,g3,_⟩:=fl₅.first
    obtain ⟨I5,hea⟩:=caught_inv (h5:=h₅) I0 fl os bare hok un cov fl₅.1 (sm₄.trans sm₅) ⟨o5,vs5,g1,g2,g3⟩
    have J5:Inv (X.uncalm (X.A.mark (some (.ref ea))) fun _ _=>False) pins σ (upd H' ea (XO ea C)) { s' with heap:=h₅ }:=I5.uncalm rfl
    refine wpAny_handleBy_cons (codeAny_handlers_test (ld_glob J5 hg hm ?_ hd)) (by intro q;cases q)
    have LT:PySem.W.Looks (model X.prog X.w) h₅ (typeOf (.ref ea)) (.ref C):=g2 ▸ (PySem.W.Looks.ld g1).andThen .now
    refine (PySem.W.exm_one (M:=model X.prog X.w) I5.kIn LT hex).at ?_
    show codeAny _ _ _ _ _
    refine codeAny_handlers_suite_as ?_
    refine lands_againW fl₅ fun h₆ fl₆ sm₆ => ?_
    obtain ⟨o6,vs6,j1,j2,j3,_⟩:=fl₆.first
    obtain ⟨I6,_⟩:=caught_inv (h5:=h₆) I0 fl os bare hok un cov fl₆.1 ((sm₄.trans sm₅).trans sm₆) ⟨o6,vs6,j1,j2,j3⟩
    refine store_ok I6 hN hi (.inl hl) (v := .ref ea) rfl (fun s7 J7 => ?_) (.inr hl)
    refine wpAny_mono (hh ea pins s7 _ _ _ (J7.uncalm rfl) (hth ea hea)) (fun f s8 q8 => ?_) fun _ _ z=>False.elim z
    have back:∀ {σ' H''} {s9:Shared},Inv (X.uncalm (X.A.mark (some (.ref ea))) fun _ _=>False) pins σ' H'' s9→Inv X pins σ' H'' s9:=fun J=>J.recalm I0.ok.hd rfl
    cases f with
    | next =>
      obtain ⟨σ',H'',J,q⟩:=q8
      exact gone_ok (back J) hN hi hl fun s9 I9=>⟨_,_,I9,q⟩
    | brk =>
      obtain ⟨σ',H'',J,q⟩:=q8
      exact gone_ok (back J) hN hi hl fun s9 I9=>⟨_,_,I9,q⟩
    | cont =>
      obtain ⟨σ',H'',J,q⟩:=q8
      exact gone_ok (back J) hN hi hl fun s9 I9=>⟨_,_,I9,q⟩
    | ret u =>
      obtain ⟨v, σ',H'',J,r,q⟩:=q8
      exact gone_ok (back J) hN hi hl fun s9 I9=>⟨v,_,_,I9,r,q⟩
  cases f with
  | next=>exact wpAny_execs_nil q
  | brk=>exact q
  | cont=>exact q
  | ret u=>exact q

structure RoomN (k:Nat) (A:Around):Prop where
  dp:A.depth+3 * k+5 < recursionLimit
  un:A.units+16 * k+200 < cLine
theorem Room.mark {k:Nat} {A:Around} (r:Room k A) (v:Option Value):RoomN k (A.mark v):=⟨r.dp,r.un⟩
theorem RoomN.mono {j k:Nat} {A:Around} (r:RoomN k A) (h:j≤k):RoomN j A:=⟨by have:=r.dp;omega,by have:=r.un;omega⟩
theorem RoomN.deeper {k:Nat} {A:Around} (r:RoomN (k+1) A) (env:Env):RoomN k (A.deeper env) :=
  ⟨by have:=r.dp;show A.depth+1+3 * k+5 < _;omega,by have:=r.un;show A.units+3+16 * k+200 < _;omega⟩
structure FnN (P:Program) (w:World) (K:PySem.W.Frag) (mg:Str→Option Value) (base:Heap) (k:Nat) (f:Addr) (fd:FuncData) (ps:List Str) (sp:Sp):Prop where
  len:∀ vs H Q E,sp vs H Q E→vs.length=ps.length
  run:∀ (A:Around) (outer:List Env) (s:Shared) (H:Hp) (args:Args) (us:List Value) (vs:List V) (Q:VK),RoomN k A→Env0 P w K mg base A outer s H→BindsTo s fd args (ps.zip us)→Vals vs us→sp vs H Q E0 →
    codeAny (model P w) A (.call (.ref f) args) (CR CX0 outer P w H s Q E0) s
theorem fn_N {P:Program} {w:World} {K:PySem.W.Frag} {mg:Str→Option Value} {base:Heap} {k:Nat} {f:Addr} {x qual:Str} {st:Stmt} {fd:FuncData} {N ps:List Str} {sp:Sp} (F:Fun K x qual st f fd) (S:FnScope N ps (defScope st))
    (len:∀ vs H Q E,sp vs H Q E→vs.length=ps.length)
    (hbody:∀ (cdv:Value) (A:Around) (outer:List Env) (s:Shared) (H:Hp) (vs:List V) (Q:VK),RoomN k (A.deeper (envOfC qual (defScope st) s.heap.objs.size f cdv))→sp vs H Q E0 →
      ∃ t,PSs ((cxOf CX0 P w K mg base N qual (defScope st) f cdv { A with handled:=none } outer s H E0).uncalm (A.deeper (envOfC qual (defScope st) s.heap.objs.size f cdv)) fun _ _=>False) (defBody st) t∧t { nx:=fun _ H'=>Q .non H',rt:=Q } (start N vs) H) :
    FnN P w K mg base (k+1) f fd ps sp:=by
  obtain ⟨oc,od,kV,doc,pm,an,cdv,ct,osl,rfl,lk,hcd⟩:=F.ex
  refine ⟨len,fun A outer s H args us vs Q hr e0 hb r hsp => ?_⟩
  have hl:=len _ _ _ _ hsp
  have KX:K.In s.heap:=e0.mod.kin.keeps fun b o e=>(e0.bs b o e).1
  have lim:s.heap.NoLimit:=e0.mod.nolimit.keeps fun b o e=>(e0.bs b o e).1
  have hkind:∀ y∈ps.zip us,(defScope st).names.lookup y.1=some .local∨((defScope st).names.lookup y.1=some .cell∧((cellsFrom (s.heap.objs.size+1) (defScope st).names []).lookup y.1).isSome=true):=fun ⟨n,v⟩ hy=>by
    rcases S.par n (List.of_mem_zip hy).1 with q | q
    · exact .inl q
    · exact .inr ⟨q,PySem.W.cellsFrom_some _ _ _ (.inl q)⟩
  have hdep:A.depth < recursionLimit:=by have:=hr.dp;omega
  refine codeAny_call_function hdep (KX _ _ lk) rfl S.co S.gen rfl (PySem.W.codeRec_of KX hcd) (hb _ _ _ _ ?_)
  refine wpAny_newFunctionEnv_cells S.kind hkind fun env he s1 x => ?_
  subst he
  refine ⟨lim.keeps x.toInCall.keep,codeAny_func ?_⟩
  obtain ⟨t,ht,hq⟩:=hbody cdv A outer s H vs Q (hr.deeper _) hsp
  have e0':Env0 P w K mg base { A with handled:=none } outer s H:=⟨e0.frames,e0.mod,e0.bs,e0.bsz,e0.funs,e0.frf,e0.hok,e0.bare⟩
  have I0:Inv (cxOf CX0 P w K mg base N qual (defScope st) f cdv { A with handled:=none } outer s H E0) [] (start N vs) H s1:=inv_start S rfl e0' hl r x
  have I:=I0.uncalm (A:=A.deeper (envOfC qual (defScope st) s.heap.objs.size f cdv)) (xe:=fun _ _=>False) rfl
  refine wpAny_mono (ht [] s1 (start N vs) H _ I hq) (fun fl s' hs => ?_) fun e s' hs=>False.elim hs
  have fin:∀ {σ':St} {H':Hp} {v:V} {u:Value},Inv ((cxOf CX0 P w K mg base N qual (defScope st) f cdv { A with handled:=none } outer s H E0).uncalm (A.deeper (envOfC qual (defScope st) s.heap.objs.size f cdv)) fun _ _=>False) [] σ' H' s'→RelV v u→Q v H'→CE outer P w H s Q u s' :=
    fun {σ' H' v u} J rv q=>⟨v,H',J.os,J.bare,J.base,J.hok,rv,q⟩
  cases fl with
  | ret u =>
    obtain ⟨v, σ',H',J,rv,q⟩:=hs
    exact fin J rv q
  | next =>
    obtain ⟨σ',H',J,q⟩:=hs
    exact fin (v:=V.non) (u:=Value.none) J rfl q
  | brk =>
    obtain ⟨_,_,_,q⟩:=hs
    exact False.elim q
  | cont =>
    obtain ⟨_,_,_,q⟩:=hs
    exact False.elim q

structure ExcI (K:PySem.W.Frag) (C:Addr):Prop where
  cl:PySem.W.findIn K (.ref C) "__class__" = some (some (.builtin "object.__class__"))
  ga:PySem.W.findIn K (.ref C) "__getattribute__" = some (some (.builtin "BaseException.__getattribute__"))
  gn:PySem.W.findIn K (.ref C) "__getattr__" = some none
theorem call_isX {X:Cx} {x:Str} {C:Addr} (O:Exc X.K X.mg x C) (Z:ExcI X.K C) :
    CallR X (.builtin "isinstance") (fun xs H Q=>∃ ea c cv b,xs = [.ref ea,c]∧H ea=some (XO ea C)∧RelV c cv∧(∀ u v,RelV c u→RelV c v→u=v)∧PySem.W.kitOne X.K (.ref C) cv=some b∧Q (.bl b) H):=by
  intro pins s σ H xs us Q I r h
  obtain ⟨ea,c,cv,b,rfl,hea,rc,hcv,e,q⟩:=h
  obtain ⟨u,w',rfl,rx,ry⟩:=vals2 r
  cases (show u=Value.ref ea from rx)
  obtain ⟨⟨o,h1,h2⟩,_⟩:=(show ObjOk X.prog X.w H s.heap ea (XO ea C) from I.hok ea _ hea)
  have hw:w'=cv:=hcv _ _ ry rc
  subst hw
  obtain ⟨bm,N,nm,qn,bs,hdct,sn,sub,ab,col,dd,k0,k1,k2,k3,k5,mN,hC,hN,hni,TL⟩:=(O.own I.kIn).obj
  have hob:bm.contains (.type "object")=true:=TL.hasType (by decide +kernel)
  have hbb:bm.contains (.type "BaseException")=true:=TL.hasType (by decide +kernel)
  have Zx:PySem.W.KitX X.K (.ref ea) (.ref C) (fun h=>(∃ o,h.get? ea=some o∧o.cls = .ref C)) := {
    ty:=fun M h _ p=>by
      obtain ⟨o,h1,h2⟩:=p
      exact h2 ▸ (PySem.W.Looks.ld h1).andThen .now
    it:=fun M h XX _=>by
      obtain ⟨bm,N,nm,qn,bs,hdct,sn,sub,ab,col,dd,k0,k1,k2,k3,k5,mN,hC,_⟩:=(O.own XX).obj
      intro A' Q' E' s' k q
      unfold isType loadHead
      exact wpAny_bind (wpAny_loadPart (k _ _ hC) (wpAny_pure q))
    ne:=fun h tp dd' its n sl XX htp=>by
      obtain ⟨bm,N,nm,qn,bs,hdct,sn,sub,ab,col,dd,k0,k1,k2,k3,k5,mN,hC,_⟩:=(O.own XX).obj
      refine Bool.eq_false_iff.mpr fun q => ?_
      have e:C=tp:=Value.ref.inj (beq_iff_eq.mp q)
      subst e
      rw [hC] at htp
      have z2:=congrArg Obj.cls (Option.some.inj htp)
      exact absurd (Value.type.inj z2) (by decide)
    ca:=fun {prog w A E Q s} XX p hq=>by
      obtain ⟨bm,N,nm,qn,bs,hdct,sn,sub,ab,col,dd,k0,k1,k2,k3,k5,mN,hC,hN,hni,TL⟩:=(O.own XX).obj
      obtain ⟨o,h1,h2⟩:=p
      obtain ⟨hp,g,d,t,os⟩:=s
      exact xc_attr hC (TL.hasType (by decide +kernel)) (TL.hasType (by decide +kernel)) (PySem.W.looks_findIn XX Z.cl) (PySem.W.looks_findIn XX Z.ga) (PySem.W.looks_findIn XX Z.gn) h1 h2 hq }
  exact PySem.W.kia_one Zx I.kIn ⟨o,h1,h2⟩ e (fun z=>nomatch z) fun tk=>⟨.bl b,H,I.tok _,rfl,q⟩
end L2
namespace L2
open PySem PySem.Spec PyProof.Rows

section
variable {X:Cx}
end

theorem Fun.okE {P:Program} {w:World} {K:PySem.W.Frag} {mg:Str→Option Value} {base:Heap} {x qual:Str} {st:Stmt} {f:Addr} {fd:FuncData} {N ps:List Str} {k:Nat} {sp:Sp} (F:Fun K x qual st f fd) (S:FnScope N ps (defScope st)) (len:∀ vs H Q E,sp vs H Q E→vs.length=ps.length)
    (hbody:∀ (cdv:Value) (A:Around) (outer:List Env) (s:Shared) (H:Hp) (vs:List V) (Q:VK) (E:XK),Room k (A.deeper (envOfC qual (defScope st) s.heap.objs.size f cdv))→sp vs H Q E →
      ∃ t,PSs (cxOf (CXE P w) P w K mg base N qual (defScope st) f cdv A outer s H E) (defBody st) t∧t { nx:=fun _ H'=>Q .non H',rt:=Q } (start N vs) H):FnOk P w K mg base (CXE P w) (k+1) f fd ps sp:=by
  obtain ⟨oc,od,kV,doc,pm,an,cdv,ct,osl,rfl,lk,hcd⟩:=F.ex
  exact fn_of lk hcd S len fun A outer s H vs Q E hr hsp=>hbody cdv A outer s H vs Q E hr hsp
structure HasE (P:Program) (w:World) (K:PySem.W.Frag) (mg:Str→Option Value) (base:Heap) (k:Nat) (x:Str) (ps:List Str) (sp:Sp):Prop where
  ex:∃ f fd,FnOk P w K mg base (CXE P w) k f fd ps sp∧mg x=some (.ref f)∧PySem.W.keepIn K (.ref f)=true∧Binds K fd ps []
structure HasM (P:Program) (w:World) (K:PySem.W.Frag) (mg:Str→Option Value) (base:Heap) (k:Nat) (C:Addr) (m:Str) (ps:List Str) (sp:Sp):Prop where
  ex:∃ f fd,FnOk P w K mg base (CXE P w) k f fd ps sp∧Meth K C m f∧Binds K fd ps []
structure HasC (P:Program) (w:World) (K:PySem.W.Frag) (mg:Str→Option Value) (base:Heap) (k:Nat) (x:Str) (C:Addr) (ps:List Str) (sp:Sp):Prop where
  ex:∃ f fd,FnOk P w K mg base (CXE P w) k f fd ps sp∧mg x=some (.ref C)∧Mk K C f∧Binds K fd ps []
structure DefM (K:PySem.W.Frag) (C:Addr) (m qual:Str) (st:Stmt) (ps:List Str):Prop where
  ex:∃ f fd,Fun K m qual st f fd∧Meth K C m f∧Binds K fd ps []
structure DefC (K:PySem.W.Frag) (mg:Str→Option Value) (x:Str) (C:Addr) (qual:Str) (st:Stmt) (ps:List Str):Prop where
  ex:∃ f fd,Fun K "__init__" qual st f fd∧mg x=some (.ref C)∧Mk K C f∧Binds K fd ps []
section
variable {P:Program} {w:World} {K:PySem.W.Frag} {mg:Str→Option Value} {base:Heap} {x m qual:Str} {C:Addr} {st:Stmt} {N ps:List Str} {k:Nat} {sp:Sp}
theorem Def.hasE (D:Def K mg x st ps) (S:FnScope N ps (defScope st)) (len:∀ vs H Q E,sp vs H Q E→vs.length=ps.length)
    (hbody:∀ (f:Addr) (cdv:Value) (A:Around) (outer:List Env) (s:Shared) (H:Hp) (vs:List V) (Q:VK) (E:XK),Room k (A.deeper (envOfC x (defScope st) s.heap.objs.size f cdv))→sp vs H Q E →
      ∃ t,PSs (cxOf (CXE P w) P w K mg base N x (defScope st) f cdv A outer s H E) (defBody st) t∧t { nx:=fun _ H'=>Q .non H',rt:=Q } (start N vs) H):HasE P w K mg base (k+1) x ps sp:=by
  obtain ⟨f,fd,F,hm,hb⟩:=D.ex
  exact ⟨f,fd,F.okE S len (hbody f),hm,F.kp,hb⟩
theorem DefM.has (D:DefM K C m qual st ps) (S:FnScope N ps (defScope st)) (len:∀ vs H Q E,sp vs H Q E→vs.length=ps.length)
    (hbody:∀ (f:Addr) (cdv:Value) (A:Around) (outer:List Env) (s:Shared) (H:Hp) (vs:List V) (Q:VK) (E:XK),Room k (A.deeper (envOfC qual (defScope st) s.heap.objs.size f cdv))→sp vs H Q E →
      ∃ t,PSs (cxOf (CXE P w) P w K mg base N qual (defScope st) f cdv A outer s H E) (defBody st) t∧t { nx:=fun _ H'=>Q .non H',rt:=Q } (start N vs) H):HasM P w K mg base (k+1) C m ps sp:=by
  obtain ⟨f,fd,F,hm,hb⟩:=D.ex
  exact ⟨f,fd,F.okE S len (hbody f),hm,hb⟩
theorem DefC.has (D:DefC K mg x C qual st ps) (S:FnScope N ps (defScope st)) (len:∀ vs H Q E,sp vs H Q E→vs.length=ps.length)
    (hbody:∀ (f:Addr) (cdv:Value) (A:Around) (outer:List Env) (s:Shared) (H:Hp) (vs:List V) (Q:VK) (E:XK),Room k (A.deeper (envOfC qual (defScope st) s.heap.objs.size f cdv))→sp vs H Q E →
      ∃ t,PSs (cxOf (CXE P w) P w K mg base N qual (defScope st) f cdv A outer s H E) (defBody st) t∧t { nx:=fun _ H'=>Q .non H',rt:=Q } (start N vs) H):HasC P w K mg base (k+1) x C ps sp:=by
  obtain ⟨f,fd,F,hm,hb⟩:=D.ex
  exact ⟨f,fd,F.okE S len (hbody f),hm,hb⟩
end
section
variable {X:Cx} {k k':Nat} {x m:Str} {C:Addr} {ps:List Str} {sp:Sp} {p pos apos:Pos} {e o:Expr} {es:List Expr} {ta:TE} {t:TA} {E:XK}
theorem pe_callE (h:HasE X.prog X.w X.K X.mg X.base k x ps sp) (hr:Room k' X.A) (hk:k≤k') (hx:Passes (CXE X.prog X.w) X E) (hg:Gl X x) (ha:PA X (e :: es) t) (hdb:(x == ("__debug__" : Str))=false:=by decide)
    (he:starEach (e :: es) X.env=(false,eval e X.env) :: starEach es X.env:=by rfl) (hpl:(backTo pos (starEach es X.env)).any (·.1)=false:=by rfl) :
    PE X (.Call (.Name x p) (e :: es) [] pos) (tCall sp [] E t):=by
  obtain ⟨f,fd,F,hm,hkp,hb⟩:=h.ex
  exact pe_call F (hr.mono hk) hg hm hkp hb .nil hx ha hdb he hpl
theorem pet_callE (h:HasE X.prog X.w X.K X.mg X.base k x ps sp) (hr:Room k' X.A) (hk:k≤k') (hg:Gl X x) (ha:PA X.nox (e :: es) t) (hdb:(x == ("__debug__" : Str))=false:=by decide)
    (he:starEach (e :: es) X.env=(false,eval e X.env) :: starEach es X.env:=by rfl) (hpl:(backTo pos (starEach es X.env)).any (·.1)=false:=by rfl) :
    PEt X (.Call (.Name x p) (e :: es) [] pos) (fun E=>tCall sp [] E t):=by
  obtain ⟨f,fd,F,hm,hkp,hb⟩:=h.ex
  exact pet_call F (hr.mono hk) hg hm hkp hb .nil ha hdb he hpl
theorem pe_mE {pl:Sem Bool} (h:HasM X.prog X.w X.K X.mg X.base k C m ps sp) (c:Cls X.K C) (hr:Room k' X.A) (hk:k≤k') (hx:Passes (CXE X.prog X.w) X E) (he:PE X o ta) (ha:PA X (e :: es) t)
    (hst:starEach (e :: es) X.env=(false,eval e X.env) :: starEach es X.env:=by rfl) (hpl:(backTo pos (starEach es X.env)).any (·.1)=false:=by rfl)
    (ht:eval (.Call (.Attribute o m apos) (e :: es) [] pos) X.env=(do
      let ov ← eval o X.env
      standAt apos.atName
      let (f,first) ← holding [ov] (getMethod ov m pl)
      callWith pos f first (backTo pos (starEach (e :: es) X.env)) (backToKw pos (keywordEach [] X.env))):=by rfl) :
    PE X (.Call (.Attribute o m apos) (e :: es) [] pos) (tMeth C m sp [] E ta t):=by
  obtain ⟨f,fd,F,hm,hb⟩:=h.ex
  exact pe_meth he c hm F (hr.mono hk) hb .nil hx ha hst hpl ht
theorem pe_makeE (h:HasC X.prog X.w X.K X.mg X.base k x C ps sp) (hr:Room k' X.A) (hk:k+1≤k') (hx:Passes (CXE X.prog X.w) X E) (hg:Gl X x) (ha:PA X (e :: es) t) (hdb:(x == ("__debug__" : Str))=false:=by decide)
    (he:starEach (e :: es) X.env=(false,eval e X.env) :: starEach es X.env:=by rfl) (hpl:(backTo pos (starEach es X.env)).any (·.1)=false:=by rfl) :
    PE X (.Call (.Name x p) (e :: es) [] pos) (tMake C sp [] E t):=by
  obtain ⟨f,fd,F,hm,M,hb⟩:=h.ex
  exact pe_make M F (hr.mono hk) hg hm hb .nil hx ha hdb he hpl
end
end L2
namespace L2
open PySem PySem.Spec PyProof.Rows
theorem boot_ValueError_:bootBuiltins "ValueError" = some (.type "ValueError"):=by rfl
theorem call_isXK {X:Cx} {K:PySem.W.Frag} (hK:X.K=K) {x:Str} {C:Addr} (O:Exc K X.mg x C) (Z:ExcI K C) :
    CallR X (.builtin "isinstance") (fun xs H Q=>∃ ea c cv b,xs = [.ref ea,c]∧H ea=some (XO ea C)∧RelV c cv∧(∀ u v,RelV c u→RelV c v→u=v)∧PySem.W.kitOne K (.ref C) cv=some b∧Q (.bl b) H):=by
  subst hK
  exact call_isX O Z
end L2
namespace L2
open PySem PySem.Spec PyProof.Rows
section
variable {X:Cx}
end
theorem comp_tupS {K:PySem.W.Frag} {a:Addr} {xs ys:List V} {te:TE} {σ : St} {caps:List (Str × Nat)} {H:Hp} {Q:VK} (hS:SqT K H a xs) (hz:xs.length≤1000) (hy:ys.length=xs.length)
    (hel:∀ (i:Nat) (x y:V),xs[i]? = some x→ys[i]? = some y→∀ H',Same H H'→∀ Q':VK,(∀ H'',Same H' H''→Q' y H'')→te (some x :: capt σ caps) H' Q') (hq:∀ D H',H D=none→Same H H'→H' D=some (.lst ys)→Q (.ref D) H') :
    CompBody (Itt K a) (gName 0) te (List.replicate 1 none ++ capt σ caps) H Q:=by
  intro D hD
  refine ⟨fun i m τ zs H'=>m=xs.length - i∧i≤xs.length∧(∃ o, τ = o :: capt σ caps)∧zs=ys.take i∧Same H H'∧H' D=some (.lst zs),⟨xs.length,by simp,Nat.zero_le _,⟨none,rfl⟩,by simp,same_new hD _,upd_same⟩,?_⟩
  rintro i m τ zs H' ⟨rfl,hi,⟨o,rfl⟩,rfl,sm,hDl⟩
  refine ⟨hDl,?_⟩
  by_cases hlt:i < xs.length
  · refine .inr ⟨⟨xs,xs[i],sm.tup hS,by simp [hlt]⟩,?_,fun x H'' y => ?_⟩
    · rw [List.length_take]
      exact small1000 (by omega)
    obtain ⟨e,y⟩:=y
    subst e
    have hx:=y xs (sm.tup hS)
    have hyi:ys[i]? = some ys[i]:=List.getElem?_eq_getElem (by omega)
    show te (some x :: capt σ caps) _ _
    refine hel i x ys[i] hx hyi _ sm _ (fun H2 s2 => ?_)
    refine ⟨s2 _ _ hDl,xs.length - (i+1),by omega,rfl,hlt,⟨_,rfl⟩,?_,(sm.trans s2).put hD,?_⟩
    · rw [List.take_add_one,hyi];rfl
    · rw [upd_same]
  · have e:i=xs.length:=by omega
    subst e
    refine .inl ⟨⟨xs,sm.tup hS,Nat.le_refl _⟩,?_⟩
    rw [← hy,List.take_length] at hDl
    exact hq D H' hD sm hDl
end L2
namespace L2
open PySem PySem.Spec PyProof.Rows
end L2
namespace L2
open PySem PySem.Spec PyProof.Rows

inductive D where
  | non | int (i:Int) | str (x:Str) | tup (ds:List D) | lst (ds:List D)
noncomputable instance:DecidableEq D:=fun _ _=>Classical.propDecidable _
mutual
noncomputable def D.deep:D→Nat
  | .tup ds=>D.deeps ds+1
  | .lst ds=>D.deeps ds+1
  | .non=>0
  | .int _=>0
  | .str _=>0
noncomputable def D.deeps:List D→Nat
  | []=>0
  | d :: ds=>max d.deep (D.deeps ds)
end
theorem deeps_le:∀ {ds:List D} {d:D},d∈ds→d.deep≤D.deeps ds
  | e :: ds,d,h=>by
    rw [D.deeps]
    rcases List.mem_cons.mp h with rfl | h
    · omega
    · have:=deeps_le h;omega
mutual
noncomputable def DenR (h:Heap):D→Value→Prop
  | .non,u=>u=Value.none
  | .int i,u=>(∃ t,u=Value.int i t)∨∃ b,u=Value.bool b∧i=(if b then 1 else 0)
  | .str x,u=>∃ t,u=Value.str x t
  | .tup ds,u=>∃ a us,u=Value.ref a∧h.IsTuple a us.toArray∧DenRs h ds us
  | .lst ds,u=>∃ a us,u=Value.ref a∧h.IsList a us.toArray∧DenRs h ds us
noncomputable def DenRs (h:Heap):List D→List Value→Prop
  | [],us=>us = []
  | d :: ds,us=>∃ u us',us=u :: us'∧DenR h d u∧DenRs h ds us'
end
mutual
noncomputable def Den (H:Hp):D→V→Prop
  | .non,v=>v = .non
  | .int i,v=>v = .int i∨∃ b,v = .bl b∧i=(if b then 1 else 0)
  | .str x,v=>v = .str x
  | .tup ds,v=>∃ a vs,v = .ref a∧H a=some (.tup vs)∧Dens H ds vs
  | .lst ds,v=>∃ a vs,v = .ref a∧H a=some (.lst vs)∧Dens H ds vs
noncomputable def Dens (H:Hp):List D→List V→Prop
  | [],vs=>vs = []
  | d :: ds,vs=>∃ v vs',vs=v :: vs'∧Den H d v∧Dens H ds vs'
end
theorem denRs_len {h:Heap}:∀ {ds:List D} {us:List Value},DenRs h ds us→us.length=ds.length
  | [],us,r=>by rw [DenRs] at r;subst r;rfl
  | d :: ds,us,r=>by
    rw [DenRs] at r
    obtain ⟨u,us',rfl,_,r⟩:=r
    rw [List.length_cons,List.length_cons,denRs_len r]
theorem denRs_at {h:Heap}:∀ {ds:List D} {us:List Value} {j:Nat} {d:D},DenRs h ds us→ds[j]? = some d→∃ u,us[j]? = some u∧DenR h d u
  | [],us,j,d,r,e=>by simp at e
  | c :: ds,us,0,d,r,e=>by
    rw [DenRs] at r
    obtain ⟨u,us',rfl,r1,_⟩:=r
    simp at e;subst e
    exact ⟨u,rfl,r1⟩
  | c :: ds,us,j+1,d,r,e=>by
    rw [DenRs] at r
    obtain ⟨u,us',rfl,_,r⟩:=r
    obtain ⟨u',e',r'⟩:=denRs_at (j:=j) (d:=d) r (by simpa using e)
    exact ⟨u',by simpa using e',r'⟩
theorem dens_one {H:Hp} {d:D} {v:V} (r:Den H d v):Dens H [d] [v]:=by
  rw [Dens];exact ⟨v, [],rfl,r,by rw [Dens]⟩
theorem dens_cons {H:Hp} {d:D} {v:V} {ds:List D} {vs:List V} (r:Den H d v) (q:Dens H ds vs):Dens H (d :: ds) (v :: vs):=by
  rw [Dens];exact ⟨v,vs,rfl,r,q⟩
theorem dens_nil {H:Hp}:Dens H [] []:=by rw [Dens]
mutual
theorem den_raw {P:Program} {w:World} {H:Hp} {h:Heap} (ok:HOk P w H h):∀ {d:D} {v:V} {u:Value},Den H d v→RelV v u→DenR h d u
  | .non,v,u,r,q=>by rw [Den] at r;subst r;rw [DenR];exact q
  | .int i,v,u,r,q=>by
    rw [Den] at r
    rw [DenR]
    rcases r with rfl | ⟨b,rfl,e⟩
    · exact .inl q
    · exact .inr ⟨b,q,e⟩
  | .str x,v,u,r,q=>by rw [Den] at r;subst r;rw [DenR];exact q
  | .tup ds,v,u,r,q=>by
    rw [Den] at r
    obtain ⟨a,vs,rfl,e,r⟩:=r
    rw [DenR]
    obtain ⟨_,its,rv,p⟩:=(show ObjOk P w H h a (.tup vs) from ok a _ e)
    exact ⟨a,its,q,p.tup,dens_raw ok r rv⟩
  | .lst ds,v,u,r,q=>by
    rw [Den] at r
    obtain ⟨a,vs,rfl,e,r⟩:=r
    rw [DenR]
    obtain ⟨_,its,n,rv,p⟩:=(show ObjOk P w H h a (.lst vs) from ok a _ e)
    exact ⟨a,its,q,⟨_,p,rfl,n,rfl⟩,dens_raw ok r rv⟩
theorem dens_raw {P:Program} {w:World} {H:Hp} {h:Heap} (ok:HOk P w H h):∀ {ds:List D} {vs:List V} {us:List Value},Dens H ds vs→Vals vs us→DenRs h ds us
  | [],vs,us,r,q=>by rw [Dens] at r;subst r;cases q;rw [DenRs]
  | d :: ds,vs,us,r,q=>by
    rw [Dens] at r
    obtain ⟨v,vs',rfl,r1,r⟩:=r
    cases q with
    | cons q1 q2 =>
      rw [DenRs]
      exact ⟨_,_,rfl,den_raw ok r1 q1,dens_raw ok r q2⟩
end
theorem tup_seq {h:Heap} {a:Addr} {x y:Array Value} (p:h.IsTuple a x) (q:h.IsTuple a y):x=y:=by
  obtain ⟨o,e,_,n,d⟩:=p
  obtain ⟨o',e',_,n',d'⟩:=q
  rw [e] at e';cases e'
  rw [d] at d'
  injection d'
theorem lst_seq {h:Heap} {a:Addr} {x y:Array Value} (p:h.IsList a x) (q:h.IsList a y):x=y:=by
  obtain ⟨o,e,_,n,d⟩:=p
  obtain ⟨o',e',_,n',d'⟩:=q
  rw [e] at e';cases e'
  rw [d] at d'
  injection d'
theorem lst_tup {h:Heap} {a:Addr} {x y:Array Value} (p:h.IsList a x) (q:h.IsTuple a y):False:=by
  obtain ⟨o,e,c,n,d⟩:=p
  obtain ⟨o',e',c',n',d'⟩:=q
  rw [e] at e';cases e'
  rw [c] at c'
  exact absurd (Value.type.inj c') (by decide)
mutual
theorem denR_inj {h:Heap}:∀ {d e:D} {u:Value},DenR h d u→DenR h e u→d=e
  | .non,e,u,r,q=>by
    rw [DenR] at r;subst r
    cases e with
    | non=>rfl
    | int i=>rw [DenR] at q;rcases q with ⟨t,z⟩ | ⟨b,z,_⟩ <;> cases z
    | str x=>rw [DenR] at q;obtain ⟨t,z⟩:=q;cases z
    | tup es=>rw [DenR] at q;obtain ⟨a,us,z,_⟩:=q;cases z
    | lst es=>rw [DenR] at q;obtain ⟨a,us,z,_⟩:=q;cases z
  | .int i,e,u,r,q=>by
    rw [DenR] at r
    cases e with
    | non=>rw [DenR] at q;subst q;rcases r with ⟨t,z⟩ | ⟨b,z,_⟩ <;> cases z
    | int j =>
      rw [DenR] at q
      rcases r with ⟨t,rfl⟩ | ⟨b,rfl,hb⟩ <;> rcases q with ⟨t',z⟩ | ⟨b',z,hb'⟩ <;> cases z
      · rfl
      · rw [hb,hb']
    | str x=>rw [DenR] at q;obtain ⟨t,rfl⟩:=q;rcases r with ⟨t,z⟩ | ⟨b,z,_⟩ <;> cases z
    | tup es=>rw [DenR] at q;obtain ⟨a,us,rfl,_⟩:=q;rcases r with ⟨t,z⟩ | ⟨b,z,_⟩ <;> cases z
    | lst es=>rw [DenR] at q;obtain ⟨a,us,rfl,_⟩:=q;rcases r with ⟨t,z⟩ | ⟨b,z,_⟩ <;> cases z
  | .str x,e,u,r,q=>by
    rw [DenR] at r
    obtain ⟨t,rfl⟩:=r
    cases e with
    | non=>rw [DenR] at q;cases q
    | int i=>rw [DenR] at q;rcases q with ⟨t,z⟩ | ⟨b,z,_⟩ <;> cases z
    | str x=>rw [DenR] at q;obtain ⟨t,z⟩:=q;cases z;rfl
    | tup es=>rw [DenR] at q;obtain ⟨a,us,z,_⟩:=q;cases z
    | lst es=>rw [DenR] at q;obtain ⟨a,us,z,_⟩:=q;cases z
  | .tup ds,e,u,r,q=>by
    rw [DenR] at r
    obtain ⟨a,us,rfl,p,r⟩:=r
    cases e with
    | non=>rw [DenR] at q;cases q
    | int i=>rw [DenR] at q;rcases q with ⟨t,z⟩ | ⟨b,z,_⟩ <;> cases z
    | str x=>rw [DenR] at q;obtain ⟨t,z⟩:=q;cases z
    | tup es =>
      rw [DenR] at q;obtain ⟨a',us',z,p',q⟩:=q;cases z
      have e:us=us':=by have:=tup_seq p p';simpa using this
      subst e
      rw [denRs_inj r q]
    | lst es=>rw [DenR] at q;obtain ⟨a',us',z,p',_⟩:=q;cases z;exact absurd p (fun p=>lst_tup p' p)
  | .lst ds,e,u,r,q=>by
    rw [DenR] at r
    obtain ⟨a,us,rfl,p,r⟩:=r
    cases e with
    | non=>rw [DenR] at q;cases q
    | int i=>rw [DenR] at q;rcases q with ⟨t,z⟩ | ⟨b,z,_⟩ <;> cases z
    | str x=>rw [DenR] at q;obtain ⟨t,z⟩:=q;cases z
    | tup es=>rw [DenR] at q;obtain ⟨a',us',z,p',_⟩:=q;cases z;exact absurd p (fun p=>lst_tup p p')
    | lst es =>
      rw [DenR] at q;obtain ⟨a',us',z,p',q⟩:=q;cases z
      have e:us=us':=by have:=lst_seq p p';simpa using this
      subst e
      rw [denRs_inj r q]
theorem denRs_inj {h:Heap}:∀ {ds es:List D} {us:List Value},DenRs h ds us→DenRs h es us→ds=es
  | [],es,us,r,q=>by
    rw [DenRs] at r;subst r
    cases es with
    | nil=>rfl
    | cons e es=>rw [DenRs] at q;obtain ⟨u,us',z,_⟩:=q;cases z
  | d :: ds,es,us,r,q=>by
    rw [DenRs] at r
    obtain ⟨u,us',rfl,r1,r⟩:=r
    cases es with
    | nil=>rw [DenRs] at q;cases q
    | cons e es =>
      rw [DenRs] at q;obtain ⟨u',us'',z,q1,q⟩:=q
      cases z
      rw [denR_inj r1 q1,denRs_inj r q]
end
theorem dec_true {p:Prop} [Decidable p] {b:Bool} (h:p↔b=true):b=decide p:=by
  cases b with
  | true=>exact (decide_eq_true (h.mpr rfl)).symm
  | false=>exact (decide_eq_false fun z=>Bool.false_ne_true (h.mp z)).symm
theorem all_eq (ds es:List D):((List.range (min ds.length es.length)).all (fun j=>decide (ds[j]? = es[j]?)) && ds.length == es.length)=decide (ds=es):=by
  refine dec_true ⟨fun h=>by subst h;simp,fun h => ?_⟩
  rw [Bool.and_eq_true,List.all_eq_true] at h
  have hl:ds.length=es.length:=eq_of_beq h.2
  refine List.ext_getElem? fun j => ?_
  by_cases hj:j < ds.length
  · exact of_decide_eq_true (h.1 j (List.mem_range.mpr (by omega)))
  · rw [List.getElem?_eq_none (by omega),List.getElem?_eq_none (by omega)]
theorem all_eq' (ds es:List D) (hl:ds.length=es.length):(List.range ds.length).all (fun j=>decide (ds[j]? = es[j]?))=decide (ds=es):=by
  have:=all_eq ds es
  rw [← hl,Nat.min_self] at this
  simpa using this
section
open SeqAt
variable {A:Around} {s:Shared}
theorem eqAt_cast {u v:Value} {b c:Bool} (h:EqAt A s u v b) (e:b=c):EqAt A s u v c:=e ▸ h
theorem eqAt_D:∀ (n:Nat) {d e:D} {A:Around} {u v:Value},d.deep≤n→DenR s.heap d u→DenR s.heap e v→A.units+n < cLine→EqAt A s u v (decide (d=e)):=by
  intro n
  induction n with
  | zero => ?_
  | succ n ih => ?_
  all_goals intro d e A u v hn r q hu
  all_goals have hu0:A.units < cLine:=by omega
  all_goals cases d with
    | non =>
      rw [DenR] at r;subst r
      cases e with
      | non=>rw [DenR] at q;subst q;exact eqAt_cast (EqAt.same _) (decide_eq_true rfl).symm
      | int j =>
        rw [DenR] at q
        rcases q with ⟨t,rfl⟩ | ⟨b,rfl,_⟩
        · exact eqAt_cast (EqAt.none_int j t) (decide_eq_false (fun z=>nomatch z)).symm
        · exact eqAt_cast (EqAt.none_bool b) (decide_eq_false (fun z=>nomatch z)).symm
      | str y=>rw [DenR] at q;obtain ⟨t,rfl⟩:=q;exact eqAt_cast (EqAt.none_str y t) (decide_eq_false (fun z=>nomatch z)).symm
      | tup es=>rw [DenR] at q;obtain ⟨a,us,rfl,p,_⟩:=q;exact eqAt_cast (EqAt.none_tuple p hu0) (decide_eq_false (fun z=>nomatch z)).symm
      | lst es=>rw [DenR] at q;obtain ⟨a,us,rfl,p,_⟩:=q;exact eqAt_cast (EqAt.none_list p hu0) (decide_eq_false (fun z=>nomatch z)).symm
    | int i =>
      rw [DenR] at r
      cases e with
      | non =>
        rw [DenR] at q;subst q
        rcases r with ⟨t,rfl⟩ | ⟨b,rfl,_⟩
        · exact eqAt_cast (EqAt.int_none i t) (decide_eq_false (fun z=>nomatch z)).symm
        · exact eqAt_cast (EqAt.bool_none b) (decide_eq_false (fun z=>nomatch z)).symm
      | int j =>
        rw [DenR] at q
        have key:∀ x y:Int,(x == y)=decide (D.int x=D.int y):=fun x y=>dec_true ⟨fun z=>by cases z;simp,fun z=>by rw [eq_of_beq z]⟩
        rcases r with ⟨t,rfl⟩ | ⟨b,rfl,hb⟩ <;> rcases q with ⟨t',rfl⟩ | ⟨b',rfl,hb'⟩
        · exact eqAt_cast (EqAt.int_int i t j t') (key i j)
        · rw [hb'];exact eqAt_cast (EqAt.int_bool i t b') (key _ _)
        · rw [hb];exact eqAt_cast (EqAt.bool_int b j t') (key _ _)
        · rw [hb,hb'];exact eqAt_cast (EqAt.bool_bool b b') (by rw [← key];cases b <;> cases b' <;> rfl)
      | str y =>
        rw [DenR] at q;obtain ⟨t,rfl⟩:=q
        rcases r with ⟨t',rfl⟩ | ⟨b,rfl,_⟩
        · exact eqAt_cast (EqAt.int_str i t' y t) (decide_eq_false (fun z=>nomatch z)).symm
        · exact eqAt_cast (EqAt.bool_str b y t) (decide_eq_false (fun z=>nomatch z)).symm
      | tup es =>
        rw [DenR] at q;obtain ⟨a,us,rfl,p,_⟩:=q
        rcases r with ⟨t',rfl⟩ | ⟨b,rfl,_⟩
        · exact eqAt_cast (EqAt.int_tuple i t' p hu0) (decide_eq_false (fun z=>nomatch z)).symm
        · exact eqAt_cast (EqAt.bool_tuple b p hu0) (decide_eq_false (fun z=>nomatch z)).symm
      | lst es =>
        rw [DenR] at q;obtain ⟨a,us,rfl,p,_⟩:=q
        rcases r with ⟨t',rfl⟩ | ⟨b,rfl,_⟩
        · exact eqAt_cast (EqAt.int_list i t' p hu0) (decide_eq_false (fun z=>nomatch z)).symm
        · exact eqAt_cast (EqAt.bool_list b p hu0) (decide_eq_false (fun z=>nomatch z)).symm
    | str x =>
      rw [DenR] at r;obtain ⟨t',rfl⟩:=r
      cases e with
      | non=>rw [DenR] at q;subst q;exact eqAt_cast (EqAt.str_none x t') (decide_eq_false (fun z=>nomatch z)).symm
      | int j =>
        rw [DenR] at q
        rcases q with ⟨t,rfl⟩ | ⟨b,rfl,_⟩
        · exact eqAt_cast (EqAt.str_int x t' j t) (decide_eq_false (fun z=>nomatch z)).symm
        · exact eqAt_cast (EqAt.str_bool x t' b) (decide_eq_false (fun z=>nomatch z)).symm
      | str y =>
        rw [DenR] at q;obtain ⟨t,rfl⟩:=q
        exact eqAt_cast (EqAt.str_str x t' y t) (dec_true ⟨fun z=>by cases z;simp,fun z=>by rw [eq_of_beq z]⟩)
      | tup es=>rw [DenR] at q;obtain ⟨a,us,rfl,p,_⟩:=q;exact eqAt_cast (EqAt.str_tuple x t' p hu0) (decide_eq_false (fun z=>nomatch z)).symm
      | lst es=>rw [DenR] at q;obtain ⟨a,us,rfl,p,_⟩:=q;exact eqAt_cast (EqAt.str_list x t' p hu0) (decide_eq_false (fun z=>nomatch z)).symm
    | tup ds => ?_
    | lst ds => ?_
  · rw [D.deep] at hn;omega
  · rw [D.deep] at hn;omega
  · rw [D.deep] at hn
    have r0:=r
    rw [DenR] at r
    obtain ⟨a,us,rfl,p,r⟩:=r
    cases e with
    | non=>rw [DenR] at q;subst q;exact eqAt_cast (EqAt.tuple_none p hu0) (decide_eq_false (fun z=>nomatch z)).symm
    | int j =>
      rw [DenR] at q
      rcases q with ⟨t,rfl⟩ | ⟨b,rfl,_⟩
      · exact eqAt_cast (EqAt.tuple_int j t p hu0) (decide_eq_false (fun z=>nomatch z)).symm
      · exact eqAt_cast (EqAt.tuple_bool b p hu0) (decide_eq_false (fun z=>nomatch z)).symm
    | str y=>rw [DenR] at q;obtain ⟨t,rfl⟩:=q;exact eqAt_cast (EqAt.tuple_str y t p hu0) (decide_eq_false (fun z=>nomatch z)).symm
    | tup es =>
      have q0:=q
      rw [DenR] at q
      obtain ⟨b,us',rfl,p',q⟩:=q
      by_cases hab:a=b
      · subst hab
        rw [denR_inj r0 q0]
        exact eqAt_cast (EqAt.same _) (decide_eq_true rfl).symm
      · refine eqAt_cast (EqAt.of_refs hab (RcAt.tuples (e:=fun j=>decide (ds[j]? = es[j]?)) p p' hu0 fun j h1 h2 => ?_)) ?_
        · have l1:=denRs_len r
          have l2:=denRs_len q
          have h1':j < us.length:=by simpa using h1
          have h2':j < us'.length:=by simpa using h2
          have e1:=List.getElem?_eq_getElem (l:=ds) (i:=j) (by omega)
          have e2:=List.getElem?_eq_getElem (l:=es) (i:=j) (by omega)
          obtain ⟨u,f1,g1⟩:=denRs_at r e1
          obtain ⟨v,f2,g2⟩:=denRs_at q e2
          have z1:us.toArray[j]=u:=by rw [List.getElem?_eq_getElem h1'] at f1;simpa using f1
          have z2:us'.toArray[j]=v:=by rw [List.getElem?_eq_getElem h2'] at f2;simpa using f2
          rw [z1,z2]
          have:=ih (d:=ds[j]) (e:=es[j]) (A:=A.in1) (by have:=deeps_le (List.getElem_mem (l:=ds) (n:=j) (by omega));omega) g1 g2 (by show A.units+1+n < cLine;omega)
          refine eqAt_cast this ?_
          rw [e1,e2]
          exact decide_eq_decide.mpr ⟨fun z=>by rw [z],fun z=>Option.some.inj z⟩
        · have:=all_eq ds es
          simp only [List.size_toArray,denRs_len r,denRs_len q]
          rw [this]
          exact decide_eq_decide.mpr ⟨fun z=>by rw [z],fun z=>by injection z⟩
    | lst es=>rw [DenR] at q;obtain ⟨b,us',rfl,p',_⟩:=q;exact eqAt_cast (EqAt.tuple_list p p' hu0) (decide_eq_false (fun z=>nomatch z)).symm
  · rw [D.deep] at hn
    have r0:=r
    rw [DenR] at r
    obtain ⟨a,us,rfl,p,r⟩:=r
    cases e with
    | non=>rw [DenR] at q;subst q;exact eqAt_cast (EqAt.list_none p hu0) (decide_eq_false (fun z=>nomatch z)).symm
    | int j =>
      rw [DenR] at q
      rcases q with ⟨t,rfl⟩ | ⟨b,rfl,_⟩
      · exact eqAt_cast (EqAt.list_int j t p hu0) (decide_eq_false (fun z=>nomatch z)).symm
      · exact eqAt_cast (EqAt.list_bool b p hu0) (decide_eq_false (fun z=>nomatch z)).symm
    | str y=>rw [DenR] at q;obtain ⟨t,rfl⟩:=q;exact eqAt_cast (EqAt.list_str y t p hu0) (decide_eq_false (fun z=>nomatch z)).symm
    | tup es=>rw [DenR] at q;obtain ⟨b,us',rfl,p',_⟩:=q;exact eqAt_cast (EqAt.list_tuple p p' hu0) (decide_eq_false (fun z=>nomatch z)).symm
    | lst es =>
      have q0:=q
      rw [DenR] at q
      obtain ⟨b,us',rfl,p',q⟩:=q
      have l1:=denRs_len r
      have l2:=denRs_len q
      by_cases hab:a=b
      · subst hab
        rw [denR_inj r0 q0]
        exact eqAt_cast (EqAt.same _) (decide_eq_true rfl).symm
      by_cases hl:ds.length=es.length
      · refine eqAt_cast (EqAt.of_refs hab (RcAt.lists (e:=fun j=>decide (ds[j]? = es[j]?)) p p' (by simp only [List.size_toArray];omega) hu0 fun j h1 h2 => ?_)) ?_
        · have h1':j < us.length:=by simpa using h1
          have h2':j < us'.length:=by simpa using h2
          have e1:=List.getElem?_eq_getElem (l:=ds) (i:=j) (by omega)
          have e2:=List.getElem?_eq_getElem (l:=es) (i:=j) (by omega)
          obtain ⟨u,f1,g1⟩:=denRs_at r e1
          obtain ⟨v,f2,g2⟩:=denRs_at q e2
          have z1:us.toArray[j]=u:=by rw [List.getElem?_eq_getElem h1'] at f1;simpa using f1
          have z2:us'.toArray[j]=v:=by rw [List.getElem?_eq_getElem h2'] at f2;simpa using f2
          rw [z1,z2]
          have:=ih (d:=ds[j]) (e:=es[j]) (A:=A.in1) (by have:=deeps_le (List.getElem_mem (l:=ds) (n:=j) (by omega));omega) g1 g2 (by show A.units+1+n < cLine;omega)
          refine eqAt_cast this ?_
          rw [e1,e2]
          exact decide_eq_decide.mpr ⟨fun z=>by rw [z],fun z=>Option.some.inj z⟩
        · have:=all_eq' ds es hl
          simp only [List.size_toArray,l1]
          rw [this]
          exact decide_eq_decide.mpr ⟨fun z=>by rw [z],fun z=>by injection z⟩
      · refine eqAt_cast (EqAt.of_refs hab (RcAt.lists_lengths p p' (by simp only [List.size_toArray];simp;omega) hu0)) ?_
        exact (decide_eq_false (fun z=>hl (by injection z with z;rw [z]))).symm
end
section
variable {X:Cx}
inductive J_rEqD (x:V) (y:V) (H:Hp) (Q:VK):Prop
  | mk:∀ ds es,(((Den H (.tup ds) x∧Den H (.tup es) y)∨(Den H (.lst ds) x∧Den H (.lst es) y)))→(D.deeps ds≤150)→(Q (.bl (decide (ds=es))) H)→J_rEqD x y H Q
noncomputable def rEqD:R2:=fun x y H Q=>J_rEqD x y H Q
inductive J_rNeD (x:V) (y:V) (H:Hp) (Q:VK):Prop
  | mk:∀ ds es,(((Den H (.tup ds) x∧Den H (.tup es) y)∨(Den H (.lst ds) x∧Den H (.lst es) y)))→(D.deeps ds≤150)→(Q (.bl (!decide (ds=es))) H)→J_rNeD x y H Q
noncomputable def rNeD:R2:=fun x y H Q=>J_rNeD x y H Q
theorem deep_items {A:Around} {s:Shared} {ds es:List D} {us us':List Value} (hu:A.units+151 < cLine) (hd:D.deeps ds≤150) (r:DenRs s.heap ds us) (q:DenRs s.heap es us') (j:Nat) (h1:j < us.toArray.size) (h2:j < us'.toArray.size) :
    SeqAt.EqAt A.in1 s us.toArray[j] us'.toArray[j] (decide (ds[j]? = es[j]?)):=by
  have l1:=denRs_len r
  have l2:=denRs_len q
  have h1':j < us.length:=by simpa using h1
  have h2':j < us'.length:=by simpa using h2
  have e1:=List.getElem?_eq_getElem (l:=ds) (i:=j) (by omega)
  have e2:=List.getElem?_eq_getElem (l:=es) (i:=j) (by omega)
  obtain ⟨u,f1,g1⟩:=denRs_at r e1
  obtain ⟨v,f2,g2⟩:=denRs_at q e2
  have z1:us.toArray[j]=u:=by rw [List.getElem?_eq_getElem h1'] at f1;simpa using f1
  have z2:us'.toArray[j]=v:=by rw [List.getElem?_eq_getElem h2'] at f2;simpa using f2
  rw [z1,z2]
  refine eqAt_cast (eqAt_D 150 (by have:=deeps_le (List.getElem_mem (l:=ds) (n:=j) (by omega));omega) g1 g2 (by show A.units+1+150 < cLine;omega)) ?_
  rw [e1,e2]
  exact decide_eq_decide.mpr ⟨fun z=>by rw [z],fun z=>Option.some.inj z⟩
theorem op_eqD (hu:X.A.units+151 < cLine):OpR X (compareOp .Eq) rEqD:=by
  intro pins s σ H x y v u Q I rx ry h
  obtain ⟨ds,es,hh,hd,q⟩:=h
  have hu0:X.A.units < cLine:=by omega
  rcases hh with ⟨h1,h2⟩ | ⟨h1,h2⟩
  · have g1:=den_raw I.hok h1 rx
    have g2:=den_raw I.hok h2 ry
    rw [DenR] at g1 g2
    obtain ⟨a,us,rfl,p,r⟩:=g1
    obtain ⟨b,us',rfl,p',r'⟩:=g2
    refine SeqAt.eq_tupleAt (e:=fun j=>decide (ds[j]? = es[j]?)) p p' hu0 (deep_items hu hd r r') ?_
    refine ⟨.bl (decide (ds=es)),H,I,?_,q⟩
    have:=all_eq ds es
    simp only [List.size_toArray,denRs_len r,denRs_len r']
    rw [this]
    rfl
  · have g1:=den_raw I.hok h1 rx
    have g2:=den_raw I.hok h2 ry
    rw [DenR] at g1 g2
    obtain ⟨a,us,rfl,p,r⟩:=g1
    obtain ⟨b,us',rfl,p',r'⟩:=g2
    have l1:=denRs_len r
    have l2:=denRs_len r'
    by_cases hl:ds.length=es.length
    · refine SeqAt.eq_listAt (e:=fun j=>decide (ds[j]? = es[j]?)) p p' (by simp only [List.size_toArray];omega) hu0 (deep_items hu hd r r') ?_
      refine ⟨.bl (decide (ds=es)),H,I,?_,q⟩
      have:=all_eq' ds es hl
      simp only [List.size_toArray,l1]
      rw [this]
      rfl
    · refine SeqAt.eq_list_lengthsAt p p' (by simp only [List.size_toArray];simp;omega) hu0 ⟨.bl (decide (ds=es)),H,I,?_,q⟩
      rw [decide_eq_false (fun z=>hl (by rw [z]))]
      rfl
theorem op_neD (hu:X.A.units+151 < cLine):OpR X (compareOp .NotEq) rNeD:=by
  intro pins s σ H x y v u Q I rx ry h
  obtain ⟨ds,es,hh,hd,q⟩:=h
  have hu0:X.A.units < cLine:=by omega
  rcases hh with ⟨h1,h2⟩ | ⟨h1,h2⟩
  · have g1:=den_raw I.hok h1 rx
    have g2:=den_raw I.hok h2 ry
    rw [DenR] at g1 g2
    obtain ⟨a,us,rfl,p,r⟩:=g1
    obtain ⟨b,us',rfl,p',r'⟩:=g2
    refine SeqAt.RcNeAt.tuples (e:=fun j=>decide (ds[j]? = es[j]?)) p p' hu0 (deep_items hu hd r r') _ _ _ _ ?_
    refine ⟨.bl (!decide (ds=es)),H,I,?_,q⟩
    have:=all_eq ds es
    simp only [List.size_toArray,denRs_len r,denRs_len r']
    rw [this]
    rfl
  · have g1:=den_raw I.hok h1 rx
    have g2:=den_raw I.hok h2 ry
    rw [DenR] at g1 g2
    obtain ⟨a,us,rfl,p,r⟩:=g1
    obtain ⟨b,us',rfl,p',r'⟩:=g2
    have l1:=denRs_len r
    have l2:=denRs_len r'
    by_cases hl:ds.length=es.length
    · refine SeqAt.RcNeAt.lists (e:=fun j=>decide (ds[j]? = es[j]?)) p p' (by simp only [List.size_toArray];omega) hu0 (deep_items hu hd r r') _ _ _ _ ?_
      refine ⟨.bl (!decide (ds=es)),H,I,?_,q⟩
      have:=all_eq' ds es hl
      simp only [List.size_toArray,l1]
      rw [this]
      rfl
    · refine SeqAt.RcNeAt.lists_lengths p p' (by simp only [List.size_toArray];simp;omega) hu0 _ _ _ _ ⟨.bl (!decide (ds=es)),H,I,?_,q⟩
      rw [decide_eq_false (fun z=>hl (by rw [z]))]
      rfl
inductive J_rInD (neg:Bool) (x:V) (y:V) (H:Hp) (Q:VK):Prop
  | mk:∀ d ds,(Den H d x)→((Den H (.lst ds) y∨Den H (.tup ds) y))→(D.deeps ds≤150)→(Q (.bl (if neg then !decide (d∈ds) else decide (d∈ds))) H)→J_rInD neg x y H Q
noncomputable def rInD (neg:Bool):R2:=fun x y H Q=>J_rInD neg x y H Q
noncomputable def eqR (h:Heap) (d:D) (y:Value):Bool := @decide (DenR h d y) (Classical.propDecidable _)
theorem eqR_eq {h:Heap} {d e:D} {y:Value} (r:DenR h e y):eqR h d y=decide (e=d):=by
  unfold eqR
  by_cases z:e=d
  · subst z;rw [decide_eq_true rfl];exact @decide_eq_true _ (Classical.propDecidable _) r
  · rw [decide_eq_false z];exact @decide_eq_false _ (Classical.propDecidable _) fun q=>z (denR_inj r q)
theorem denRs_mem {h:Heap}:∀ {ds:List D} {us:List Value} {u:Value},DenRs h ds us→u∈us→∃ d∈ds,DenR h d u
  | [],us,u,r,m=>by rw [DenRs] at r;subst r;cases m
  | d :: ds,us,u,r,m=>by
    rw [DenRs] at r
    obtain ⟨v,us',rfl,r1,r⟩:=r
    rcases List.mem_cons.mp m with rfl | m
    · exact ⟨d,List.mem_cons_self,r1⟩
    · obtain ⟨e,he,q⟩:=denRs_mem r m
      exact ⟨e,List.mem_cons_of_mem _ he,q⟩
theorem any_eqR {h:Heap} {d:D}:∀ {ds:List D} {us:List Value},DenRs h ds us→us.any (eqR h d)=decide (d∈ds)
  | [],us,r=>by rw [DenRs] at r;subst r;simp
  | e :: ds,us,r=>by
    rw [DenRs] at r
    obtain ⟨v,us',rfl,r1,r⟩:=r
    rw [List.any_cons,any_eqR r,eqR_eq r1]
    refine dec_true ⟨fun z => ?_,fun z => ?_⟩
    · rcases List.mem_cons.mp z with rfl | z
      · simp
      · rw [decide_eq_true z];simp
    · rw [Bool.or_eq_true] at z
      rcases z with z | z
      · rw [of_decide_eq_true z];exact List.mem_cons_self
      · exact List.mem_cons_of_mem _ (of_decide_eq_true z)
theorem op_notInD (hu:X.A.units+151 < cLine):OpR X (compareOp .NotIn) (rInD true):=by
  intro pins s σ H x y v u Q I rx ry h
  obtain ⟨d,ds,h1,h2,hd,q⟩:=h
  have g1:=den_raw I.hok h1 rx
  have el:∀ us:List Value,DenRs s.heap ds us→∀ y,y∈us.toArray→SeqAt.EqAt X.A.in1 s y v (eqR s.heap d y):=fun us r y hy=>by
    obtain ⟨e,he,r1⟩:=denRs_mem r (by simpa using hy)
    refine eqAt_cast (eqAt_D 150 (by have:=deeps_le he;omega) r1 g1 (by show X.A.units+1+150 < cLine;omega)) (eqR_eq r1).symm
  rcases h2 with h2 | h2
  · have g2:=den_raw I.hok h2 ry
    rw [DenR] at g2
    obtain ⟨b,us',rfl,p',r'⟩:=g2
    refine SeqAt.notIn_listAt (eqR s.heap d) p' (el us' r') ⟨.bl (!decide (d∈ds)),H,I,?_,q⟩
    rw [← any_eqR r']
    show Value.bool _=Value.bool _
    rw [List.any_toArray]
  · have g2:=den_raw I.hok h2 ry
    rw [DenR] at g2
    obtain ⟨b,us',rfl,p',r'⟩:=g2
    refine SeqAt.notIn_tupleAt (eqR s.heap d) p' (el us' r') ⟨.bl (!decide (d∈ds)),H,I,?_,q⟩
    rw [← any_eqR r']
    show Value.bool _=Value.bool _
    rw [List.any_toArray]
end
end L2
namespace L2
open PySem PySem.Spec PyProof.Rows

section
variable {κ : Type} [DecidableEq κ]
noncomputable def valV (kvs:List (κ × V)) (k : κ):Option V:=(kvs.find? fun kv=>decide (kv.1=k)).map (·.2)
noncomputable def putK (kvs:List (κ × V)) (k : κ) (v:V):List (κ × V) :=
  if (kvs.any fun kv=>decide (kv.1=k))=true then kvs.map (fun kv=>if kv.1=k then (kv.1,v) else kv) else kvs ++ [(k,v)]

theorem valV_nil {k : κ}:valV ([]:List (κ × V)) k=none:=rfl
theorem valV_pos {p : κ × V} {r:List (κ × V)} {k : κ} (e:p.1=k):valV (p :: r) k=some p.2:=by simp [valV,List.find?_cons,e]
theorem valV_neg {p : κ × V} {r:List (κ × V)} {k : κ} (e:¬ p.1=k):valV (p :: r) k=valV r k:=by simp [valV,List.find?_cons,e]
theorem valV_any (k : κ):∀ kvs:List (κ × V),(kvs.any fun kv=>decide (kv.1=k))=(valV kvs k).isSome
  | []=>rfl
  | p :: r=>by
    rw [List.any_cons]
    by_cases e:p.1=k
    · simp only [valV_pos e,decide_eq_true e,Bool.true_or,Option.isSome_some]
    · rw [valV_neg e,decide_eq_false e,Bool.false_or];exact valV_any k r
theorem valV_map (k j : κ) (y:V):∀ kvs:List (κ × V),valV (kvs.map fun kv=>if kv.1=k then (kv.1,y) else kv) j=(valV kvs j).map fun x=>if j=k then y else x
  | []=>rfl
  | p :: r=>by
    have ih:=valV_map k j y r
    rw [List.map_cons]
    by_cases h:p.1=k
    · rw [if_pos h]
      by_cases e:p.1=j
      · rw [valV_pos (p:=(p.1,y)) e,valV_pos e,Option.map_some,if_pos (e.symm.trans h)]
      · rw [valV_neg (p:=(p.1,y)) e,valV_neg e,ih]
    · rw [if_neg h]
      by_cases e:p.1=j
      · rw [valV_pos (p:=p) e,valV_pos e,Option.map_some,if_neg (fun z=>h (e.trans z))]
      · rw [valV_neg (p:=p) e,valV_neg e,ih]
theorem valV_snoc (k j : κ) (y:V):∀ kvs:List (κ × V),valV kvs k=none→valV (kvs ++ [(k,y)]) j=if j=k then some y else valV kvs j
  | [],_=>by
    by_cases e:k=j
    · rw [if_pos e.symm];exact valV_pos (p:=(k,y)) e
    · rw [if_neg (fun z=>e z.symm)];exact valV_neg (p:=(k,y)) e
  | p :: r,hn=>by
    rw [List.cons_append]
    have hk:¬ p.1=k:=fun z=>by rw [valV_pos z] at hn;cases hn
    rw [valV_neg hk] at hn
    have ih:=valV_snoc k j y r hn
    by_cases e:p.1=j
    · rw [valV_pos e,valV_pos e,if_neg (fun z=>hk (e.trans z))]
    · rw [valV_neg e,valV_neg e,ih]
theorem valV_put (kvs:List (κ × V)) (k j : κ) (y:V):valV (putK kvs k y) j=if j=k then some y else valV kvs j:=by
  unfold putK
  by_cases a:(kvs.any fun kv=>decide (kv.1=k))=true
  · rw [if_pos a,valV_map]
    rw [valV_any] at a
    by_cases e:j=k
    · obtain ⟨x,hx⟩:=Option.isSome_iff_exists.mp a
      rw [if_pos e,e,hx,Option.map_some,if_pos rfl]
    · rw [if_neg e]
      cases valV kvs j with
      | none=>rfl
      | some x=>rw [Option.map_some,if_neg e]
  · rw [if_neg a]
    refine valV_snoc k j y kvs ?_
    rw [valV_any] at a
    cases q:valV kvs k with
    | none=>rfl
    | some x=>rw [q] at a;exact (a rfl).elim
theorem length_putK (kvs:List (κ × V)) (k : κ) (v:V):(putK kvs k v).length≤kvs.length+1:=by
  unfold putK
  split
  · rw [List.length_map];omega
  · rw [List.length_append,List.length_cons,List.length_nil];omega
theorem putK_new {kvs:List (κ × V)} {k : κ} (v:V) (h:valV kvs k=none):putK kvs k v=kvs ++ [(k,v)]:=by
  unfold putK
  rw [valV_any,h]
  exact if_neg (by decide)

theorem RelO.isSome_eq {o:Option V} {u:Option Value} (r:RelO o u):o.isSome=u.isSome:=by
  cases o with
  | none=>cases u with
    | none=>rfl
    | some _=>exact (show False from r).elim
  | some _=>cases u with
    | none=>exact (show False from r).elim
    | some _=>rfl

theorem KV.val {kvs:List (κ × V)} {vs:List (κ × Value)} (r:KV kvs vs) (k : κ):RelO (valV kvs k) (valueAt vs k):=by
  unfold KV at r
  induction r with
  | nil=>exact True.intro
  | @cons p q ps qs h t ih =>
    obtain ⟨h1,h2⟩:=h
    by_cases e:p.1=k
    · have e':q.1=k:=h1.symm.trans e
      have b:valueAt (q :: qs) k=some q.2:=by simp [valueAt,List.find?_cons,e']
      rw [valV_pos e,b];exact h2
    · have e':¬ q.1=k:=fun z=>e (h1.trans z)
      have b:valueAt (q :: qs) k=valueAt qs k:=by simp [valueAt,List.find?_cons,e']
      rw [valV_neg e,b];exact ih
end


theorem kV_is {P:Program} {w:World} {k:Key} {u:Value} (r:RelV (kV k) u):(mixKind P w).is k u=true:=by
  cases k with
  | inl i=>obtain ⟨t,e⟩:=(show ∃ t,u=Value.int i t from r);subst e;exact mixKind_int P w i t
  | inr x=>obtain ⟨t,e⟩:=(show ∃ t,u=Value.str x t from r);subst e;exact mixKind_str P w x t
theorem items_are {P:Program} {w:World}:∀ {ks:List Key} {us:List Value},Vals (ks.map kV) us→ItemsAre (mixKind P w) ks us
  | [],_,r=>by rw [List.map_nil] at r;cases r;exact .nil
  | k :: ks,_,r=>by
    rw [List.map_cons] at r
    cases r with
    | cons h t=>exact .cons (kV_is h) (items_are t)

noncomputable abbrev KT (H:Hp):List (List Key × V)→List (List Key × Addr × Value)→Prop:=Paired fun p q=>p.1=q.1∧H q.2.1=some (.tup (p.1.map kV))∧RelV p.2 q.2.2
theorem KT.val {H:Hp} {kvs:List (List Key × V)} {xs:List (List Key × Addr × Value)} (r:KT H kvs xs) (k:List Key):RelO (valV kvs k) ((atKey xs k).map (·.2)):=by
  induction r with
  | nil=>exact True.intro
  | @cons p q ps qs h t ih =>
    obtain ⟨h1,_,h2⟩:=h
    by_cases e:p.1=k
    · have e':q.1=k:=h1.symm.trans e
      have b:atKey (q :: qs) k=some q.2:=by simp [atKey,List.find?_cons,e']
      rw [valV_pos e,b];exact h2
    · have e':¬ q.1=k:=fun z=>e (h1.trans z)
      have b:atKey (q :: qs) k=atKey qs k:=by simp [atKey,List.find?_cons,e']
      rw [valV_neg e,b];exact ih

section
variable {P:Program} {w:World} {H:Hp} {h:Heap} {a:Addr}
theorem rd_of {u:HO} (ok:HOk P w H h) (e:Rd H a u):ObjOk P w H h a u:=e.ok ok
theorem dk_rd {kvs:List (Key × V)} (ok:HOk P w H h) (e:Rd H a (.dK kvs)):kvs.length≤sizeLine∧(a == sysModules)=false∧∃ vs,KV kvs vs∧h.DictOf (mixKind P w) a vs :=
  show ObjOk P w H h a (.dK kvs) from rd_of ok e
theorem key_of {ks:List Key} (ok:HOk P w H h) (e:H a=some (.tup (ks.map kV))):(tupleKind (mixKind P w)).is h ks a:=by
  obtain ⟨_,its,r,o,h1,h2,n,h3,_⟩:=(show ObjOk P w H h a (.tup (ks.map kV)) from ok a _ e)
  exact ⟨o,its.toArray,n,h1,h2,h3,by simpa using items_are r⟩
theorem dt_rd {kvs:List (List Key × V)} (ok:HOk P w H h) (e:Rd H a (.dT kvs)):kvs.length≤sizeLine∧(a == sysModules)=false ∧
    ∃ xs,KT H kvs xs∧h.DictOfH (tupleKind (mixKind P w)) a xs:=by
  obtain ⟨z,y,xs,r,o,es,ep,h1,h2,h3,h4,h5⟩:=(show ObjOk P w H h a (.dT kvs) from rd_of ok e)
  refine ⟨z,y,xs,r,o,es,ep,h1,h2,h3,h4,fun x hx => ?_,h5⟩
  have all:∀ {l:List (List Key × V)} {m:List (List Key × Addr × Value)},KT H l m→∀ x∈m,(tupleKind (mixKind P w)).is h x.1 x.2.1:=by
    intro l m q
    induction q with
    | nil=>intro x hx;exact nomatch hx
    | @cons p q ps qs hq t ih =>
      intro x hx
      rcases List.mem_cons.mp hx with e | hx
      · subst e
        exact key_of ok (by rw [← hq.1];exact hq.2.1)
      · exact ih x hx
  exact all r x hx
end

noncomputable def DGet (H:Hp) (a:Addr) (y:V) (r:Option V):Prop :=
  (∃ kvs k,Rd H a (.dK kvs)∧y=kV k∧r=valV kvs k)∨∃ kvs k b,Rd H a (.dT kvs)∧y = .ref b∧H b=some (.tup (k.map kV))∧r=valV kvs k
theorem DGet.k {H:Hp} {a:Addr} {kvs:List (Key × V)} {k:Key} (e:H a=some (.dK kvs)):DGet H a (kV k) (valV kvs k) := .inl ⟨kvs,k,.inl e,rfl,rfl⟩


section
variable {X:Cx} {pins:List (Addr × Obj)} {σ : St} {H:Hp} {s:Shared} {a:Addr} {y v:V} {u r:Value} {o:Option V} {A:Around} {E:Value→Shared→Prop}

theorem Inv.big (I:Inv X pins σ H s):sysModules < s.heap.objs.size:=by
  have h:mainGlobals < s.heap.objs.size:=(I.mod.glob.keeps I.bk).lt
  exact Nat.lt_trans (by decide) h

theorem d_getItem {Q:Value→Shared→Prop} (hu:A.units+1 < cLine) (I:Inv X pins σ H s) (g:DGet H a y (some v)) (ry:RelV y u) (h:∀ w' s',Inv X pins σ H s'→RelV v w'→Q w' s') :
    wpAny (model X.prog X.w) A (getItem (.ref a) u) Q E s:=by
  rcases g with ⟨kvs,k,e,ey,l⟩ | ⟨kvs,k,b,e,ey,eb,l⟩
  · subst ey
    obtain ⟨z,hd,vs,rel,dd⟩:=dk_rd I.hok e
    obtain ⟨w',hw,rw'⟩:=RelO.some_of (v:=v) (o:=valueAt vs k) (by rw [l];exact rel.val k)
    exact wpAny_getItem_of (kV_is ry) dd.mapOf hw (h w' _ (I.tok _) rw')
  · subst ey
    cases (show u=Value.ref b from ry)
    obtain ⟨z,hd,xs,rel,dd⟩:=dt_rd I.hok e
    obtain ⟨w',hw,rw'⟩:=RelO.some_of (v:=v) (o:=(atKey xs k).map (·.2)) (by rw [l];exact rel.val k)
    obtain ⟨p,hp,hp2⟩:=Option.map_eq_some_iff.mp hw
    refine wpAny_getItem_heap (tupleKind_room_in1 hu) (key_of I.hok eb) dd hp ?_
    rw [hp2]
    exact h w' _ (I.tok _) rw'
theorem d_write {h':Heap} {t':Nat} {ob:HO} (I:Inv X pins σ H s) (mu:Mut (H a)) (hs:Heap.SameBut a s.heap h') (he:∃ q,h'.get? a=some q) (new:ObjOk X.prog X.w (upd H a ob) h' a ob) :
    Inv X pins σ (upd H a ob) { s with heap:=h',toks:=t' } :=
  I.write (x:=a) (e:=a) mu (.inl rfl) (fun b q hb z=>(hs.2 b hb).trans z) he new
end

section
variable {X:Cx} {pins:List (Addr × Obj)} {σ : St} {H:Hp} {s:Shared} {a:Addr} {kvs:List (Key × V)} {k:Key} {u:Value} {A:Around} {E:Value→Shared→Prop}
end


noncomputable def NoSl (i:Expr):Prop := ∀ ov iv,subscripted i false ov iv=operate [ov,iv] (getItem ov iv)
theorem subD_of {prog:Program} {w:World} {A:Around} {E:Value→Shared→Prop} {s:Shared} {env:Env} {value slice:Expr} {pos:Pos} {T id:String} {Q:Value→Shared→Prop}
    (hl:typeLookup (.type T) "__getitem__" = pure (some (.builtin id))) (hs:NoSl slice)
    (h:wpAny (model prog w) A (eval value env) (fun o s₁ => wpAny (model prog w) A (eval slice env) (fun i s₂ => s₂.TypeIs o T∧wpAny (model prog w) A (getItem o i) Q E s₂) E s₁) E s) :
    wpAny (model prog w) A (eval (.Subscript value slice pos) env) Q E s:=by
  refine Subscript_ (wpAny_mono h (fun o s₁ h₁ => wpAny_mono h₁ (fun i s₂ h₂ => ?_) fun _ _ x=>x) fun _ _ x=>x)
  obtain ⟨hT,h₂⟩:=h₂
  unfold subscriptTail
  refine wpAny_bind ?_
  rw [getitemInPython_of_ne hT.not_modules]
  refine wpAny_bind (wpAny_specialOf hT hl ?_)
  have fin:wpAny (model prog w) A (subscripted slice false o i) (fun r s₃ => wpAny (model prog w) A (letTemporaryGo value o r >>= fun _=>pure r) Q E s₃) E s₂ := by
    rw [hs o i]
    exact wpAny_operating (wpAny_mono h₂ (fun r s₃ h₃ => wpAny_bind (wpAny_letTemporaryGo (wpAny_pure h₃))) fun _ _ x=>x)
  first
    | exact wpAny_pure (wpAny_bind fin)
    | exact wpAny_bind (wpAny_pure (wpAny_bind fin))
    | exact wpAny_bind fin

theorem dict_typeIs {X:Cx} {pins:List (Addr × Obj)} {σ : St} {H:Hp} {s:Shared} {a:Addr} {y:V} {o:Option V} (I:Inv X pins σ H s) (g:DGet H a y o):s.TypeIs (.ref a) "dict" := by
  rcases g with ⟨kvs,k,e,_,_⟩ | ⟨kvs,k,b,e,_,_,_⟩
  · obtain ⟨_,_,vs,_,dd⟩:=dk_rd I.hok e
    exact dd.typeIs
  · obtain ⟨_,_,xs,_,dd⟩:=dt_rd I.hok e
    exact dd.typeIs

inductive J_tDGet (Q:VK) (x:V) (y:V) (H2:Hp):Prop
  | mk:∀ a v,(x = .ref a)→(DGet H2 a y (some v))→(Q v H2)→J_tDGet Q x y H2
noncomputable def tDGet (td ty:TE):TE:=fun σ H Q=>td σ H fun x H1=>ty σ H1 fun y H2=>J_tDGet Q x y H2

section
variable {X:Cx} {o i e value:Expr} {pos pos' tpos:Pos} {td ty tv:TE}
theorem pe_dget (hu:X.A.units+1 < cLine) (ho:PE X o td) (hi:PE X i ty) (hs:NoSl i):PE X (.Subscript o i pos) (tDGet td ty):=by
  intro pins s σ H Q I h
  refine subD_of PySem.F.slot_dict_getitem.lookup hs (thn (ho pins s σ H _ I h) fun u s1 ⟨x,H1,I1,rx,q1⟩=>thn (hi pins s1 σ H1 _ I1 q1) fun iv s2 ⟨y,H2,I2,ry,a,v,ex,g,q2⟩ => ?_)
  subst ex
  obtain rfl:u=Value.ref a:=rx
  exact ⟨dict_typeIs I2 g,d_getItem hu I2 g ry fun w' s3 I3 rw'=>⟨v,H2,I3,rw',q2⟩⟩
end


theorem dk_empty {P:Program} {w:World} {H:Hp} (h:Heap) (hb:sysModules < h.objs.size):ObjOk P w H (h.push { cls := .type "dict",data := .dict #[] }) h.objs.size (.dK []) :=
  ⟨Nat.zero_le _,beq_eq_false_iff_ne.mpr (Ne.symm (Nat.ne_of_lt hb)), [],.nil,Heap.DictOf.new h⟩
noncomputable def tDNewK:TE:=fun _ H Q=>∀ p,H p=none→Q (.ref p) (upd H p (.dK []))
section
variable {X:Cx} {pos:Pos}
theorem pe_dnewK:PE X (.Dict [] [] pos) tDNewK:=fun pins s σ H Q I h =>
  wpAny_Dict_empty ⟨.ref s.heap.objs.size,_,I.laid (a:=s.heap.objs.size) (o := .dK []) (t':=s.toks) (fun _ _ q=>Heap.get?_push_of_some _ q) (Nat.le_refl _) (dk_empty s.heap I.big),rfl,h _ (I.hok.fresh (Nat.le_refl _))⟩
end




structure M1 (X:Cx) (o:Expr) (m:Str) (apos:Pos) (e:Expr) (cpos:Pos):Prop where
  base:attributeBase o m X.env (eval o X.env)=eval o X.env
  few:((backTo cpos (starEach [e] X.env)).all (fun x => !x.1) && (backToKw cpos (keywordEach [] X.env)).all (fun x=>x.1.isSome)
    && decide (([e]:List Expr).length+([]:List Keyword).length+(if ([]:List Keyword).isEmpty then 0 else 1) < 30))=true
  line:(apos.endLine == cpos.line)=true
  trees:backTo cpos (starEach [e] X.env) = [(false,eval e X.env)]
structure M2 (X:Cx) (o:Expr) (m:Str) (apos:Pos) (e f:Expr) (cpos:Pos):Prop where
  base:attributeBase o m X.env (eval o X.env)=eval o X.env
  few:((backTo cpos (starEach [e,f] X.env)).all (fun x => !x.1) && (backToKw cpos (keywordEach [] X.env)).all (fun x=>x.1.isSome)
    && decide (([e,f]:List Expr).length+([]:List Keyword).length+(if ([]:List Keyword).isEmpty then 0 else 1) < 30))=true
  line:(apos.endLine == cpos.line)=true
  trees:backTo cpos (starEach [e,f] X.env) = [(false,eval e X.env),(false,eval f X.env)]


section
variable {X:Cx} {pins:List (Addr × Obj)} {σ : St} {H:Hp} {s:Shared} {a:Addr} {y d:V} {u r:Value} {o:Option V} {A:Around} {E:Value→Shared→Prop}
end

section
variable {X:Cx} {o e f:Expr} {apos cpos:Pos} {td ty tx:TE}
end

section
variable {X:Cx} {pins:List (Addr × Obj)} {σ : St} {H:Hp} {s:Shared} {a:Addr} {kvs:List (Key × V)} {A:Around} {E:Value→Shared→Prop}
end


section
variable {X:Cx} {pins:List (Addr × Obj)} {σ : St} {H:Hp} {s:Shared} {a:Addr} {y:V} {u:Value} {A:Around} {E:Value→Shared→Prop}
end
end L2
namespace L2
open PySem PySem.Spec PyProof.Rows

noncomputable abbrev NK:=List (Sum Key (List Key))
noncomputable def kD:Key→D
  | .inl i => .int i
  | .inr x => .str x
noncomputable def iD:Sum Key (List Key)→D
  | .inl k=>kD k
  | .inr l => .tup (l.map kD)
noncomputable def nkD (k:NK):D := .tup (k.map iD)
theorem kD_inj {a b:Key} (e:kD a=kD b):a=b:=by
  cases a with
  | inl i=>cases b with
    | inl j=>have e':D.int i=D.int j:=e;injection e' with e';rw [e']
    | inr y=>exact nomatch (show D.int i=D.str y from e)
  | inr x=>cases b with
    | inl j=>exact nomatch (show D.str x=D.int j from e)
    | inr y=>have e':D.str x=D.str y:=e;injection e' with e';rw [e']
theorem map_inj_of {α β : Type} {f : α → β} (hf:∀ a b,f a=f b→a=b):∀ {x y:List α},x.map f=y.map f→x=y
  | [], [],_=>rfl
  | [],_ :: _,e=>by simp at e
  | _ :: _, [],e=>by simp at e
  | a :: xs,b :: ys,e=>by
    rw [List.map_cons,List.map_cons] at e
    injection e with e1 e2
    rw [hf _ _ e1,map_inj_of hf e2]
theorem iD_inj {a b:Sum Key (List Key)} (e:iD a=iD b):a=b:=by
  cases a with
  | inl i=>cases b with
    | inl j=>rw [kD_inj e]
    | inr y=>cases i <;> exact nomatch e
  | inr x=>cases b with
    | inl j=>cases j <;> exact nomatch e
    | inr y =>
      have e':D.tup (x.map kD)=D.tup (y.map kD):=e
      injection e' with e'
      rw [map_inj_of (fun _ _=>kD_inj) e']
theorem nkD_inj {a b:NK} (e:nkD a=nkD b):a=b:=by
  have e':D.tup (a.map iD)=D.tup (b.map iD):=e
  injection e' with e'
  exact map_inj_of (fun _ _=>iD_inj) e'
section
variable (P:Program) (w:World)
noncomputable def NIt (h:Heap):NK→List Value→Prop
  | [],us=>us = []
  | .inl k :: ks,us=>∃ u us',us=u :: us'∧(mixKind P w).is k u=true∧NIt h ks us'
  | .inr l :: ks,us=>∃ b us',us=Value.ref b :: us'∧IsTupleKey (mixKind P w) h l b∧NIt h ks us'
noncomputable def IsNK (h:Heap) (k:NK) (a:Addr):Prop := ∃ us:List Value,IsTup h a us.toArray∧NIt P w h k us
noncomputable def iHash:Sum Key (List Key)→Int
  | .inl k=>(mixKind P w).hash k
  | .inr l=>tupleKeyHash (mixKind P w) l
noncomputable def iDraws:Sum Key (List Key)→Nat
  | .inl _=>1
  | .inr l=>l.length+1
noncomputable def nkHash (k:NK):Int:=reduceHash (Builtin.Tuple.tupleHashOf (k.map (iHash P w)))
noncomputable def nkDraws (k:NK):Nat:=(k.map iDraws).sum+1
end
section
variable {P:Program} {w:World} {h h':Heap}
theorem NIt.inj:∀ {x y:NK} {us:List Value},NIt P w h x us→NIt P w h y us→x=y
  | [], [],us,_,_=>rfl
  | [],.inl k :: ks,us,r,q=>by rw [NIt] at r;rw [NIt] at q;subst r;obtain ⟨_,_,z,_⟩:=q;cases z
  | [],.inr k :: ks,us,r,q=>by rw [NIt] at r;rw [NIt] at q;subst r;obtain ⟨_,_,z,_⟩:=q;cases z
  | .inl k :: ks, [],us,r,q=>by rw [NIt] at r;rw [NIt] at q;subst q;obtain ⟨_,_,z,_⟩:=r;cases z
  | .inr k :: ks, [],us,r,q=>by rw [NIt] at r;rw [NIt] at q;subst q;obtain ⟨_,_,z,_⟩:=r;cases z
  | .inl k :: ks,.inl l :: ls,us,r,q=>by
    rw [NIt] at r;rw [NIt] at q
    obtain ⟨u,us',rfl,r1,r⟩:=r
    obtain ⟨u',us'',z,q1,q⟩:=q
    cases z
    rw [(mixKind P w).inj _ _ _ r1 q1,NIt.inj r q]
  | .inr k :: ks,.inr l :: ls,us,r,q=>by
    rw [NIt] at r;rw [NIt] at q
    obtain ⟨u,us',rfl,r1,r⟩:=r
    obtain ⟨u',us'',z,q1,q⟩:=q
    cases z
    rw [r1.inj q1,NIt.inj r q]
  | .inl k :: ks,.inr l :: ls,us,r,q=>by
    rw [NIt] at r;rw [NIt] at q
    obtain ⟨u,us',rfl,r1,r⟩:=r
    obtain ⟨u',us'',z,q1,q⟩:=q
    cases z
    rcases keyIs_shape r1 with ⟨i,t,_,e⟩ | ⟨x,t,_,e⟩ <;> cases e
  | .inr k :: ks,.inl l :: ls,us,r,q=>by
    rw [NIt] at r;rw [NIt] at q
    obtain ⟨u,us',rfl,r1,r⟩:=r
    obtain ⟨u',us'',z,q1,q⟩:=q
    cases z
    rcases keyIs_shape q1 with ⟨i,t,_,e⟩ | ⟨x,t,_,e⟩ <;> cases e
theorem NIt.keeps {d:Addr} {o:Obj} {es ep} (ho:h.get? d=some o) (hd:o.data = .dict es ep) (hs:Heap.SameBut d h h'):∀ {k:NK} {us:List Value},NIt P w h k us→NIt P w h' k us
  | [],us,r=>by rw [NIt] at r ⊢;exact r
  | .inl k :: ks,us,r=>by
    rw [NIt] at r ⊢
    obtain ⟨u,us',e,r1,r⟩:=r
    exact ⟨u,us',e,r1,NIt.keeps ho hd hs r⟩
  | .inr k :: ks,us,r=>by
    rw [NIt] at r ⊢
    obtain ⟨u,us',e,r1,r⟩:=r
    exact ⟨u,us',e,r1.keeps ho hd hs,NIt.keeps ho hd hs r⟩
theorem IsNK.inj {x y:NK} {a:Addr} (r:IsNK P w h x a) (q:IsNK P w h y a):x=y:=by
  obtain ⟨us,p,r⟩:=r
  obtain ⟨us',p',q⟩:=q
  have e:us=us':=by have:=tup_seq p p';simpa using this
  subst e
  exact r.inj q
theorem IsNK.keeps {k:NK} {a d:Addr} {o:Obj} {es ep} (r:IsNK P w h k a) (ho:h.get? d=some o) (hd:o.data = .dict es ep) (hs:Heap.SameBut d h h'):IsNK P w h' k a:=by
  obtain ⟨us,⟨o',e',c',n',d'⟩,r⟩:=r
  have hne:a≠d:=by
    rintro rfl
    rw [ho] at e';cases e'
    rw [hd] at d';cases d'
  exact ⟨us,⟨o',(hs.2 a hne).trans e',c',n',d'⟩,r.keeps ho hd hs⟩
theorem key_denR {k:Key} {u:Value} (r:(mixKind P w).is k u=true):DenR h (kD k) u:=by
  rcases keyIs_shape r with ⟨i,t,rfl,rfl⟩ | ⟨x,t,rfl,rfl⟩
  · show DenR h (.int i) _
    rw [DenR];exact .inl ⟨t,rfl⟩
  · show DenR h (.str x) _
    rw [DenR];exact ⟨t,rfl⟩
theorem items_denR {ks:List Key} {us:List Value} (r:ItemsAre (mixKind P w) ks us):DenRs h (ks.map kD) us:=by
  induction r with
  | nil=>rw [List.map_nil,DenRs]
  | cons r1 _ ih=>rw [List.map_cons,DenRs];exact ⟨_,_,rfl,key_denR r1,ih⟩
theorem NIt.denR:∀ {k:NK} {us:List Value},NIt P w h k us→DenRs h (k.map iD) us
  | [],us,r=>by rw [NIt] at r;rw [List.map_nil,DenRs];exact r
  | .inl k :: ks,us,r=>by
    rw [NIt] at r
    obtain ⟨u,us',e,r1,r⟩:=r
    rw [List.map_cons,DenRs]
    exact ⟨u,us',e,key_denR r1,NIt.denR r⟩
  | .inr k :: ks,us,r=>by
    rw [NIt] at r
    obtain ⟨b,us',e,⟨o,its,n,g,c,d,i⟩,r⟩:=r
    rw [List.map_cons,DenRs]
    refine ⟨_,us',e,?_,NIt.denR r⟩
    show DenR h (.tup (k.map kD)) _
    rw [DenR]
    exact ⟨b,its.toList,rfl,⟨o,g,c,n,by simpa using d⟩,items_denR i⟩
theorem IsNK.denR {k:NK} {a:Addr} (r:IsNK P w h k a):DenR h (nkD k) (.ref a):=by
  obtain ⟨us,p,r⟩:=r
  rw [nkD,DenR]
  exact ⟨a,us,rfl,p,r.denR⟩
theorem kDs_deep:∀ l:List Key,D.deeps (l.map kD)=0
  | []=>by rw [List.map_nil,D.deeps]
  | .inl k :: ks=>by rw [List.map_cons,D.deeps,kDs_deep ks];show max (D.deep (.int k)) 0=0;rw [D.deep];rfl
  | .inr k :: ks=>by rw [List.map_cons,D.deeps,kDs_deep ks];show max (D.deep (.str k)) 0=0;rw [D.deep];rfl
theorem nk_deeps:∀ l:NK,D.deeps (l.map iD)≤1
  | []=>by rw [List.map_nil,D.deeps];omega
  | .inl (.inl k) :: ks=>by rw [List.map_cons,D.deeps];have:=nk_deeps ks;show max (D.deep (.int k)) _≤1;rw [D.deep];omega
  | .inl (.inr k) :: ks=>by rw [List.map_cons,D.deeps];have:=nk_deeps ks;show max (D.deep (.str k)) _≤1;rw [D.deep];omega
  | .inr l :: ks=>by rw [List.map_cons,D.deeps];have:=nk_deeps ks;show max (D.deep (.tup (l.map kD))) _≤1;rw [D.deep,kDs_deep];omega
theorem nk_deep (k:NK):(nkD k).deep≤2:=by rw [nkD,D.deep];have:=nk_deeps k;omega
end
section
variable {P:Program} {w:World} {A:Around} {E:Value→Shared→Prop} {s:Shared}
theorem wpAny_eqBool_nk {x y:NK} {a b:Addr} {Q:Bool→Shared→Prop} (hu:A.units+5 < cLine) (hx:IsNK P w s.heap x a) (hy:IsNK P w s.heap y b) (h:Q (decide (x=y)) s) :
    wpAny (model P w) A (eqBool (.ref a) (.ref b)) Q E s:=by
  refine eqAt_D 2 (nk_deep x) hx.denR hy.denR (by omega) P w E Q ?_
  have e:decide (nkD x=nkD y)=decide (x=y):=decide_eq_decide.mpr ⟨nkD_inj,fun z=>by rw [z]⟩
  rw [e];exact h
theorem quiet_flat {K:Type} [DecidableEq K] {knd:KeyKind P w K} (n:Nat) {ks:List K} {a:Addr} {Q:Bool→Shared→Prop} (hk:IsTupleKey knd s.heap ks a) (h:Q true s):wpAny (model P w) A (eqIsQuiet (n+1) (.ref a)) Q E s:=by
  have hT:=hk.typeIs
  obtain ⟨o,items,m,ho,_,hd,hi⟩:=hk
  unfold eqIsQuiet
  refine wpAny_bind (wpAny_specialOf hT F.slot_tuple_eq.lookup ?_)
  show wpAny _ _ (isInstance (.ref a) (.type "tuple") >>= _) _ _ s
  refine wpAny_bind (wpAny_isInstance hT isSubtype_tuple_tuple ?_)
  simp only [Bool.not_true,Bool.false_eq_true,if_false]
  refine wpAny_bind (wpAny_seqItems ho hd ?_)
  refine wpAny_bind ?_
  show wpAny _ _ (forIn items _ _) _ _ s
  rw [← Array.forIn_toList]
  refine wpAny_forIn_list _ (fun rest r s'=>r.1=none∧s'=s∧∀ v∈rest,carriedByValue v=true) _ ?_ ?_ _ _ ⟨rfl,rfl,hi.byValue⟩
  · rintro v rest r s' ⟨hr,rfl,hall⟩
    rw [eqIsQuiet_byValue _ (hall v List.mem_cons_self)]
    refine wpAny_bind (wpAny_pure ?_)
    simp only [Bool.not_true,Bool.false_eq_true,if_false]
    exact wpAny_pure ⟨rfl,rfl,fun u hu'=>hall u (List.mem_cons_of_mem _ hu')⟩
  · rintro ⟨r1,r2⟩ s' ⟨hr,rfl,_⟩
    simp only at hr
    subst hr
    exact wpAny_pure h
theorem quiet_nk {k:NK} {a:Addr} {Q:Bool→Shared→Prop} (hk:IsNK P w s.heap k a) (h:Q true s):wpAny (model P w) A (eqIsQuiet 8 (.ref a)) Q E s:=by
  obtain ⟨us,p,hi⟩:=hk
  have hT:s.TypeIs (.ref a) "tuple" := p.typeIs
  obtain ⟨o,ho,_,m,hd⟩:=p
  unfold eqIsQuiet
  refine wpAny_bind (wpAny_specialOf hT F.slot_tuple_eq.lookup ?_)
  show wpAny _ _ (isInstance (.ref a) (.type "tuple") >>= _) _ _ s
  refine wpAny_bind (wpAny_isInstance hT isSubtype_tuple_tuple ?_)
  simp only [Bool.not_true,Bool.false_eq_true,if_false]
  refine wpAny_bind (wpAny_seqItems ho hd ?_)
  refine wpAny_bind ?_
  show wpAny _ _ (forIn us.toArray _ _) _ _ s
  rw [← Array.forIn_toList]
  refine wpAny_forIn_list _ (fun rest r s'=>r.1=none∧s'=s∧∃ left,NIt P w s.heap left rest) _ ?_ ?_ _ _ ⟨rfl,rfl,k,by simpa using hi⟩
  · rintro v rest r s' ⟨hr,rfl,left,hl⟩
    cases left with
    | nil=>rw [NIt] at hl;cases hl
    | cons i left =>
      cases i with
      | inl k =>
        rw [NIt] at hl
        obtain ⟨u,us',e,r1,hl⟩:=hl
        cases e
        rw [eqIsQuiet_byValue _ ((mixKind P w).byValue _ _ r1)]
        refine wpAny_bind (wpAny_pure ?_)
        simp only [Bool.not_true,Bool.false_eq_true,if_false]
        exact wpAny_pure ⟨rfl,rfl,left,hl⟩
      | inr l =>
        rw [NIt] at hl
        obtain ⟨b,us',e,r1,hl⟩:=hl
        cases e
        refine wpAny_bind (quiet_flat 6 r1 ?_)
        simp only [Bool.not_true,Bool.false_eq_true,if_false]
        exact wpAny_pure ⟨rfl,rfl,left,hl⟩
  · rintro ⟨r1,r2⟩ s' ⟨hr,rfl,_⟩
    simp only at hr
    subst hr
    exact wpAny_pure h
theorem wpAny_pyHash_nk {k:NK} {a:Addr} {Q:Int→Shared→Prop} (hu:A.units+5 < cLine) (hk:IsNK P w s.heap k a) (h:Q (nkHash P w k) { s with toks:=s.toks+nkDraws k }) :
    wpAny (model P w) A (pyHash (.ref a)) Q E s:=by
  obtain ⟨us,p,hi⟩:=hk
  have hT:s.TypeIs (.ref a) "tuple" := p.typeIs
  obtain ⟨o,ho,_,n,hd⟩:=p
  unfold pyHash
  first | unfold pyHashByItsType | skip
  first | refine wpAny_bind (wpAny_cRoomFor_or (.inr (by omega)) ?_) | skip
  refine wpAny_bind (wpAny_specialOf hT F.slot_tuple_hash.lookup ?_)
  show wpAny _ _ (if (some (Value.builtin "tuple.__hash__") == some Value.none)=true then _ else _) Q E s
  rw [if_neg (by rw [beq_builtin_none];exact Bool.false_ne_true)]
  refine wpAny_bind (wpAny_specialOf hT F.slot_tuple_hash.lookup ?_)
  show wpAny _ _ (callSpecialIfBoundUnlessNone? (.ref a) "__hash__" _ >>= _) Q E s
  refine wpAny_bind (wpAny_callSpecialIfBoundUnlessNone?_slot hT F.slot_tuple_hash (wpAny_call_entry F.slot_tuple_hash hT F.entry_tuple_hash ?_ (F.args_tuple_hash_1 _)))
  show wpAny _ _ (Builtin.Tuple.tupleItemsOf (.ref a) >>= _) _ _ s
  refine wpAny_bind (wpAny_tupleItemsOf ho hd ?_)
  refine wpAny_bind ?_
  rw [← Array.forIn_toList]
  refine wpAny_forIn_list _
    (fun rest (b:Array Int) s'=>∃ done left:NK,k=done ++ left∧NIt P w s.heap left rest∧b.toList=done.map (iHash P w)∧s'={ s with toks:=s.toks+(done.map iDraws).sum })
    _ ?_ ?_ _ _ ⟨[],k,rfl,by simpa using hi,rfl,rfl⟩
  · rintro x rest b s' ⟨done,left,rfl,hl,hb,rfl⟩
    cases left with
    | nil=>rw [NIt] at hl;cases hl
    | cons i left =>
      cases i with
      | inl k =>
        rw [NIt] at hl
        obtain ⟨u,us',e,r1,hl⟩:=hl
        cases e
        refine wpAny_bind ((mixKind P w).pyHash r1 ?_)
        first
          | exact wpAny_pure ⟨done ++ [.inl k],left,by simp,hl,by simp [hb,iHash],by simp [Nat.add_assoc,iDraws]⟩
          | exact wpAny_bind (wpAny_pure (wpAny_pure ⟨done ++ [.inl k],left,by simp,hl,by simp [hb,iHash],by simp [Nat.add_assoc,iDraws]⟩))
      | inr l =>
        rw [NIt] at hl
        obtain ⟨c,us',e,r1,hl⟩:=hl
        cases e
        refine wpAny_bind (wpAny_pyHash_tuple (by show A.units+1 < cLine;omega) r1 ?_)
        first
          | exact wpAny_pure ⟨done ++ [.inr l],left,by simp,hl,by simp [hb,iHash],by simp [Nat.add_assoc,iDraws]⟩
          | exact wpAny_bind (wpAny_pure (wpAny_pure ⟨done ++ [.inr l],left,by simp,hl,by simp [hb,iHash],by simp [Nat.add_assoc,iDraws]⟩))
  · rintro b s' ⟨done,left,rfl,hl,hb,rfl⟩
    have e:left = []:=by
      cases left with
      | nil=>rfl
      | cons i left=>cases i <;> rw [NIt] at hl <;> obtain ⟨_,_,z,_⟩:=hl <;> cases z
    subst e
    rw [List.append_nil] at h
    show wpAny _ _ (retInt (Builtin.Tuple.tupleHashOf b.toList)) _ _ _
    rw [hb]
    refine wpAny_ret_mkInt ?_
    show wpAny _ _ (if (decide (-(2:Int) ^ 63≤Builtin.Tuple.tupleHashOf (done.map (iHash P w))) && decide (Builtin.Tuple.tupleHashOf (done.map (iHash P w)) < 2 ^ 63))=true then _ else _) Q E _
    unfold nkHash reduceHash nkDraws at h
    by_cases hr:(decide (-(2:Int) ^ 63≤Builtin.Tuple.tupleHashOf (done.map (iHash P w))) && decide (Builtin.Tuple.tupleHashOf (done.map (iHash P w)) < 2 ^ 63))=true
    · rw [if_pos hr]
      rw [if_pos hr] at h
      exact wpAny_pure (by simpa [Nat.add_assoc] using h)
    · rw [if_neg hr]
      rw [if_neg hr] at h
      exact wpAny_bind (wpAny_rule (wpAny_pure (by simpa [Nat.add_assoc] using h)))
end
noncomputable def nkKind (P:Program) (w:World):HeapKind P w NK where
  is:=IsNK P w
  hash:=nkHash P w
  draws:=nkDraws
  room:=fun A=>A.units+5 < cLine
  inj:=fun hx hy=>hx.inj hy
  keeps:=fun x ho hd hs=>x.keeps ho hd hs
  pyHash:=fun hu hk h=>wpAny_pyHash_nk hu hk h
  eqBool:=fun hu hx hy h=>wpAny_eqBool_nk hu hx hy h
  quiet:=fun hk h=>quiet_nk hk h

section
variable {prog:Program} {w:World} {K:Type} [DecidableEq K] {knd:HeapKind prog w K} {A:Around} {E:Value→Shared→Prop} {s:Shared} {d a:Addr} {k:K} {xs:List (K × Addr × Value)}
theorem wpAny_dictSetDefault_heap {dflt:Value} {Q:Value→Shared→Prop} (hu:knd.room A) (hkey:knd.is s.heap k a) (hm:s.heap.DictOfH knd d xs)
    (hthere:∀ p,atKey xs k=some p→Q p.2 { s with toks:=s.toks+knd.draws k })
    (hnew:atKey xs k=none→∀ h',h'.DictOfH knd d (xs ++ [(k,a,dflt)])→Heap.SameBut d s.heap h'→Q dflt { s with heap:=h',toks:=s.toks+knd.draws k })
    (hsz:xs.length≤sizeLine):wpAny (model prog w) A (dictSetDefault d (.ref a) dflt) Q E s:=by
  obtain ⟨o,es,ep,ho,hc,hd,he,his,hn⟩:=hm
  unfold dictSetDefault
  try with_reducible refine wpAny_holding ?_
  refine wpAny_bind (knd.pyHash hu hkey ?_)
  refine wpAny_bind (wpAny_dictFind_heap (s := { s with toks:=s.toks+knd.draws k }) hu hkey ho hd he his hn ?_ ?_)
  · intro hno
    have hnot:k ∉ xs.map (·.1):=not_mem_keys_of_get hno
    refine wpAny_bind (wpAny_rule (wpAny_bind (wpAny_updateDictKeys (hz:=by have e:=size_of_entries he;omega) (s := { s with toks:=s.toks+knd.draws k }) ho hd (wpAny_pure (hnew (atKey_none_of_get hno) _ ⟨_,_,ep+1,Heap.get?_update_self _ ho (Obj.isFreed_of_dict (Obj.data_mapDictKeys hd _)),
      hc.mapDictKeys _,Obj.data_mapDictKeys hd _,?_,?_,?_⟩ (Heap.SameBut.update ..))))))
    · simp [he,entryOfKey]
    · intro x hx
      rcases List.mem_append.mp hx with hx | hx
      · exact knd.keeps (his x hx) ho hd (Heap.SameBut.update ..)
      · simp only [List.mem_singleton] at hx
        subst hx
        exact knd.keeps hkey ho hd (Heap.SameBut.update ..)
    · rw [List.map_append,List.nodup_append]
      refine ⟨hn,by simp,?_⟩
      intro x hx y hy
      simp only [List.map_cons,List.map_nil,List.mem_singleton] at hy
      subst hy
      exact fun e=>hnot (e ▸ hx)
  · intro j p hj
    refine wpAny_bind (wpAny_dictEntries (s := { s with toks:=s.toks+knd.draws k }) ho hd ?_)
    rw [entry_at he j,hj]
    exact wpAny_bind (wpAny_rule (wpAny_pure (hthere p (atKey_of_get hn hj))))
end
section
variable {prog:Program} {w:World} {K:Type} [DecidableEq K] (knd:HeapKind prog w K) (d a:Addr)
theorem meetsH_dict_setdefault (hd:(d == sysModules)=false) (dflt:Value) :
    MeetsIn prog w (Builtin.«dict.setdefault» ⟨[.ref d,.ref a,dflt], []⟩) (fun A R s=>knd.room A.in1∧∃ k xs,knd.is s.heap k a∧s.heap.DictOfH knd d xs∧xs.length≤sizeLine ∧
      (∀ p,atKey xs k=some p→R (.ok (.ret p.2)) { s with toks:=s.toks+knd.draws k }) ∧
      (atKey xs k=none→∀ h',h'.DictOfH knd d (xs ++ [(k,a,dflt)])→Heap.SameBut d s.heap h'→R (.ok (.ret dflt)) { s with heap:=h',toks:=s.toks+knd.draws k })) :=
  .of_wp fun A R s ⟨hu,k,xs,hkey,hm,hz,h1,h2⟩=>by
    unfold Builtin.«dict.setdefault»
    refine wpAny_bind ?_
    unfold Builtin.Dict.keyAndDefault
    refine wpAny_bind (wpAny_notOrdered_dict hm.typeIs ?_)
    show wpAny _ _ (pure (d,Value.ref a,some dflt)) _ _ s
    refine wpAny_pure ?_
    show wpAny _ _ (if (d == sysModules)=true then _ else (dictSetDefault d (.ref a) dflt >>= _)) _ _ s
    rw [if_neg (by rw [hd];exact Bool.false_ne_true)]
    exact wpAny_bind (wpAny_dictSetDefault_heap hu hkey hm (fun p hp=>wpAny_pure ⟨p.2,rfl,h1 p hp⟩) (fun hn h' hm' hs'=>wpAny_pure ⟨dflt,rfl,h2 hn h' hm' hs'⟩) hz)
end
end L2
namespace L2
open PySem PySem.Spec PyProof.Rows

section
variable {X:Cx} {scope:Scope} {own:List Str} {caps:List (Str × Nat)} {pins:List (Addr × Obj)} {σ : St} {H:Hp} {s:Shared} {fp:List Addr}


end
end L2
namespace L2
open PySem PySem.Spec PyProof.Rows

noncomputable def NKs (H:Hp):NK→List V→Prop
  | [],vs=>vs = []
  | .inl k :: ks,vs=>∃ vs',vs=kV k :: vs'∧NKs H ks vs'
  | .inr l :: ks,vs=>∃ b vs',vs=V.ref b :: vs'∧H b=some (.tup (l.map kV))∧NKs H ks vs'
noncomputable def NKey (H:Hp) (k:NK) (a:Addr):Prop := ∃ vs,H a=some (.tup vs)∧NKs H k vs
theorem NKs.keep {H H':Hp} (ht:∀ b ys,H b=some (.tup ys)→H' b=some (.tup ys)):∀ {k:NK} {vs:List V},NKs H k vs→NKs H' k vs
  | [],vs,r=>by rw [NKs] at r ⊢;exact r
  | .inl k :: ks,vs,r=>by
    rw [NKs] at r ⊢
    obtain ⟨vs',e,r⟩:=r
    exact ⟨vs',e,NKs.keep ht r⟩
  | .inr l :: ks,vs,r=>by
    rw [NKs] at r ⊢
    obtain ⟨b,vs',e,q,r⟩:=r
    exact ⟨b,vs',e,ht _ _ q,NKs.keep ht r⟩
theorem NKey.keep {H H':Hp} {k:NK} {a:Addr} (ht:∀ b ys,H b=some (.tup ys)→H' b=some (.tup ys)) (r:NKey H k a):NKey H' k a:=by
  obtain ⟨vs,e,r⟩:=r
  exact ⟨vs,ht _ _ e,r.keep ht⟩
section
variable {P:Program} {w:World} {H:Hp} {h:Heap}
theorem nks_of (ok:HOk P w H h):∀ {k:NK} {vs:List V} {us:List Value},NKs H k vs→Vals vs us→NIt P w h k us
  | [],vs,us,r,q=>by rw [NKs] at r;subst r;cases q;rw [NIt]
  | .inl k :: ks,vs,us,r,q=>by
    rw [NKs] at r
    obtain ⟨vs',rfl,r⟩:=r
    cases q with
    | cons q1 q2=>rw [NIt];exact ⟨_,_,rfl,kV_is q1,nks_of ok r q2⟩
  | .inr l :: ks,vs,us,r,q=>by
    rw [NKs] at r
    obtain ⟨b,vs',rfl,e,r⟩:=r
    cases q with
    | cons q1 q2 =>
      rw [NIt]
      cases (show _=Value.ref b from q1)
      exact ⟨b,_,rfl,key_of ok e,nks_of ok r q2⟩
theorem nkey_of {k:NK} {a:Addr} (ok:HOk P w H h) (r:NKey H k a):IsNK P w h k a:=by
  obtain ⟨vs,e,r⟩:=r
  obtain ⟨_,its,rv,p⟩:=(show ObjOk P w H h a (.tup vs) from ok a _ e)
  exact ⟨its,p.tup,nks_of ok r rv⟩
end
noncomputable abbrev KN (H:Hp):List (NK × V)→List (NK × Addr × Value)→Prop:=Paired fun p q=>p.1=q.1∧NKey H p.1 q.2.1∧RelV p.2 q.2.2
theorem KN.val {H:Hp} {kvs:List (NK × V)} {xs:List (NK × Addr × Value)} (r:KN H kvs xs) (k:NK):RelO (valV kvs k) ((atKey xs k).map (·.2)):=by
  induction r with
  | nil=>exact True.intro
  | @cons p q ps qs h t ih =>
    obtain ⟨h1,_,h2⟩:=h
    by_cases e:p.1=k
    · have e':q.1=k:=h1.symm.trans e
      have b:atKey (q :: qs) k=some q.2:=by simp [atKey,List.find?_cons,e']
      rw [valV_pos e,b];exact h2
    · have e':¬ q.1=k:=fun z=>e (h1.trans z)
      have b:atKey (q :: qs) k=atKey qs k:=by simp [atKey,List.find?_cons,e']
      rw [valV_neg e,b];exact ih
theorem KN.keeps {H H':Hp} {kvs:List (NK × V)} {xs:List (NK × Addr × Value)} (r:KN H kvs xs) (ht:∀ b ys,H b=some (.tup ys)→H' b=some (.tup ys)):KN H' kvs xs :=
  Paired.mapP r fun _ _ z=>⟨z.1,z.2.1.keep ht,z.2.2⟩
noncomputable def DN (P:Program) (w:World) (H:Hp) (a:Addr) (kvs:List (NK × V)):Prop:=kvs.length≤sizeLine∧(a == sysModules)=false∧∃ (xs:List (NK × Addr × Value)) (o:Obj) (es:Array DictEntry) (ep:Nat),
  H a=some (.ext fun h=>h.get? a=some o)∧KN H kvs xs∧o.ExactDict∧o.data = .dict es ep∧es.toList=xs.map (entryOfKey (nkKind P w))∧(xs.map (·.1)).Nodup
theorem DN.keep {P:Program} {w:World} {H H':Hp} {a:Addr} {kvs:List (NK × V)} (d:DN P w H a kvs) (ha:∀ φ,H a=some (.ext φ)→H' a=some (.ext φ)) (ht:∀ b ys,H b=some (.tup ys)→H' b=some (.tup ys)):DN P w H' a kvs:=by
  obtain ⟨z,hd,xs,o,es,ep,e,r,q⟩:=d
  exact ⟨z,hd,xs,o,es,ep,ha _ e,r.keeps ht,q⟩
theorem DN.same {P:Program} {w:World} {H H':Hp} {a:Addr} {kvs:List (NK × V)} (d:DN P w H a kvs) (sm:Same H H'):DN P w H' a kvs:=d.keep (fun φ => sm _ _) (fun b ys=>sm _ _)
theorem DN.ext {P:Program} {w:World} {H:Hp} {a:Addr} {kvs:List (NK × V)} (d:DN P w H a kvs):∃ φ,H a=some (.ext φ):=by
  obtain ⟨_,_,xs,o,es,ep,e,_⟩:=d
  exact ⟨_,e⟩
theorem dn_rd {P:Program} {w:World} {H:Hp} {h:Heap} {a:Addr} {kvs:List (NK × V)} (ok:HOk P w H h) (d:DN P w H a kvs):kvs.length≤sizeLine∧(a == sysModules)=false ∧
    ∃ xs,KN H kvs xs∧h.DictOfH (nkKind P w) a xs:=by
  obtain ⟨z,hd,xs,o,es,ep,e,r,h2,h3,h4,h5⟩:=d
  obtain ⟨h1,_⟩:=(show ObjOk P w H h a (.ext fun h=>h.get? a=some o) from ok a _ e)
  refine ⟨z,hd,xs,r,o,es,ep,h1,h2,h3,h4,fun x hx => ?_,h5⟩
  have all:∀ {l:List (NK × V)} {m:List (NK × Addr × Value)},KN H l m→∀ x∈m,(nkKind P w).is h x.1 x.2.1:=by
    intro l m q
    induction q with
    | nil=>intro x hx;exact nomatch hx
    | @cons p q ps qs hq t ih =>
      intro x hx
      rcases List.mem_cons.mp hx with e | hx
      · subst e
        exact nkey_of ok (by rw [← hq.1];exact hq.2.1)
      · exact ih x hx
  exact all r x hx
theorem ext_ok {P:Program} {w:World} {H:Hp} {h:Heap} {a:Addr} {o:Obj} (e:h.get? a=some o):ObjOk P w H h a (.ext fun h=>h.get? a=some o):=⟨e,⟨o,e⟩,fun h1 h2 e1 k=>k o e1⟩
section
variable {X:Cx} {pins:List (Addr × Obj)} {σ : St} {H:Hp} {s:Shared} {a b:Addr} {kvs kvs':List (NK × V)} {k:NK} {y v:V} {u r:Value} {A:Around} {E:Value→Shared→Prop}
theorem dn_write {h':Heap} {t':Nat} {xs':List (NK × Addr × Value)} (I:Inv X pins σ H s) (d:DN X.prog X.w H a kvs) (hs:Heap.SameBut a s.heap h') (dd:h'.DictOfH (nkKind X.prog X.w) a xs') (rel:KN H kvs' xs') (hl:kvs'.length≤sizeLine) :
    ∃ φ,Inv X pins σ (upd H a (.ext φ)) { s with heap:=h',toks:=t' }∧DN X.prog X.w (upd H a (.ext φ)) a kvs':=by
  obtain ⟨φ0,e0⟩:=d.ext
  have hd:=d.2.1
  obtain ⟨q,es,ep,hq,h2,h3,h4,_,h5⟩:=dd
  have ht:∀ c ys,H c=some (.tup ys)→(upd H a (.ext fun h=>h.get? a=some q)) c=some (.tup ys):=fun c ys ec=>by
    rw [upd_ne (ne_of ec e0 (fun z=>nomatch z))]
    exact ec
  exact ⟨_,d_write I (by rw [e0];exact True.intro) hs ⟨q,hq⟩ (ext_ok hq),hl,hd,xs',q,es,ep,upd_same,rel.keeps ht,h2,h3,h4,h5⟩
theorem KN.snoc {xs:List (NK × Addr × Value)} (rel:KN H kvs xs) (nk:NKey H k b) (rv:RelV v r):KN H (kvs ++ [(k,v)]) (xs ++ [(k,b,r)]):=Paired.snoc rel ⟨rfl,nk,rv⟩
theorem dn_setdefault {Q:Value→Shared→Prop} (hu:A.units+10 < cLine) (I:Inv X pins σ H s) (d:DN X.prog X.w H a kvs) (nk:NKey H k b) (rv:RelV v r) (hl:kvs.length < sizeLine)
    (h1:∀ v' w' s',valV kvs k=some v'→RelV v' w'→Inv X pins σ H s'→Q w' s') (h2:valV kvs k=none→∀ φ s',Inv X pins σ (upd H a (.ext φ)) s'→DN X.prog X.w (upd H a (.ext φ)) a (kvs ++ [(k,v)])→Q r s') :
    wpAny (model X.prog X.w) A (call (.builtin "dict.setdefault") [.ref a,.ref b,r]) Q E s:=by
  obtain ⟨z,hd,xs,rel,dd⟩:=dn_rd I.hok d
  have hz:xs.length≤sizeLine:=by rw [← Paired.length rel];exact z
  have ro:=rel.val k
  refine call_meetsIn PySem.F.slot_dict_setdefault dd.typeIs PySem.F.entry_dict_setdefault (PySem.F.args_dict_setdefault_3 _ _ _) (meetsH_dict_setdefault (nkKind X.prog X.w) a b hd r)
    ⟨(show A.units+1+5 < cLine by omega),k,xs,nkey_of I.hok nk,dd,hz,fun p hp => ?_,fun hn h' dd' hs => ?_⟩
  · rw [hp] at ro
    cases e:valV kvs k with
    | none=>rw [e] at ro;exact ro.elim
    | some v'=>rw [e] at ro;exact h1 v' _ _ e ro (I.tok _)
  · rw [hn] at ro
    cases e:valV kvs k with
    | some v'=>rw [e] at ro;exact ro.elim
    | none =>
      obtain ⟨φ,I',d'⟩:=dn_write (t':=s.toks+(nkKind X.prog X.w).draws k) I d hs dd' (rel.snoc nk rv) (by rw [List.length_append];exact hl)
      exact h2 e φ _ I' d'
end
noncomputable def tSetD (P:Program) (w:World) (td ty tx:TE):TE:=fun σ H Q=>td σ H fun x H1=>∃ a,x = .ref a∧(∃ kvs,DN P w H1 a kvs)∧ty σ H1 fun y H2=>tx σ H2 fun z H3=>∃ kvs k b,DN P w H3 a kvs∧y = .ref b∧NKey H3 k b∧kvs.length < sizeLine ∧
  (∀ v,valV kvs k=some v→Q v H3)∧(valV kvs k=none→∀ φ,DN P w (upd H3 a (.ext φ)) a (kvs ++ [(k,z)])→Q z (upd H3 a (.ext φ)))
theorem isN_at {X:Cx} {pins:List (Addr × Obj)} {σ : St} {H:Hp} {s:Shared} {a:Addr} (I:Inv X pins σ H s) (d:∃ kvs,DN X.prog X.w H a kvs) :
    s.TypeIs (.ref a) "dict" ∧ (∀ b,Value.ref a = .ref b→∃ ob,s.heap.get? b=some ob∧ob.dict=none)∧(a == sysModules)=false:=by
  obtain ⟨kvs,e⟩:=d
  obtain ⟨_,hd,xs,_,dd⟩:=dn_rd I.hok e
  refine ⟨dd.typeIs,fun b q => ?_,hd⟩
  cases q
  obtain ⟨ob,_,_,h1,h2,_⟩:=dd
  exact ⟨ob,h1,h2.2.1⟩
section
variable {X:Cx} {o e f:Expr} {apos cpos:Pos} {td ty tx:TE}
theorem pe_setD (hu:X.A.units+10 < cLine) (ho:PE X o td) (he:PE X e ty) (hf:PE X f tx) (m:M2 X o "setdefault" apos e f cpos):PE X (.Call (.Attribute o "setdefault" apos) [e,f] [] cpos) (tSetD X.prog X.w td ty tx):=by
  intro pins s σ H Q I h
  refine wpAny_Call_method m.base m.few m.line PySem.F.plainAttrs_dict PySem.F.slot_dict_setdefault PySem.F.type_dict_setdefault (thn (ho pins s σ H _ I h) fun u s1 ⟨x,H1,I1,rx,a,ex,d,q1⟩ => ?_)
  subst ex
  obtain rfl:u=Value.ref a:=rx
  obtain ⟨t1,t2,_⟩:=isN_at I1 d
  refine ⟨t1,t2,?_⟩
  rw [m.trees]
  refine Calls.callWith_builtin rfl (Calls.evalArgs_plain (Calls.spliced_cons (thn (he pins s1 σ H1 _ I1 q1) fun iv s2 ⟨y,H2,I2,ry,q2⟩ =>
    Calls.spliced_cons (thn (hf pins s2 σ H2 _ I2 q2) fun fv s3 ⟨z,H3,I3,rz,kvs,k,b,d3,ey,nk,hl,q3,q4⟩=>Calls.spliced_nil ?_))))
  subst ey
  obtain rfl:iv=Value.ref b:=ry
  exact dn_setdefault hu I3 d3 nk rz hl (fun v' w' s4 e4 r4 I4=>⟨v',H3,I4,r4,q3 v' e4⟩) fun hn φ s4 I4 d4=>⟨z,_,I4,rz,q4 hn φ d4⟩
noncomputable def tDNewN (P:Program) (w:World):TE:=fun _ H Q=>∀ p φ,H p=none→DN P w (upd H p (.ext φ)) p []→Q (.ref p) (upd H p (.ext φ))
theorem pe_dnewN {pos:Pos}:PE X (.Dict [] [] pos) (tDNewN X.prog X.w):=by
  intro pins s σ H Q I h
  have hd:(s.heap.objs.size == sysModules)=false:=beq_eq_false_iff_ne.mpr (Ne.symm (Nat.ne_of_lt I.big))
  refine wpAny_Dict_empty ⟨.ref s.heap.objs.size,_,I.laid (a:=s.heap.objs.size) (o := .ext fun h=>h.get? s.heap.objs.size=some { cls := .type "dict",data := .dict #[] }) (t':=s.toks) (fun _ _ q=>Heap.get?_push_of_some _ q) (Nat.le_refl _) (ext_ok (Heap.get?_push_size _ rfl)),rfl,h _ _ (I.hok.fresh (Nat.le_refl _)) ?_⟩
  exact ⟨Nat.zero_le _,hd, [],_, #[],0,upd_same,.nil,⟨rfl,rfl,rfl⟩,rfl,rfl,List.nodup_nil⟩
end
end L2
namespace Sw
inductive TM (S:Type) where
  | num (n:Int) | name (x:S) | of (x:S) (as:List Nat)
section
variable {S:Type}
inductive Eqv (ts:List (TM S)) (es:List (Nat × Nat)):Nat→Nat→Prop where
  | refl (i:Nat):Eqv ts es i i
  | symm {i j:Nat}:Eqv ts es i j→Eqv ts es j i
  | trans {i j k:Nat}:Eqv ts es i j→Eqv ts es j k→Eqv ts es i k
  | edge {i j:Nat}:(i,j)∈es→Eqv ts es i j
  | same {i j:Nat} {t:TM S}:ts[i]? = some t→ts[j]? = some t→Eqv ts es i j
  | cong {i j:Nat} {x:S} {as bs:List Nat}:ts[i]? = some (.of x as)→ts[j]? = some (.of x bs)→as.length=bs.length→(∀ (k a b:Nat),as[k]? = some a→bs[k]? = some b→Eqv ts es a b)→Eqv ts es i j
noncomputable def GoodL (ls:List Nat):Prop := ∀ k v:Nat,ls[k]? = some v→v≤k∧ls[v]? = some v
noncomputable def ren (hi lo v:Nat):Nat:=if v=hi then lo else v
noncomputable def jn (ls:List Nat) (hi lo:Nat):List Nat:=ls.map (ren hi lo)
theorem jn_at {ls:List Nat} {hi lo k:Nat}:(jn ls hi lo)[k]? = (ls[k]?).map (ren hi lo):=by unfold jn;rw [List.getElem?_map]
theorem jn_len {ls:List Nat} {hi lo:Nat}:(jn ls hi lo).length=ls.length:=by unfold jn;rw [List.length_map]
theorem good_jn {ls:List Nat} {hi lo:Nat} (g:GoodL ls) (hlo:ls[lo]? = some lo) (hl:lo < hi):GoodL (jn ls hi lo):=by
  intro k v h
  rw [jn_at] at h
  cases e:ls[k]? with
  | none=>rw [e] at h;cases h
  | some u =>
    rw [e] at h
    have h':ren hi lo u=v:=Option.some.inj h
    obtain ⟨g1,g2⟩:=g k u e
    unfold ren at h'
    by_cases hu:u=hi
    · rw [if_pos hu] at h'
      subst h'
      refine ⟨by omega,?_⟩
      rw [jn_at,hlo]
      show some (ren hi lo lo)=some lo
      unfold ren
      rw [if_neg (by omega)]
    · rw [if_neg hu] at h'
      subst h'
      refine ⟨g1,?_⟩
      rw [jn_at,g2]
      show some (ren hi lo u)=some u
      unfold ren
      rw [if_neg hu]
noncomputable def Sound (ts:List (TM S)) (es:List (Nat × Nat)) (ls:List Nat):Prop := ∀ k v:Nat,ls[k]? = some v→Eqv ts es k v
theorem sound_jn {ts:List (TM S)} {es:List (Nat × Nat)} {ls:List Nat} {hi lo:Nat} (h:Sound ts es ls) (e:Eqv ts es hi lo):Sound ts es (jn ls hi lo):=by
  intro k v q
  rw [jn_at] at q
  cases z:ls[k]? with
  | none=>rw [z] at q;cases q
  | some u =>
    rw [z] at q
    have h':ren hi lo u=v:=Option.some.inj q
    have:=h k u z
    unfold ren at h'
    by_cases hu:u=hi
    · rw [if_pos hu] at h'
      subst h' hu
      exact .trans this e
    · rw [if_neg hu] at h'
      subst h'
      exact this
noncomputable def Keeps (ls ls':List Nat):Prop := ∀ i j v:Nat,ls[i]? = some v→ls[j]? = some v→∃ u,ls'[i]? = some u∧ls'[j]? = some u
theorem keeps_refl (ls:List Nat):Keeps ls ls:=fun i j v h1 h2=>⟨v,h1,h2⟩
theorem Keeps.trans {a b c:List Nat} (h:Keeps a b) (h':Keeps b c):Keeps a c:=fun i j v h1 h2=>by
  obtain ⟨u,e1,e2⟩:=h i j v h1 h2
  exact h' i j u e1 e2
theorem keeps_jn (ls:List Nat) (hi lo:Nat):Keeps ls (jn ls hi lo):=fun i j v h1 h2=>⟨ren hi lo v,by rw [jn_at,h1];rfl,by rw [jn_at,h2];rfl⟩
theorem sum_ren {hi lo:Nat} (hl:lo≤hi):∀ ls:List Nat,(ls.map (ren hi lo)).sum≤ls.sum
  | []=>Nat.le_refl _
  | v :: ls=>by
    have:=sum_ren hl ls
    rw [List.map_cons,List.sum_cons,List.sum_cons]
    have h1:ren hi lo v≤v:=by unfold ren;split <;> omega
    omega
theorem sum_jn {hi lo:Nat} (hl:lo < hi):∀ {ls:List Nat},hi∈ls→(jn ls hi lo).sum < ls.sum
  | v :: ls,h=>by
    unfold jn
    rw [List.map_cons,List.sum_cons,List.sum_cons]
    have h1:ren hi lo v≤v:=by unfold ren;split <;> omega
    have h2:=sum_ren (hi:=hi) (lo:=lo) (by omega) ls
    rcases List.mem_cons.mp h with e | e
    · have:ren hi lo v < v:=by unfold ren;rw [if_pos e.symm];omega
      omega
    · have:=sum_jn hl e
      unfold jn at this
      omega
noncomputable def mix (ls:List Nat) (hi lo m:Nat):List Nat:=ls.mapIdx fun k v=>if k < m then ren hi lo v else v
theorem mix_at {ls:List Nat} {hi lo m k:Nat}:(mix ls hi lo m)[k]? = (ls[k]?).map fun v=>if k < m then ren hi lo v else v:=by unfold mix;rw [List.getElem?_mapIdx]
theorem mix_len {ls:List Nat} {hi lo m:Nat}:(mix ls hi lo m).length=ls.length:=by unfold mix;rw [List.length_mapIdx]
theorem mix_start {ls:List Nat} {hi lo:Nat} (g:GoodL ls):mix ls hi lo hi=ls:=by
  refine List.ext_getElem? fun k => ?_
  rw [mix_at]
  cases e:ls[k]? with
  | none=>rfl
  | some v =>
    have:=(g k v e).1
    show some _=some _
    dsimp only
    by_cases hk:k < hi
    · rw [if_pos hk];unfold ren;rw [if_neg (by omega)]
    · rw [if_neg hk]
theorem mix_set {ls:List Nat} {hi lo m v:Nat} (h:ls[m]? = some v):(mix ls hi lo m).set m (ren hi lo v)=mix ls hi lo (m+1):=by
  have hm:=(List.getElem?_eq_some_iff.mp h).1
  refine List.ext_getElem? fun k => ?_
  rw [List.getElem?_set,mix_at,mix_at,mix_len]
  by_cases hk:m=k
  · subst hk
    rw [if_pos rfl,if_pos hm,h]
    show some _=some _
    dsimp only
    rw [if_pos (by omega)]
  · rw [if_neg hk]
    cases e:ls[k]? with
    | none=>rfl
    | some u =>
      show some _=some _
      dsimp only
      by_cases h1:k < m
      · rw [if_pos h1,if_pos (by omega)]
      · rw [if_neg h1,if_neg (by omega)]
theorem mix_stay {ls:List Nat} {hi lo m v:Nat} (h:ls[m]? = some v) (hv:v≠hi):mix ls hi lo (m+1)=mix ls hi lo m:=by
  refine List.ext_getElem? fun k => ?_
  rw [mix_at,mix_at]
  by_cases hk:k=m
  · subst hk
    rw [h]
    show some _=some _
    dsimp only
    rw [if_pos (by omega),if_neg (by omega)]
    unfold ren
    rw [if_neg hv]
  · cases e:ls[k]? with
    | none=>rfl
    | some u =>
      show some _=some _
      dsimp only
      by_cases h1:k < m
      · rw [if_pos h1,if_pos (by omega)]
      · rw [if_neg h1,if_neg (by omega)]
theorem mix_end {ls:List Nat} {hi lo m:Nat} (h:ls.length≤m):mix ls hi lo m=jn ls hi lo:=by
  refine List.ext_getElem? fun k => ?_
  rw [mix_at,jn_at]
  cases e:ls[k]? with
  | none=>rfl
  | some u =>
    have:=(List.getElem?_eq_some_iff.mp e).1
    show some _=some _
    dsimp only
    rw [if_pos (by omega)]
noncomputable def mk (ls:List Nat):TM S→TM S
  | .num n => .num n
  | .name x => .name x
  | .of x as => .of x (as.map fun a=>ls.getD a 0)
noncomputable def Stands (ts:List (TM S)) (es:List (Nat × Nat)):TM S→TM S→Prop
  | .of x as,.of y vs=>x=y∧as.length=vs.length∧∀ k a v:Nat,as[k]? = some a→vs[k]? = some v→Eqv ts es a v
  | t,m=>t=m
theorem stands_mk {ts:List (TM S)} {es:List (Nat × Nat)} {ls:List Nat} (h:Sound ts es ls):∀ {t:TM S},(∀ x as,t = .of x as→∀ a∈as,a < ls.length)→Stands ts es t (mk ls t)
  | .num n,_=>rfl
  | .name x,_=>rfl
  | .of x as,hb=>by
    refine ⟨rfl,by rw [List.length_map],fun k a v h1 h2 => ?_⟩
    rw [List.getElem?_map,h1] at h2
    have e:ls.getD a 0=v:=Option.some.inj h2
    have ha:=hb x as rfl a (List.mem_of_getElem? h1)
    rw [List.getD_eq_getElem?_getD,List.getElem?_eq_getElem ha] at e
    refine h a v ?_
    rw [List.getElem?_eq_getElem ha, ← e]
    rfl
theorem stands_eqv {ts:List (TM S)} {es:List (Nat × Nat)} {i j:Nat} {t u m:TM S} (hi:ts[i]? = some t) (hj:ts[j]? = some u) (h1:Stands ts es t m) (h2:Stands ts es u m):Eqv ts es i j:=by
  cases t with
  | num n =>
    have e:TM.num n=m:=h1
    subst e
    cases u with
    | num k=>cases (show TM.num k=TM.num n from h2);exact .same hi hj
    | name y=>cases (show TM.name y=TM.num n from h2)
    | of y bs=>cases (show TM.of y bs=TM.num n from h2)
  | name x =>
    have e:TM.name x=m:=h1
    subst e
    cases u with
    | num k=>cases (show TM.num k=TM.name x from h2)
    | name y=>cases (show TM.name y=TM.name x from h2);exact .same hi hj
    | of y bs=>cases (show TM.of y bs=TM.name x from h2)
  | of x as =>
    cases m with
    | num k=>cases (show TM.of x as=TM.num k from h1)
    | name y=>cases (show TM.of x as=TM.name y from h1)
    | of y vs =>
      obtain ⟨rfl,l1,q1⟩:=h1
      cases u with
      | num k=>cases (show TM.num k=TM.of x vs from h2)
      | name z=>cases (show TM.name z=TM.of x vs from h2)
      | of z bs =>
        obtain ⟨rfl,l2,q2⟩:=h2
        refine .cong hi hj (by omega) fun k a b ha hb => ?_
        have hk:k < vs.length:=by have:=(List.getElem?_eq_some_iff.mp ha).1;omega
        exact .trans (q1 k a _ ha (List.getElem?_eq_getElem hk)) (.symm (q2 k b _ hb (List.getElem?_eq_getElem hk)))
noncomputable def Closed (ts:List (TM S)) (es:List (Nat × Nat)) (ls:List Nat):Prop :=
  ls.length=ts.length∧GoodL ls∧Sound ts es ls∧∀ i j:Nat,i < ts.length→j < ts.length→Eqv ts es i j→ls[i]? = ls[j]?
noncomputable def Arms (ts:List (TM S)):Prop := ∀ (i:Nat) (x:S) (as:List Nat),ts[i]? = some (.of x as)→∀ a∈as,a < i
theorem complete {ts:List (TM S)} {es:List (Nat × Nat)} {ls:List Nat} (ha:Arms ts) (he:∀ a b:Nat,(a,b)∈es→a < ts.length∧b < ts.length) (hl:ls.length=ts.length)
    (h1:∀ a b:Nat,(a,b)∈es→ls[a]? = ls[b]?) (h2:∀ (i j:Nat) (t u:TM S),ts[i]? = some t→ts[j]? = some u→mk ls t=mk ls u→ls[i]? = ls[j]?) {i j:Nat} (h:Eqv ts es i j):ls[i]? = ls[j]? := by
  induction h with
  | refl i=>rfl
  | symm _ ih=>exact ih.symm
  | trans _ _ ih1 ih2=>exact ih1.trans ih2
  | edge h=>exact h1 _ _ h
  | same q1 q2=>exact h2 _ _ _ _ q1 q2 rfl
  | @cong i j x as bs q1 q2 hl' _ ih =>
    refine h2 _ _ _ _ q1 q2 ?_
    have e:as.map (fun a=>ls.getD a 0)=bs.map (fun a=>ls.getD a 0):=by
      refine List.ext_getElem? fun k => ?_
      rw [List.getElem?_map,List.getElem?_map]
      by_cases hk:k < as.length
      · have e1:=List.getElem?_eq_getElem (l:=as) hk
        have e2:=List.getElem?_eq_getElem (l:=bs) (show k < bs.length by omega)
        have:=ih k _ _ e1 e2
        rw [e1,e2]
        show some (ls.getD _ 0)=some (ls.getD _ 0)
        rw [List.getD_eq_getElem?_getD,List.getD_eq_getElem?_getD,this]
      · rw [List.getElem?_eq_none (by omega),List.getElem?_eq_none (by omega)]
    show TM.of x _=TM.of x _
    rw [e]
theorem closed_one {ts:List (TM S)} {es:List (Nat × Nat)} {ls ls':List Nat} (h:Closed ts es ls) (h':Closed ts es ls'):ls=ls':=by
  obtain ⟨l1,g1,s1,c1⟩:=h
  obtain ⟨l2,g2,s2,c2⟩:=h'
  refine List.ext_getElem? fun k => ?_
  by_cases hk:k < ts.length
  · have e1:=List.getElem?_eq_getElem (l:=ls) (show k < ls.length by omega)
    have e2:=List.getElem?_eq_getElem (l:=ls') (show k < ls'.length by omega)
    obtain ⟨a1,b1⟩:=g1 k _ e1
    obtain ⟨a2,b2⟩:=g2 k _ e2
    have q1:=s1 k _ e1
    have q2:=s2 k _ e2
    have z1:=c2 k (ls[k]'(by omega)) hk (by omega) q1
    have z2:=c1 k (ls'[k]'(by omega)) hk (by omega) q2
    rw [e2] at z1
    rw [e1] at z2
    have y1:=(g2 _ _ z1.symm).1
    have y2:=(g1 _ _ z2.symm).1
    rw [e1,e2]
    have:ls[k]'(by omega)=ls'[k]'(by omega):=by omega
    rw [this]
  · rw [List.getElem?_eq_none (by omega),List.getElem?_eq_none (by omega)]
theorem good_id (n:Nat):GoodL (List.range n):=fun k v h=>by
  have hk:k < (List.range n).length:=(List.getElem?_eq_some_iff.mp h).1
  rw [List.length_range] at hk
  rw [List.getElem?_range hk] at h
  cases h
  exact ⟨Nat.le_refl _,List.getElem?_range hk⟩
theorem sound_id (ts:List (TM S)) (es:List (Nat × Nat)) (n:Nat):Sound ts es (List.range n):=fun k v h=>by
  have hk:k < (List.range n).length:=(List.getElem?_eq_some_iff.mp h).1
  rw [List.length_range] at hk
  rw [List.getElem?_range hk] at h
  cases h
  exact .refl _
end
end Sw
namespace L2
open PySem PySem.Spec PyProof.Rows

section
variable {X:Cx}
inductive J_call_range1V (xs:List V) (H:Hp) (Q:VK):Prop
  | mk:∀ (j:Int),(xs = [.int j])→(∀ p,H p=none→Q (.ref p) (upd H p (.rng 0 j)))→J_call_range1V xs H Q
theorem call_range1V:CallR X (.type "range") (fun xs H Q=>J_call_range1V xs H Q):=by
  intro pins s σ H xs us Q I r h
  obtain ⟨j,rfl,q⟩:=h
  obtain ⟨u,rfl,ru⟩:=vals1 r
  obtain ⟨t,rfl⟩:=ru
  exact call_range_1 ⟨.ref s.heap.objs.size,_,I.laid (a:=s.heap.objs.size) (o := .rng 0 j) (fun _ _ q=>Heap.get?_push_of_some _ q) (Nat.le_refl _) ⟨_,_,_,Heap.get?_push_size _ rfl⟩,rfl,q _ (I.hok.fresh (Nat.le_refl _))⟩
inductive J_call_list_rng (xs:List V) (H:Hp) (Q:VK):Prop
  | mk:∀ (p:Addr) (n:Nat),(xs = [.ref p])→(H p=some (.rng 0 (n:Int)))→(n≤1000000)→(∀ l,H l=none→Q (.ref l) (upd H l (.lst ((List.range n).map fun i:Nat=>V.int (i:Int)))))→J_call_list_rng xs H Q
theorem call_list_rng (hc:X.calm=true):CallR X (.type "list") (fun xs H Q=>J_call_list_rng xs H Q):=by
  intro pins s σ H xs us Q I r h
  obtain ⟨p,n,rfl,hp,hn,q⟩:=h
  obtain ⟨u,rfl,ru⟩:=vals1 r
  cases (show u=Value.ref p from ru)
  obtain ⟨t,t',t'',e⟩:=(show ObjOk X.prog X.w H s.heap p (.rng 0 (n:Int)) from I.hok p _ hp)
  have hz:Builtin.Range.rangeSize 0 (n:Int) 1=n:=by rw [rangeSize_one];split <;> omega
  refine call_list_range (I.ok.hd hc) e (small_one (by omega) (by omega) (by omega) (by omega)) hz (by omega) fun h' tk acc' c' kp hS hacc => ?_
  refine ⟨.ref s.heap.objs.size,_,I.laid kp (Nat.le_refl _) (show ObjOk X.prog X.w _ h' _ (.lst ((List.range n).map fun i:Nat=>V.int (i:Int))) from ⟨?_,acc'.toList,c',?_,by simpa using hS⟩),rfl,q _ (I.hok.fresh (Nat.le_refl _))⟩
  · rw [List.length_map,List.length_range]
    exact Nat.le_trans hn (by decide)
  · refine valsBy (by rw [List.length_map,List.length_range,Array.length_toList];exact hacc.1.symm) fun j x v hx hv => ?_
    obtain ⟨t2,ht2⟩:=hacc.2 j v (by rw [← Array.getElem?_toList];exact hv)
    rw [List.getElem?_map] at hx
    have hj:j < n:=by
      have:=(List.getElem?_eq_some_iff.mp hv).1
      rw [Array.length_toList,hacc.1] at this
      exact this
    rw [List.getElem?_range hj] at hx
    have ex:V.int ((j:Nat):Int)=x:=Option.some.inj hx
    rw [← ex,ht2]
    exact ⟨t2,by congr 1;omega⟩
where
  valsBy:∀ {xs:List V} {us:List Value},xs.length=us.length→(∀ (j:Nat) x u,xs[j]? = some x→us[j]? = some u→RelV x u)→Vals xs us
  | [], [],_,_ => .nil
  | [],_ :: _,h,_=>by cases h
  | _ :: _, [],h,_=>by cases h
  | x :: xs,u :: us,h,f => .cons (f 0 x u rfl rfl) (valsBy (by simpa using h) fun j a b ha hb=>f (j+1) a b (by simpa using ha) (by simpa using hb))
end
theorem un10 {k:Nat} {A:Around} (hr:Room k A):A.units+10 < cLine:=by have:=hr.un;omega
theorem un101 {k:Nat} {A:Around} (hr:Room k A):A.units+151 < cLine:=by have:=hr.un;omega
end L2
namespace Sw
open PySem L2
noncomputable abbrev Tm:=TM Str
noncomputable abbrev nV (n:Nat):V:=V.int (n:Int)
noncomputable def IsTm (H:Hp):Tm→V→Prop
  | .num n,v=>∃ a,v = .ref a∧H a=some (.tup [.str "num",.int n])
  | .name x,v=>∃ a,v = .ref a∧H a=some (.tup [.str "name",.str x])
  | .of x as,v=>∃ a b,v = .ref a∧H a=some (.tup [.str "of",.str x,.ref b])∧H b=some (.tup (as.map nV))
theorem IsTm.keep {H H':Hp} (ht:∀ b ys,H b=some (.tup ys)→H' b=some (.tup ys)):∀ {t:Tm} {v:V},IsTm H t v→IsTm H' t v
  | .num n,v,h=>by obtain ⟨a,e,h⟩:=h;exact ⟨a,e,ht _ _ h⟩
  | .name x,v,h=>by obtain ⟨a,e,h⟩:=h;exact ⟨a,e,ht _ _ h⟩
  | .of x as,v,h=>by obtain ⟨a,b,e,h,h2⟩:=h;exact ⟨a,b,e,ht _ _ h,ht _ _ h2⟩
noncomputable abbrev Tms (H:Hp):List V→List Tm→Prop:=Paired fun v t=>IsTm H t v
theorem tms_keep {H H':Hp} {us:List V} {ts:List Tm} (ht:∀ b ys,H b=some (.tup ys)→H' b=some (.tup ys)) (h:Tms H us ts):Tms H' us ts:=Paired.mapP h fun _ _ z=>z.keep ht
theorem tms_same {H H':Hp} {us:List V} {ts:List Tm} (sm:Same H H') (h:Tms H us ts):Tms H' us ts:=tms_keep (fun b ys=>sm _ _) h
theorem tms_at {H:Hp}:∀ {us:List V} {ts:List Tm} {i:Nat} {v:V},Tms H us ts→us[i]? = some v→∃ t,ts[i]? = some t∧IsTm H t v
  | _,_,_,_,.nil,e=>by simp at e
  | _,_,0,_,.cons h _,e=>by simp at e;subst e;exact ⟨_,rfl,h⟩
  | _,_,i+1,v,.cons _ r,e=>by
    obtain ⟨t,e',h⟩:=tms_at (i:=i) (v:=v) r (by simpa using e)
    exact ⟨t,by simpa using e',h⟩
theorem tms_snoc {H:Hp} {us:List V} {ts:List Tm} {v:V} {t:Tm} (h:Tms H us ts) (q:IsTm H t v):Tms H (us ++ [v]) (ts ++ [t]):=Paired.snoc h q
noncomputable def tmNK:Tm→NK
  | .num n => [.inl (.inr "num"),.inl (.inl n)]
  | .name x => [.inl (.inr "name"),.inl (.inr x)]
  | .of x as => [.inl (.inr "of"),.inl (.inr x),.inr (as.map fun n:Nat=>(.inl (n:Int):Key))]
theorem tmNK_inj:∀ {t u:Tm},tmNK t=tmNK u→t=u
  | .num n,.num m,e=>by unfold tmNK at e;simp at e;rw [e]
  | .name x,.name y,e=>by unfold tmNK at e;simp at e;rw [e]
  | .of x as,.of y bs,e=>by
    unfold tmNK at e
    simp only [List.cons.injEq,Sum.inl.injEq,Sum.inr.injEq,and_true,true_and] at e
    rw [e.1]
    have:=map_inj_of (f:=fun n:Nat=>(.inl (n:Int):Key)) (fun a b h=>by have h:=Sum.inl.inj h;omega) e.2
    rw [this]
  | .num n,.name y,e=>by
    unfold tmNK at e
    simp only [List.cons.injEq,Sum.inl.injEq,Sum.inr.injEq] at e
    exact absurd e.1 (by decide)
  | .name n,.num y,e=>by
    unfold tmNK at e
    simp only [List.cons.injEq,Sum.inl.injEq,Sum.inr.injEq] at e
    exact absurd e.1 (by decide)
  | .num n,.of y bs,e=>by unfold tmNK at e;simp at e
  | .name n,.of y bs,e=>by unfold tmNK at e;simp at e
  | .of y bs,.num n,e=>by unfold tmNK at e;simp at e
  | .of y bs,.name n,e=>by unfold tmNK at e;simp at e
theorem nV_kV (as:List Nat):as.map nV=(as.map fun n:Nat=>(.inl (n:Int):Key)).map kV:=by
  rw [List.map_map];rfl
theorem IsTm.key {H:Hp}:∀ {t:Tm} {v:V},IsTm H t v→∃ b,v = .ref b∧NKey H (tmNK t) b
  | .num n,v,h=>by
    obtain ⟨a,e,h⟩:=h
    refine ⟨a,e,_,h,?_⟩
    exact ⟨_,rfl,_,rfl,rfl⟩
  | .name x,v,h=>by
    obtain ⟨a,e,h⟩:=h
    refine ⟨a,e,_,h,?_⟩
    exact ⟨_,rfl,_,rfl,rfl⟩
  | .of x as,v,h=>by
    obtain ⟨a,b,e,h,h2⟩:=h
    refine ⟨a,e,_,h,?_⟩
    rw [nV_kV] at h2
    exact ⟨_,rfl,_,rfl,b,_,rfl,h2,rfl⟩
noncomputable def tmD:Tm→D
  | .num n => .tup [.str "num",.int n]
  | .name x => .tup [.str "name",.str x]
  | .of x as => .tup [.str "of",.str x,.tup (as.map fun n:Nat => .int (n:Int))]
theorem dens_ints {H:Hp}:∀ as:List Nat,Dens H (as.map fun n:Nat=>D.int (n:Int)) (as.map nV)
  | []=>by rw [List.map_nil,List.map_nil];exact dens_nil
  | a :: as=>by rw [List.map_cons,List.map_cons];exact dens_cons (by rw [Den];exact .inl rfl) (dens_ints as)
theorem IsTm.den {H:Hp}:∀ {t:Tm} {v:V},IsTm H t v→Den H (tmD t) v
  | .num n,v,h=>by
    obtain ⟨a,e,h⟩:=h
    rw [tmD,Den]
    exact ⟨a,_,e,h,dens_cons (by rw [Den]) (dens_cons (by rw [Den];exact .inl rfl) dens_nil)⟩
  | .name x,v,h=>by
    obtain ⟨a,e,h⟩:=h
    rw [tmD,Den]
    exact ⟨a,_,e,h,dens_cons (by rw [Den]) (dens_cons (by rw [Den]) dens_nil)⟩
  | .of x as,v,h=>by
    obtain ⟨a,b,e,h,h2⟩:=h
    rw [tmD,Den]
    exact ⟨a,_,e,h,dens_cons (by rw [Den]) (dens_cons (by rw [Den]) (dens_cons (by rw [Den];exact ⟨b,_,rfl,h2,dens_ints as⟩) dens_nil))⟩
theorem tms_den {H:Hp} {us:List V} {ts:List Tm} (h:Tms H us ts):Dens H (ts.map tmD) us:=by
  induction h with
  | nil=>exact dens_nil
  | cons h _ ih=>rw [List.map_cons];exact dens_cons h.den ih
theorem ints_deep:∀ as:List Nat,D.deeps (as.map fun n:Nat=>D.int (n:Int))=0
  | []=>by rw [List.map_nil,D.deeps]
  | a :: as=>by rw [List.map_cons,D.deeps,ints_deep as,D.deep];rfl
theorem tm_deep:∀ t:Tm,(tmD t).deep≤2
  | .num n=>by rw [tmD,D.deep,D.deeps,D.deeps,D.deeps,D.deep,D.deep];decide
  | .name n=>by rw [tmD,D.deep,D.deeps,D.deeps,D.deeps,D.deep,D.deep];decide
  | .of x as=>by rw [tmD,D.deep,D.deeps,D.deeps,D.deeps,D.deeps,D.deep,D.deep,D.deep,ints_deep];decide
theorem tms_deep:∀ ts:List Tm,D.deeps (ts.map tmD)≤2
  | []=>by rw [List.map_nil,D.deeps];omega
  | t :: ts=>by rw [List.map_cons,D.deeps];have:=tms_deep ts;have:=tm_deep t;omega
theorem tmD_inj:∀ {t u:Tm},tmD t=tmD u→t=u
  | .num n,.num m,e=>by unfold tmD at e;simp at e;rw [e]
  | .name x,.name y,e=>by unfold tmD at e;simp at e;rw [e]
  | .of x as,.of y bs,e=>by
    unfold tmD at e
    simp only [D.tup.injEq,List.cons.injEq,D.str.injEq,and_true,true_and] at e
    rw [e.1]
    have:=map_inj_of (f:=fun n:Nat=>D.int (n:Int)) (fun a b h=>by have h:=D.int.inj h;omega) e.2
    rw [this]
  | .num n,.name y,e=>by
    unfold tmD at e
    simp only [D.tup.injEq,List.cons.injEq,D.str.injEq] at e
    exact absurd e.1 (by decide)
  | .name n,.num y,e=>by
    unfold tmD at e
    simp only [D.tup.injEq,List.cons.injEq,D.str.injEq] at e
    exact absurd e.1 (by decide)
  | .num n,.of y bs,e=>by unfold tmD at e;simp at e
  | .name n,.of y bs,e=>by unfold tmD at e;simp at e
  | .of y bs,.num n,e=>by unfold tmD at e;simp at e
  | .of y bs,.name n,e=>by unfold tmD at e;simp at e
noncomputable def But (L:Addr) (H H':Hp):Prop := ∀ c o,c≠L→H c=some o→H' c=some o
theorem But.refl (L:Addr) (H:Hp):But L H H:=fun _ _ _ h=>h
theorem But.trans {L:Addr} {H H1 H2:Hp} (a:But L H H1) (b:But L H1 H2):But L H H2:=fun c o n h=>b c o n (a c o n h)
theorem But.same {L:Addr} {H H1 H2:Hp} (a:But L H H1) (b:Same H1 H2):But L H H2:=fun c o n h=>b c o (a c o n h)
theorem But.put {L:Addr} {H H1:Hp} {o:HO} (a:But L H H1):But L H (upd H1 L o):=fun c u n h=>by rw [upd_ne n];exact a c u n h
theorem But.new {L p:Addr} {H H1:Hp} {o:HO} (a:But L H H1) (hp:H p=none):But L H (upd H1 p o):=fun c u n h=>by rw [upd_ne (ne_of_none h hp)];exact a c u n h
theorem But.tup {L:Addr} {H H1:Hp} {ls:List V} (a:But L H H1) (hL:H L=some (.lst ls)):∀ b ys,H b=some (.tup ys)→H1 b=some (.tup ys):=fun b ys h=>a b _ (ne_of h hL (fun z=>nomatch z)) h
noncomputable def EdgeAt (H:Hp) (v:V) (e:Nat × Nat):Prop := ∃ a rest,v = .ref a∧H a=some (.tup (nV e.1 :: nV e.2 :: rest))
noncomputable abbrev Edges (H:Hp):List V→List (Nat × Nat)→Prop:=Paired (EdgeAt H)
theorem edges_at {H:Hp}:∀ {us:List V} {ts:List (Nat × Nat)} {i:Nat} {v:V},Edges H us ts→us[i]? = some v→∃ t,ts[i]? = some t∧EdgeAt H v t
  | _,_,_,_,.nil,e=>by simp at e
  | _,_,0,_,.cons h _,e=>by simp at e;subst e;exact ⟨_,rfl,h⟩
  | _,_,i+1,v,.cons _ r,e=>by
    obtain ⟨t,e',h⟩:=edges_at (i:=i) (v:=v) r (by simpa using e)
    exact ⟨t,by simpa using e',h⟩
theorem rd_cut {t rest:TS} {D:Ends} {σ : St} {H:Hp} (R:St→Hp→Prop) (key:∀ σ' H',R σ' H'→rest D σ' H') (h:∀ {N:St→Hp→Prop},(∀ σ' H',R σ' H'→N σ' H')→t { D with nx:=N } σ H):tSeq t rest D σ H:=h key
theorem nV_at {ls:List Nat} {k v:Nat} (h:ls[k]? = some v):atI (ls.map nV) (k:Int)=some (nV v):=atI_nat (by rw [List.getElem?_map,h];rfl)
theorem nV_set {ls:List Nat} {k v:Nat}:(ls.map nV).set k (nV v)=(ls.set k v).map nV:=by rw [List.map_set]
noncomputable def abc:Str := "abcdefghijklmnopqrstuvwxyz"
noncomputable def letF (i:Int):Str:=⟨#[abc.cps.toList.getD (i % 26).toNat 97]⟩
theorem abcF_at (i:Int):atI abc.cps.toList (i % 26)=some (abc.cps.toList.getD (i % 26).toNat 97):=by
  have h0:0≤i % 26:=Int.emod_nonneg _ (by decide)
  have h1:i % 26 < 26:=Int.emod_lt_of_pos _ (by decide)
  have hl:abc.cps.toList.length=26:=by decide +kernel
  have hi:(i % 26).toNat < abc.cps.toList.length:=by omega
  have z:atI abc.cps.toList (((i % 26).toNat:Nat):Int)=some abc.cps.toList[(i % 26).toNat]:=atI_nat (List.getElem?_eq_getElem hi)
  have e:(((i % 26).toNat:Nat):Int)=i % 26:=by omega
  rw [e] at z
  rw [z,List.getD_eq_getElem?_getD,List.getElem?_eq_getElem hi]
  rfl
noncomputable abbrev Ed:=Nat × Nat × Int
noncomputable def EdAt (H:Hp) (v:V) (e:Ed):Prop := ∃ a b,v = .ref a∧H a=some (.tup [nV e.1,nV e.2.1,.int e.2.2,.ref b])∧H b=some (.tup [.str "told"])
theorem EdAt.keep {H H':Hp} {v:V} {e:Ed} (ht:∀ b ys,H b=some (.tup ys)→H' b=some (.tup ys)) (h:EdAt H v e):EdAt H' v e:=by
  obtain ⟨a,b,z,h,h2⟩:=h
  exact ⟨a,b,z,ht _ _ h,ht _ _ h2⟩
noncomputable abbrev Eds (H:Hp):List V→List Ed→Prop:=Paired (EdAt H)
theorem eds_keep {H H':Hp} {us:List V} {es:List Ed} (ht:∀ b ys,H b=some (.tup ys)→H' b=some (.tup ys)) (h:Eds H us es):Eds H' us es:=Paired.mapP h fun _ _ z=>z.keep ht
theorem eds_same {H H':Hp} {us:List V} {es:List Ed} (sm:Same H H') (h:Eds H us es):Eds H' us es:=eds_keep (fun b ys=>sm _ _) h
noncomputable def ends (es:List Ed):List (Nat × Nat):=es.map fun e=>(e.1,e.2.1)
theorem eds_edges {H:Hp} {us:List V} {es:List Ed} (h:Eds H us es):Edges H us (ends es):=by
  induction h with
  | nil=>exact .nil
  | cons h _ ih =>
    obtain ⟨a,b,z,h,_⟩:=h
    exact .cons ⟨a,_,z,h⟩ ih
noncomputable def edD (e:Ed):D := .tup [.int (e.1:Int),.int (e.2.1:Int),.int e.2.2,.tup [.str "told"]]
theorem EdAt.den {H:Hp} {v:V} {e:Ed} (h:EdAt H v e):Den H (edD e) v:=by
  obtain ⟨a,b,z,h,h2⟩:=h
  rw [edD,Den]
  exact ⟨a,_,z,h,dens_cons (by rw [Den];exact .inl rfl) (dens_cons (by rw [Den];exact .inl rfl) (dens_cons (by rw [Den];exact .inl rfl) (dens_cons (by rw [Den];exact ⟨b,_,rfl,h2,dens_one (by rw [Den])⟩) dens_nil)))⟩
theorem eds_den {H:Hp} {us:List V} {es:List Ed} (h:Eds H us es):Dens H (es.map edD) us:=by
  induction h with
  | nil=>exact dens_nil
  | cons h _ ih=>rw [List.map_cons];exact dens_cons h.den ih
theorem ed_deep (e:Ed):(edD e).deep≤2:=by
  rw [edD,D.deep,D.deeps,D.deeps,D.deeps,D.deeps,D.deeps,D.deep,D.deep,D.deep,D.deep,D.deeps,D.deeps,D.deep];decide
theorem eds_deep:∀ es:List Ed,D.deeps (es.map edD)≤2
  | []=>by rw [List.map_nil,D.deeps];omega
  | t :: ts=>by rw [List.map_cons,D.deeps];have:=eds_deep ts;have:=ed_deep t;omega
theorem paired_drop {α β : Type} {R : α → β → Prop}:∀ (n:Nat) {xs:List α} {ys:List β},Paired R xs ys→Paired R (xs.drop n) (ys.drop n)
  | 0,_,_,h=>h
  | _+1,_,_,.nil => .nil
  | n+1,_,_,.cons _ r=>paired_drop n r
theorem cut_drop {xs:List V} {k:Nat} (h:k≤xs.length):cutV xs (some (k:Int)) none=xs.drop k:=by
  unfold cutV
  rw [HT.sIx_nat,HT.sIx_none,Nat.min_eq_left h]
  exact List.take_of_length_le (by rw [List.length_drop];exact Nat.le_refl _)
end Sw
namespace Sw
open PySem L2

theorem slice_cps (x:Str) (lo hi:Option Int):(Txt.slice x lo hi).cps.toList=(x.cps.toList.drop (HT.sIx x.length 0 lo)).take (HT.sIx x.length x.length hi - HT.sIx x.length 0 lo):=by
  have hx:x.cps.toList.length=x.length:=by simp [Str.length]
  obtain ⟨h1,h2,h3⟩:=slice_bounds lo hi x.length
  have ha:HT.sIx x.length 0 lo≤x.length:=HT.sIx_le _ _ (Nat.zero_le _) _
  have hb:HT.sIx x.length x.length hi≤x.length:=HT.sIx_le _ _ (Nat.le_refl _) _
  have e:Builtin.Str.strSliceIndices lo hi 1 x.length=sliceRange ((HT.sIx x.length 0 lo:Nat):Int) ((HT.sIx x.length x.length hi:Nat):Int) 1:=by
    rw [← h1, ← h2]
    unfold Builtin.Str.strSliceIndices sliceBounds
    rfl
  have e2:((sliceRange ((HT.sIx x.length 0 lo:Nat):Int) ((HT.sIx x.length x.length hi:Nat):Int) 1).filterMap (x.cps[·]?))=(x.cps.toList.drop (HT.sIx x.length 0 lo)).take (HT.sIx x.length x.length hi - HT.sIx x.length 0 lo):=by
    rw [sliceRange_one,pick_run]
  unfold Txt.slice
  rw [e]
  split
  · rename_i hc
    have hl:(sliceRange ((HT.sIx x.length 0 lo:Nat):Int) ((HT.sIx x.length x.length hi:Nat):Int) 1).length=x.length:=by simpa using hc
    rw [sliceRange_one,List.length_map,List.length_range] at hl
    have ea:HT.sIx x.length 0 lo=0∨x.length=0:=by omega
    rcases ea with ea | ea
    · rw [ea,Nat.sub_zero] at hl ⊢
      rw [List.drop_zero,hl, ← hx,List.take_length]
    · have:x.cps.toList = []:=List.length_eq_zero_iff.mp (hx.trans ea)
      rw [this];simp
  · show (_:List Nat).toArray.toList=_
    rw [e2]

inductive T where
  | num (n:Int)
  | name (w:Str)
  | any (w:Str)
  | of (w:Str) (ts:List T)
mutual
noncomputable def T.parts:T→Nat
  | .num _=>1
  | .name _=>1
  | .any _=>1
  | .of _ ts=>1+T.partss ts
noncomputable def T.partss:List T→Nat
  | []=>0
  | t :: ts=>t.parts+T.partss ts
end
mutual
noncomputable def T.depth:T→Nat
  | .num _=>1
  | .name _=>1
  | .any _=>1
  | .of _ ts=>1+T.deepest ts
noncomputable def T.deepest:List T→Nat
  | []=>0
  | t :: ts=>max t.depth (T.deepest ts)
end
theorem deepest_le:∀ {ts:List T} {t:T},t∈ts→t.depth≤T.deepest ts
  | t' :: ts,t,h=>by
    rw [T.deepest]
    rcases List.mem_cons.mp h with rfl | h
    · exact Nat.le_max_left _ _
    · exact Nat.le_trans (deepest_le h) (Nat.le_max_right _ _)
theorem deepest_is:∀ {ts:List T} {M:Nat},(∀ t∈ts,t.depth≤M)→T.deepest ts≤M
  | [],_,_=>Nat.zero_le _
  | t :: ts,M,h=>by
    rw [T.deepest]
    exact Nat.max_le.mpr ⟨h t List.mem_cons_self,deepest_is fun t ht=>h t (List.mem_cons_of_mem _ ht)⟩
theorem depth_pos:∀ t:T,1≤t.depth
  | .num _=>by rw [T.depth];exact Nat.le_refl _
  | .name _=>by rw [T.depth];exact Nat.le_refl _
  | .any _=>by rw [T.depth];exact Nat.le_refl _
  | .of _ ts=>by rw [T.depth];omega

mutual
noncomputable def IsTr (H:Hp):T→V→Prop
  | .num n,v=>∃ a,v = .ref a∧H a=some (.tup [.str "num",.int n])
  | .name w,v=>∃ a,v = .ref a∧H a=some (.tup [.str "name",.str w])
  | .any w,v=>∃ a,v = .ref a∧H a=some (.tup [.str "any",.str w])
  | .of w ts,v=>∃ a b vs,v = .ref a∧H a=some (.tup [.str "of",.str w,.ref b])∧H b=some (.tup vs)∧IsTrs H ts vs
noncomputable def IsTrs (H:Hp):List T→List V→Prop
  | [],vs=>vs = []
  | t :: ts,vs=>∃ v r,vs=v :: r∧IsTr H t v∧IsTrs H ts r
end
mutual
theorem tr_keep {H H':Hp} (k:∀ a xs,H a=some (.tup xs)→H' a=some (.tup xs)):∀ {t:T} {v:V},IsTr H t v→IsTr H' t v
  | .num n,v,h=>by
    rw [IsTr] at h ⊢
    obtain ⟨a,e,h⟩:=h
    exact ⟨a,e,k _ _ h⟩
  | .name n,v,h=>by
    rw [IsTr] at h ⊢
    obtain ⟨a,e,h⟩:=h
    exact ⟨a,e,k _ _ h⟩
  | .any n,v,h=>by
    rw [IsTr] at h ⊢
    obtain ⟨a,e,h⟩:=h
    exact ⟨a,e,k _ _ h⟩
  | .of w ts,v,h=>by
    rw [IsTr] at h ⊢
    obtain ⟨a,b,vs,e,h1,h2,h3⟩:=h
    exact ⟨a,b,vs,e,k _ _ h1,k _ _ h2,trs_keep k h3⟩
theorem trs_keep {H H':Hp} (k:∀ a xs,H a=some (.tup xs)→H' a=some (.tup xs)):∀ {ts:List T} {vs:List V},IsTrs H ts vs→IsTrs H' ts vs
  | [],vs,h=>by rw [IsTrs] at h ⊢;exact h
  | t :: ts,vs,h=>by
    rw [IsTrs] at h ⊢
    obtain ⟨v,r,e,h1,h2⟩:=h
    exact ⟨v,r,e,tr_keep k h1,trs_keep k h2⟩
end
theorem tr_same {H H':Hp} (s:Same H H') {t:T} {v:V} (h:IsTr H t v):IsTr H' t v:=tr_keep (fun a xs e=>s _ _ e) h
noncomputable def notTup:HO→Prop
  | .tup _=>False
  | _=>True
theorem keep_put {H:Hp} {p:Addr} {o o':HO} (hp:H p=some o) (hn:notTup o):∀ a xs,H a=some (.tup xs)→upd H p o' a=some (.tup xs):=fun a xs e=>by
  have:a≠p:=fun z=>by
    rw [z,hp] at e
    cases e
    exact hn
  rw [upd_ne this];exact e
theorem trs_len {H:Hp}:∀ {ts:List T} {vs:List V},IsTrs H ts vs→ts.length=vs.length
  | [],vs,h=>by rw [IsTrs] at h;subst h;rfl
  | t :: ts,vs,h=>by
    rw [IsTrs] at h
    obtain ⟨v,r,rfl,_,h2⟩:=h
    rw [List.length_cons,List.length_cons,trs_len h2]
theorem trs_at {H:Hp}:∀ {ts:List T} {vs:List V} {i:Nat} {v:V},IsTrs H ts vs→vs[i]? = some v→∃ t,ts[i]? = some t∧IsTr H t v
  | [],vs,i,v,h,e=>by rw [IsTrs] at h;subst h;simp at e
  | t :: ts,vs,i,v,h,e=>by
    rw [IsTrs] at h
    obtain ⟨v',r,rfl,h1,h2⟩:=h
    cases i with
    | zero=>simp at e;subst e;exact ⟨t,rfl,h1⟩
    | succ i=>simpa using trs_at (i:=i) h2 (by simpa using e)

end Sw
namespace L2
open PySem PySem.Spec PyProof.Rows

section
variable {prog:Program} {w:World} {K:Type} [DecidableEq K] {knd:HeapKind prog w K} {A:Around} {E:Value→Shared→Prop} {s:Shared} {d:Addr} {xs:List (K × Addr × Value)}
end
section
variable {X:Cx} {pins:List (Addr × Obj)} {σ : St} {H:Hp} {s:Shared} {a b:Addr} {kvs kvs':List (NK × V)} {k:NK} {y v:V} {u r:Value} {A:Around} {E:Value→Shared→Prop}
theorem KN.repl {xs:List (NK × Addr × Value)} (r:KN H kvs xs) (k:NK) {y:V} {u:Value} (ry:RelV y u) :
    KN H (kvs.map fun kv=>if kv.1=k then (kv.1,y) else kv) (xs.map (putAt k u)):=by
  induction r with
  | nil=>exact .nil
  | @cons p q ps qs h t ih =>
    rw [List.map_cons,List.map_cons]
    refine .cons ?_ ih
    obtain ⟨h1,h2,h3⟩:=h
    unfold putAt
    by_cases e:p.1=k
    · rw [if_pos e,if_pos (h1.symm.trans e)];exact ⟨h1,h2,ry⟩
    · rw [if_neg e,if_neg (fun z=>e (h1.trans z))];exact ⟨h1,h2,h3⟩
theorem KN.put {xs:List (NK × Addr × Value)} (r:KN H kvs xs) (k:NK) {b:Addr} {y:V} {u:Value} (hb:NKey H k b) (ry:RelV y u) :
    KN H (putK kvs k y) (storedH xs k b u):=by
  have e:(kvs.any fun kv=>decide (kv.1=k))=(atKey xs k).isSome:=by
    rw [valV_any,(r.val k).isSome_eq,Option.isSome_map]
  unfold putK storedH
  rw [e]
  by_cases q:(atKey xs k).isSome=true
  · rw [if_pos q,if_pos q];exact r.repl k ry
  · rw [if_neg q,if_neg q];exact Paired.snoc r ⟨rfl,hb,ry⟩
theorem dn_getItem {Q:Value→Shared→Prop} (hu:A.units+10 < cLine) (I:Inv X pins σ H s) (d:DN X.prog X.w H a kvs) (nk:NKey H k b) (l:valV kvs k=some v) (h:∀ w' s',Inv X pins σ H s'→RelV v w'→Q w' s') :
    wpAny (model X.prog X.w) A (getItem (.ref a) (.ref b)) Q E s:=by
  obtain ⟨z,hd,xs,rel,dd⟩:=dn_rd I.hok d
  obtain ⟨w',hw,rw'⟩:=RelO.some_of (v:=v) (o:=(atKey xs k).map (·.2)) (by rw [← l];exact rel.val k)
  obtain ⟨p,hp,hp2⟩:=Option.map_eq_some_iff.mp hw
  refine wpAny_getItem_heap (show A.units+1+5 < cLine by omega) (nkey_of I.hok nk) dd hp ?_
  rw [hp2]
  exact h w' _ (I.tok _) rw'
theorem dn_notIn {Q:Value→Shared→Prop} (hu:A.units+10 < cLine) (I:Inv X pins σ H s) (d:DN X.prog X.w H a kvs) (nk:NKey H k b) (h:∀ s',Inv X pins σ H s'→Q (.bool (!(valV kvs k).isSome)) s') :
    wpAny (model X.prog X.w) A (compareOp .NotIn (.ref b) (.ref a)) Q E s:=by
  obtain ⟨z,hd,xs,rel,dd⟩:=dn_rd I.hok d
  refine wpAny_notIn_heap (show A.units+1+5 < cLine by omega) (nkey_of I.hok nk) hd dd ?_
  have q:=(rel.val k).isSome_eq
  rw [Option.isSome_map] at q
  rw [← q]
  exact h _ (I.tok _)
theorem dn_setItem {Q:Unit→Shared→Prop} (hu:A.units+10 < cLine) (I:Inv X pins σ H s) (d:DN X.prog X.w H a kvs) (nk:NKey H k b) (rv:RelV v r) (hl:kvs.length < sizeLine)
    (h:∀ φ s',Inv X pins σ (upd H a (.ext φ)) s'→DN X.prog X.w (upd H a (.ext φ)) a (putK kvs k v)→Q () s') :
    wpAny (model X.prog X.w) A (setItem (.ref a) (.ref b) r) Q E s:=by
  obtain ⟨z,hd,xs,rel,dd⟩:=dn_rd I.hok d
  have hz:xs.length≤sizeLine:=by rw [← Paired.length rel];exact z
  have hl':(putK kvs k v).length≤sizeLine:=by have:=length_putK kvs k v;omega
  refine wpAny_setItem_heap (hsz:=hz) (show A.units+1+5 < cLine by omega) (nkey_of I.hok nk) dd fun h' dd' hs => ?_
  obtain ⟨φ,I',d'⟩:=dn_write (t':=s.toks+(nkKind X.prog X.w).draws k) I d hs dd' (rel.put k nk rv) hl'
  exact h φ _ I' d'
end
inductive J_tNGet (P:Program) (w:World) (Q:VK) (x:V) (y:V) (H2:Hp):Prop
  | mk:∀ a b kvs k v,(x = .ref a)→(y = .ref b)→(DN P w H2 a kvs)→(NKey H2 k b)→(valV kvs k=some v)→(Q v H2)→J_tNGet P w Q x y H2
noncomputable def tNGet (P:Program) (w:World) (td ty:TE):TE:=fun σ H Q=>td σ H fun x H1=>ty σ H1 fun y H2=>J_tNGet P w Q x y H2
inductive J_tNNotIn (P:Program) (w:World) (Q:VK) (y:V) (x:V) (H2:Hp):Prop
  | mk:∀ a b kvs k,(x = .ref a)→(y = .ref b)→(DN P w H2 a kvs)→(NKey H2 k b)→(Q (.bl (!(valV kvs k).isSome)) H2)→J_tNNotIn P w Q y x H2
noncomputable def tNNotIn (P:Program) (w:World) (ty td:TE):TE:=fun σ H Q=>ty σ H fun y H1=>td σ H1 fun x H2=>J_tNNotIn P w Q y x H2
inductive J_sNPut (P:Program) (w:World) (D:Ends) (σ : St) (v:V) (x:V) (y:V) (H3:Hp):Prop
  | mk:∀ a b kvs k,(x = .ref a)→(y = .ref b)→(DN P w H3 a kvs)→(NKey H3 k b)→(kvs.length < sizeLine)→(∀ φ,DN P w (upd H3 a (.ext φ)) a (putK kvs k v)→D.nx σ (upd H3 a (.ext φ)))→J_sNPut P w D σ v x y H3
noncomputable def sNPut (P:Program) (w:World) (td ty tv:TE):TS:=fun D σ H=>tv σ H fun v H1=>td σ H1 fun x H2=>ty σ H2 fun y H3=>J_sNPut P w D σ v x y H3
section
variable {X:Cx} {o i e f value:Expr} {pos pos' apos cpos:Pos} {td ty tv:TE}
theorem dn_typeIs {pins:List (Addr × Obj)} {σ : St} {H:Hp} {s:Shared} {a:Addr} {kvs:List (NK × V)} (I:Inv X pins σ H s) (d:DN X.prog X.w H a kvs):s.TypeIs (.ref a) "dict" := (isN_at I ⟨kvs,d⟩).1
theorem pe_nget (hu:X.A.units+10 < cLine) (ho:PE X o td) (hi:PE X i ty) (hs:NoSl i):PE X (.Subscript o i pos) (tNGet X.prog X.w td ty):=by
  intro pins s σ H Q I h
  refine subD_of PySem.F.slot_dict_getitem.lookup hs (thn (ho pins s σ H _ I h) fun u s1 ⟨x,H1,I1,rx,q1⟩=>thn (hi pins s1 σ H1 _ I1 q1) fun iv s2 ⟨y,H2,I2,ry,a,b,kvs,k,v,ex,ey,d,nk,l,q2⟩ => ?_)
  subst ex ey
  obtain rfl:u=Value.ref a:=rx
  obtain rfl:iv=Value.ref b:=ry
  exact ⟨dn_typeIs I2 d,dn_getItem hu I2 d nk l fun w' s3 I3 rw'=>⟨v,H2,I3,rw',q2⟩⟩
theorem pc_nnotin (hu:X.A.units+10 < cLine) (hi:PE X i ty) (ho:PE X o td):PC X .NotIn i o (tNNotIn X.prog X.w ty td):=by
  intro pins s σ H Q I h
  refine thn (hi pins s σ H _ I h) fun iv s1 ⟨y,H1,I1,ry,q1⟩=>thn (ho pins s1 σ H1 _ I1 q1) fun u s2 ⟨x,H2,I2,rx,a,b,kvs,k,ex,ey,d,nk,q2⟩ => ?_
  subst ex ey
  obtain rfl:u=Value.ref a:=rx
  obtain rfl:iv=Value.ref b:=ry
  exact dn_notIn hu I2 d nk fun s3 I3=>⟨.bl (!(valV kvs k).isSome),H2,I3,rfl,q2⟩
theorem ps_nput (hu:X.A.units+10 < cLine) (ho:PE X o td) (hi:PE X i ty) (hv:PE X value tv) (hs:swapsWith value (some (.Subscript o i pos')) pos.line X.env=pure false) :
    PS X (.Assign [.Subscript o i pos'] value pos) (sNPut X.prog X.w td ty tv):=by
  intro pins s σ H D I h
  refine wpAny_Assign_Subscript (thn (hv pins s σ H _ I h) fun r s1 ⟨v,H1,I1,rv,q1⟩=>thn (ho pins s1 σ H1 _ I1 q1) fun u s2 ⟨x,H2,I2,rx,q2⟩=>thn (hi pins s2 σ H2 _ I2 q2) fun iv s3 ⟨y,H3,I3,ry,a,b,kvs,k,ex,ey,d,nk,hl,q3⟩ => ?_) hs
  subst ex ey
  obtain rfl:u=Value.ref a:=rx
  obtain rfl:iv=Value.ref b:=ry
  exact dn_setItem hu I3 d nk rv hl fun φ s4 I4 d4=>⟨σ,_,I4,q3 φ d4⟩
end
end L2
namespace L2
open PySem PySem.Spec PyProof.Rows

section
variable {X:Cx}
variable {o:Expr} {apos cpos:Pos} {td:TE}
end
section
variable {X:Cx} {tg l:Expr} {tl:TE}
end
end L2
namespace L2
open PySem PySem.Spec PyProof.Rows

section
variable {X:Cx} {pins:List (Addr × Obj)} {σ : St} {H:Hp} {s:Shared} {a:Addr} {kvs:List (Key × V)} {k:Key} {v:V} {u r:Value} {A:Around} {E:Value→Shared→Prop}
end
section
variable {X:Cx} {o e f:Expr} {apos cpos:Pos} {td ty tx:TE}
end
end L2
namespace PySem
section
variable {prog:Program} {w:World} {A:Around} {E:Value→Shared→Prop} {s:Shared}
end
section
variable {prog:Program} {w:World} {A:Around} {s:Shared} {R:Result→Shared→Prop} {I l:Addr} {items:Array Value}
end
section
variable {prog:Program} {w:World} {A:Around} {E:Value→Shared→Prop} {s:Shared} {I l:Addr} {items:Array Value}
end
end PySem
namespace L2
open PySem PySem.Spec PyProof.Rows
theorem passNo {X:Cx}:Passes (CXE X.prog X.w) X E0:=fun pins σ H s e s' I h=>by
  obtain ⟨_,_,_,_,_,_,_,_,_,_,_,_,_,_,q⟩:=h
  exact False.elim q
structure FunD (K:PySem.W.Frag) (x qual:Str) (st:Stmt) (f:Addr) (fd:FuncData):Prop where
  ex:∃ (oc:Value) (od:Option Addr) (dV kV doc pm:Value) (an:Option Addr) (cdv ct:Value) (osl:Array (Option Value)),
    fd=PySem.W.fnOf x qual (defArgs st) (defBody st) (defScope st) dV kV doc pm an cdv ct∧K.lookup f=some ⟨oc,od,.func fd,osl⟩∧PySem.W.codeIn K cdv qual=true
structure DefMd (K:PySem.W.Frag) (C:Addr) (m qual:Str) (st:Stmt) (ps:List Str) (dvs:List V):Prop where
  ex:∃ f fd ds,FunD K m qual st f fd∧Meth K C m f∧Binds K fd ps ds∧Vals dvs ds
structure HasMd (P:Program) (w:World) (K:PySem.W.Frag) (mg:Str→Option Value) (base:Heap) (k:Nat) (C:Addr) (m:Str) (ps:List Str) (dvs:List V) (sp:Sp):Prop where
  ex:∃ f fd ds,FnOk P w K mg base (CXE P w) k f fd ps sp∧Meth K C m f∧Binds K fd ps ds∧Vals dvs ds
theorem DefMd.has {P:Program} {w:World} {K:PySem.W.Frag} {mg:Str→Option Value} {base:Heap} {m qual:Str} {C:Addr} {st:Stmt} {N ps:List Str} {k:Nat} {sp:Sp} {dvs:List V} (D:DefMd K C m qual st ps dvs) (S:FnScope N ps (defScope st)) (len:∀ vs H Q E,sp vs H Q E→vs.length=ps.length)
    (hbody:∀ (f:Addr) (cdv:Value) (A:Around) (outer:List Env) (s:Shared) (H:Hp) (vs:List V) (Q:VK) (E:XK),Room k (A.deeper (envOfC qual (defScope st) s.heap.objs.size f cdv))→sp vs H Q E →
      ∃ t,PSs (cxOf (CXE P w) P w K mg base N qual (defScope st) f cdv A outer s H E) (defBody st) t∧t { nx:=fun _ H'=>Q .non H',rt:=Q } (start N vs) H):HasMd P w K mg base (k+1) C m ps dvs sp:=by
  obtain ⟨f,fd,ds,F,hm,hb,hv⟩:=D.ex
  obtain ⟨oc,od,dV,kV,doc,pm,an,cdv,ct,osl,rfl,lk,hcd⟩:=F.ex
  exact ⟨f,_,ds,fn_of lk hcd S len fun A outer s H vs Q E hr hsp=>hbody f cdv A outer s H vs Q E hr hsp,hm,hb,hv⟩
theorem pe_mEd {X:Cx} {k k':Nat} {m:Str} {C:Addr} {ps:List Str} {dvs:List V} {sp:Sp} {pos apos:Pos} {e o:Expr} {es:List Expr} {ta:TE} {t:TA} {E:XK} {pl:Sem Bool} (h:HasMd X.prog X.w X.K X.mg X.base k C m ps dvs sp) (c:Cls X.K C) (hr:Room k' X.A) (hk:k≤k') (hx:Passes (CXE X.prog X.w) X E) (he:PE X o ta) (ha:PA X (e :: es) t)
    (hst:starEach (e :: es) X.env=(false,eval e X.env) :: starEach es X.env:=by rfl) (hpl:(backTo pos (starEach es X.env)).any (·.1)=false:=by rfl)
    (ht:eval (.Call (.Attribute o m apos) (e :: es) [] pos) X.env=(do
      let ov ← eval o X.env
      standAt apos.atName
      let (f,first) ← holding [ov] (getMethod ov m pl)
      callWith pos f first (backTo pos (starEach (e :: es) X.env)) (backToKw pos (keywordEach [] X.env))):=by rfl) :
    PE X (.Call (.Attribute o m apos) (e :: es) [] pos) (tMeth C m sp dvs E ta t):=by
  obtain ⟨f,fd,ds,F,hm,hb,hv⟩:=h.ex
  exact pe_meth he c hm F (hr.mono hk) hb hv hx ha hst hpl ht
theorem comp_tupW {K:PySem.W.Frag} {a:Addr} {xs:List V} {te:TE} {σ : St} {caps:List (Str × Nat)} {H:Hp} {Q:VK} (hz:xs.length≤1000) (Pv:Addr→Nat→List V→Hp→Prop)
    (h0:∀ D,H D=none→Pv D 0 [] (upd H D (.lst []))) (hk:∀ D i zs H',H D=none→Pv D i zs H'→H' D=some (.lst zs)∧SqT K H' a xs∧zs.length=i)
    (hel:∀ D i x zs H',H D=none→xs[i]? = some x→Pv D i zs H'→∀ Q':VK,(∀ y H3,H3 D=some (.lst zs)→Pv D (i+1) (zs ++ [y]) (upd H3 D (.lst (zs ++ [y])))→Q' y H3)→te (some x :: capt σ caps) H' Q')
    (hq:∀ D zs H',H D=none→Pv D xs.length zs H'→Q (.ref D) H') :
    CompBody (Itt K a) (gName 0) te (List.replicate 1 none ++ capt σ caps) H Q:=by
  intro D hD
  refine ⟨fun i m τ zs H'=>m=xs.length - i∧i≤xs.length∧(∃ o, τ = o :: capt σ caps)∧Pv D i zs H',⟨xs.length,by simp,Nat.zero_le _,⟨none,rfl⟩,h0 D hD⟩,?_⟩
  rintro i m τ zs H' ⟨rfl,hi,⟨o,rfl⟩,hp⟩
  obtain ⟨k1,k2,k3⟩:=hk D i zs H' hD hp
  refine ⟨k1,?_⟩
  by_cases hlt:i < xs.length
  · refine .inr ⟨⟨xs,xs[i],k2,by simp [hlt]⟩,small1000 (by omega),fun x H'' y => ?_⟩
    obtain ⟨e,y⟩:=y
    subst e
    have hx:=y xs k2
    show te (some x :: capt σ caps) _ _
    exact hel D i x zs _ hD hx hp _ fun y H3 e1 e2=>⟨e1,xs.length - (i+1),by omega,rfl,hlt,⟨_,rfl⟩,e2⟩
  · have e:i=xs.length:=by omega
    subst e
    exact .inl ⟨⟨xs,k2,Nat.le_refl _⟩,hq D zs H' hD hp⟩
end L2
namespace Sw
open PySem L2
noncomputable def posF:List Tm→Tm→Option Nat
  | [],_=>none
  | u :: ts,t=>if tmD u=tmD t then some 0 else (posF ts t).map (· + 1)
theorem pos_at:∀ {ts:List Tm} {t:Tm} {i:Nat},posF ts t=some i→ts[i]? = some t
  | [],_,_,h=>by rw [posF] at h;cases h
  | u :: ts,t,i,h=>by
    rw [posF] at h
    by_cases e:tmD u=tmD t
    · rw [if_pos e] at h;cases h;rw [tmD_inj e];rfl
    · rw [if_neg e] at h
      cases q:posF ts t with
      | none=>rw [q] at h;cases h
      | some j=>rw [q] at h;cases h;simpa using pos_at q
theorem pos_lt {ts:List Tm} {t:Tm} {i:Nat} (h:posF ts t=some i):i < ts.length:=(List.getElem?_eq_some_iff.mp (pos_at h)).1
theorem pos_none:∀ {ts:List Tm} {t:Tm},posF ts t=none↔t ∉ ts
  | [],t=>by rw [posF];simp
  | u :: ts,t=>by
    rw [posF]
    by_cases e:tmD u=tmD t
    · rw [if_pos e,tmD_inj e];simp
    · rw [if_neg e,Option.map_eq_none_iff,pos_none,List.mem_cons,not_or]
      exact ⟨fun h=>⟨fun z=>e (by rw [z]),h⟩,fun h=>h.2⟩
theorem pos_app:∀ (ts:List Tm) (u t:Tm),posF (ts ++ [u]) t=match posF ts t with
    | some i=>some i
    | none=>if tmD u=tmD t then some ts.length else none
  | [],u,t=>by rw [List.nil_append,posF,posF,posF];rfl
  | x :: ts,u,t=>by
    rw [List.cons_append,posF,posF,pos_app ts u t]
    by_cases e:tmD x=tmD t
    · rw [if_pos e,if_pos e]
    · rw [if_neg e,if_neg e]
      cases posF ts t with
      | some j=>rfl
      | none =>
        by_cases e2:tmD u=tmD t
        · simp [e2]
        · simp [e2]
theorem pos_first:∀ {ts:List Tm} {t:Tm} {i:Nat},posF ts t=some i→∀ j,j < i→ts[j]? ≠ some t
  | [],_,_,h=>by rw [posF] at h;cases h
  | u :: ts,t,i,h=>by
    rw [posF] at h
    by_cases e:tmD u=tmD t
    · rw [if_pos e] at h;cases h;intro j hj;omega
    · rw [if_neg e] at h
      cases q:posF ts t with
      | none=>rw [q] at h;cases h
      | some k =>
        rw [q] at h;cases h
        intro j hj
        cases j with
        | zero=>simp;exact fun z=>e (by rw [z])
        | succ j=>simpa using pos_first q j (Nat.lt_of_succ_lt_succ hj)
noncomputable def addF (ts:List Tm) (t:Tm):List Tm × Nat:=match posF ts t with
  | some i=>(ts,i)
  | none=>(ts ++ [t],ts.length)
theorem add_old {ts:List Tm} {t:Tm} {i:Nat} (h:posF ts t=some i):addF ts t=(ts,i):=by unfold addF;rw [h]
theorem add_new {ts:List Tm} {t:Tm} (h:posF ts t=none):addF ts t=(ts ++ [t],ts.length):=by unfold addF;rw [h]
theorem add_pos (ts:List Tm) (t:Tm):posF (addF ts t).1 t=some (addF ts t).2:=by
  cases h:posF ts t with
  | some i=>rw [add_old h];exact h
  | none=>rw [add_new h];show posF (ts ++ [t]) t=some ts.length;rw [pos_app,h];simp
theorem add_pre (ts:List Tm) (t:Tm):ts <+: (addF ts t).1:=by
  cases h:posF ts t with
  | some i=>rw [add_old h];exact List.prefix_refl _
  | none=>rw [add_new h];exact List.prefix_append _ _
mutual
noncomputable def ptF (bf:Str→Nat):List Tm→T→List Tm × Nat
  | ts,.any w=>(ts,bf w)
  | ts,.num n=>addF ts (.num n)
  | ts,.name w=>addF ts (.name w)
  | ts,.of w as=>addF (ptsF bf ts as).1 (.of w (ptsF bf ts as).2)
noncomputable def ptsF (bf:Str→Nat):List Tm→List T→List Tm × List Nat
  | ts, []=>(ts, [])
  | ts,t :: as=>((ptsF bf (ptF bf ts t).1 as).1,(ptF bf ts t).2 :: (ptsF bf (ptF bf ts t).1 as).2)
end
theorem puts_snoc (bf:Str→Nat):∀ (as:List T) (ts:List Tm) (t:T),ptsF bf ts (as ++ [t])=((ptF bf (ptsF bf ts as).1 t).1,(ptsF bf ts as).2 ++ [(ptF bf (ptsF bf ts as).1 t).2])
  | [],ts,t=>by rw [List.nil_append,ptsF,ptsF,ptsF];rfl
  | a :: as,ts,t=>by rw [List.cons_append,ptsF,ptsF,puts_snoc bf as];rfl
theorem puts_len (bf:Str→Nat):∀ (as:List T) (ts:List Tm),(ptsF bf ts as).2.length=as.length
  | [],ts=>by rw [ptsF];rfl
  | a :: as,ts=>by rw [ptsF];simp [puts_len bf as]
mutual
theorem put_pre (bf:Str→Nat):∀ (t:T) (ts:List Tm),ts <+: (ptF bf ts t).1
  | .any w,ts=>by rw [ptF];exact List.prefix_refl _
  | .num n,ts=>by rw [ptF];exact add_pre _ _
  | .name n,ts=>by rw [ptF];exact add_pre _ _
  | .of w as,ts=>by rw [ptF];exact (puts_pre bf as ts).trans (add_pre _ _)
theorem puts_pre (bf:Str→Nat):∀ (as:List T) (ts:List Tm),ts <+: (ptsF bf ts as).1
  | [],ts=>by rw [ptsF];exact List.prefix_refl _
  | a :: as,ts=>by rw [ptsF];exact (put_pre bf a ts).trans (puts_pre bf as _)
end
theorem puts_app (bf:Str→Nat):∀ (as bs:List T) (ts:List Tm),(ptsF bf ts (as ++ bs)).1=(ptsF bf (ptsF bf ts as).1 bs).1
  | [],bs,ts=>by rw [List.nil_append,ptsF]
  | a :: as,bs,ts=>by rw [List.cons_append,ptsF,ptsF];exact puts_app bf as bs _
theorem puts_take (bf:Str→Nat) (as:List T) (ts:List Tm) (i:Nat):(ptsF bf ts (as.take i)).1 <+: (ptsF bf ts as).1:=by
  conv=>rhs;rw [← List.take_append_drop i as]
  rw [puts_app]
  exact puts_pre _ _ _
noncomputable def But2 (L M:Addr) (H H':Hp):Prop := ∀ c o,c≠L→c≠M→H c=some o→H' c=some o
theorem But2.refl (L M:Addr) (H:Hp):But2 L M H H:=fun _ _ _ _ h=>h
theorem But2.trans {L M:Addr} {H H1 H2:Hp} (a:But2 L M H H1) (b:But2 L M H1 H2):But2 L M H H2:=fun c o n m h=>b c o n m (a c o n m h)
theorem But2.same {L M:Addr} {H H1 H2:Hp} (a:But2 L M H H1) (b:Same H1 H2):But2 L M H H2:=fun c o n m h=>b c o (a c o n m h)
theorem Same.but2 {L M:Addr} {H H1:Hp} (b:Same H H1):But2 L M H H1:=fun c o n m h=>b c o h
noncomputable def BankAt (P:Program) (w:World) (CB:Addr) (H:Hp) (b dx L M:Addr) (room:Int) (ts:List Tm):Prop :=
  H b=some (.ins CB dx [("room",.int room),("terms",.ref L),("places",.ref M)])∧(∃ us,H L=some (.lst us)∧Tms H us ts) ∧
  ∃ kvs,DN P w H M kvs∧kvs.length=ts.length∧∀ t,valV kvs (tmNK t)=(posF ts t).map nV
theorem BankAt.same {P:Program} {w:World} {CB:Addr} {H H':Hp} {b dx L M:Addr} {room:Int} {ts:List Tm} (h:BankAt P w CB H b dx L M room ts) (sm:Same H H'):BankAt P w CB H' b dx L M room ts:=by
  obtain ⟨h1,⟨us,h2,h3⟩,kvs,h4,h5,h6⟩:=h
  exact ⟨sm _ _ h1,⟨us,sm _ _ h2,tms_same sm h3⟩,kvs,h4.same sm,h5,h6⟩
theorem BankAt.ne {P:Program} {w:World} {CB:Addr} {H:Hp} {b dx L M:Addr} {room:Int} {ts:List Tm} (h:BankAt P w CB H b dx L M room ts):L≠M∧b≠L∧b≠M:=by
  obtain ⟨h1,⟨us,h2,h3⟩,kvs,h4,h5,h6⟩:=h
  obtain ⟨φ,e⟩:=h4.ext
  exact ⟨ne_of h2 e (fun z=>nomatch z),ne_of h1 h2 (fun z=>nomatch z),ne_of h1 e (fun z=>nomatch z)⟩
theorem BankAt.tup {P:Program} {w:World} {CB:Addr} {H H':Hp} {b dx L M:Addr} {room:Int} {ts:List Tm} (h:BankAt P w CB H b dx L M room ts) (bt:But2 L M H H'):∀ c ys,H c=some (.tup ys)→H' c=some (.tup ys):=by
  obtain ⟨h1,⟨us,h2,h3⟩,kvs,h4,h5,h6⟩:=h
  obtain ⟨φ,e⟩:=h4.ext
  exact fun c ys z=>bt c _ (ne_of z h2 (fun z=>nomatch z)) (ne_of z e (fun z=>nomatch z)) z
theorem BankAt.keep {P:Program} {w:World} {CB:Addr} {H H':Hp} {b dx L M:Addr} {room:Int} {ts:List Tm} {R:Addr} {us:List V} (h:BankAt P w CB H b dx L M room ts) (hR:H R=some (.lst us)) (hn:R≠L) (bt:But R H H'):BankAt P w CB H' b dx L M room ts:=by
  obtain ⟨h1,⟨us,h2,h3⟩,kvs,h4,h5,h6⟩:=h
  have ht:∀ c ys,H c=some (.tup ys)→H' c=some (.tup ys):=bt.tup hR
  obtain ⟨φ,e⟩:=h4.ext
  exact ⟨bt _ _ (ne_of h1 hR (fun z=>nomatch z)) h1,⟨us,bt _ _ (Ne.symm hn) h2,tms_keep ht h3⟩,kvs,h4.keep (fun φ' z=>bt _ _ (ne_of z hR (fun z=>nomatch z)) z) ht,h5,h6⟩
mutual
noncomputable def T.hol:T→List Str
  | .num _ => []
  | .name _ => []
  | .any w => [w]
  | .of _ ts=>T.hols ts
noncomputable def T.hols:List T→List Str
  | [] => []
  | t :: ts=>t.hol ++ T.hols ts
end
theorem hols_mem:∀ {ts:List T} {t:T} {w:Str},t∈ts→w∈t.hol→w∈T.hols ts
  | a :: ts,t,w,h,e=>by
    rw [T.hols]
    rcases List.mem_cons.mp h with z | z
    · subst z;exact List.mem_append_left _ e
    · exact List.mem_append_right _ (hols_mem z e)
noncomputable def BOk (H:Hp) (bv:V) (bf:Str→Nat) (l:List Str):Prop := ∀ w∈l,∃ D kvs,bv = .ref D∧H D=some (.dK kvs)∧valV kvs (.inr w)=some (nV (bf w))
theorem BankAt.bok {P:Program} {w:World} {CB:Addr} {H H':Hp} {b dx L M:Addr} {room:Int} {ts:List Tm} {bv:V} {bf:Str→Nat} {l:List Str} (h:BankAt P w CB H b dx L M room ts) (bt:But2 L M H H') (q:BOk H bv bf l):BOk H' bv bf l:=fun x hx=>by
  obtain ⟨D,kvs,e,hD,hv⟩:=q x hx
  obtain ⟨h1,⟨us,h2,h3⟩,kvs',h4,h5,h6⟩:=h
  obtain ⟨φ,e4⟩:=h4.ext
  exact ⟨D,kvs,e,bt _ _ (ne_of hD h2 (fun z=>nomatch z)) (ne_of hD e4 (fun z=>nomatch z)) hD,hv⟩
theorem tm_of {H:Hp} {x:Str} {as:List Nat} {a b:Addr} (h:H a=some (.tup [.str "of",.str x,.ref b])) (h2:H b=some (.tup (as.map nV))):IsTm H (.of x as) (.ref a):=⟨a,b,rfl,h,h2⟩
mutual
noncomputable def T.Slim:T→Prop
  | .num _=>True
  | .name _=>True
  | .any _=>True
  | .of _ ts=>ts.length≤900∧T.Slims ts
noncomputable def T.Slims:List T→Prop
  | []=>True
  | t :: ts=>t.Slim∧T.Slims ts
end
theorem slims_all:∀ {ts:List T},T.Slims ts↔∀ t∈ts,t.Slim
  | []=>by rw [T.Slims];simp
  | t :: ts=>by rw [T.Slims,slims_all];simp
end Sw
namespace L2
open PySem PySem.Spec PyProof.Rows
end L2
namespace L2
open PySem PySem.Spec PyProof.Rows
end L2
namespace L2
open PySem PySem.Spec PyProof.Rows
section
variable {X:Cx}
end
theorem rd_if2 {c:TT} {t u:TS} {D:Ends} {σ : St} {H:Hp} (R:Bool→Hp→Prop) (hc:∀ Q:Bool→Hp→Prop,(∀ b H',R b H'→Q b H')→c σ H Q) (h1:∀ H',R true H'→t D σ H') (h2:∀ H',R false H'→u D σ H'):tIfS c t u D σ H:=by
  refine hc _ fun b H' r => ?_
  cases b with
  | true=>exact iteT (h1 _ r)
  | false=>exact iteF (h2 _ r)
section
variable {P:Program} {w:World} {A:Around} {s:Shared}
open SeqAt MeetsSeq MeetsSeq2 MeetsSeq3 SeqRoads2
open AutoSeq1 (wpAny_loadPart')
end
end L2
namespace L2
open PySem PySem.W PySem.Calls PyProof.Rows
theorem weight_le {ns:List Int} {c:Int}:c∈ns→WData.weight (.int c)≤WData.weightAll (ns.map WData.int):=by
  induction ns with
  | nil=>intro h;cases h
  | cons n ns ih =>
    intro h
    rw [List.map_cons,WData.weightAll]
    rcases List.mem_cons.mp h with rfl | h
    · omega
    · have:=ih h;omega
theorem bits_lay {ns:List Int} (h:WData.layableAll [WData.list (ns.map WData.int)]=true):∀ c∈ns,Builtin.Int.intBits c≤1048576:=fun c hc=>by
  have h1:WData.layable (WData.list (ns.map WData.int))=true:=List.all_eq_true.mp h _ List.mem_cons_self
  have h2:=of_decide_eq_true (Bool.and_eq_true_iff.mp h1).2
  rw [WData.weight] at h2
  have h3:=weight_le hc
  rw [WData.weight] at h3
  show (if c == 0 then 0 else c.natAbs.log2+1)≤1048576
  have:(2:Nat) ^ 20=1048576:=by decide
  omega
theorem walk_ofB {l:OpenLaw} {n k:Nat} {q:Program} {loose:List Str} {XP:(Str→Option Value)→Heap→Prop} {YP:World→Heap→Prop} {d:DefRec} {K:Params→Frag} {CX:World→CXT} {sp:World→Sp} {x:Str}
    (hn:l.most=some n) (hn2:n≤sizeLine) (hdf:d.params.defaults = []) (hr:Room k callerA)
    (hY:∀ (w:World) (h:Heap),YP w h→(K w.params).In h)
    (F:∀ (w:World) (mg:Str→Option Value) (fa:Addr) (h:Heap),(K w.params).In h→h.Ns mainGlobals mg→mg d.name=some (.ref fa) →
      ∃ fd:FuncData,(∀ (s:Shared) (u:Value),BindsTo s fd ⟨[u], []⟩ [(x,u)])∧∀ base:Heap,(K w.params).In base→base.Ns mainGlobals mg→FnOk l.prog w (K w.params) mg base (CX w) k fa fd [x] (sp w))
    (hsp:∀ (w:World) (H:Hp) (a:Addr) (ns:List Int),ns.length≤n→(∀ c∈ns,Builtin.Int.intBits c≤1048576)→SqL (K w.params) H a (ns.map V.int)→sp w [.ref a] H (fun v _=>v = .bl true) fun _ _ _=>False)
    (hCX:∀ (w:World) (H:Hp) (s:Shared) (e:Value) (s':Shared),CX w [] H s (fun _ _ _=>False) e s'→False) :
    WalkO q loose XP YP l.row.toRowW d [] (fun f vs=>PySem.call f vs):=by
  intro w s0 s1 mg mb G Y fa o pm cd doc dV kV ho hd hcd hD hmg hg args vals as hpre hlay hrd hwl hlo
  have e1:=Dflts.none hD hdf
  have e2:=Dflts.noKw hD
  subst e1 e2
  obtain ⟨a,vs,ns,ev,ea,hobj,hints,hlen⟩:=Att.script_of hn hpre hwl
  subst ev ea
  have KX:=hY w _ Y
  obtain ⟨fd,hb,hF⟩:=F w mg fa _ KX G.T.g hmg
  refine enter_call (codeAny_mono (law_call KX G.T.g G.T.b G.T.builtins G.T.nolimit hg hobj hints (Nat.le_trans hlen hn2) hr hF hb (fun H _ hS=>hsp w H a ns hlen (bits_lay hlay) hS) fun H e s'=>hCX w H s1 e s') fun r s' hq => ?_)
  obtain ⟨er,h2,h3,h4⟩:=hq
  subst er
  exact ⟨.inl ⟨.bool true,.bool true, [],rfl,fun _=>rfl,.bool true,Att.post_true l _,fun _=>⟨List.Pairwise.nil,fun _ hm=>(nomatch hm)⟩⟩,h2,h3,h4⟩
end L2
namespace L2
open PySem PySem.Spec PyProof.Rows
section
variable {X:Cx} {k:Nat} {y:Str} {p pos:Pos} {e:Expr} {es:List Expr} {tv:TE} {t:TA}
end
end L2
namespace L2
open PySem PySem.Spec PyProof.Rows
section
variable {prog:Program} {w:World} {A:Around} {R:Result→Shared→Prop} {I:Addr} {fp wr:List Addr} {n:Nat} {P:Nat→Value→Prop} {St:Nat→Heap→Prop} {kw:List (Str × Value)} {G:Heap→Prop}
end
section
variable {X:Cx} {e:Expr} {te:TE} {p pos kp cp:Pos} {j:Nat}
end
end L2
namespace L2
open PySem PySem.Spec PyProof.Rows
section
variable {prog:Program} {w:World} {A:Around} {R:Result→Shared→Prop} {I:Addr} {fp wr:List Addr} {n:Nat} {P:Nat→Value→Prop} {St:Nat→Heap→Prop} {kw:List (Str × Value)} {G:Heap→Prop}
end
section
variable {X:Cx} {e:Expr} {te:TE} {p pos kp cp:Pos} {j:Nat} {d:Int}
end

end L2
namespace HT
open PySem PySem.Spec PyProof.Rows
section
variable {prog:Program} {w:World} {A:Around} {E:Value→Shared→Prop} {s:Shared}
end
end HT
namespace L2
open PySem PySem.Spec PyProof.Rows
section
variable {X:Cx}
theorem denRs_atR {h:Heap}:∀ {ds:List D} {us:List Value} {i:Nat} {u:Value},DenRs h ds us→us[i]? = some u→∃ d,ds[i]? = some d∧DenR h d u
  | [],us,i,u,r,m=>by rw [DenRs] at r;subst r;cases m
  | d :: ds,us,i,u,r,m=>by
    rw [DenRs] at r
    obtain ⟨v,us',rfl,r1,r⟩:=r
    cases i with
    | zero=>exact ⟨d,rfl,by rw [← Option.some.inj m];exact r1⟩
    | succ i=>exact denRs_atR (ds:=ds) r m
inductive J_indexD (x:V) (xs:List V) (H:Hp) (Q:VK):Prop
  | mk:∀ (v:V) (d:D) (ds:List D) (j:Nat),(xs = [v])→(Den H d v)→(Den H (.lst ds) x)→(D.deeps ds≤150)→(ds.length≤1000)→(ds[j]? = some d)→(∀ i,i < j→ds[i]? ≠ some d)→(Q (.int j) H)→J_indexD x xs H Q
theorem mt_indexD (hu:X.A.units+151 < cLine):MtR X "list.index" (fun x xs H Q=>J_indexD x xs H Q):=by
  intro pins s σ H x xs v us Q I rx rv h
  obtain ⟨v',d,ds,j,rfl,hd,hx,hdp,hz,hj,hno,q⟩:=h
  obtain ⟨u,rfl,ru⟩:=rv.one
  have g1:=den_raw I.hok hd ru
  have g2:=den_raw I.hok hx rx
  rw [DenR] at g2
  obtain ⟨l,its,rfl,pl,r'⟩:=g2
  obtain ⟨o,e,hc,n,hd'⟩:=pl
  have hl:=denRs_len r'
  have hjl:j < ds.length:=(List.getElem?_eq_some_iff.mp hj).1
  obtain ⟨oc,od,oda,osl⟩:=o
  cases hc;cases hd'
  have at_:∀ (i:Nat) (hi:i < its.length),eqR s.heap d its[i]=decide (ds[i]? = some d):=by
    intro i hi
    obtain ⟨e',he',r1⟩:=denRs_atR r' (List.getElem?_eq_getElem hi)
    rw [eqR_eq r1,he',Bool.eq_iff_iff,decide_eq_true_iff,decide_eq_true_iff]
    exact ⟨fun z=>by rw [z],fun z=>Option.some.inj z⟩
  have el:∀ y,y∈its.toArray→SeqAt.EqAt X.A.in1 s y u (eqR s.heap d y):=fun y hy=>by
    obtain ⟨e',he',r1⟩:=denRs_mem r' (by simpa using hy)
    exact eqAt_cast (eqAt_D 150 (by have:=deeps_le he';omega) r1 g1 (by show X.A.units+1+150 < cLine;omega)) (eqR_eq r1).symm
  refine call_meets F.slot_list_index ⟨_,e,rfl⟩ F.entry_list_index (F.args_list_index_2 _ _) (SeqAt.list_indexAt l its.toArray n od osl u (eqR s.heap d) j (by simpa using (by omega:j < its.length)) (by omega) ?_ ?_) ⟨e,el,?_⟩
  · rw [List.getElem_toArray,at_ j (by omega)];exact decide_eq_true hj
  · intro i hi hlt
    rw [List.getElem_toArray,at_ i (by omega)];exact decide_eq_false (hno i hlt)
  · exact ⟨.int j,H,I.tok _,⟨_,rfl⟩,q⟩
end
end L2
namespace L2
open PySem PySem.Spec PyProof.Rows

theorem entry_unchain:entryFor table "proto.unchain" = some Builtin.«proto.unchain» := entryFor_of_tree (by kernel_rfl)
section
variable {prog:Program} {w:World} {A:Around} {E:Value→Shared→Prop} {s:Shared}
theorem unchain_off {e ha:Addr} {Q:Value→Shared→Prop} (c:Chn s.heap ha) (fr:∀ a,F2 s.heap ha (.ref a)→a≠e) (q:Q .none s):wpAny (model prog w) A (runValue (.builtin "proto.unchain" ⟨[.ref e,.ref ha,.ref ha,.bool false], []⟩)) Q E s:=by
  rcases c with c | ⟨a,na,c,c0⟩
  · obtain ⟨o,vs,g,d,z⟩:=c
    refine wpAny_runValue (codeAny_builtin entry_unchain ?_)
    unfold Builtin.«proto.unchain»
    dsimp only
    refine wpAny_bind (wpAny_field g d z ?_)
    rw [if_pos (by rfl)]
    exact wpAny_pure (a:=Fin.done (.ret .none)) q
  · have ne:=fr a c
    obtain ⟨o,vs,g,d,z⟩:=c
    obtain ⟨o2,vs2,g2,d2,z2⟩:=c0
    refine wpAny_runValue (codeAny_builtin entry_unchain ?_)
    unfold Builtin.«proto.unchain»
    dsimp only
    refine wpAny_bind (wpAny_field g d z ?_)
    rw [if_neg (by simp),if_neg (by simp [ne]),if_neg (by simp [na])]
    refine wpAny_bind (wpAny_pure ?_)
    try dsimp only
    refine wpAny_pure (a:=Fin.again (.builtin "proto.unchain" ⟨[.ref e,.ref a,.ref ha,.bool true], []⟩)) ⟨plainId_quiet (by decide +kernel) _,codeAny_builtin entry_unchain ?_⟩
    unfold Builtin.«proto.unchain»
    dsimp only
    refine wpAny_bind (wpAny_field g2 d2 z2 ?_)
    rw [if_pos (by rfl)]
    exact wpAny_pure (a:=Fin.done (.ret .none)) q
theorem raiseNew_in {α : Type} {e ha:Addr} {oe:Obj} {vs:Array Value} {Q : α → Shared→Prop} (hh:A.handled=some (.ref ha)) (ne:e≠ha) (c:Chn s.heap ha) (fr:∀ a,F2 s.heap ha (.ref a)→a≠e) (ge:s.heap.get? e=some oe) (gd:oe.data = .fields vs) (gz:2 < vs.size)
    (q:E (.ref e) { s with heap:=s.heap.update e (Obj.mapFields (·.setIfInBounds 2 (.ref ha))) }):wpAny (model prog w) A (raiseNew (.ref e):Sem α) Q E s:=by
  unfold raiseNew
  refine wpAny_bind (wpAny_handled ?_)
  rw [hh]
  dsimp only
  have hn:(Value.ref ha != Value.ref e)=true:=by simp [Ne.symm ne]
  rw [if_pos hn]
  refine wpAny_bind (wpAny_holding (unchain_off c fr ?_))
  refine wpAny_bind ?_
  show wpAny _ _ (setField (.ref e) 2 (.ref ha)) _ _ _
  exact wpAny_setField ge gd gz (wpAny_throw q)
end
section
variable {M:Model} {A:Around} {E:Value→Shared→Prop} {qn nm:Str} {N C:Addr} {bm bs:List Value} {hdct ab:Bool} {sn:List Str} {sub:List Value} {col:Option Bool} {dd:Option Addr} {k0 k1 k2 k3 k5:Option Value} {newId:String}
theorem excFrom_made {h:Heap} {g:Array GenState} {d:Drawn} {tk:Nat} {os:OsState} {e:Addr} {ar:Array Value} {msg:String} {Q:Value→Shared→Prop} (hbase:bm.contains (.type "BaseException")=true)
    (gC:h.get? C=some (excClassObj nm qn C N bs bm hdct sn sub ab col dd k0 k1 k2 k3 k5 newId)) (ge:h.get? e=some { cls := .ref C,data := .fields ar }) (q:Q (.ref e) ⟨h,g,d,tk,os⟩):wpAny M A (excFromValue (.ref e) msg) Q E ⟨h,g,d,tk,os⟩:=by
  have hcB:(Value.ref C :: bm).contains (.type "BaseException")=true:=by rw [List.contains_cons,hbase,Bool.or_true]
  unfold excFromValue
  repeat (first | wp_step | with_reducible refine wpAny_loadPart_at ge ?_ | with_reducible refine wpAny_loadPart_at gC ?_ | (with_reducible refine wpAny_isSubtype_exc gC ?_;rw [hcB]))
  exact q
end
section
variable {prog:Program} {w:World} {A:Around} {E:Value→Shared→Prop} {s:Shared} {env:Env} {qn nm:Str} {N C:Addr} {bm bs:List Value} {hdct ab:Bool} {sn:List Str} {sub:List Value} {col:Option Bool} {dd:Option Addr} {k0 k1 k2 k3 k5:Option Value} {newId:String}
theorem raise_caused {x c:Sem Value} {ha:Addr} {Q:Flow→Shared→Prop} (hbase:bm.contains (.type "BaseException")=true) (hh:A.handled=some (.ref ha)) (hc:∀ (R:Value→Shared→Prop) (s':Shared),R .none s'→wpAny (model prog w) A c R E s')
    (h:wpAny (model prog w) A x (fun v s1=>∃ e t,v = .ref e∧e≠ha∧Chn s1.heap ha∧(∀ a,F2 s1.heap ha (.ref a)→a≠e)∧s1.heap.get? C=some (excClassObj nm qn C N bs bm hdct sn sub ab col dd k0 k1 k2 k3 k5 newId)∧s1.heap.get? e=some { cls := .ref C,data := .fields #[.ref t,.none,.none,.none,.bool false,.none] } ∧
      ∀ h',(∀ b o,b≠e→s1.heap.get? b=some o→h'.get? b=some o)→h'.get? e=some { cls := .ref C,data := .fields #[.ref t,.none,.ref ha,.none,.bool true,.none] }→E (.ref e) { s1 with heap:=h' }) E s) :
    wpAny (model prog w) A (raiseStmt env (some x) (some c)) Q E s:=by
  unfold raiseStmt
  refine wpAny_bind (wpAny_mono h (fun v s1 h1 => ?_) fun _ _ z=>z)
  obtain ⟨e,t,rfl,ne,c0,fr,gC,ge,hE⟩:=h1
  obtain ⟨hp,g,d,tk,os⟩:=s1
  refine wpAny_bind (wpAny_holding (hc _ _ ?_))
  refine wpAny_bind (wpAny_pure ?_)
  try dsimp only
  refine wpAny_bind (wpAny_holding (excFrom_made hbase gC ge ?_))
  try dsimp only
  rw [if_pos (by rfl)]
  refine wpAny_bind (wpAny_pure ?_)
  have nC:e≠C:=fun z=>by rw [z,gC] at ge;have:=congrArg Obj.data (Option.some.inj ge);cases this
  refine wpAny_bind (wpAny_setField ge rfl (by simp) ?_)
  have g1:=Heap.get?_update_self (Obj.mapFields (·.setIfInBounds 3 Value.none)) ge rfl
  have o1:∀ b,b≠e→(hp.update e (Obj.mapFields (·.setIfInBounds 3 Value.none))).get? b=hp.get? b:=fun b n=>Heap.get?_update_other _ _ (Ne.symm n)
  generalize hp.update e (Obj.mapFields (·.setIfInBounds 3 Value.none))=h1 at g1 o1 ⊢
  refine wpAny_bind (wpAny_setField g1 rfl (by simp) ?_)
  have g2:=Heap.get?_update_self (Obj.mapFields (·.setIfInBounds 4 (Value.bool true))) g1 rfl
  have o2:∀ b,b≠e→(h1.update e (Obj.mapFields (·.setIfInBounds 4 (Value.bool true)))).get? b=hp.get? b:=fun b n=>(Heap.get?_update_other _ _ (Ne.symm n)).trans (o1 b n)
  try dsimp only
  generalize h1.update e (Obj.mapFields (·.setIfInBounds 4 (Value.bool true)))=h2 at g2 o2 ⊢
  have gC2:=(o2 C (Ne.symm nC)).trans gC
  have ge2:h2.get? e=some { cls := .ref C,data := .fields #[.ref t,.none,.none,.none,.bool true,.none] }:=g2
  have f2:∀ b y,b≠e→F2 hp b y→F2 h2 b y:=fun b y nb c=>by
    obtain ⟨o,vs,a1,a2,a3⟩:=c
    exact ⟨o,vs,(o2 b nb).trans a1,a2,a3⟩
  have c2:Chn h2 ha:=by
    rcases c0 with c | ⟨a,na,c,c'⟩
    · exact .inl (f2 _ _ (Ne.symm ne) c)
    · exact .inr ⟨a,na,f2 _ _ (Ne.symm ne) c,f2 _ _ (fr a c) c'⟩
  have fr2:∀ a,F2 h2 ha (.ref a)→a≠e:=fun a c=>fr a (by
    obtain ⟨o,vs,a1,a2,a3⟩:=c
    exact ⟨o,vs,(o2 ha (Ne.symm ne)).symm.trans a1,a2,a3⟩)
  repeat (first | with_reducible refine wpAny_loadPart_at ge2 ?_ | with_reducible refine wpAny_loadPart_at gC2 ?_ | wp_step)
  refine raiseNew_in hh ne c2 fr2 ge2 rfl (by simp) (hE _ (fun b o n q => ?_) ?_)
  · exact (Heap.get?_update_other _ _ (Ne.symm n)).trans ((o2 b n).trans q)
  · exact Heap.get?_update_self (Obj.mapFields (·.setIfInBounds 2 (Value.ref ha))) ge2 rfl
end
structure NewX (h h':Heap) (e C ha:Addr):Prop where
  ctx:F2 h' e (.ref ha)
  keeps:∀ b o,h.get? b=some o→h'.get? b=some o
  new:h.get? e=none
  there:∃ oe vs a0,h'.get? e=some oe∧oe.cls = .ref C∧oe.data = .fields vs∧vs[1]? = some .none∧vs[0]? = some a0
section
variable {prog:Program} {w:World} {A:Around} {E:Value→Shared→Prop} {s:Shared} {env:Env} {qn nm:Str} {N C:Addr} {bm bs bmB:List Value} {hdct ab:Bool} {sn:List Str} {sub:List Value} {col:Option Bool} {dd:Option Addr} {k0 k1 k2 k3 k5:Option Value} {B newId initId:String}
theorem raise_call_caused (F:ExcBaseFacts B newId initId bmB) {mN:Str→Option Value} {x:Str} {np cpos pos npos:Pos} {j:Nat} {args:List Expr} {Q:Flow→Shared→Prop} {ha:Addr} (hbase:bm.contains (.type "BaseException")=true) (hh:A.handled=some (.ref ha))
    (hpl:(backTo cpos (starEach args env)).any (·.1)=false) (hni:mN "__init__" = none)
    (h:wpAny (model prog w) A (eval (.Name x np) env) (fun f s1=>f = .ref C∧wpAny (model prog w) A (evalArgs (.ref C) true (backTo cpos (starEach args env)) []) (fun a s2=>a.kw = []∧a.pos.length≤sizeLine∧s2.heap.get? C=some (excClassObj nm qn C N bs bm hdct sn sub ab col dd k0 k1 k2 k3 k5 newId)∧s2.heap.Ns N mN∧OwnTail s2.heap bmB bm ∧
      Chn s2.heap ha∧∀ h' e,NewX s2.heap h' e C ha→E (.ref e) { s2 with heap:=h' }) E s1) E s) :
    wpAny (model prog w) A (exec (.Raise (some (.Call (.Name x np) args [] cpos)) (some (.Constant .none j npos)) pos) env) Q E s:=by
  rw [arm_exec_Raise]
  refine wpAny_bind (wpAny_standAt ?_)
  refine raise_caused (C:=C) (nm:=nm) (qn:=qn) (N:=N) (bs:=bs) (bm:=bm) (hdct:=hdct) (sn:=sn) (sub:=sub) (ab:=ab) (col:=col) (dd:=dd) (k0:=k0) (k1:=k1) (k2:=k2) (k3:=k3) (k5:=k5) (newId:=newId) (x:=do let v ← eval (.Call (.Name x np) args [] cpos) env;standAt pos;pure v) (c:=do let v ← eval (.Constant .none j npos) env;standAt pos;pure v) hbase hh
    (fun R s' r=>wpAny_bind (Constant_none (wpAny_bind (wpAny_standAt (wpAny_pure r))))) (wpAny_bind (wpAny_mono (wpAny_Call_ofName (wpAny_mono h (fun f s1 h1 => ?_) fun _ _ z=>z)) (fun v s3 h3=>wpAny_bind (wpAny_standAt (wpAny_pure h3))) fun _ _ z=>z))
  obtain ⟨rfl,h1⟩:=h1
  unfold callWith
  refine wpAny_bind (wpAny_holding (wpAny_mono h1 (fun a s2 h2=>wpAny_bind (wpAny_standAt ?_)) fun _ _ z=>z))
  obtain ⟨ap,ak⟩:=a
  obtain ⟨rfl,hl,gC,gN,T,c0,k⟩:=h2
  obtain ⟨hp,g,d,tk,os⟩:=s2
  simp only [hpl]
  refine wpAny_bind (wpAny_keeperOf_exc gC ?_)
  refine wpAny_bind (wpAny_call_exc_subT (hrest:=hl) F T gC gN hni fun h' e m=>wpAny_bind (wpAny_holding (wpAny_point (wpAny_pure ?_))))
  obtain ⟨t,gt,_,_⟩:=m.there
  have nf:∀ b y,F2 hp b y→e≠b:=fun b y c z=>by
    obtain ⟨o,vs,a1,_,_⟩:=c
    rw [← z,m.new] at a1
    cases a1
  have kf:∀ b y,F2 hp b y→F2 h' b y:=fun b y c=>by
    obtain ⟨o,vs,a1,a2,a3⟩:=c
    exact ⟨o,vs,m.keeps _ _ a1,a2,a3⟩
  have hf:∃ y,F2 hp ha y:=by
    rcases c0 with c | ⟨a,_,c,_⟩
    · exact ⟨_,c⟩
    · exact ⟨_,c⟩
  obtain ⟨y0,hf⟩:=hf
  have ne:e≠ha:=nf ha y0 hf
  have un:∀ y,F2 h' ha y→y=y0:=fun y c=>by
    obtain ⟨o,vs,a1,a2,a3⟩:=c
    obtain ⟨o',vs',b1,b2,b3⟩:=kf _ _ hf
    rw [a1] at b1
    cases b1
    rw [a2] at b2
    cases b2
    rw [a3] at b3
    exact Option.some.inj b3
  have cn:Chn h' ha∧∀ a,F2 h' ha (.ref a)→a≠e:=by
    rcases c0 with c | ⟨a,na,c,c'⟩
    · refine ⟨.inl (kf _ _ c),fun a z => ?_⟩
      have:=(un _ (kf _ _ c)).trans (un _ z).symm
      cases this
    · refine ⟨.inr ⟨a,na,kf _ _ c,kf _ _ c'⟩,fun b z => ?_⟩
      have e1:=(un _ (kf _ _ c)).trans (un _ z).symm
      cases e1
      exact Ne.symm (nf _ _ c')
  refine ⟨e,t,rfl,ne,cn.1,cn.2,m.keeps _ _ gC,gt,fun h2 kp go=>k h2 e ⟨⟨_,_,go,rfl,rfl⟩,fun b o q=>kp b o (fun z=>by rw [z,m.new] at q;cases q) (m.keeps b o q),m.new,_,_,_,go,rfl,rfl,rfl,rfl⟩⟩
end
section
variable {M:Model} {A:Around} {E:Value→Shared→Prop} {s:Shared}
theorem flight_at {base:Heap} {l:List Env} {e L:Addr} {cls a0:Value} {Q:Unit→Shared→Prop} (hh:Heap.HeldW base l e cls a0 L s.heap)
    (k:∀ h',Heap.HeldW base l e cls a0 L h'→s.heap.UpToSlots h'→(∀ y,F2 s.heap e y→F2 h' e y)→Q () { s with heap:=h' }):wpAny M A (setFlight (.ref e) (some L)) Q E s:=by
  obtain ⟨kb,be,ff,oe,vs,Tr,oT,ts,ge,gc,gd,g1,bT,nTe,gT,dT,g3⟩:=hh
  have z3:=(Array.getElem?_eq_some_iff.mp g3).1
  have ot:∀ b,b≠Tr→(s.heap.update Tr (Obj.mapFields (·.setIfInBounds 3 ((some L).elim Value.none fun f=>rawInt f)))).get? b=s.heap.get? b:=fun b n=>Heap.get?_update_other _ _ (Ne.symm n)
  have nr:∀ b o,s.heap.get? b=some o→(∀ ws,o.data ≠ .fields ws)→b≠Tr:=fun b o q nf z=>by
    rw [z,gT] at q
    cases q
    exact nf ts dT
  unfold setFlight
  refine wpAny_bind (wpAny_field ge gd g1 ?_)
  rw [if_pos (show (Value.ref Tr != Value.none)=true by simp)]
  refine wpAny_setField gT dT z3 (k _ ⟨fun b o q=>(ot b fun z=>by rw [z,bT] at q;cases q).trans (kb b o q),be,ff.of_keeps fun b o q nf=>⟨o,(ot b (nr b o q nf)).trans q,rfl⟩,?_⟩ (fun b o q nf=>⟨o.slots,(ot b (nr b o q nf)).trans q⟩) fun y c=>c.other nTe)
  exact ⟨oe,vs,Tr,_,_,(ot e (Ne.symm nTe)).trans ge,gc,gd,g1,bT,nTe,Heap.get?_update_self _ gT (Obj.isFreed_of_fields (Obj.data_mapFields dT _)),Obj.data_mapFields dT _,by simp [z3]⟩
theorem leave_held {base:Heap} {env:Env} {outer:List Env} {L e:Addr} {cls a0:Value} {Q:Unit→Shared→Prop} (fL:env.frame=some L) (hh:Heap.HeldW base (env :: outer) e cls a0 L s.heap)
    (k:∀ h',Heap.FlyingW base outer e cls a0 h'→s.heap.UpToSlots h'→(∀ y,F2 s.heap e y→F2 h' e y)→Q () { s with heap:=h' }):wpAny M A (leaving env (.ref e)) Q E s:=by
  unfold leaving
  refine wpAny_bind (wpAny_noteFrame_againW fL hh.2.2.2 ?_)
  obtain ⟨n1,n2,n3,n4⟩:=hh
  refine flight_off n1 n2 n3 n4 fun h2 f2 sl2 c2 => ?_
  obtain ⟨m1,m2,⟨_,_,m3⟩,m4⟩:=f2
  exact k h2 ⟨m1,m2,m3,m4⟩ sl2 c2
theorem came_back {base:Heap} {env:Env} {l:List Env} {L e:Addr} {cls a0:Value} (fL:env.frame=some L) (hh:Heap.HeldW base l e cls a0 L s.heap)
    (k:∀ h',Heap.HeldW base l e cls a0 L h'→s.heap.UpToSlots h'→(∀ y,F2 s.heap e y→F2 h' e y)→E (.ref e) { s with heap:=h' }):cameBackBy M A env E (.ref e) s:=by
  obtain ⟨oe,vs,Tr,oT,ts,ge,gc,gd,g1,_⟩:=id hh.2.2.2
  unfold cameBackBy
  refine wpAny_bind (wpAny_field ge gd g1 ?_)
  rw [if_neg (show ¬ ((Value.ref Tr == Value.none)=true) by simp),fL]
  first
    | exact flight_at hh k
    | exact wpAny_bind (wpAny_pure (flight_at hh k))
end
end L2
namespace L2
open PySem PySem.Spec PyProof.Rows

noncomputable def XCm (ea C:Addr) (m:Option Addr):HO := .ext fun h=>∃ o vs,h.get? ea=some o∧o.cls = .ref C∧o.data = .fields vs∧vs[2]? = some (ctxV m)
noncomputable def ChO (H:Hp) (ea:Addr):Prop:=(∃ C,H ea=some (XCm ea C none))∨∃ C a C',a≠ea∧H ea=some (XCm ea C (some a))∧H a=some (XCm a C' none)
noncomputable def XH (X:Cx) (ea:Addr):Value→Shared→Prop:=notedBy (model X.prog X.w) (X.A.mark (some (.ref ea))) X.env fun x s2=>cameBackBy (model X.prog X.w) X.A X.env X.xe x s2
noncomputable abbrev Cx.hdl (X:Cx) (ea:Addr):Cx:=X.uncalm (X.A.mark (some (.ref ea))) (XH X ea)
noncomputable def FliesN (X:Cx) (ea C:Addr) (E:XK):Prop := ∀ (pins:List (Addr × Obj)) (σ : St) (H:Hp) (s:Shared) (h':Heap) (e:Addr),Inv (X.hdl ea) pins σ H s→NewX s.heap h' e C ea→E (.ref C) (some ea) H→XH X ea (.ref e) { s with heap:=h' }
section
variable {P:Program} {w:World} {K:PySem.W.Frag} {mg:Str→Option Value} {base:Heap} {N:List Str} {qual:Str} {scope:Scope} {f:Addr} {cdv:Value} {A:Around} {outer:List Env} {s0:Shared} {H0:Hp} {E:XK} {ea C:Addr}
theorem fliesN:FliesN (cxOf (CXE P w) P w K mg base N qual scope f cdv A outer s0 H0 E) ea C E:=by
  intro pins σ H s h' e I nx q
  have fr:s.heap.FunFrames base (envOfC qual scope s0.heap.objs.size f cdv :: outer):=I.stack
  have sf:∀ b∈frs (envOfC qual scope s0.heap.objs.size f cdv :: outer),H b=none:=I.stkFree
  have hin:∀ env∈(envOfC qual scope s0.heap.objs.size f cdv :: outer),∀ b,env.frame=some b→b∈frs (envOfC qual scope s0.heap.objs.size f cdv :: outer):=fun env he b hb=>List.mem_filterMap.mpr ⟨env,he,hb⟩
  have es:frs (envOfC qual scope s0.heap.objs.size f cdv :: outer)=s0.heap.objs.size :: frs outer:=stack_frs rfl
  obtain ⟨oe,vs,a0,ge,gc,gd,g1,g0⟩:=nx.there
  have ff:=(PySem.W.funFrames_hide fr hin).of_keeps (h':=h') fun b o z _=>⟨o,nx.keeps b o z,rfl⟩
  have kb:(PySem.W.hideAll s.heap (frs (envOfC qual scope s0.heap.objs.size f cdv :: outer))).StaysIn h':=fun b o z=>nx.keeps b o (PySem.W.of_hideAll _ z)
  have be:(PySem.W.hideAll s.heap (frs (envOfC qual scope s0.heap.objs.size f cdv :: outer))).get? e=none:=by
    cases z:(PySem.W.hideAll s.heap (frs (envOfC qual scope s0.heap.objs.size f cdv :: outer))).get? e with
    | none=>rfl
    | some o=>have:=PySem.W.of_hideAll _ z;rw [nx.new] at this;cases this
  show wpAny _ _ (noteFrame _ _) _ _ _
  refine note_new (s := { s with heap:=h' }) (a0:=a0) I.ok.frames ff rfl ge kb be gd g1 g0 fun h1 hh sl1 c1 => ?_
  rw [gc] at hh
  refine came_back (s := { s with heap:=h1 }) rfl hh fun h2 hh2 sl2 c2 => ?_
  show wpAny _ _ (leaving _ _) _ _ _
  refine leave_held (s := { s with heap:=h2 }) rfl hh2 fun h3 x1 sl3 c3 => ?_
  have x4:=(sl1.trans sl2).trans sl3
  have cov:∀ b o,s.heap.get? b=some o→b ∉ s0.heap.objs.size :: frs outer→(PySem.W.hideAll s.heap (frs (envOfC qual scope s0.heap.objs.size f cdv :: outer))).get? b=some o:=fun b o z hb=>PySem.W.hideAll_get _ z (by rw [es];exact hb)
  have Ib:Un (frs outer) [] H0 H s0.heap s.heap:=I.base
  refine ⟨e,C,a0,_,H,rfl,x1,I.os,I.bare,HOk.part I.hok fun b u v z1 z2=>PySem.W.hideAll_get _ z2 fun hm => ?_,?_,?_,some ea,c3 _ (c2 _ (c1 _ nx.ctx)),q⟩
  · rw [sf b hm] at z1;cases z1
  · refine Un.fly (h:=s.heap) (h1:=h') (L:=s0.heap.objs.size) Ib (Un.kept nx.keeps) (Heap.get?_none_of_le (Nat.le_refl _)) (fun b o z hb=>⟨o,cov b o z hb⟩) (fun b o z=>nx.keeps _ _ (PySem.W.of_hideAll _ z)) x1.1 x4 fun b hb => ?_
    obtain ⟨_,o,z,d⟩:=fr.mem (b:=b) (by show b∈frs _;rw [es];exact List.mem_cons_of_mem _ hb)
    exact ⟨o,nx.keeps _ _ z,d⟩
  · intro b o z hb
    obtain ⟨o1,z1⟩:=Ib.there b o z (by simp)
    refine ⟨o1,cov b o1 z1 fun hm => ?_⟩
    rcases List.mem_cons.mp hm with y | y
    · rw [y,Heap.get?_none_of_le (Nat.le_refl _)] at z;cases z
    · exact hb y
end
inductive J_tRaiseN (ea C:Addr) (E:XK) (vs:List V) (H1:Hp):Prop
  | mk (z0:vs.length≤sizeLine) (z1:ChO H1 ea) (z2:E (.ref C) (some ea) H1):J_tRaiseN ea C E vs H1
noncomputable def tRaiseN (C:Addr) (E:XK) (t:TA) (ea:Addr):TS:=fun _ σ H=>t σ H fun vs H1=>J_tRaiseN ea C E vs H1
theorem ps_raiseN {X:Cx} {ea C:Addr} {x:Str} {E:XK} {e₀ : Expr} {rest:List Expr} {t:TA} {np cpos pos npos:Pos} {j:Nat} (O:Exc X.K X.mg x C) (F:FliesN X ea C E) (ha:PA (X.hdl ea) (e₀ :: rest) t) (hg:Gl X x)
    (he:starEach (e₀ :: rest) X.env=(false,eval e₀ X.env) :: starEach rest X.env:=by rfl) (hplain:(backTo cpos (starEach rest X.env)).any (·.1)=false:=by rfl) (hd:(x == ("__debug__" : Str))=false:=by decide) :
    PS (X.hdl ea) (.Raise (some (.Call (.Name x np) (e₀ :: rest) [] cpos)) (some (.Constant .none j npos)) pos) (tRaiseN C E t ea):=by
  intro pins s σ H D I h
  obtain ⟨tl,N,nm,q,bs,hdct,sn,sub,ab,col,dd,k0,k1,k2,k3,k5,mN,hC,hN,hni,T⟩:=(O.own I.ok.mod.kin).obj
  refine raise_call_caused (C:=C) (nm:=nm) (qn:=q) (N:=N) (bs:=bs) (bm:=tl) (hdct:=hdct) (sn:=sn) (sub:=sub) (ab:=ab) (col:=col) (dd:=dd) (k0:=k0) (k1:=k1) (k2:=k2) (k3:=k3) (k5:=k5)
    PySem.F.excBase_ValueError (mN:=mN) (ha:=ea) (T.hasType PySem.F.excBase_ValueError.hasBase) rfl (by rw [he];show (false || (backTo cpos (starEach rest X.env)).any (·.1))=false;rw [hplain];rfl) hni (ld_glob I hg O.glob ⟨rfl,?_⟩ hd)
  have h₂ := ha cpos pins s σ H _ I h
  have he':starEach (e₀ :: rest) (X.hdl ea).env=(false,eval e₀ (X.hdl ea).env) :: starEach rest (X.hdl ea).env:=he
  rw [he'] at h₂ ⊢
  refine Calls.evalArgs_plain (wpAny_mono h₂ (fun vs s₂ ⟨xs,H1,I1,r,hl,hx,hq⟩ => ?_) fun _ _ y=>y)
  have one:∀ {b CC:Addr} {m:Option Addr},H1 b=some (XCm b CC m)→F2 s₂.heap b (ctxV m):=fun {b CC m} hb=>by
    obtain ⟨⟨o,ws,a1,_,a3,a4⟩,_⟩:=(show ObjOk X.prog X.w H1 s₂.heap b (XCm b CC m) from I1.hok b _ hb)
    exact ⟨o,ws,a1,a3,a4⟩
  have cn:Chn s₂.heap ea:=by
    rcases hx with ⟨CC,hx⟩ | ⟨CC,a,CC',na,h1,h2⟩
    · exact .inl (one hx)
    · exact .inr ⟨a,na,one h1,one h2⟩
  exact ⟨rfl,by rw [← r.length];exact hl,I1.bk _ _ hC,hN.keeps I1.bk,T.keeps I1.bk,cn,fun h' e hm=>F pins σ H1 s₂ h' e I1 hm hq⟩
section
variable {X:Cx} {pins:List (Addr × Obj)} {σ : St} {H0 H':Hp} {s0 s':Shared} {ea C:Addr} {a0:Value} {B h5:Heap} {m:Option Addr}
theorem caught_invC (I:Inv X pins σ H0 s0) (fl:Heap.FlyingW B X.stack ea (.ref C) a0 s'.heap) (os:s'.os=s0.os) (bare:AllBare s'.gens) (hok:HOk X.prog X.w H' B) (un:Un (frs X.stack) [] H0 H' s0.heap s'.heap)
    (cov:∀ b o,s0.heap.get? b=some o→b ∉ frs X.stack→∃ o',B.get? b=some o') (k5:∀ b o,B.get? b=some o→h5.get? b=some o) (sl:s'.heap.UpToSlots h5) (he:∃ o vs,h5.get? ea=some o∧o.cls = .ref C∧o.data = .fields vs∧vs[2]? = some (ctxV m)) :
    Inv X pins σ (upd H' ea (XCm ea C m)) { s' with heap:=h5 }∧H' ea=none:=by
  have hn:H' ea=none:=hok.notThere fl.2.1
  have fm:∀ b∈frs X.stack,∃ o,s'.heap.get? b=some o∧∀ vs,o.data ≠ .fields vs:=fun b hb=>(fl.2.2.1.mem hb).2
  obtain ⟨oe,vs,h1,h2,h3,h4⟩:=he
  have new:s0.heap.get? ea=none:=by
    cases q:s0.heap.get? ea with
    | none=>rfl
    | some o =>
      by_cases hb:ea∈frs X.stack
      · obtain ⟨ob,q3,d⟩:=fm ea hb
        obtain ⟨s4,q4⟩:=sl ea _ q3 d
        rw [h1] at q4
        cases q4
        exact absurd h3 (d vs)
      · obtain ⟨o',e⟩:=cov ea o q hb
        rw [fl.2.1] at e;cases e
  refine ⟨Inv.call' (s' := { s' with heap:=h5 }) I os ((un.on cov fl.1 k5 sl fm).more new hn) ?_ bare (fun b z=>absurd z (by simp)),hn⟩
  intro b u e
  have tup:∀ c xs,H' c=some (.tup xs)→upd H' ea (XCm ea C m) c=some (.tup xs):=fun c xs z=>by rw [upd_ne (ne_of_none z hn)];exact z
  have own:∀ c y,H' c=some (.own y)→upd H' ea (XCm ea C m) c=some (.own y):=fun c y z=>by rw [upd_ne (ne_of_none z hn)];exact z
  by_cases hb:b=ea
  · subst hb
    rw [upd_same] at e
    cases e
    exact ⟨⟨oe,vs,h1,h2,h3,h4⟩,⟨oe,h1⟩,fun g1 g2 ⟨o,ws,z1,z2⟩ k=>⟨o,ws,k o z1,z2⟩⟩
  · rw [upd_ne hb] at e
    exact (hok b u e).stay (fun c v hc q=>k5 _ _ q) (fun c z=>own c b z) tup
end
noncomputable def tTryR (K:PySem.W.Frag) (CH:Addr) (tb:XK→TS) (th:Addr→TS):TS:=fun D σ H =>
  tb (fun cls m H'=>∃ C,cls = .ref C∧PySem.W.exmOne K (.ref C) (.ref CH)=some true∧∀ ea,H' ea=none→th ea D σ (upd H' ea (XCm ea C m))) D σ H
noncomputable def PStG (X:Cx) (st:List Stmt) (t:(St→XK)→TS):Prop := ∀ (E:St→XK) (pins:List (Addr × Obj)) (s:Shared) (σ : St) (H:Hp) (D:Ends) (xe:Value→Shared→Prop),(∀ σ,Wish X pins σ (E σ) xe)→Inv X pins σ H s→t E D σ H →
  wpAny (model X.prog X.w) X.A (execs st X.env) (SP X pins D) xe s
theorem pstG_one {X:Cx} {st:List Stmt} {t:XK→TS} (h:PSt X st t):PStG X st (fun E D σ H=>t (E σ) D σ H):=fun E pins s σ H D xe W I q=>h (E σ) pins s σ H D xe (W σ) I q
theorem pstG_set {X:Cx} {e:Expr} {pos:Pos} {b:Stmt} {rest:List Stmt} {u:(St→XK)→TS} {i:Nat} {y:Str} {te:XK→TE} {pos':Pos} (hN:X.N.Nodup) (hi:X.N[i]? = some y) (hx:Loc X.env.scope y) (he:PEt X e te) (g:PStG X (b :: rest) u) (hs:swapsWith e (some (.Name y pos')) pos.line X.env=pure false:=by rfl)
    (hf:X.fn y=true∨X.env.scope.names.lookup y=some .local:=by first | exact .inl rfl | exact .inr rfl | assumption):PStG X (.Assign [.Name y pos'] e pos :: b :: rest) (fun E D σ H=>tAsg (te (E σ)) (gName i) { D with nx:=fun σ1 H1=>u E D σ1 H1 } σ H):=by
  intro E pins s σ H D xe W I h
  refine wpAny_execs_cons (wpAny_Assign_Name (thn (he (E σ) pins s σ H _ xe (W σ) I h) fun v s1 ⟨z,H1,I1,r1,q1⟩ => ?_) hs)
  exact store_ok I1 hN hi hx r1 (fun s2 I2=>g E pins s2 _ H1 D xe W I2 q1) hf
noncomputable def tTryG (K:PySem.W.Frag) (CH:Addr) (tb:(St→XK)→TS) (th:Addr→TS):TS:=fun D σ H =>
  tb (fun σ cls m H'=>∃ C,cls = .ref C∧PySem.W.exmOne K (.ref C) (.ref CH)=some true∧∀ ea,H' ea=none→th ea D σ (upd H' ea (XCm ea C m))) D σ H
theorem ps_tryR {X:Cx} {body:List Stmt} {tb:XK→TS} {th:Addr→TS} {x:Str} {CH:Addr} {b₀ : Stmt} {suite:List Stmt} {np hpos pos:Pos} (hst:X.stack=X.env :: X.outer∧X.env.frame=some X.env.locals)
    (hg:Gl X x) (hm:X.mg x=some (.ref CH)) (hb:PSt X body tb) (hh:∀ ea:Addr,PSs (X.hdl ea) (b₀ :: suite) (th ea)) (hd:(x == ("__debug__" : Str))=false:=by decide) :
    PS X (.Try body [.ExceptHandler (some (.Name x np)) none (b₀ :: suite) hpos] [] [] pos) (tTryR X.K CH tb th):=by
  intro pins s σ H D I h
  refine wpAny_Try_except (wpAny_mono (hb _ pins s σ H D _ ?W I h) (fun f s1 q => ?_) fun _ _ z=>z)
  case W =>
    intro H0 s0 e s' I0 hx
    obtain ⟨ea,C,a0,B,H',rfl,fl,os,bare,hok,un,cov,m,c0,C',hc,hex,hth⟩:=hx
    cases hc
    have hfr:X.A.frames=some (X.env :: X.outer):=by rw [I0.ok.frames,hst.1]
    have fl0:Heap.FlyingW B (X.env :: X.outer) ea (.ref C) a0 s'.heap:=by rw [← hst.1];exact fl
    refine note_on hfr hst.2 fl0 fun h₄ held₄ sm₄ c4 => ?_
    obtain ⟨p1,p2,p3,p4⟩:=held₄
    refine flight_off (s := { s' with heap:=h₄ }) p1 p2 p3 p4 fun h₅ fl₅ sm₅ c5 => ?_
    have c05:=c5 _ (c4 _ c0)
    obtain ⟨o5,vs5,g1,g2,g3,_⟩:=fl₅.first
    have two:∀ {h:Heap} {o:Obj} {vs:Array Value},h.get? ea=some o→o.cls = .ref C→o.data = .fields vs→F2 h ea (ctxV m)→∃ o vs,h.get? ea=some o∧o.cls = .ref C∧o.data = .fields vs∧vs[2]? = some (ctxV m):=fun {h o vs} q1 q2 q3 c=>by
      obtain ⟨o',vs',r1,r2,r3⟩:=c
      rw [q1] at r1
      cases r1
      exact ⟨o,vs',q1,q2,r2,r3⟩
    obtain ⟨I5,hea⟩:=caught_invC (h5:=h₅) I0 fl os bare hok un cov fl₅.1 (sm₄.trans sm₅) (two g1 g2 g3 c05)
    have J5:Inv (X.hdl ea) pins σ (upd H' ea (XCm ea C m)) { s' with heap:=h₅ }:=I5.uncalm rfl
    refine wpAny_handleBy_cons (codeAny_handlers_test (ld_glob J5 hg hm ?_ hd)) (by intro q;cases q)
    have LT:PySem.W.Looks (model X.prog X.w) h₅ (typeOf (.ref ea)) (.ref C):=g2 ▸ (PySem.W.Looks.ld g1).andThen .now
    refine (PySem.W.exm_one (M:=model X.prog X.w) I5.kIn LT hex).at ?_
    show codeAny _ _ _ _ _
    refine codeAny_handlers_suite ?_
    refine flight_off (s := { s' with heap:=h₅ }) fl₅.1 fl₅.2.1 fl₅.2.2.1 fl₅.2.2.2 fun h₆ fl₆ sm₆ c6 => ?_
    obtain ⟨o6,vs6,j1,j2,j3,_⟩:=fl₆.first
    obtain ⟨I6,_⟩:=caught_invC (h5:=h₆) I0 fl os bare hok un cov fl₆.1 ((sm₄.trans sm₅).trans sm₆) (two j1 j2 j3 (c6 _ c05))
    refine wpAny_mono (hh ea pins _ _ _ _ (I6.uncalm rfl) (hth ea hea)) (fun f s8 q8 => ?_) fun _ _ z=>z
    have back:∀ {σ' H''} {s9:Shared},Inv (X.hdl ea) pins σ' H'' s9→Inv X pins σ' H'' s9:=fun J=>J.recalm I0.ok.hd rfl
    cases f with
    | next =>
      obtain ⟨σ',H'',J,q⟩:=q8
      exact ⟨_,_,back J,q⟩
    | brk =>
      obtain ⟨σ',H'',J,q⟩:=q8
      exact ⟨_,_,back J,q⟩
    | cont =>
      obtain ⟨σ',H'',J,q⟩:=q8
      exact ⟨_,_,back J,q⟩
    | ret u =>
      obtain ⟨v, σ',H'',J,r,q⟩:=q8
      exact ⟨v,_,_,back J,r,q⟩
  cases f with
  | next=>exact wpAny_execs_nil q
  | brk=>exact q
  | cont=>exact q
  | ret u=>exact q
theorem ps_tryG {X:Cx} {body:List Stmt} {tb:(St→XK)→TS} {th:Addr→TS} {x:Str} {CH:Addr} {b₀ : Stmt} {suite:List Stmt} {np hpos pos:Pos} (hst:X.stack=X.env :: X.outer∧X.env.frame=some X.env.locals)
    (hg:Gl X x) (hm:X.mg x=some (.ref CH)) (hb:PStG X body tb) (hh:∀ ea:Addr,PSs (X.hdl ea) (b₀ :: suite) (th ea)) (hd:(x == ("__debug__" : Str))=false:=by decide) :
    PS X (.Try body [.ExceptHandler (some (.Name x np)) none (b₀ :: suite) hpos] [] [] pos) (tTryG X.K CH tb th):=by
  intro pins s σ H D I h
  refine wpAny_Try_except (wpAny_mono (hb _ pins s σ H D _ ?W I h) (fun f s1 q => ?_) fun _ _ z=>z)
  case W =>
    intro σ H0 s0 e s' I0 hx
    obtain ⟨ea,C,a0,B,H',rfl,fl,os,bare,hok,un,cov,m,c0,C',hc,hex,hth⟩:=hx
    cases hc
    have hfr:X.A.frames=some (X.env :: X.outer):=by rw [I0.ok.frames,hst.1]
    have fl0:Heap.FlyingW B (X.env :: X.outer) ea (.ref C) a0 s'.heap:=by rw [← hst.1];exact fl
    refine note_on hfr hst.2 fl0 fun h₄ held₄ sm₄ c4 => ?_
    obtain ⟨p1,p2,p3,p4⟩:=held₄
    refine flight_off (s := { s' with heap:=h₄ }) p1 p2 p3 p4 fun h₅ fl₅ sm₅ c5 => ?_
    have c05:=c5 _ (c4 _ c0)
    obtain ⟨o5,vs5,g1,g2,g3,_⟩:=fl₅.first
    have two:∀ {h:Heap} {o:Obj} {vs:Array Value},h.get? ea=some o→o.cls = .ref C→o.data = .fields vs→F2 h ea (ctxV m)→∃ o vs,h.get? ea=some o∧o.cls = .ref C∧o.data = .fields vs∧vs[2]? = some (ctxV m):=fun {h o vs} q1 q2 q3 c=>by
      obtain ⟨o',vs',r1,r2,r3⟩:=c
      rw [q1] at r1
      cases r1
      exact ⟨o,vs',q1,q2,r2,r3⟩
    obtain ⟨I5,hea⟩:=caught_invC (h5:=h₅) I0 fl os bare hok un cov fl₅.1 (sm₄.trans sm₅) (two g1 g2 g3 c05)
    have J5:Inv (X.hdl ea) pins σ (upd H' ea (XCm ea C m)) { s' with heap:=h₅ }:=I5.uncalm rfl
    refine wpAny_handleBy_cons (codeAny_handlers_test (ld_glob J5 hg hm ?_ hd)) (by intro q;cases q)
    have LT:PySem.W.Looks (model X.prog X.w) h₅ (typeOf (.ref ea)) (.ref C):=g2 ▸ (PySem.W.Looks.ld g1).andThen .now
    refine (PySem.W.exm_one (M:=model X.prog X.w) I5.kIn LT hex).at ?_
    show codeAny _ _ _ _ _
    refine codeAny_handlers_suite ?_
    refine flight_off (s := { s' with heap:=h₅ }) fl₅.1 fl₅.2.1 fl₅.2.2.1 fl₅.2.2.2 fun h₆ fl₆ sm₆ c6 => ?_
    obtain ⟨o6,vs6,j1,j2,j3,_⟩:=fl₆.first
    obtain ⟨I6,_⟩:=caught_invC (h5:=h₆) I0 fl os bare hok un cov fl₆.1 ((sm₄.trans sm₅).trans sm₆) (two j1 j2 j3 (c6 _ c05))
    refine wpAny_mono (hh ea pins _ _ _ _ (I6.uncalm rfl) (hth ea hea)) (fun f s8 q8 => ?_) fun _ _ z=>z
    have back:∀ {σ' H''} {s9:Shared},Inv (X.hdl ea) pins σ' H'' s9→Inv X pins σ' H'' s9:=fun J=>J.recalm I0.ok.hd rfl
    cases f with
    | next =>
      obtain ⟨σ',H'',J,q⟩:=q8
      exact ⟨_,_,back J,q⟩
    | brk =>
      obtain ⟨σ',H'',J,q⟩:=q8
      exact ⟨_,_,back J,q⟩
    | cont =>
      obtain ⟨σ',H'',J,q⟩:=q8
      exact ⟨_,_,back J,q⟩
    | ret u =>
      obtain ⟨v, σ',H'',J,r,q⟩:=q8
      exact ⟨v,_,_,back J,r,q⟩
  cases f with
  | next=>exact wpAny_execs_nil q
  | brk=>exact q
  | cont=>exact q
  | ret u=>exact q
section
variable {X:Cx} {k k':Nat} {m:Str} {C:Addr} {ps:List Str} {dvs:List V} {sp:Sp} {pos apos:Pos} {e o:Expr} {es:List Expr} {ta:TE} {t:TA} {pl:Sem Bool}
theorem pet_meth {f:Addr} {fd:FuncData} {ds:List Value} (he:PE X.nox o ta) (c:Cls X.K C) (hm:Meth X.K C m f) (F:FnOk X.prog X.w X.K X.mg X.base (CXE X.prog X.w) k f fd ps sp) (hr:Room k X.A) (hb:Binds X.K fd ps ds) (hd:Vals dvs ds) (ha:PA X.nox (e :: es) t)
    (hst:starEach (e :: es) X.env=(false,eval e X.env) :: starEach es X.env:=by rfl) (hpl:(backTo pos (starEach es X.env)).any (·.1)=false:=by rfl)
    (ht:eval (.Call (.Attribute o m apos) (e :: es) [] pos) X.env=(do
      let ov ← eval o X.env
      standAt apos.atName
      let (f,first) ← holding [ov] (getMethod ov m pl)
      callWith pos f first (backTo pos (starEach (e :: es) X.env)) (backToKw pos (keywordEach [] X.env))):=by rfl) :
    PEt X (.Call (.Attribute o m apos) (e :: es) [] pos) (fun E=>tMeth C m sp dvs E ta t):=by
  intro E pins s σ H Q xe W I h
  refine PySem.W.methodCall_KW (pl:=pl) (wpAny_mono (he pins s σ H _ (I.wish _) h) (fun u s1 ⟨x,H1,I1,rx,a,dx,fs,ex,ea,l,q⟩ => ?_) fun _ _ z=>False.elim z) ht
  subst ex
  have I1:=I1.unwish
  obtain rfl:u=Value.ref a:=rx
  refine getmeth_ok I1 ea c hm l ?_
  refine PySem.W.callWith_K (first := [.ref a]) (h₀ := X.base) I.ok.mod.kin hm.kp (wpAny_mono (ha pos pins s1 σ H1 _ (I1.wish _) q) (fun us s2 ⟨vs,H2,I2,r,q2⟩=>⟨I2.unwish.kIn,?_⟩) fun _ _ z=>False.elim z) hst hpl
  exact run_fnX (us := .ref a :: us) (vs := .ref a :: vs) F hr hb hd I2.unwish (fun e s' hq=>W H2 s2 e s' I2.unwish hq) (.cons rfl r) q2
theorem pet_mE (h:HasM X.prog X.w X.K X.mg X.base k C m ps sp) (c:Cls X.K C) (hr:Room k' X.A) (hk:k≤k') (he:PE X.nox o ta) (ha:PA X.nox (e :: es) t)
    (hst:starEach (e :: es) X.env=(false,eval e X.env) :: starEach es X.env:=by rfl) (hpl:(backTo pos (starEach es X.env)).any (·.1)=false:=by rfl)
    (ht:eval (.Call (.Attribute o m apos) (e :: es) [] pos) X.env=(do
      let ov ← eval o X.env
      standAt apos.atName
      let (f,first) ← holding [ov] (getMethod ov m pl)
      callWith pos f first (backTo pos (starEach (e :: es) X.env)) (backToKw pos (keywordEach [] X.env))):=by rfl) :
    PEt X (.Call (.Attribute o m apos) (e :: es) [] pos) (fun E=>tMeth C m sp [] E ta t):=by
  obtain ⟨f,fd,F,hm,hb⟩:=h.ex
  exact pet_meth he c hm F (hr.mono hk) hb .nil ha hst hpl ht
theorem pet_mEd (h:HasMd X.prog X.w X.K X.mg X.base k C m ps dvs sp) (c:Cls X.K C) (hr:Room k' X.A) (hk:k≤k') (he:PE X.nox o ta) (ha:PA X.nox (e :: es) t)
    (hst:starEach (e :: es) X.env=(false,eval e X.env) :: starEach es X.env:=by rfl) (hpl:(backTo pos (starEach es X.env)).any (·.1)=false:=by rfl)
    (ht:eval (.Call (.Attribute o m apos) (e :: es) [] pos) X.env=(do
      let ov ← eval o X.env
      standAt apos.atName
      let (f,first) ← holding [ov] (getMethod ov m pl)
      callWith pos f first (backTo pos (starEach (e :: es) X.env)) (backToKw pos (keywordEach [] X.env))):=by rfl) :
    PEt X (.Call (.Attribute o m apos) (e :: es) [] pos) (fun E=>tMeth C m sp dvs E ta t):=by
  obtain ⟨f,fd,ds,F,hm,hb,hv⟩:=h.ex
  exact pet_meth he c hm F (hr.mono hk) hb hv ha hst hpl ht
theorem pst_ret {te:XK→TE} {rpos:Pos} (he:PEt X e te):PSt X [.Return (some e) rpos] (fun E=>tRet (te E)):=by
  intro E pins s σ H D xe W I h
  exact wpAny_execs_cons (wpAny_Return_some (thn (he E pins s σ H _ xe W I h) fun v s1 ⟨x,H1,I1,r1,q1⟩=>⟨x, σ,H1,I1,r1,q1⟩))
end
structure HasMN (P:Program) (w:World) (K:PySem.W.Frag) (mg:Str→Option Value) (base:Heap) (k:Nat) (C:Addr) (m:Str) (ps:List Str) (sp:Sp):Prop where
  ex:∃ f fd,FnN P w K mg base k f fd ps sp∧Meth K C m f∧Binds K fd ps []
theorem pe_mN {X:Cx} {k k':Nat} {m:Str} {C:Addr} {ps:List Str} {sp:Sp} {pos apos:Pos} {e o:Expr} {es:List Expr} {ta:TE} {t:TA} {pl:Sem Bool} (h:HasMN X.prog X.w X.K X.mg X.base k C m ps sp) (c:Cls X.K C) (hr:RoomN k' X.A) (hk:k≤k') (he:PE X o ta) (ha:PA X (e :: es) t)
    (hst:starEach (e :: es) X.env=(false,eval e X.env) :: starEach es X.env:=by rfl) (hpl:(backTo pos (starEach es X.env)).any (·.1)=false:=by rfl)
    (ht:eval (.Call (.Attribute o m apos) (e :: es) [] pos) X.env=(do
      let ov ← eval o X.env
      standAt apos.atName
      let (f,first) ← holding [ov] (getMethod ov m pl)
      callWith pos f first (backTo pos (starEach (e :: es) X.env)) (backToKw pos (keywordEach [] X.env))):=by rfl) :
    PE X (.Call (.Attribute o m apos) (e :: es) [] pos) (tMeth C m sp [] E0 ta t):=by
  obtain ⟨f,fd,F,hm,hb⟩:=h.ex
  intro pins s σ H Q I h
  refine PySem.W.methodCall_KW (pl:=pl) (thn (he pins s σ H _ I h) fun u s1 ⟨x,H1,I1,rx,a,dx,fs,ex,ea,l,q⟩ => ?_) ht
  subst ex
  obtain rfl:u=Value.ref a:=rx
  refine getmeth_ok I1 ea c hm l ?_
  refine PySem.W.callWith_K (first := [.ref a]) (h₀ := X.base) I.ok.mod.kin hm.kp (thn (ha pos pins s1 σ H1 _ I1 q) fun us s2 ⟨vs,H2,I2,r,q2⟩=>⟨I2.kIn,?_⟩) hst hpl
  have q3:sp (.ref a :: (vs ++ [])) H2 Q E0:=q2
  rw [List.append_nil] at q3
  have r3:Vals (.ref a :: vs) (.ref a :: us) := .cons rfl r
  have hl:(Value.ref a :: us).length=ps.length:=by rw [← r3.length];exact F.len _ _ _ _ q3
  have hb':=hb s2 (.ref a :: us) I2.kIn (by rw [List.append_nil];exact hl)
  rw [List.append_nil] at hb'
  refine wpAny_call (codeAny_mono (F.run X.A X.stack s2 H2 ⟨.ref a :: us, []⟩ (.ref a :: us) (.ref a :: vs) Q (hr.mono hk) I2.env0 hb' r3 q3) fun r s' hq => ?_)
  cases r with
  | error e=>exact False.elim hq
  | ok fl =>
    cases fl with
    | ret u=>exact I2.after hq
    | next=>exact False.elim hq
    | brk=>exact False.elim hq
    | cont=>exact False.elim hq
theorem un10N {k:Nat} {A:Around} (r:RoomN k A):A.units+10 < cLine:=by have:=r.un;omega
theorem DefM.hasN {P:Program} {w:World} {K:PySem.W.Frag} {mg:Str→Option Value} {base:Heap} {m qual:Str} {C:Addr} {st:Stmt} {N ps:List Str} {k:Nat} {sp:Sp} (D:DefM K C m qual st ps) (S:FnScope N ps (defScope st)) (len:∀ vs H Q E,sp vs H Q E→vs.length=ps.length)
    (hbody:∀ (f:Addr) (cdv:Value) (A:Around) (outer:List Env) (s:Shared) (H:Hp) (vs:List V) (Q:VK),RoomN k (A.deeper (envOfC qual (defScope st) s.heap.objs.size f cdv))→sp vs H Q E0 →
      ∃ t,PSs ((cxOf CX0 P w K mg base N qual (defScope st) f cdv { A with handled:=none } outer s H E0).uncalm (A.deeper (envOfC qual (defScope st) s.heap.objs.size f cdv)) fun _ _=>False) (defBody st) t∧t { nx:=fun _ H'=>Q .non H',rt:=Q } (start N vs) H):HasMN P w K mg base (k+1) C m ps sp:=by
  obtain ⟨f,fd,F,hm,hb⟩:=D.ex
  exact ⟨f,fd,fn_N F S len (hbody f),hm,hb⟩
end L2
namespace L2
open PySem PySem.Spec PyProof.Rows

theorem erase_key {α β : Type} [DecidableEq α] {k : α}:∀ {xs:List (α × β)} {j:Nat} {p : β},(xs.map (·.1)).Nodup→xs[j]? = some (k,p)→xs.eraseIdx j=xs.filter fun x => !decide (x.1=k)
  | [],j,p,_,h=>by simp at h
  | x :: xs,0,p,hn,h=>by
    rw [List.getElem?_cons_zero] at h
    cases h
    rw [List.eraseIdx_cons_zero,List.filter_cons,if_neg (by simp)]
    rw [List.map_cons,List.nodup_cons] at hn
    refine (List.filter_eq_self.mpr fun y hy => ?_).symm
    rw [decide_eq_false (fun z=>hn.1 (by rw [← z];exact List.mem_map.mpr ⟨y,hy,rfl⟩))];rfl
  | x :: xs,j+1,p,hn,h=>by
    rw [List.getElem?_cons_succ] at h
    rw [List.map_cons,List.nodup_cons] at hn
    have hx:¬ x.1=k:=fun z=>hn.1 (by rw [z];exact List.mem_map.mpr ⟨_,List.mem_of_getElem? h,rfl⟩)
    rw [List.eraseIdx_cons_succ,List.filter_cons,if_pos (by rw [decide_eq_false hx];rfl),erase_key hn.2 h]
theorem erase_map {α β : Type} (f : α → β):∀ (l:List α) (j:Nat),(l.map f).eraseIdx j=(l.eraseIdx j).map f
  | [],_=>rfl
  | _ :: _,0=>rfl
  | x :: l,j+1=>by rw [List.map_cons,List.eraseIdx_cons_succ,List.eraseIdx_cons_succ,List.map_cons,erase_map f l j]
noncomputable def dropN (kvs:List (NK × V)) (k:NK):List (NK × V):=kvs.filter fun x => !decide (x.1=k)
theorem valV_dropN (kvs:List (NK × V)) (k j:NK):valV (dropN kvs k) j=if j=k then none else valV kvs j:=by
  unfold dropN
  induction kvs with
  | nil=>rw [List.filter_nil,valV_nil];split <;> rfl
  | cons p r ih =>
    rw [List.filter_cons]
    by_cases e:p.1=k
    · rw [if_neg (by simp [e]),ih]
      by_cases z:j=k
      · rw [if_pos z,if_pos z]
      · rw [if_neg z,if_neg z,valV_neg (fun q=>z (q.symm.trans e))]
    · rw [if_pos (by rw [decide_eq_false e];rfl)]
      by_cases z:p.1=j
      · rw [valV_pos z,if_neg (fun q=>e (z.trans q)),valV_pos z]
      · rw [valV_neg z,ih,valV_neg z]
theorem dropN_le (kvs:List (NK × V)) (k:NK):(dropN kvs k).length≤kvs.length:=List.length_filter_le ..
theorem KN.drop {H:Hp} (k:NK) {kvs:List (NK × V)} {xs:List (NK × Addr × Value)} (r:KN H kvs xs):KN H (dropN kvs k) (xs.filter fun x => !decide (x.1=k)):=by
  unfold dropN
  induction r with
  | nil=>exact .nil
  | @cons p q ps qs h t ih =>
    rw [List.filter_cons,List.filter_cons]
    by_cases e:p.1=k
    · rw [if_neg (by simp [e]),if_neg (by simp [← h.1,e])];exact ih
    · rw [if_pos (by rw [decide_eq_false e];rfl),if_pos (by rw [decide_eq_false (fun z=>e (h.1.trans z))];rfl)];exact .cons h ih
section
variable {prog:Program} {w:World} {K:Type} [DecidableEq K] {knd:HeapKind prog w K} {A:Around} {E:Value→Shared→Prop} {s:Shared} {d a:Addr} {k:K} {xs:List (K × Addr × Value)}
theorem takeOut_heap {p:Addr × Value} {Q:Option DictEntry→Shared→Prop} (hu:knd.room A) (hk:knd.is s.heap k a) (dd:s.heap.DictOfH knd d xs) (hz:xs.length≤sizeLine) (hp:atKey xs k=some p)
    (q:∀ en h',en.val=p.2→h'.DictOfH knd d (xs.filter fun x => !decide (x.1=k))→Heap.SameBut d s.heap h'→Q (some en) { s with heap:=h',toks:=s.toks+knd.draws k }) :
    wpAny (model prog w) A (Builtin.Dict.takeOut d (.ref a)) Q E s:=by
  obtain ⟨o,es,ep,go,ge,gd,gs,gi,gn⟩:=dd
  unfold Builtin.Dict.takeOut
  try with_reducible refine wpAny_holding ?_
  refine wpAny_bind (knd.pyHash hu hk ?_)
  refine wpAny_bind (wpAny_dictFind_heap (s := { s with toks:=s.toks+knd.draws k }) hu hk go gd gs gi gn ?_ ?_)
  · intro no
    rw [atKey_none_of_get no] at hp
    cases hp
  · intro j p' hj
    have e:=atKey_of_get gn hj
    rw [hp] at e
    cases e
    refine wpAny_bind (wpAny_dictEntries (s := { s with toks:=s.toks+knd.draws k }) go gd ?_)
    rw [entry_at gs j,hj]
    refine wpAny_bind (wpAny_updateDictKeys (hz:=by have:=size_of_entries gs;omega) (s := { s with toks:=s.toks+knd.draws k }) go gd (wpAny_pure (q _ _ rfl ⟨_,_,ep+1,Heap.get?_update_self _ go (Obj.isFreed_of_dict (Obj.data_mapDictKeys gd _)),ge.mapDictKeys _,Obj.data_mapDictKeys gd _,?_,?_,?_⟩ (Heap.SameBut.update ..))))
    · rw [← erase_key gn hj]
      have:(es.eraseIdxIfInBounds j).toList=es.toList.eraseIdx j:=by obtain ⟨l⟩:=es;simp
      rw [this,gs];exact erase_map _ _ _
    · intro x hx
      exact knd.keeps (gi x (List.mem_filter.mp hx).1) go gd (Heap.SameBut.update ..)
    · exact (gn.sublist (List.Sublist.map _ List.filter_sublist))
end
section
variable {prog:Program} {w:World} {K:Type} [DecidableEq K] (knd:HeapKind prog w K) (d a:Addr)
theorem meetsH_dict_pop:MeetsIn prog w (Builtin.«dict.pop» ⟨[.ref d,.ref a], []⟩) (fun A R s=>knd.room A.in1∧∃ k xs p,knd.is s.heap k a∧s.heap.DictOfH knd d xs∧xs.length≤sizeLine∧atKey xs k=some p ∧
      (∀ h',h'.DictOfH knd d (xs.filter fun x => !decide (x.1=k))→Heap.SameBut d s.heap h'→R (.ok (.ret p.2)) { s with heap:=h',toks:=s.toks+knd.draws k })) :=
  .of_wp fun A R s ⟨hu,k,xs,p,hk,dd,hz,hp,q⟩=>by
    unfold Builtin.«dict.pop»
    refine wpAny_bind ?_
    unfold Builtin.Dict.keyAndDefault
    refine wpAny_bind (wpAny_notOrdered_dict dd.typeIs ?_)
    show wpAny _ _ (pure (d,Value.ref a,none)) _ _ s
    refine wpAny_pure ?_
    obtain ⟨o,es,ep,go,ge,gd,gs,gi,gn⟩:=id dd
    have hne:es.isEmpty=false:=by
      have e1:=size_of_entries gs
      cases xs with
      | nil=>cases hp
      | cons x r=>rw [Array.isEmpty_eq_false_iff];intro z;rw [z] at e1;cases e1
    have hkp:(keyPart (Value.ref a)).isSome=false:=rfl
    simp only [hkp,Bool.false_eq_true,if_false]
    refine wpAny_bind (wpAny_dictEntries go gd (wpAny_bind (wpAny_pure ?_)))
    rw [hne]
    simp only [Bool.false_eq_true,if_false]
    refine wpAny_bind (takeOut_heap hu hk dd hz hp fun en h' ev d' sb => ?_)
    simp only [Option.isNone_some,Bool.false_eq_true,if_false]
    exact wpAny_bind (wpAny_letGo (wpAny_pure ⟨en.val,rfl,by rw [ev];exact q h' d' sb⟩))
end
section
variable {X:Cx} {pins:List (Addr × Obj)} {σ : St} {H:Hp} {s:Shared} {a b:Addr} {kvs:List (NK × V)} {k:NK} {v:V} {A:Around} {E:Value→Shared→Prop}
theorem dn_pop {Q:Value→Shared→Prop} (hu:A.units+10 < cLine) (I:Inv X pins σ H s) (d:DN X.prog X.w H a kvs) (nk:NKey H k b) (hv:valV kvs k=some v)
    (q:∀ w' φ s',RelV v w'→Inv X pins σ (upd H a (.ext φ)) s'→DN X.prog X.w (upd H a (.ext φ)) a (dropN kvs k)→Q w' s'):wpAny (model X.prog X.w) A (call (.builtin "dict.pop") [.ref a,.ref b]) Q E s:=by
  obtain ⟨z,hd,xs,rel,dd⟩:=dn_rd I.hok d
  have hz:xs.length≤sizeLine:=by rw [← Paired.length rel];exact z
  have ro:=rel.val k
  rw [hv] at ro
  cases e:atKey xs k with
  | none=>rw [e] at ro;exact ro.elim
  | some p =>
    rw [e] at ro
    refine call_meetsIn PySem.F.slot_dict_pop dd.typeIs PySem.F.entry_dict_pop (PySem.F.args_dict_pop_2 _ _) (meetsH_dict_pop (nkKind X.prog X.w) a b)
      ⟨(show A.units+1+5 < cLine by omega),k,xs,p,nkey_of I.hok nk,dd,hz,e,fun h' dd' hs => ?_⟩
    obtain ⟨φ,I',d'⟩:=dn_write (t':=s.toks+(nkKind X.prog X.w).draws k) I d hs dd' (rel.drop k) (Nat.le_trans (dropN_le kvs k) z)
    exact q _ φ _ ro I' d'
end
inductive J_tPopN (P:Program) (w:World) (Q:VK) (a:Addr) (y:V) (H2:Hp):Prop
  | mk (kvs:List (NK × V)) (k:NK) (b:Addr) (v:V) (z0:y = .ref b) (z1:DN P w H2 a kvs) (z2:NKey H2 k b) (z3:valV kvs k=some v) (z4:∀ φ,DN P w (upd H2 a (.ext φ)) a (dropN kvs k)→Q v (upd H2 a (.ext φ))):J_tPopN P w Q a y H2
inductive J_tPopD (P:Program) (w:World) (ty:TE) (σ : St) (Q:VK) (x:V) (H1:Hp):Prop
  | mk (a:Addr) (z0:x = .ref a) (z1:∃ kvs,DN P w H1 a kvs) (z2:ty σ H1 fun y H2=>J_tPopN P w Q a y H2):J_tPopD P w ty σ Q x H1
noncomputable def tPopN (P:Program) (w:World) (td ty:TE):TE:=fun σ H Q=>td σ H fun x H1=>J_tPopD P w ty σ Q x H1
section
variable {X:Cx} {o e:Expr} {apos cpos:Pos} {td ty:TE}
theorem pe_popN (hu:X.A.units+10 < cLine) (ho:PE X o td) (he:PE X e ty) (m:M1 X o "pop" apos e cpos):PE X (.Call (.Attribute o "pop" apos) [e] [] cpos) (tPopN X.prog X.w td ty):=by
  intro pins s σ H Q I h
  refine wpAny_Call_method m.base m.few m.line PySem.F.plainAttrs_dict PySem.F.slot_dict_pop PySem.F.type_dict_pop (thn (ho pins s σ H _ I h) fun u s1 ⟨x,H1,I1,rx,a,ex,d,q1⟩ => ?_)
  subst ex
  obtain rfl:u=Value.ref a:=rx
  obtain ⟨t1,t2,_⟩:=isN_at I1 d
  refine ⟨t1,t2,?_⟩
  rw [m.trees]
  refine Calls.callWith_builtin rfl (Calls.evalArgs_plain (Calls.spliced_cons (thn (he pins s1 σ H1 _ I1 q1) fun iv s2 ⟨y,H2,I2,ry,kvs,k,b,v,ey,d2,nk,hv,q2⟩=>Calls.spliced_nil ?_)))
  subst ey
  obtain rfl:iv=Value.ref b:=ry
  exact dn_pop hu I2 d2 nk hv fun w' φ s4 r4 I4 d4=>⟨v,_,I4,r4,q2 φ d4⟩
end
end L2
namespace L2
open PySem PySem.Spec PyProof.Rows
section
variable {X:Cx}
theorem pst_expr {e:Expr} {te:XK→TE} {pos:Pos} (he:PEt X e te) (hs:swapsWith e none pos.line X.env=pure false:=by rfl):PSt X [.Expr e pos] (fun E=>tDrop (te E)):=by
  intro E pins s σ H D xe W I h
  exact wpAny_execs_cons (wpAny_Expr_any (thn (he E pins s σ H _ xe W I h) fun v s1 ⟨x,H1,I1,r1,q1⟩=>wpAny_execs_nil ⟨σ,H1,I1,q1⟩) I.quiet hs)
end
end L2
namespace L2
open PySem PySem.Spec PyProof.Rows

noncomputable def g31 {α : Type}:List α → List α → List α
  | [a,b,c], [d] => [a,b,c,d]
  | _,_ => []
theorem g31_rel {vs:List V} {us:List Value} {zs:List V} {ws:List Value} (r:Vals vs us) (q:Vals zs ws):Vals (g31 vs zs) (g31 us ws):=by
  cases r with
  | nil=>exact .nil
  | cons r1 r =>
    cases r with
    | nil=>exact .nil
    | cons r2 r =>
      cases r with
      | nil=>exact .nil
      | cons r3 r =>
        cases r with
        | cons _ _=>exact .nil
        | nil =>
          cases q with
          | nil=>exact .nil
          | cons q1 q =>
            cases q with
            | nil=>exact .cons r1 (.cons r2 (.cons r3 (.cons q1 .nil)))
            | cons _ _=>exact .nil
theorem g31_len {α : Type} {us ws:List α} (h:(g31 us ws).length=4):∃ a b c d,us = [a,b,c]∧ws = [d]:=by
  unfold g31 at h
  split at h
  · exact ⟨_,_,_,_,rfl,rfl⟩
  · cases h
noncomputable def BindsK4 (K:PySem.W.Frag) (fd:FuncData) (ps ks:List Str):Prop:=KBinds K fd ps ks g31 g31
inductive J_tApp4 (Q:List V→Hp→Prop) (vs zs:List V) (H:Hp):Prop
  | mk (v v' z:V) (e1:vs = [v,v']) (e2:zs = [z]) (q:Q [v,v',z] H):J_tApp4 Q vs zs H
noncomputable def tApp4 (t tk:TA):TA:=fun σ H Q=>t σ H fun vs H1=>tk σ H1 fun zs H2=>J_tApp4 Q vs zs H2
structure DefM4 (K:PySem.W.Frag) (C:Addr) (m qual:Str) (st:Stmt) (ps:List Str) (dvs:List V) (ks:List Str):Prop where
  ex:∃ f fd ds,FunD K m qual st f fd∧Meth K C m f∧Binds K fd ps ds∧Vals dvs ds∧Binds K fd ps []∧BindsK4 K fd ps ks
structure HasM4 (P:Program) (w:World) (K:PySem.W.Frag) (mg:Str→Option Value) (base:Heap) (k:Nat) (C:Addr) (m:Str) (ps:List Str) (dvs:List V) (ks:List Str) (sp:Sp):Prop where
  ex:∃ f fd ds,FnOk P w K mg base (CXE P w) k f fd ps sp∧Meth K C m f∧Binds K fd ps ds∧Vals dvs ds∧Binds K fd ps []∧BindsK4 K fd ps ks
theorem DefM4.has {P:Program} {w:World} {K:PySem.W.Frag} {mg:Str→Option Value} {base:Heap} {m qual:Str} {C:Addr} {st:Stmt} {N ps ks:List Str} {k:Nat} {sp:Sp} {dvs:List V} (D:DefM4 K C m qual st ps dvs ks) (S:FnScope N ps (defScope st)) (len:∀ vs H Q E,sp vs H Q E→vs.length=ps.length)
    (hbody:∀ (f:Addr) (cdv:Value) (A:Around) (outer:List Env) (s:Shared) (H:Hp) (vs:List V) (Q:VK) (E:XK),Room k (A.deeper (envOfC qual (defScope st) s.heap.objs.size f cdv))→sp vs H Q E →
      ∃ t,PSs (cxOf (CXE P w) P w K mg base N qual (defScope st) f cdv A outer s H E) (defBody st) t∧t { nx:=fun _ H'=>Q .non H',rt:=Q } (start N vs) H):HasM4 P w K mg base (k+1) C m ps dvs ks sp:=by
  obtain ⟨f,fd,ds,F,hm,hb,hv,hb',hk⟩:=D.ex
  obtain ⟨oc,od,dV,kV,doc,pm,an,cdv,ct,osl,rfl,lk,hcd⟩:=F.ex
  exact ⟨f,_,ds,fn_of lk hcd S len fun A outer s H vs Q E hr hsp=>hbody f cdv A outer s H vs Q E hr hsp,hm,hb,hv,hb',hk⟩
theorem HasM4.d {P:Program} {w:World} {K:PySem.W.Frag} {mg:Str→Option Value} {base:Heap} {m:Str} {C:Addr} {ps ks:List Str} {k:Nat} {sp:Sp} {dvs:List V} (h:HasM4 P w K mg base k C m ps dvs ks sp):HasMd P w K mg base k C m ps dvs sp :=
  let ⟨f,fd,ds,F,hm,hb,hv,_,_⟩:=h.ex; ⟨f,fd,ds,F,hm,hb,hv⟩
theorem HasM4.a {P:Program} {w:World} {K:PySem.W.Frag} {mg:Str→Option Value} {base:Heap} {m:Str} {C:Addr} {ps ks:List Str} {k:Nat} {sp:Sp} {dvs:List V} (h:HasM4 P w K mg base k C m ps dvs ks sp):HasM P w K mg base k C m ps sp :=
  let ⟨f,fd,_,F,hm,_,_,hb,_⟩:=h.ex; ⟨f,fd,F,hm,hb⟩
theorem pe_mKw4 {X:Cx} {k k':Nat} {m:Str} {C:Addr} {ps ks:List Str} {dvs:List V} {sp:Sp} {pos apos:Pos} {e o:Expr} {es:List Expr} {kws:List Keyword} {ta:TE} {t tk:TA} {E:XK} {pl:Sem Bool} (h:HasM4 X.prog X.w X.K X.mg X.base k C m ps dvs ks sp) (c:Cls X.K C) (hr:Room k' X.A) (hk:k≤k') (hx:Passes (CXE X.prog X.w) X E) (he:PE X o ta) (ha:PA X (e :: es) t) (hkw:PK X kws tk)
    (hall:(backToKw pos (keywordEach kws X.env)).all (·.1.isSome)=true:=by rfl) (hks:(backToKw pos (keywordEach kws X.env)).filterMap (·.1)=ks:=by rfl)
    (hst:starEach (e :: es) X.env=(false,eval e X.env) :: starEach es X.env:=by rfl) (hpl:((backTo pos (starEach (e :: es) X.env)).any (·.1) || (backToKw pos (keywordEach kws X.env)).any (·.1.isNone))=false:=by rfl)
    (ht:eval (.Call (.Attribute o m apos) (e :: es) kws pos) X.env=(do
      let ov ← eval o X.env
      standAt apos.atName
      let (f,first) ← holding [ov] (getMethod ov m pl)
      callWith pos f first (backTo pos (starEach (e :: es) X.env)) (backToKw pos (keywordEach kws X.env))):=by rfl) :
    PE X (.Call (.Attribute o m apos) (e :: es) kws pos) (tMeth C m sp [] E ta (tApp4 t tk)):=by
  obtain ⟨f,fd,ds,F,hm,_,_,_,hb⟩:=h.ex
  intro pins s σ H Q I h
  refine PySem.W.methodCall_KW (pl:=pl) (thn (he pins s σ H _ I h) fun u s1 ⟨x,H1,I1,rx,a,dx,fs,ex,ea,l,q⟩ => ?_) ht
  subst ex
  obtain rfl:u=Value.ref a:=rx
  refine getmeth_ok I1 ea c hm l ?_
  refine PySem.W.callWith_KW (first := [.ref a]) (h₀ := X.base) I.ok.mod.kin hm.kp hall (thn (ha pos pins s1 σ H1 _ I1 q) fun us s2 ⟨vs,H2,I2,r,q2⟩ => ?_) hpl hst
  refine thn (hkw pos pins s2 σ H2 _ I2 q2) fun ws s3 ⟨zs,H3,I3,rz,q3⟩=>⟨I3.kIn,?_⟩
  rw [hks]
  obtain ⟨v,v',z,rfl,rfl,q3⟩:=q3
  exact run_fnk (us := .ref a :: us) (vs := [.ref a,v,v']) F (hr.mono hk) hb hx I3 (.cons rfl r) rz q3
end L2
namespace L2
open PySem PySem.Spec PyProof.Rows
theorem call_isXT {X:Cx} {x:Str} {C:Addr} (O:Exc X.K X.mg x C) (Z:ExcI X.K C) :
    CallR X (.builtin "isinstance") (fun xs H Q=>∃ ea tp cs cvs b,xs = [.ref ea,.ref tp]∧H ea=some (XO ea C)∧H tp=some (.tup cs)∧(∀ us,Vals cs us→us=cvs)∧PySem.W.kitAny X.K (.ref C) cvs=some b∧Q (.bl b) H):=by
  intro pins s σ H xs us Q I r h
  obtain ⟨ea,tp,cs,cvs,b,rfl,hea,htp,hcv,e,q⟩:=h
  obtain ⟨u,w',rfl,rx,ry⟩:=vals2 r
  cases (show u=Value.ref ea from rx)
  obtain ⟨⟨o,h1,h2⟩,_⟩:=(show ObjOk X.prog X.w H s.heap ea (XO ea C) from I.hok ea _ hea)
  cases (show w'=Value.ref tp from ry)
  obtain ⟨_,its,rv,ot,g1,g2,n,g3,_⟩:=(show ObjOk X.prog X.w H s.heap tp (.tup cs) from I.hok tp _ htp)
  have hits:=hcv its rv
  subst hits
  obtain ⟨cls,dd0,data,sl⟩:=ot
  simp only at g2 g3
  subst g2 g3
  obtain ⟨bm,N,nm,qn,bs,hdct,sn,sub,ab,col,dd,k0,k1,k2,k3,k5,mN,hC,hN,hni,TL⟩:=(O.own I.kIn).obj
  have hob:bm.contains (.type "object")=true:=TL.hasType (by decide +kernel)
  have hbb:bm.contains (.type "BaseException")=true:=TL.hasType (by decide +kernel)
  have Zx:PySem.W.KitX X.K (.ref ea) (.ref C) (fun h=>(∃ o,h.get? ea=some o∧o.cls = .ref C)) := {
    ty:=fun M h _ p=>by
      obtain ⟨o,h1,h2⟩:=p
      exact h2 ▸ (PySem.W.Looks.ld h1).andThen .now
    it:=fun M h XX _=>by
      obtain ⟨bm,N,nm,qn,bs,hdct,sn,sub,ab,col,dd,k0,k1,k2,k3,k5,mN,hC,_⟩:=(O.own XX).obj
      intro A' Q' E' s' k q
      unfold isType loadHead
      exact wpAny_bind (wpAny_loadPart (k _ _ hC) (wpAny_pure q))
    ne:=fun h tp dd' its n sl XX htp=>by
      obtain ⟨bm,N,nm,qn,bs,hdct,sn,sub,ab,col,dd,k0,k1,k2,k3,k5,mN,hC,_⟩:=(O.own XX).obj
      refine Bool.eq_false_iff.mpr fun q => ?_
      have e:C=tp:=Value.ref.inj (beq_iff_eq.mp q)
      subst e
      rw [hC] at htp
      have z2:=congrArg Obj.cls (Option.some.inj htp)
      exact absurd (Value.type.inj z2) (by decide)
    ca:=fun {prog w A E Q s} XX p hq=>by
      obtain ⟨bm,N,nm,qn,bs,hdct,sn,sub,ab,col,dd,k0,k1,k2,k3,k5,mN,hC,hN,hni,TL⟩:=(O.own XX).obj
      obtain ⟨o,h1,h2⟩:=p
      obtain ⟨hp,g,d,t,os⟩:=s
      exact xc_attr hC (TL.hasType (by decide +kernel)) (TL.hasType (by decide +kernel)) (PySem.W.looks_findIn XX Z.cl) (PySem.W.looks_findIn XX Z.ga) (PySem.W.looks_findIn XX Z.gn) h1 h2 hq }
  exact PySem.W.kia_tup Zx I.kIn ⟨o,h1,h2⟩ g1 e (fun z=>nomatch z) fun tk=>⟨.bl b,H,I.tok _,rfl,q⟩
theorem call_isXKT {X:Cx} {K:PySem.W.Frag} (hK:X.K=K) {x:Str} {C:Addr} (O:Exc K X.mg x C) (Z:ExcI K C) :
    CallR X (.builtin "isinstance") (fun xs H Q=>∃ ea tp cs cvs b,xs = [.ref ea,.ref tp]∧H ea=some (XO ea C)∧H tp=some (.tup cs)∧(∀ us,Vals cs us→us=cvs)∧PySem.W.kitAny K (.ref C) cvs=some b∧Q (.bl b) H):=by
  subst hK
  exact call_isXT O Z
end L2
namespace K51
open PySem L2 Sw
noncomputable def top (i:Nat):Stmt:=PySem.Challenge.pw_samewise_k51_put_pair_tell.main.body.getD i (.Pass ⟨0,0,0,0⟩)
noncomputable abbrev s_init:Stmt:=inClass (top 11) 0
theorem sc_init:FnScope ["self", "room"] ["self", "room"] (defScope s_init):=⟨rfl,rfl,rfl,by decide +kernel,rfl,by decide +kernel,by decide +kernel⟩
noncomputable abbrev s_put:Stmt:=inClass (top 11) 1
theorem sc_put:FnScope ["self", "pattern", "binds", "many"] ["self", "pattern", "binds"] (defScope s_put):=⟨rfl,rfl,rfl,by decide +kernel,rfl,by decide +kernel,by decide +kernel⟩
noncomputable abbrev s_put_part:Stmt:=inClass (top 11) 2
theorem sc_put_part:FnScope ["self", "pattern", "binds", "numbers", "arm"] ["self", "pattern", "binds"] (defScope s_put_part):=⟨rfl,rfl,rfl,by decide +kernel,rfl,by decide +kernel,by decide +kernel⟩
noncomputable abbrev s_put_term:Stmt:=inClass (top 11) 3
theorem sc_put_term:FnScope ["self", "term"] ["self", "term"] (defScope s_put_term):=⟨rfl,rfl,rfl,by decide +kernel,rfl,by decide +kernel,by decide +kernel⟩
noncomputable abbrev s_cut:Stmt:=inClass (top 11) 5
theorem sc_cut:FnScope ["self", "many"] ["self", "many"] (defScope s_cut):=⟨rfl,rfl,rfl,by decide +kernel,rfl,by decide +kernel,by decide +kernel⟩
noncomputable abbrev s_mark:Stmt:=top 13
theorem sc_mark:FnScope ["term", "leads"] ["term", "leads"] (defScope s_mark):=⟨rfl,rfl,rfl,by decide +kernel,rfl,by decide +kernel,by decide +kernel⟩
noncomputable abbrev s_join_classes:Stmt:=top 15
theorem sc_join_classes:FnScope ["leads", "a", "b", "low", "high", "k"] ["leads", "a", "b"] (defScope s_join_classes):=⟨rfl,rfl,rfl,by decide +kernel,rfl,by decide +kernel,by decide +kernel⟩
noncomputable abbrev s_join_like:Stmt:=top 16
theorem sc_join_like:FnScope ["terms", "leads", "joined", "first", "k", "term", "other"] ["terms", "leads"] (defScope s_join_like):=⟨rfl,rfl,rfl,by decide +kernel,rfl,by decide +kernel,by decide +kernel⟩
noncomputable abbrev s_closed:Stmt:=top 14
theorem sc_closed:FnScope ["terms", "edges", "leads", "edge"] ["terms", "edges"] (defScope s_closed):=⟨rfl,rfl,rfl,by decide +kernel,rfl,by decide +kernel,by decide +kernel⟩
noncomputable abbrev s_binit:Stmt:=inClass (top 18) 0
theorem sc_binit:FnScope ["self", "room"] ["self", "room"] (defScope s_binit):=⟨rfl,rfl,rfl,by decide +kernel,rfl,by decide +kernel,by decide +kernel⟩
noncomputable abbrev s_bput:Stmt:=inClass (top 18) 1
theorem sc_bput:FnScope ["self", "tree"] ["self", "tree"] (defScope s_bput):=⟨rfl,rfl,rfl,by decide +kernel,rfl,by decide +kernel,by decide +kernel⟩
noncomputable abbrev s_pair:Stmt:=inClass (top 18) 2
theorem sc_pair:FnScope ["self", "one", "other", "many", "a", "b"] ["self", "one", "other"] (defScope s_pair):=⟨rfl,rfl,rfl,by decide +kernel,rfl,by decide +kernel,by decide +kernel⟩
noncomputable abbrev s_tell:Stmt:=inClass (top 18) 3
theorem sc_tell:FnScope ["self", "one", "other", "weight", "ends"] ["self", "one", "other", "weight"] (defScope s_tell):=⟨rfl,rfl,rfl,by decide +kernel,rfl,by decide +kernel,by decide +kernel⟩
noncomputable abbrev s_leads_of:Stmt:=top 19
theorem sc_leads_of:FnScope ["bench"] ["bench"] (defScope s_leads_of):=⟨rfl,rfl,rfl,by decide +kernel,rfl,by decide +kernel,by decide +kernel⟩
noncomputable abbrev s_draw:Stmt:=top 21
theorem sc_draw:FnScope ["_law_cell", "_law_prime", "_law_many"] ["_law_cell", "_law_prime", "_law_many"] (defScope s_draw):=⟨rfl,rfl,rfl,by decide +kernel,rfl,by decide +kernel,by decide +kernel⟩
noncomputable abbrev s_word:Stmt:=top 22
theorem sc_word:FnScope ["_law_k", "_law_cell", "_law_some", "_law_place"] ["_law_k", "_law_cell"] (defScope s_word):=⟨rfl,rfl,rfl,by decide +kernel,rfl,by decide +kernel,by decide +kernel⟩
noncomputable abbrev s_tree:Stmt:=top 23
theorem sc_tree:FnScope ["_law_cell", "_law_seed", "_law_pool", "_law_kind", "_law_one", "_law_other", "_law_number_here", "_law_two"] ["_law_cell", "_law_seed", "_law_pool"] (defScope s_tree):=⟨rfl,rfl,rfl,by decide +kernel,rfl,by decide +kernel,by decide +kernel⟩
noncomputable abbrev s_depth:Stmt:=top 24
theorem sc_depth:FnScope ["_law_tree_here"] ["_law_tree_here"] (defScope s_depth):=⟨rfl,rfl,rfl,by decide +kernel,rfl,by decide +kernel,by decide +kernel⟩
noncomputable abbrev s_lput:Stmt:=top 25
theorem sc_lput:FnScope ["_law_held", "_law_pattern", "_law_binds", "_law_term"] ["_law_held", "_law_pattern", "_law_binds"] (defScope s_lput):=⟨rfl,rfl,rfl,by decide +kernel,rfl,by decide +kernel,by decide +kernel⟩
noncomputable abbrev s_number:Stmt:=top 26
theorem sc_number:FnScope ["_law_found", "_law_due"] ["_law_found", "_law_due"] (defScope s_number):=⟨rfl,rfl,rfl,by decide +kernel,rfl,by decide +kernel,by decide +kernel⟩
noncomputable abbrev s_do:Stmt:=top 28
theorem sc_do:FnScope ["_law_bench", "_law_deed"] ["_law_bench", "_law_deed"] (defScope s_do):=⟨rfl,rfl,rfl,by decide +kernel,rfl,by decide +kernel,by decide +kernel⟩
noncomputable abbrev s_full:Stmt:=top 27
theorem sc_full:FnScope ["_law_bench", "_law_deed", "_law_by_base", "_law_caught", "error"] ["_law_bench", "_law_deed", "_law_by_base"] (defScope s_full):=⟨rfl,rfl,rfl,by decide +kernel,rfl,by decide +kernel,by decide +kernel⟩
noncomputable abbrev s_asked:Stmt:=top 29
theorem sc_asked:FnScope ["_law_bench", "_law_deed", "_law_held", "_law_edges", "_law_room", "_law_more", "_law_a", "_law_b", "_law_found"] ["_law_bench", "_law_deed", "_law_held", "_law_edges", "_law_room"] (defScope s_asked):=⟨rfl,rfl,rfl,by decide +kernel,rfl,by decide +kernel,by decide +kernel⟩
noncomputable abbrev s_look:Stmt:=top 30
theorem sc_look:FnScope ["_law_bench", "_law_held", "_law_edges", "_law_order"] ["_law_bench", "_law_held", "_law_edges", "_law_order"] (defScope s_look):=⟨rfl,rfl,rfl,by decide +kernel,rfl,by decide +kernel,by decide +kernel⟩
noncomputable abbrev s_law:Stmt:=top 31
theorem sc_law:FnScope ["_law_script", "_law_seed", "_law_rooms", "_law_benches", "_law_held", "_law_edges", "_law_pool", "_law_cell", "_law_tree_here", "_law_which", "_law_deed", "_law_again", "_law_k"] ["_law_script"] (defScope s_law):=⟨rfl,rfl,rfl,by decide +kernel,rfl,by decide +kernel,by decide +kernel⟩
section
variable {P:Program} {w:World} {K:PySem.W.Frag} {mg:Str→Option Value} {base:Heap} {CB CF:Addr}
structure TopBk (K:PySem.W.Frag) (mg:Str→Option Value) (CB CF:Addr):Prop where
  cB:Cls K CB
  nRoom:NoAttr K CB "room"
  nTerms:NoAttr K CB "terms"
  nPlaces:NoAttr K CB "places"
  oFull:Exc K mg "Full" CF
inductive SpInit (P:Program) (w:World) (CB:Addr) (vs:List V) (H:Hp) (Q:VK):Prop
  | mk (b dx:Addr) (room:Int) (z0:vs = [.ref b,.int room]) (z1:H b=some (.ins CB dx [])) (z2:∀ H' L M,But b H H'→H L=none→H M=none→BankAt P w CB H' b dx L M room []→Q .non H'):SpInit P w CB vs H Q
noncomputable def spInit (P:Program) (w:World) (CB:Addr):Sp:=fun vs H Q _=>SpInit P w CB vs H Q
theorem ok_init (Z:TopBk K mg CB CF) (D:DefC K mg "Bank" CB "Bank.__init__" s_init ["self", "room"]):HasC P w K mg base 1 "Bank" CB ["self", "room"] (spInit P w CB):=by
  refine D.has sc_init (fun vs H Q E h => ?_) (fun f cdv A outer s H vs Q E hr h => ?_)
  · obtain ⟨b,dx,room,rfl,_⟩:=h;rfl
  obtain ⟨b,dx,room,rfl,hb,q⟩:=h
  refine ⟨_,(pss_cons (ps_fld (pv 0) (pv 1) rfl)
    (pss_cons (ps_fld (pv 0) (pe_lst pa_nil) rfl)
    (pss_one (ps_fld (pv 0) pe_dnewN rfl)))),?_⟩
  try dsimp only [cxOf]
  refine ⟨_,rfl,_,rfl,b,CB,dx,_,rfl,hb,Z.cB,Z.nRoom,by decide,?_⟩
  have b1:But b H (upd H b (.ins CB dx [("room",.int room)])):=(But.refl b H).put
  refine ⟨Nat.zero_le _,fun L hL => ?_⟩
  have hLb:L≠b:=fun e=>by rw [e,upd_same] at hL;cases hL
  have hL0:H L=none:=by rw [upd_ne hLb] at hL;exact hL
  refine ⟨_,rfl,b,CB,dx, [("room",.int room)],rfl,(by rw [upd_ne (Ne.symm hLb),upd_same];rfl),Z.cB,Z.nTerms,(show 1 < 1000 by decide),?_⟩
  intro M φ hM hd
  have hMb:M≠b:=fun e=>by rw [e,upd_same] at hM;cases hM
  have hML:M≠L:=fun e=>by rw [e,upd_ne hLb,upd_same] at hM;cases hM
  have hM0:H M=none:=by rw [upd_ne hMb,upd_ne hML,upd_ne hMb] at hM;exact hM
  refine ⟨_,rfl,b,CB,dx, [("room",.int room),("terms",.ref L)],rfl,(by rw [upd_ne (Ne.symm hMb),upd_same];rfl),Z.cB,Z.nPlaces,(show 2 < 1000 by decide),?_⟩
  refine q _ L M (fun c o n h => ?_) hL0 hM0 ⟨upd_same,⟨[],?_,.nil⟩, [],hd.keep (fun φ' z => ?_) (fun c ys z => ?_),rfl,fun t => ?_⟩
  · have h1:c≠L:=fun e=>by rw [e,hL0] at h;cases h
    have h2:c≠M:=fun e=>by rw [e,hM0] at h;cases h
    rw [upd_ne n,upd_ne h2,upd_ne n,upd_ne h1,upd_ne n];exact h
  · rw [upd_ne hLb,upd_ne (Ne.symm hML),upd_ne hLb,upd_same]
  · rw [upd_ne hMb];exact z
  · have h1:c≠b:=fun e=>by rw [e,upd_ne (Ne.symm hMb),upd_same] at z;cases z
    rw [upd_ne h1];exact z
  · rw [posF];rfl
inductive SpPutTerm (P:Program) (w:World) (CB CF:Addr) (vs:List V) (H:Hp) (Q:VK) (E:XK):Prop
  | mk (b dx L M:Addr) (room:Int) (ts:List Tm) (v:V) (t:Tm) (z0:vs = [.ref b,v]) (z1:BankAt P w CB H b dx L M room ts) (z2:IsTm H t v) (z3:ts.length≤900) (z4:((posF ts t=none→(ts.length:Int) < room)→∀ H',But2 L M H H'→BankAt P w CB H' b dx L M room (addF ts t).1→Q (nV (addF ts t).2) H')) (z5:(posF ts t=none→room≤(ts.length:Int)→E (.ref CF) none H)):SpPutTerm P w CB CF vs H Q E
noncomputable def spPutTerm (P:Program) (w:World) (CB CF:Addr):Sp:=fun vs H Q E=>SpPutTerm P w CB CF vs H Q E
theorem ok_put_term (B:Blt mg) (Z:TopBk K mg CB CF) (D:DefM K CB "put_term" "Bank.put_term" s_put_term ["self", "term"]):HasM P w K mg base 1 CB "put_term" ["self", "term"] (spPutTerm P w CB CF):=by
  have oFull:=Z.oFull
  refine D.has sc_put_term (fun vs H Q E h => ?_) (fun f cdv A outer s H vs Q E hr h => ?_)
  · obtain ⟨b,dx,L,M,room,ts,v,t,rfl,_⟩:=h;rfl
  obtain ⟨b,dx,L,M,room,ts,v,t,rfl,hB,hT,hz,q1,q2⟩:=h
  refine ⟨_,(pss_cons (ps_if (pt_cmp (pc_nnotin (un10 hr) (pv 1) (pe_fld (pv 0) rfl)) (by with_unfolding_all rfl)) (pss_cons (ps_if (pt_cmpR op_ge (pe_callB call_len_seq rfl B.len_ PySem.boot_len (pa_cons (pe_fld (pv 0) rfl) pa_nil)) (pe_fld (pv 0) rfl) (nomark _)) (pss_one (ps_raise oFull rfl (fun _ _ _ _ _ _ _ I hx q=>flies I hx q) (pa_cons pe_str pa_nil) rfl)) pss_nil)
    (pss_cons (ps_nput (un10 hr) (pe_fld (pv 0) rfl) (pv 1) (pe_callB call_len_seq rfl B.len_ PySem.boot_len (pa_cons (pe_fld (pv 0) rfl) pa_nil)) rfl)
    (pss_one (ps_expr (pe_bm PySem.F.plainAttrs_list PySem.F.slot_list_append PySem.F.type_list_append mt_append (pe_fld (pv 0) rfl) (pa_cons (pv 1) pa_nil)))))) pss_nil)
    (pss_one (ps_ret (pe_nget (un10 hr) (pe_fld (pv 0) rfl) (pv 1) (fun _ _=>rfl))))),?_⟩
  try dsimp only [cxOf]
  obtain ⟨kb,rfl,nk⟩:=hT.key
  have hB0:=hB
  obtain ⟨hb,⟨us,hL,hts⟩,kvs,dn,hkl,hval⟩:=hB
  have hlen:=Paired.length hts
  obtain ⟨nLM,nbL,nbM⟩:=hB0.ne
  refine ⟨_,rfl,_,rfl,b,CB,dx,_,_,rfl,hb,Z.cB,Z.nPlaces,rfl,M,kb,kvs,tmNK t,rfl,rfl,dn,nk,_,rfl,?_⟩
  rw [hval t]
  cases e:posF ts t with
  | some i =>
    refine iteF ?_
    refine ⟨_,rfl,b,CB,dx,_,_,rfl,hb,Z.cB,Z.nPlaces,rfl,_,rfl,M,kb,kvs,tmNK t,nV i,rfl,rfl,dn,nk,(by rw [hval t,e];rfl),?_⟩
    have h1:=q1 (fun z=>by rw [e] at z;cases z) H (But2.refl _ _ _)
    rw [add_old e] at h1
    exact h1 hB0
  | none =>
    refine iteT ?_
    refine ⟨_,rfl,b,CB,dx,_,_,rfl,hb,Z.cB,Z.nTerms,rfl,L,us,rfl,.inl (SqL.of hL),_,rfl,b,CB,dx,_,_,rfl,hb,Z.cB,Z.nRoom,rfl,_,_,rfl,rfl,_,rfl,iteD (fun hr1 => ?_) (fun hr1 => ?_)⟩
    · exact ⟨(show 1≤sizeLine by decide),q2 e (by omega)⟩
    · refine ⟨_,rfl,b,CB,dx,_,_,rfl,hb,Z.cB,Z.nTerms,rfl,L,us,rfl,.inl (SqL.of hL),_,rfl,b,CB,dx,_,_,rfl,hb,Z.cB,Z.nPlaces,rfl,_,rfl,M,kb,kvs,tmNK t,rfl,rfl,dn,nk,small1000 (by omega),fun φ dn1 => ?_⟩
      rw [hlen] at dn1
      have hL1:(upd H M (.ext φ)) L=some (.lst us):=by rw [upd_ne nLM];exact hL
      have hb1:(upd H M (.ext φ)) b=some _:=(upd_ne nbM).trans hb
      have bt1:But2 L M H (upd H M (.ext φ)):=fun c o n m h=>by rw [upd_ne m];exact h
      have kt1:=hB0.tup bt1
      refine ⟨_,rfl,b,CB,dx,_,_,rfl,hb1,Z.cB,Z.nTerms,rfl,.inl ⟨rfl,_,SqL.of hL1⟩,_,rfl,L,us,_,rfl,rfl,hL1,small1000 (by omega),?_⟩
      have bt2:But2 L M H (upd (upd H M (.ext φ)) L (.lst (us ++ [.ref kb]))):=fun c o n m h=>by rw [upd_ne n,upd_ne m];exact h
      have kt2:=hB0.tup bt2
      have hL2:(upd (upd H M (.ext φ)) L (.lst (us ++ [.ref kb]))) L=some (.lst (us ++ [.ref kb])):=upd_same
      have hb2:(upd (upd H M (.ext φ)) L (.lst (us ++ [.ref kb]))) b=some _:=(upd_ne nbL).trans hb1
      have dn2:DN P w (upd (upd H M (.ext φ)) L (.lst (us ++ [.ref kb]))) M (putK kvs (tmNK t) (.int (ts.length:Int))):=dn1.keep (fun φ' z=>by rw [upd_ne (Ne.symm nLM)];exact z) (fun c ys z=>by rw [upd_ne (ne_of z hL1 (fun z=>nomatch z))];exact z)
      generalize upd (upd H M (.ext φ)) L (.lst (us ++ [.ref kb]))=H2 at bt2 kt2 hL2 hb2 dn2 ⊢
      have hv:valV (putK kvs (tmNK t) (.int (ts.length:Int))) (tmNK t)=some (nV ts.length):=by rw [valV_put,if_pos rfl]
      refine ⟨_,rfl,b,CB,dx,_,_,rfl,hb2,Z.cB,Z.nPlaces,rfl,_,rfl,M,kb,_,tmNK t,nV ts.length,rfl,rfl,dn2,nk.keep kt2,hv,?_⟩
      have h1:=q1 (fun _=>by omega) H2 bt2
      rw [add_new e] at h1
      refine h1 ⟨hb2,⟨_,hL2,Paired.snoc (tms_keep kt2 hts) (hT.keep kt2)⟩,_,dn2,?_,fun u => ?_⟩
      · rw [putK_new _ (by rw [hval t,e];rfl),List.length_append,List.length_append,hkl];rfl
      · rw [valV_put,pos_app,hval u]
        by_cases z:tmNK u=tmNK t
        · rw [if_pos z,tmNK_inj z,e];simp
        · rw [if_neg z]
          cases posF ts u with
          | some j=>rfl
          | none=>rw [if_neg (fun y=>z (by rw [tmD_inj y]))]
end

end K51
namespace K51
open PySem L2 Sw
section
variable {P:Program} {w:World} {K:PySem.W.Frag} {mg:Str→Option Value} {base:Heap} {CB CF:Addr}
inductive SpPutPart (P:Program) (w:World) (CB CF:Addr) (n:Nat) (vs:List V) (H:Hp) (Q:VK) (E:XK):Prop
  | mk (b dx L M:Addr) (room:Int) (ts:List Tm) (v bv:V) (p:T) (bf:Str→Nat) (z0:vs = [.ref b,v,bv]) (z1:BankAt P w CB H b dx L M room ts) (z2:IsTr H p v) (z3:p.depth≤n) (z4:p.Slim) (z5:BOk H bv bf p.hol) (z6:(ptF bf ts p).1.length≤900) (z7:(ts.length:Int)≤room) (z8:((((ptF bf ts p).1.length:Int)≤room)→∀ H',But2 L M H H'→BankAt P w CB H' b dx L M room (ptF bf ts p).1→Q (nV (ptF bf ts p).2) H')) (z9:(¬ (((ptF bf ts p).1.length:Int)≤room)→∀ H' ts',But2 L M H H'→ts <+: ts'→ts' <+: (ptF bf ts p).1→BankAt P w CB H' b dx L M room ts'→E (.ref CF) none H')):SpPutPart P w CB CF n vs H Q E
noncomputable def spPutPart (P:Program) (w:World) (CB CF:Addr) (n:Nat):Sp:=fun vs H Q E=>SpPutPart P w CB CF n vs H Q E
theorem add_len (ts:List Tm) (t:Tm):(posF ts t=none→(addF ts t).1.length=ts.length+1)∧(posF ts t≠none→(addF ts t).1=ts):=by
  cases e:posF ts t with
  | some i=>exact ⟨fun z=>(by cases z),fun _=>(by rw [add_old e])⟩
  | none=>exact ⟨fun _=>(by rw [add_new e];simp),fun z=>absurd rfl z⟩
theorem ok_put_part (B:Blt mg) (Z:TopBk K mg CB CF) (h_put_term:HasM P w K mg base 1 CB "put_term" ["self", "term"] (spPutTerm P w CB CF)) (D:DefM K CB "put_part" "Bank.put_part" s_put_part ["self", "pattern", "binds"]) :
    ∀ n,HasM P w K mg base (n+1) CB "put_part" ["self", "pattern", "binds"] (spPutPart P w CB CF n)
  | 0=>by
    obtain ⟨fa,fd,F,hm,hb⟩:=D.ex
    have no:∀ vs H Q E, ¬ spPutPart P w CB CF 0 vs H Q E:=fun vs H Q E h=>by
      obtain ⟨b,dx,L,M,room,ts,v,bv,p,bf,_,_,_,z,_⟩:=h
      have:=depth_pos p
      omega
    exact ⟨fa,fd,⟨fun vs H Q E h=>absurd h (no vs H Q E),fun A outer s H args us vs Q E _ _ _ _ h=>absurd h (no vs H Q E)⟩,hm,hb⟩
  | n+1=>by
    have h_put_part:=ok_put_part B Z h_put_term D n
    have cB:=Z.cB
    refine D.has sc_put_part (fun vs H Q E h => ?_) (fun f cdv A outer s H vs Q E hr h => ?_)
    · obtain ⟨b,dx,L,M,room,ts,v,bv,p,bf,rfl,_⟩:=h;rfl
    obtain ⟨b,dx,L,M,room,ts,v,bv,p,bf,rfl,hB,hT,hd,hsl,hbo,hz,hro,q1,q2⟩:=h
    refine ⟨_,(pss_cons (ps_if (pt_cmpR op_eq (pe_ix ix_tup (pv 1) pe_int (fun _ _=>rfl)) pe_str (nomark _)) (pss_one (ps_ret (pe_dget (hu_of hr) (pv 2) (pe_ix ix_tup (pv 1) pe_int (fun _ _=>rfl)) (fun _ _=>rfl)))) pss_nil)
    (pss_cons (ps_if (pt_cmpR op_ne (pe_ix ix_tup (pv 1) pe_int (fun _ _=>rfl)) pe_str (nomark _)) (pss_one (ps_ret (pe_mE h_put_term cB hr (by omega) (passE fun _ _ _ z=>z) (pv 0) (pa_cons (pv 1) pa_nil)))) pss_nil)
    (pss_cons (ps_set (i:=3) sc_put_part.nd rfl (Or.inl rfl) (pe_lst pa_nil))
    (pss_cons (ps_for PassesOwn.leaving rfl (pi_tup (pe_ix ix_tup (pv 1) pe_int (fun _ _=>rfl))) (pg_name (i:=4) sc_put_part.nd rfl (Or.inl rfl))
    (pss_one (ps_expr (pe_bm PySem.F.plainAttrs_list PySem.F.slot_list_append PySem.F.type_list_append mt_append (pv 3) (pa_cons (pe_mE h_put_part cB hr (by omega) (passE fun _ _ _ z=>z) (pv 0) (pa_cons (pv 4) (pa_cons (pv 2) pa_nil))) pa_nil)))))
    (pss_one (ps_ret (pe_mE h_put_term cB hr (by omega) (passE fun _ _ _ z=>z) (pv 0) (pa_cons (pe_tup (pa_cons pe_str (pa_cons (pe_ix ix_tup (pv 1) pe_int (fun _ _=>rfl)) (pa_cons (pe_callTy call_tuple_of rfl B.tuple_ boot_tuple_ (pa_cons (pv 3) pa_nil)) pa_nil)))) pa_nil)))))))),?_⟩
    try dsimp only [cxOf]
    have hb:=hB.1
    have leaf:∀ (t:Tm),ptF bf ts p=addF ts t→IsTm H t v→spPutTerm P w CB CF [.ref b,v] H Q E:=fun t e ht=>by
      obtain ⟨a1,a2⟩:=add_len ts t
      rw [e] at q1 q2 hz
      refine ⟨b,dx,L,M,room,ts,v,t,rfl,hB,ht,by have:=(add_pre ts t).length_le;omega,fun hf H' bt hB'=>q1 ?_ H' bt hB',fun hn hl=>q2 ?_ H ts (But2.refl _ _ _) (List.prefix_refl _) (add_pre _ _) hB⟩
      · by_cases hp:posF ts t=none
        · have:=hf hp;rw [a1 hp];omega
        · rw [a2 hp];exact hro
      · rw [a1 hn];omega
    cases p with
    | num k =>
      rw [IsTr] at hT
      obtain ⟨a,rfl,h⟩:=hT
      refine ⟨_,rfl,a,_,0,_,rfl,rfl,SqT.of h,atI_nat (j:=0) rfl,rfl,_,rfl,iteD (fun z=>absurd (V.str.inj z) (by decide)) (fun _ => ?_)⟩
      refine ⟨_,rfl,a,_,0,_,rfl,rfl,SqT.of h,atI_nat (j:=0) rfl,rfl,_,rfl,iteDN (fun _ => ?_) (fun z=>absurd (V.str.inj z) (by decide))⟩
      exact ⟨_,rfl,b,dx,_,rfl,hb,rfl,_,rfl,leaf (.num k) (by rw [ptF]) ⟨a,rfl,h⟩⟩
    | name k =>
      rw [IsTr] at hT
      obtain ⟨a,rfl,h⟩:=hT
      refine ⟨_,rfl,a,_,0,_,rfl,rfl,SqT.of h,atI_nat (j:=0) rfl,rfl,_,rfl,iteD (fun z=>absurd (V.str.inj z) (by decide)) (fun _ => ?_)⟩
      refine ⟨_,rfl,a,_,0,_,rfl,rfl,SqT.of h,atI_nat (j:=0) rfl,rfl,_,rfl,iteDN (fun _ => ?_) (fun z=>absurd (V.str.inj z) (by decide))⟩
      exact ⟨_,rfl,b,dx,_,rfl,hb,rfl,_,rfl,leaf (.name k) (by rw [ptF]) ⟨a,rfl,h⟩⟩
    | any k =>
      rw [IsTr] at hT
      obtain ⟨a,rfl,h⟩:=hT
      refine ⟨_,rfl,a,_,0,_,rfl,rfl,SqT.of h,atI_nat (j:=0) rfl,rfl,_,rfl,iteD (fun _ => ?_) (fun z=>absurd rfl z)⟩
      obtain ⟨Dk,kvs,rfl,hD,hv⟩:=hbo k (by rw [T.hol];exact List.mem_singleton_self _)
      rw [ptF] at q1
      refine ⟨_,rfl,_,rfl,a,_,1,_,rfl,rfl,SqT.of h,atI_nat (j:=1) rfl,Dk,nV (bf k),rfl,?_,q1 hro H (But2.refl _ _ _) hB⟩
      have:=DGet.k (k:=(.inr k:Key)) hD
      rw [hv] at this
      exact this
    | of x as =>
      rw [IsTr] at hT
      obtain ⟨a,c,avs,rfl,h,hc,hts⟩:=hT
      have hla:=trs_len hts
      rw [T.depth] at hd
      rw [T.Slim] at hsl
      refine ⟨_,rfl,a,_,0,_,rfl,rfl,SqT.of h,atI_nat (j:=0) rfl,rfl,_,rfl,iteD (fun z=>absurd (V.str.inj z) (by decide)) (fun _ => ?_)⟩
      refine ⟨_,rfl,a,_,0,_,rfl,rfl,SqT.of h,atI_nat (j:=0) rfl,rfl,_,rfl,iteDN (fun z=>absurd rfl z) (fun _ => ?_)⟩
      refine ⟨Nat.zero_le _,fun S hS => ?_⟩
      dsimp only [gName]
      have hSL:S≠L:=fun e=>by obtain ⟨us,hL,_⟩:=hB.2.1;rw [e,hL] at hS;cases hS
      have hSM:S≠M:=fun e=>by obtain ⟨kvs,dn,_⟩:=hB.2.2;obtain ⟨φ,e4⟩:=dn.ext;rw [e,e4] at hS;cases hS
      have s0:=same_new hS (.lst [])
      have hS0:=upd_same (H:=H) (a:=S) (o := .lst [])
      generalize upd H S (.lst [])=H0 at s0 hS0 ⊢
      have hof:(ptF bf ts (.of x as))=addF (ptsF bf ts as).1 (.of x (ptsF bf ts as).2):=by rw [ptF]
      have hz1:(ptsF bf ts as).1.length≤900:=by have:=(add_pre (ptsF bf ts as).1 (.of x (ptsF bf ts as).2)).length_le;rw [hof] at hz;omega
      refine ⟨_,rfl,a,_,2,_,rfl,rfl,SqT.of (s0 _ _ h),atI_nat (j:=2) rfl,c,rfl,⟨_,SqT.of (s0 _ _ hc)⟩,?_⟩
      refine for_tup (xs:=avs) (fun i σ H'=>∃ o, σ = [some (.ref b),some (.ref a),some bv,some (.ref S),o]∧But2 L M H H'∧H' S=some (.lst ((ptsF bf ts (as.take i)).2.map nV))∧BankAt P w CB H' b dx L M room (ptsF bf ts (as.take i)).1∧((ptsF bf ts (as.take i)).1.length:Int)≤room)
        ⟨none,rfl,Same.but2 s0,by rw [List.take_zero,ptsF];exact hS0,by rw [List.take_zero,ptsF];exact hB.same s0,by rw [List.take_zero,ptsF];exact hro⟩ ?_ ?_ ?_
      · rintro i σ H' _ ⟨o,rfl,bt,_⟩
        exact SqT.of (hB.tup bt _ _ hc)
      · rintro i y σ H' hy ⟨o,rfl,bt,hS',hB',hr'⟩
        obtain ⟨t,ht,hyt⟩:=trs_at hts hy
        have hmem:=List.mem_of_getElem? ht
        have et:as.take (i+1)=as.take i ++ [t]:=by rw [List.take_add_one,ht];rfl
        have e1:(ptsF bf ts (as.take (i+1))).1=(ptF bf (ptsF bf ts (as.take i)).1 t).1:=by rw [et,puts_snoc]
        have e2:(ptsF bf ts (as.take (i+1))).2=(ptsF bf ts (as.take i)).2 ++ [(ptF bf (ptsF bf ts (as.take i)).1 t).2]:=by rw [et,puts_snoc]
        have p1:(ptF bf (ptsF bf ts (as.take i)).1 t).1 <+: (ptsF bf ts as).1:=by rw [← e1];exact puts_take _ _ _ _
        have p2:(ptsF bf ts as).1 <+: (ptF bf ts (.of x as)).1:=by rw [hof];exact add_pre _ _
        have l2:=puts_len bf (as.take i) ts
        rw [List.length_take] at l2
        refine ⟨_,rfl,.inl ⟨rfl,_,SqL.of hS'⟩,_,rfl,b,dx,_,rfl,hB'.1,rfl,_,rfl,_,rfl,b,dx,L,M,room,_,y,bv,t,bf,rfl,hB',tr_keep (hB.tup bt) hyt,?_,slims_all.mp hsl.2 t hmem,hB.bok bt fun w hw=>hbo w (by rw [T.hol];exact hols_mem hmem hw),by have:=p1.length_le;omega,hr',fun hf H2 bt2 hB2 => ?_,fun hnf H2 ts' bt2 t1 t2 hB2 => ?_⟩
        · have:=deepest_le hmem;omega
        · have hS2:=bt2 _ _ hSL hSM hS'
          have bS:But S H2 (upd H2 S (.lst ((ptsF bf ts (as.take i)).2.map nV ++ [nV (ptF bf (ptsF bf ts (as.take i)).1 t).2]))):=(But.refl S H2).put
          refine ⟨S,_,_,rfl,rfl,hS2,small1000 ?_,⟨some y,rfl,fun c' o' n m h' => ?_,?_,?_,?_⟩⟩
          · rw [List.length_map];have:=hsl.1;omega
          · have:c'≠S:=fun e=>by rw [e,hS] at h';cases h'
            rw [upd_ne this]
            exact bt2 _ _ n m (bt _ _ n m h')
          · rw [upd_same,e2,List.map_append];rfl
          · rw [e1];exact hB2.keep hS2 hSL bS
          · rw [e1];exact hf
        · refine q2 ?_ H2 ts' (bt.trans bt2) ((puts_pre _ _ _).trans t1) (t2.trans (p1.trans p2)) hB2
          have:=(p1.trans p2).length_le
          omega
      · rintro σ H' ⟨o,rfl,bt,hS',hB',hr'⟩
        rw [hla.symm,List.take_length] at hS' hB' hr'
        have h':=hB.tup bt _ _ h
        refine ⟨_,rfl,b,dx,_,rfl,hB'.1,rfl,_,rfl,a,_,1,_,rfl,rfl,SqT.of h',atI_nat (j:=1) rfl,_,rfl,S,_,rfl,.inl ⟨SqL.of hS',fun tl htl => ?_⟩⟩
        have s1:=same_new htl (.tup ((ptsF bf ts as).2.map nV))
        have g1:=upd_same (H:=H') (a:=tl) (o := .tup ((ptsF bf ts as).2.map nV))
        generalize upd H' tl (.tup ((ptsF bf ts as).2.map nV))=H1 at s1 g1 ⊢
        refine ⟨(show 3≤sizeLine by decide),fun tp htp => ?_⟩
        have s2:=same_new htp (.tup [.str "of",.str x,.ref tl])
        have g2:=upd_same (H:=H1) (a:=tp) (o := .tup [.str "of",.str x,.ref tl])
        generalize upd H1 tp (.tup [.str "of",.str x,.ref tl])=H2 at s2 g2 ⊢
        obtain ⟨a1,a2⟩:=add_len (ptsF bf ts as).1 (.of x (ptsF bf ts as).2)
        rw [hof] at q1 q2
        refine ⟨b,dx,L,M,room,_,_,.of x (ptsF bf ts as).2,rfl,(hB'.same s1).same s2,tm_of g2 (s2 _ _ g1),hz1,fun hf H3 bt3 hB3=>q1 ?_ H3 (((bt.same s1).same s2).trans bt3) hB3,fun hn hl=>q2 ?_ H2 _ ((bt.same s1).same s2) (puts_pre _ _ _) (add_pre _ _) ((hB'.same s1).same s2)⟩
        · by_cases hp:posF (ptsF bf ts as).1 (.of x (ptsF bf ts as).2)=none
          · have:=hf hp;rw [a1 hp];omega
          · rw [a2 hp];exact hr'
        · rw [a1 hn];omega
end

end K51
namespace K51
open PySem L2 Sw
section
variable {P:Program} {w:World} {K:PySem.W.Frag} {mg:Str→Option Value} {base:Heap} {CB CF:Addr}
theorem paired_snoc_inv {α β : Type} {R : α → β → Prop}:∀ {ys:List β} {xs:List α} {y : β},Paired R xs (ys ++ [y])→∃ xs' x,xs=xs' ++ [x]∧Paired R xs' ys∧R x y
  | [],_,_,.cons h .nil=>⟨[],_,rfl,.nil,h⟩
  | _ :: ys,_,_,.cons h t=>by
    obtain ⟨xs',x,rfl,r,q⟩:=paired_snoc_inv (ys:=ys) t
    exact ⟨_ :: xs',x,rfl,.cons h r,q⟩
theorem kn_keys {H:Hp} {kvs:List (NK × V)} {xs:List (NK × Addr × Value)} (r:KN H kvs xs):kvs.map (·.1)=xs.map (·.1):=by
  induction r with
  | nil=>rfl
  | cons h _ ih=>rw [List.map_cons,List.map_cons,ih,h.1]
theorem dn_nodup {H:Hp} {a:Addr} {kvs:List (NK × V)} (d:DN P w H a kvs):(kvs.map (·.1)).Nodup:=by
  obtain ⟨_,_,xs,o,es,ep,_,r,_,_,_,hn⟩:=d
  rw [kn_keys r];exact hn
theorem val_at:∀ {kvs:List (NK × V)} {k:NK} {v:V},valV kvs k=some v→∃ j:Nat,kvs[j]? = some (k,v)
  | [],k,v,h=>by rw [valV_nil] at h;cases h
  | p :: r,k,v,h=>by
    by_cases e:p.1=k
    · rw [valV_pos e] at h
      cases h
      exact ⟨0,by rw [← e];rfl⟩
    · rw [valV_neg e] at h
      obtain ⟨j,hj⟩:=val_at h
      exact ⟨j+1,by rw [List.getElem?_cons_succ];exact hj⟩
theorem drop_len {kvs:List (NK × V)} {k:NK} {v:V} (hn:(kvs.map (·.1)).Nodup) (h:valV kvs k=some v):(dropN kvs k).length+1=kvs.length:=by
  obtain ⟨j,hj⟩:=val_at h
  have jl:=(List.getElem?_eq_some_iff.mp hj).1
  unfold dropN
  rw [← erase_key hn hj,List.length_eraseIdx_of_lt jl]
  omega
theorem pos_drop {r:List Tm} {t:Tm} (hn:(r ++ [t]).Nodup) (u:Tm):posF r u=if tmNK u=tmNK t then none else posF (r ++ [t]) u:=by
  have nt:t ∉ r:=fun z=>by
    rw [List.nodup_append] at hn
    exact hn.2.2 t z t (List.mem_singleton_self t) rfl
  by_cases e:u=t
  · subst e
    rw [if_pos rfl,pos_none]
    exact nt
  · rw [if_neg (fun z=>e (tmNK_inj z)),pos_app]
    cases posF r u with
    | some i=>rfl
    | none=>rw [if_neg (fun z=>e (tmD_inj z).symm)]
theorem bank_pop {H:Hp} {b dx L M:Addr} {room:Int} {r:List Tm} {t:Tm} (hB:BankAt P w CB H b dx L M room (r ++ [t])) (hn:(r ++ [t]).Nodup) :
    ∃ us kb kvs,H L=some (.lst (us ++ [.ref kb]))∧us.length=r.length∧DN P w H M kvs∧NKey H (tmNK t) kb∧valV kvs (tmNK t)=some (nV r.length)∧DN P w (upd H L (.lst us)) M kvs∧NKey (upd H L (.lst us)) (tmNK t) kb ∧
      ∀ φ,DN P w (upd (upd H L (.lst us)) M (.ext φ)) M (dropN kvs (tmNK t))→BankAt P w CB (upd (upd H L (.lst us)) M (.ext φ)) b dx L M room r:=by
  obtain ⟨nLM,nbL,nbM⟩:=hB.ne
  obtain ⟨hb,⟨us',hL,hts⟩,kvs,dn,hkl,hval⟩:=hB
  obtain ⟨us,u,rfl,hts',ht⟩:=paired_snoc_inv hts
  obtain ⟨kb,rfl,nk⟩:=ht.key
  have hv:valV kvs (tmNK t)=some (nV r.length):=by
    rw [hval,pos_app,show posF r t=none from pos_none.mpr fun z=>by
      rw [List.nodup_append] at hn
      exact hn.2.2 t z t (List.mem_singleton_self t) rfl]
    rw [if_pos rfl];rfl
  have tup:∀ c ys,H c=some (.tup ys)→(upd H L (.lst us)) c=some (.tup ys):=fun c ys e=>by rw [upd_ne (ne_of e hL (fun z=>nomatch z))];exact e
  have ex:∀ φ,H M=some (.ext φ)→(upd H L (.lst us)) M=some (.ext φ):=fun φ e=>by rw [upd_ne (Ne.symm nLM)];exact e
  obtain ⟨φ0,e0⟩:=dn.ext
  refine ⟨us,kb,kvs,hL,Paired.length hts',dn,nk,hv,dn.keep ex tup,nk.keep tup,fun φ d'=>⟨?_,⟨us,?_,?_⟩,dropN kvs (tmNK t),d',?_,fun u => ?_⟩⟩
  · rw [upd_ne nbM,upd_ne nbL];exact hb
  · rw [upd_ne nLM,upd_same]
  · refine tms_keep (fun c ys e => ?_) hts'
    rw [upd_ne (ne_of e e0 (fun z=>nomatch z))];exact tup c ys e
  · have:=drop_len (dn_nodup dn) hv
    rw [List.length_append,List.length_singleton] at hkl
    omega
  · rw [valV_dropN,pos_drop hn,hval]
    split <;> rfl
inductive SpCut (P:Program) (w:World) (CB:Addr) (vs:List V) (H:Hp) (Q:VK):Prop
  | mk (b dx L M:Addr) (room:Int) (ts:List Tm) (m:Nat) (z0:vs = [.ref b,nV m]) (z1:BankAt P w CB H b dx L M room ts) (z2:ts.Nodup) (z3:ts.length≤900) (z4:∀ H',But2 L M H H'→BankAt P w CB H' b dx L M room (ts.take m)→Q .non H'):SpCut P w CB vs H Q
noncomputable def spCut (P:Program) (w:World) (CB:Addr):Sp:=fun vs H Q _=>SpCut P w CB vs H Q
inductive CutI (P:Program) (w:World) (CB:Addr) (H:Hp) (b dx L M:Addr) (room:Int) (ts:List Tm) (m n:Nat) (σ : St) (H':Hp):Prop
  | mk:(σ = [some (.ref b),some (nV m)])→But2 L M H H'→BankAt P w CB H' b dx L M room (ts.take n)→n≤ts.length→(n=ts.length∨m≤n)→CutI P w CB H b dx L M room ts m n σ H'

theorem ok_cutN (B:Blt mg) (Z:TopBk K mg CB CF) (D:DefM K CB "cut" "Bank.cut" s_cut ["self", "many"]):HasMN P w K mg base 1 CB "cut" ["self", "many"] (spCut P w CB):=by
  have cB:=Z.cB
  refine D.hasN sc_cut (fun vs H Q E h => ?_) (fun f cdv A outer s H vs Q hr h => ?_)
  · obtain ⟨b,dx,L,M,room,ts,m,rfl,_⟩:=h;rfl
  obtain ⟨b,dx,L,M,room,ts,m,rfl,hB,hn,hz,q⟩:=h
  refine ⟨_,(pss_one (ps_while PassesOwn.never (pt_cmpR op_gt (pe_callB call_len_seq rfl B.len_ PySem.boot_len (pa_cons (pe_fld (pv 0) rfl) pa_nil)) (pv 1) (nomark _))
    (pss_one (ps_expr (pe_popN (un10N hr) (pe_fld (pv 0) rfl) (pe_bm0 PySem.F.plainAttrs_list PySem.F.slot_list_pop PySem.F.type_list_pop mt_pop (pe_fld (pv 0) rfl)) ⟨rfl,rfl,rfl,rfl⟩))))),?_⟩
  try dsimp only [cxOf]
  refine ⟨CutI P w CB H b dx L M room ts m,⟨ts.length,rfl,But2.refl _ _ _,by rw [List.take_length];exact hB,Nat.le_refl _,.inl rfl⟩,?_⟩
  rintro n σ H1 ⟨rfl,bt,hB1,hnl,hor⟩
  obtain ⟨us,hL,hts⟩:=id hB1.2.1
  have hlen:us.length=n:=by rw [Paired.length hts,List.length_take];omega
  refine ⟨_,rfl,b,CB,dx,_,_,rfl,hB1.1,Z.cB,Z.nTerms,rfl,L,us,rfl,.inl (SqL.of hL),_,rfl,_,_,rfl,rfl,_,rfl,?_⟩
  by_cases hlt:((m:Nat):Int) < ((us.length:Nat):Int)
  rotate_left
  · rw [decide_eq_false hlt]
    refine iteF ?_
    have e:ts.take n=ts.take m:=by
      rcases hor with h | h
      · rw [List.take_of_length_le (by omega),List.take_of_length_le (by omega)]
      · rw [show n=m by omega]
    rw [e] at hB1
    exact q H1 bt hB1
  rw [decide_eq_true hlt]
  obtain ⟨k,rfl⟩:∃ k,n=k+1:=⟨n - 1,by omega⟩
  have ek:ts.take (k+1)=ts.take k ++ [ts[k]'(by omega)]:=by rw [List.take_add_one,List.getElem?_eq_getElem (by omega)];rfl
  have hn1:(ts.take k ++ [ts[k]'(by omega)]).Nodup:=by rw [← ek];exact hn.sublist (List.take_sublist _ _)
  rw [ek] at hB1
  obtain ⟨us',kb,kvs,hL',hul,dn,nk,hv,dn',nk',fin⟩:=bank_pop hB1 hn1
  refine iteT ⟨CutI P w CB H b dx L M room ts m k,fun σ' H' h=>⟨k,Nat.lt_succ_self k,h⟩,?_⟩
  refine ⟨_,rfl,b,CB,dx,_,_,rfl,hB1.1,Z.cB,Z.nPlaces,rfl,M,rfl,⟨kvs,dn⟩,?_⟩
  refine ⟨_,rfl,b,CB,dx,_,_,rfl,hB1.1,Z.cB,Z.nTerms,rfl,.inl ⟨rfl,_,SqL.of hL'⟩,L,_,.ref kb,rfl,rfl,hL',(by rw [List.length_append,List.length_singleton,Nat.add_sub_cancel,List.getElem?_concat_length]),?_⟩
  rw [List.dropLast_concat]
  refine ⟨kvs,tmNK (ts[k]'(by omega)),kb,_,rfl,dn',nk',hv,fun φ d' => ?_⟩
  refine ⟨rfl,fun c u n1 n2 e => ?_,fin φ d',by omega,.inr (by omega)⟩
  rw [upd_ne n2,upd_ne n1]
  exact bt c u n1 n2 e

end

end K51
namespace K51
open PySem L2 Sw
section
variable {P:Program} {w:World} {K:PySem.W.Frag} {mg:Str→Option Value} {base:Heap} {CB CF:Addr}
theorem add_nodup {ts:List Tm} {t:Tm} (h:ts.Nodup):(addF ts t).1.Nodup:=by
  cases e:posF ts t with
  | some i=>rw [add_old e];exact h
  | none =>
    rw [add_new e]
    refine List.nodup_append.mpr ⟨h,List.nodup_cons.mpr ⟨List.not_mem_nil,List.nodup_nil⟩,fun a ha b hb z => ?_⟩
    rw [List.mem_singleton.mp hb] at z
    exact pos_none.mp e (z ▸ ha)
mutual
theorem put_nodup (bf:Str→Nat):∀ (t:T) (ts:List Tm),ts.Nodup→(ptF bf ts t).1.Nodup
  | .any x,ts,h=>by rw [ptF];exact h
  | .num n,ts,h=>by rw [ptF];exact add_nodup h
  | .name n,ts,h=>by rw [ptF];exact add_nodup h
  | .of x as,ts,h=>by rw [ptF];exact add_nodup (puts_nodup bf as ts h)
theorem puts_nodup (bf:Str→Nat):∀ (as:List T) (ts:List Tm),ts.Nodup→(ptsF bf ts as).1.Nodup
  | [],ts,h=>by rw [ptsF];exact h
  | a :: as,ts,h=>by rw [ptsF];exact puts_nodup bf as _ (put_nodup bf a ts h)
end
inductive SpPutE (P:Program) (w:World) (CB CF:Addr) (n:Nat) (vs:List V) (H:Hp) (Q:VK) (E:XK):Prop
  | mk (b dx L M:Addr) (room:Int) (ts:List Tm) (v bv:V) (p:T) (bf:Str→Nat) (z0:vs = [.ref b,v,bv]) (z1:BankAt P w CB H b dx L M room ts) (z2:ts.Nodup) (z3:IsTr H p v) (z4:p.depth≤n) (z5:p.Slim) (z6:BOk H bv bf p.hol) (z7:(ptF bf ts p).1.length≤900) (z8:(ts.length:Int)≤room)
    (z9:(((ptF bf ts p).1.length:Int)≤room)→∀ H',But2 L M H H'→BankAt P w CB H' b dx L M room (ptF bf ts p).1→Q (nV (ptF bf ts p).2) H')
    (z10:¬ (((ptF bf ts p).1.length:Int)≤room)→∀ H' ea,But2 L M H H'→BankAt P w CB H' b dx L M room ts→H ea=none→H' ea=some (XCm ea CF none)→E (.ref CF) (some ea) H'):SpPutE P w CB CF n vs H Q E
noncomputable def spPutE (P:Program) (w:World) (CB CF:Addr) (n:Nat):Sp:=fun vs H Q E=>SpPutE P w CB CF n vs H Q E
theorem ok_putE {n:Nat} (B:Blt mg) (Z:TopBk K mg CB CF) (mFF:PySem.W.exmOne K (.ref CF) (.ref CF)=some true) (h_put_part:HasM P w K mg base (n+1) CB "put_part" ["self", "pattern", "binds"] (spPutPart P w CB CF n)) (h_cutN:HasMN P w K mg base 1 CB "cut" ["self", "many"] (spCut P w CB))
    (D:DefMd K CB "put" "Bank.put" s_put ["self", "pattern", "binds"] [.non]):HasMd P w K mg base (n+2) CB "put" ["self", "pattern", "binds"] [.non] (spPutE P w CB CF n):=by
  have cB:=Z.cB
  have oFull:=Z.oFull
  have e_Full:=Z.oFull.glob
  refine D.has sc_put (fun vs H Q E h => ?_) (fun f cdv A outer s H vs Q E hr h => ?_)
  · obtain ⟨b,dx,L,M,room,ts,v,bv,p,bf,rfl,_⟩:=h;rfl
  obtain ⟨b,dx,L,M,room,ts,v,bv,p,bf,rfl,hB,hnd,hT,hd,hsl,hbo,hz,hro,q1,q2⟩:=h
  refine ⟨_,(pss_cons (ps_set (i:=3) sc_put.nd rfl (Or.inl rfl) (pe_callB call_len_seq rfl B.len_ PySem.boot_len (pa_cons (pe_fld (pv 0) rfl) pa_nil)))
    (pss_one (ps_tryR ⟨rfl,rfl⟩ rfl e_Full (pst_ret (pet_mE h_put_part cB hr (by omega) (pv 0) (pa_cons (pv 1) (pa_cons (pv 2) pa_nil)))) (fun ea=>(pss_cons (ps_expr (pe_mN h_cutN cB (hr.mark _) (by omega) (pv 0) (pa_cons (pv 3) pa_nil)))
    (pss_one (ps_raiseN oFull fliesN (pa_cons pe_str pa_nil) rfl))))))),?_⟩
  try dsimp only [cxOf]
  obtain ⟨us,hL,hts⟩:=id hB.2.1
  refine ⟨_,rfl,b,CB,dx,_,_,rfl,hB.1,Z.cB,Z.nTerms,rfl,L,us,rfl,.inl (SqL.of hL),?_⟩
  dsimp only [gName]
  refine ⟨_,rfl,b,dx,_,rfl,hB.1,rfl,_,rfl,_,rfl,b,dx,L,M,room,ts,v,bv,p,bf,rfl,hB,hT,hd,hsl,hbo,hz,hro,q1,fun hnf H1 ts' bt p1 p2 hB1=>⟨CF,rfl,mFF,fun ea hea => ?_⟩⟩
  have s1:=same_new hea (XCm ea CF none)
  have hx:=upd_same (H:=H1) (a:=ea) (o:=XCm ea CF none)
  have hB2:=hB1.same s1
  generalize upd H1 ea (XCm ea CF none)=H2 at s1 hx hB2 ⊢
  have hut:=Paired.length hts
  have nd':ts'.Nodup:=(put_nodup bf p ts hnd).sublist p2.sublist
  refine ⟨_,rfl,b,dx,_,rfl,hB2.1,rfl,_,rfl,b,dx,L,M,room,ts',us.length,rfl,hB2,nd',by have:=p2.length_le;omega,fun H3 bt3 hB3 => ?_⟩
  have e:ts'.take us.length=ts:=by
    obtain ⟨r,rfl⟩:=p1
    rw [hut,List.take_left]
  rw [e] at hB3
  have nL:ea≠L:=fun z=>by obtain ⟨us1,h1,_⟩:=hB1.2.1;rw [z,h1] at hea;cases hea
  have nM:ea≠M:=fun z=>by obtain ⟨kvs,d1,_⟩:=hB1.2.2;obtain ⟨φ,h1⟩:=d1.ext;rw [z,h1] at hea;cases hea
  have hx3:=bt3 _ _ nL nM hx
  have h0:H ea=none:=by
    cases z:H ea with
    | none=>rfl
    | some o=>have:=bt ea o nL nM z;rw [hea] at this;cases this
  exact ⟨(show 1≤sizeLine by decide),.inl ⟨CF,hx3⟩,q2 hnf H3 ea (fun c u n1 n2 h=>bt3 c u n1 n2 (s1 _ _ (bt c u n1 n2 h))) hB3 h0 hx3⟩
end

end K51
namespace K51
open PySem L2 Sw
section
variable {P:Program} {w:World} {K:PySem.W.Frag} {mg:Str→Option Value} {base:Heap}
inductive SpMark (K:PySem.W.Frag) (vs:List V) (H:Hp) (Q:VK):Prop
  | mk (v:V) (t:Tm) (L:Addr) (ls:List Nat) (z0:vs = [v,.ref L]) (z1:IsTm H t v) (z2:SqL K H L (ls.map nV)) (z3:(∀ x as,t = .of x as→as.length≤1000∧∀ a∈as,a < ls.length)) (z4:∀ v' H',Same H H'→IsTm H' (mk ls t) v'→Q v' H'):SpMark K vs H Q
noncomputable def spMark (K:PySem.W.Frag):Sp:=fun vs H Q _=>SpMark K vs H Q
theorem ok_mark (B:Blt mg) (D:Def K mg "mark" s_mark ["term", "leads"]):Has P w K mg base 1 "mark" ["term", "leads"] (spMark K):=by
  refine D.has sc_mark (fun vs H Q E h => ?_) (fun f cdv A outer s H vs Q E hr h => ?_)
  · obtain ⟨v,t,L,ls,rfl,_⟩:=h;rfl
  obtain ⟨v,t,L,ls,rfl,hT,hL,hb,q⟩:=h
  refine ⟨_,(pss_cons (ps_if (pt_cmpR op_ne (pe_ix ix_tup (pv 0) pe_int (fun _ _=>rfl)) pe_str (nomark _)) (pss_one (ps_ret (pv 0))) pss_nil)
    (pss_one (ps_ret (pe_tup (pa_cons pe_str (pa_cons (pe_ix ix_tup (pv 0) pe_int (fun _ _=>rfl)) (pa_cons (pe_callTy call_tuple_of rfl B.tuple_ boot_tuple_ (pa_cons (pe_comp (te:=(tOp (rIxL K) _ _)) (own := ["number"]) (caps := [("leads",1)]) (comp_scope (defScope s_mark) ["term", "leads"] rfl rfl rfl (by decide +kernel)) (pi_tup (pe_ix ix_tup (pv 0) pe_int (fun _ _=>rfl))) rfl (fun _ _ _=>pg_name (i:=0) (show (["number", "leads"]:List Str).Nodup by decide +kernel) rfl (Or.inl rfl)) (fun _ _ _=>(pe_ix ix_list (pv 1) (pv 0) (fun _ _=>rfl)))) pa_nil)) pa_nil))))))),?_⟩
  try dsimp only [cxOf]
  cases t with
  | num n =>
    obtain ⟨a,rfl,h⟩:=id hT
    refine ⟨_,rfl,a,_,0,_,rfl,rfl,SqT.of h,atI_nat (j:=0) rfl,rfl,_,rfl,iteDN (fun _=>⟨_,rfl,q _ _ (Same.refl _) hT⟩) (fun z=>absurd (V.str.inj z) (by decide))⟩
  | name n =>
    obtain ⟨a,rfl,h⟩:=id hT
    refine ⟨_,rfl,a,_,0,_,rfl,rfl,SqT.of h,atI_nat (j:=0) rfl,rfl,_,rfl,iteDN (fun _=>⟨_,rfl,q _ _ (Same.refl _) hT⟩) (fun z=>absurd (V.str.inj z) (by decide))⟩
  | of x as =>
    obtain ⟨a,b,rfl,h,h2⟩:=id hT
    obtain ⟨hl,hlt⟩:=hb x as rfl
    refine ⟨_,rfl,a,_,0,_,rfl,rfl,SqT.of h,atI_nat (j:=0) rfl,rfl,_,rfl,iteDN (fun z=>absurd rfl z) (fun _ => ?_)⟩
    refine ⟨_,rfl,a,_,1,_,rfl,rfl,SqT.of h,atI_nat (j:=1) rfl,?_⟩
    refine ⟨_,rfl,a,_,2,_,rfl,rfl,SqT.of h,atI_nat (j:=2) rfl,b,rfl,⟨_,SqT.of h2⟩,?_⟩
    refine comp_tupS (ys:=(as.map fun a=>ls.getD a 0).map nV) (SqT.of h2) (by rw [List.length_map];exact hl) (by simp) (fun i y z hy hz H' sm Q' q' => ?_) (fun D1 H' hD1 sm hD => ?_)
    · rw [List.getElem?_map] at hy
      rw [List.getElem?_map,List.getElem?_map] at hz
      cases e:as[i]? with
      | none=>rw [e] at hy;cases hy
      | some k =>
        rw [e] at hy hz
        have e1:nV k=y:=Option.some.inj hy
        have e2:nV (ls.getD k 0)=z:=Option.some.inj hz
        subst e1 e2
        have hk:=hlt k (List.mem_of_getElem? e)
        have e3:ls[k]? = some (ls.getD k 0):=by rw [List.getD_eq_getElem?_getD,List.getElem?_eq_getElem hk];rfl
        exact ⟨_,rfl,_,rfl,L,_,_,_,rfl,rfl,sm.seq hL,nV_at e3,q' _ (Same.refl _)⟩
    · refine ⟨D1,_,rfl,.inl ⟨SqL.of hD,fun l hl' => ?_⟩⟩
      refine ⟨(show 3≤sizeLine by decide),fun t ht => ?_⟩
      refine q _ _ (sm.trans ((same_new hl' _).trans (same_new ht _))) ⟨t,l,rfl,upd_same,?_⟩
      rw [upd_ne (ne_of_none upd_same ht),upd_same]
inductive SpJoin (vs:List V) (H:Hp) (Q:VK):Prop
  | mk (L:Addr) (ls:List Nat) (a b la lb:Nat) (z0:vs = [.ref L,nV a,nV b]) (z1:H L=some (.lst (ls.map nV))) (z2:GoodL ls) (z3:ls.length≤1000000) (z4:ls[a]? = some la) (z5:ls[b]? = some lb) (z6:(la=lb→Q (.bl false) H)) (z7:(la≠lb→Q (.bl true) (upd H L (.lst ((jn ls (max la lb) (min la lb)).map nV))))):SpJoin  vs H Q
noncomputable def spJoin:Sp:=fun vs H Q _=>SpJoin  vs H Q
theorem ok_join_classes (B:Blt mg) (D:Def K mg "join_classes" s_join_classes ["leads", "a", "b"]):Has P w K mg base 1 "join_classes" ["leads", "a", "b"] spJoin:=by
  refine D.has sc_join_classes (fun vs H Q E h => ?_) (fun f cdv A outer s H vs Q E hr h => ?_)
  · obtain ⟨L,ls,a,b,la,lb,rfl,_⟩:=h;rfl
  obtain ⟨L,ls,a,b,la,lb,rfl,hL,hg,hz,ha,hb,q1,q2⟩:=h
  refine ⟨_,(pss_cons (ps_set (i:=3) sc_join_classes.nd rfl (Or.inl rfl) (pe_callB (call_min2 rfl) rfl B.min_ boot_min_ (pa_cons (pe_ix ix_list (pv 0) (pv 1) (fun _ _=>rfl)) (pa_cons (pe_ix ix_list (pv 0) (pv 2) (fun _ _=>rfl)) pa_nil))))
    (pss_cons (ps_set (i:=4) sc_join_classes.nd rfl (Or.inl rfl) (pe_callB (call_max2 rfl) rfl B.max_ boot_max_ (pa_cons (pe_ix ix_list (pv 0) (pv 1) (fun _ _=>rfl)) (pa_cons (pe_ix ix_list (pv 0) (pv 2) (fun _ _=>rfl)) pa_nil))))
    (pss_cons (ps_if (pt_cmpR op_eq (pv 3) (pv 4) (nomark _)) (pss_one (ps_ret pe_bl)) pss_nil)
    (pss_cons (ps_for PassesOwn.never rfl (pi_range2 rfl B.range_ (pa_cons (pv 4) (pa_cons (pe_callB call_len_seq rfl B.len_ PySem.boot_len (pa_cons (pv 0) pa_nil)) pa_nil))) (pg_name (i:=5) sc_join_classes.nd rfl (Or.inl rfl))
    (pss_one (ps_if (pt_cmpR op_eq (pe_ix ix_list (pv 0) (pv 5) (fun _ _=>rfl)) (pv 4) (nomark _)) (pss_one (ps_asg (pv 3) (pg_sub (pv 0) (pv 5) set_list))) pss_nil)))
    (pss_one (ps_ret pe_bl)))))),?_⟩
  try dsimp only [cxOf]
  refine ⟨_,rfl,_,rfl,L,_,_,_,rfl,rfl,SqL.of hL,nV_at ha,_,rfl,_,rfl,L,_,_,_,rfl,rfl,SqL.of hL,nV_at hb,_,_,rfl,?_⟩
  refine ⟨_,rfl,_,rfl,L,_,_,_,rfl,rfl,SqL.of hL,nV_at ha,_,rfl,_,rfl,L,_,_,_,rfl,rfl,SqL.of hL,nV_at hb,_,_,rfl,?_⟩
  have e1:(if (lb:Int) < (la:Int) then (lb:Int) else (la:Int))=((min la lb:Nat):Int):=by split <;> omega
  have e2:(if (lb:Int) > (la:Int) then (lb:Int) else (la:Int))=((max la lb:Nat):Int):=by split <;> omega
  dsimp only [gName]
  rw [e1,e2]
  by_cases hab:la=lb
  · refine ⟨_,rfl,_,rfl,rfl,_,rfl,iteD (fun _=>q1 hab) (fun z=>absurd ?_ z)⟩
    show V.int _=V.int _
    congr 1;omega
  · refine ⟨_,rfl,_,rfl,rfl,_,rfl,iteD (fun z => ?_) (fun _ => ?_)⟩
    · have:=V.int.inj z
      omega
    have hhi:∃ c:Nat,ls[c]? = some (max la lb):=by
      rcases Nat.le_total la lb with h | h
      · exact ⟨b,by rw [Nat.max_eq_right h];exact hb⟩
      · exact ⟨a,by rw [Nat.max_eq_left h];exact ha⟩
    obtain ⟨c,hc⟩:=hhi
    have hhi2:=(hg c _ hc).2
    have hlt:max la lb < ls.length:=(List.getElem?_eq_some_iff.mp hhi2).1
    have q2':=q2 hab
    have hlohi:min la lb < max la lb:=by omega
    generalize max la lb=hi at *
    generalize min la lb=lo at *
    refine ⟨_,rfl,_,rfl,L,_,rfl,.inl (SqL.of hL),hi,_,rfl,?_,?_⟩
    · rw [List.length_map];omega
    have en:(((ls.map nV).length:Nat):Int) - (hi:Int)=((ls.length - hi:Nat):Int):=by rw [List.length_map];omega
    rw [en,Int.toNat_natCast]
    refine for_range (lo:=(hi:Int)) (fun i σ H'=>∃ o, σ = [some (.ref L),some (nV a),some (nV b),some (nV lo),some (nV hi),o]∧H'=upd H L (.lst ((mix ls hi lo (hi+i)).map nV))) ⟨none,rfl,?_⟩ ?_ ?_
    · rw [Nat.add_zero,mix_start hg]
      funext c'
      by_cases h:c'=L
      · subst h;rw [upd_same];exact hL
      · rw [upd_ne h]
    · rintro i σ H' hi' ⟨o,rfl,rfl⟩
      have hk:hi+i < ls.length:=by omega
      have ev:=List.getElem?_eq_getElem hk
      generalize ls[hi+i]=v at ev
      have em:(mix ls hi lo (hi+i))[hi+i]? = some v:=by
        rw [mix_at,ev]
        show some _=some _
        dsimp only
        rw [if_neg (by omega)]
      have ek:(hi:Int)+(i:Int)=((hi+i:Nat):Int):=by omega
      show tIfS _ _ _ _ _ _
      refine ⟨_,rfl,_,rfl,L,_,_,nV v,rfl,rfl,SqL.of upd_same,(by rw [ek];exact nV_at em),_,rfl,rfl,_,rfl,iteD (fun z => ?_) (fun z => ?_)⟩
      · have hv:v=hi:=by have:=V.int.inj z;omega
        refine ⟨_,rfl,_,rfl,_,rfl,L,_,_,hi+i,rfl,rfl,upd_same,?_,⟨_,rfl,?_⟩⟩
        · rw [ek,List.length_map,mix_len]
          unfold ixN
          rw [if_pos (by omega),if_pos (by omega),Int.toNat_natCast]
        · rw [upd_upd]
          have:=mix_set (hi:=hi) (lo:=lo) ev
          unfold ren at this
          rw [if_pos hv] at this
          rw [nV_set,this]
          rfl
      · have hv:v≠hi:=fun e=>z (by rw [e])
        refine ⟨_,rfl,?_⟩
        have:=mix_stay (hi:=hi) (lo:=lo) ev hv
        rw [show hi+(i+1)=hi+i+1 from rfl,this]
    · rintro σ H' ⟨o,rfl,rfl⟩
      rw [mix_end (by omega)]
      exact q2'
inductive SpJoinLike (P:Program) (w:World) (vs:List V) (H:Hp) (Q:VK):Prop
  | mk (T L:Addr) (us:List V) (ts:List Tm) (ls:List Nat) (es:List (Nat × Nat)) (z0:vs = [.ref T,.ref L]) (z1:H T=some (.lst us)) (z2:Tms H us ts) (z3:H L=some (.lst (ls.map nV))) (z4:T≠L) (z5:GoodL ls) (z6:Sound ts es ls) (z7:Arms ts) (z8:ls.length=ts.length) (z9:ts.length≤1000) (z10:(∀ (i:Nat) x as,ts[i]? = some (.of x as)→as.length≤1000)) (z11:∀ ls' b H',But L H H'→H' L=some (.lst (ls'.map nV))→GoodL ls'→Sound ts es ls'→Keeps ls ls'→ls'.length=ls.length→(b=true→ls'.sum < ls.sum)→(b=false→ls'=ls∧∀ (i j:Nat) (t u:Tm),ts[i]? = some t→ts[j]? = some u→mk ls t=mk ls u→ls[i]? = ls[j]?)→Q (.bl b) H'):SpJoinLike P w vs H Q
noncomputable def spJoinLike (P:Program) (w:World):Sp:=fun vs H Q _=>SpJoinLike P w vs H Q
inductive Iv_join_like1 (P:Program) (w:World) (H:Hp) (T:Addr) (L:Addr) (p:Addr) (ts:List Tm) (es:List (Nat × Nat)) (ls:List Nat) (i:Nat) (σ : St) (H':Hp):Prop
  | mk:∀ (ls':List Nat) (jd:Bool) (kvs:List (NK × V)) (x4 x5 x6:Option V),(σ = [some (.ref T),some (.ref L),some (.bl jd),some (.ref p),x4,x5,x6])→(But L H H')→(H' L=some (.lst (ls'.map nV)))→(DN P w H' p kvs)→(GoodL ls')→(Sound ts es ls')→(Keeps ls ls')→(ls'.length=ls.length)→((jd=true→ls'.sum < ls.sum))→((jd=false→ls'=ls))→(ls'.sum≤ls.sum)→(kvs.length≤i)→((∀ key v,valV kvs key=some v→∃ j t m,v=nV j∧ts[j]? = some t∧key=tmNK m∧Stands ts es t m))→((jd=false→∀ (j:Nat) t,j < i→ts[j]? = some t→∃ j',valV kvs (tmNK (mk ls t))=some (nV j')∧ls[j']? = ls[j]?))→Iv_join_like1 P w H T L p ts es ls i σ H'
theorem ok_join_like (B:Blt mg) (h_mark:Has P w K mg base 1 "mark" ["term", "leads"] (spMark K)) (h_join_classes:Has P w K mg base 1 "join_classes" ["leads", "a", "b"] spJoin) (D:Def K mg "join_like" s_join_like ["terms", "leads"]) :
    Has P w K mg base 2 "join_like" ["terms", "leads"] (spJoinLike P w):=by
  refine D.has sc_join_like (fun vs H Q E h => ?_) (fun f cdv A outer s H vs Q E hr h => ?_)
  · obtain ⟨T,L,us,ts,ls,es,rfl,_⟩:=h;rfl
  obtain ⟨T,L,us,ts,ls,es,rfl,hT,hts,hL,hTL,hg,hs,har,hlen,hz,hza,q⟩:=h
  refine ⟨_,(pss_cons (ps_set (i:=2) sc_join_like.nd rfl (Or.inl rfl) pe_bl)
    (pss_cons (ps_set (i:=3) sc_join_like.nd rfl (Or.inl rfl) pe_dnewN)
    (pss_cons (ps_for PassesOwn.never rfl (pi_enum rfl B.enumerate_ (pa_cons (pv 0) pa_nil)) (pg_tup rfl (pgs_cons (pg_name (i:=4) sc_join_like.nd rfl (Or.inl rfl)) (pgs_cons (pg_name (i:=5) sc_join_like.nd rfl (Or.inl rfl)) pgs_nil)))
    (pss_cons (ps_set (i:=6) sc_join_like.nd rfl (Or.inl rfl) (pe_setD (un10 hr) (pv 3) (pe_callH h_mark hr (by omega) rfl (pa_cons (pv 5) (pa_cons (pv 1) pa_nil))) (pv 4) ⟨rfl,rfl,rfl,rfl⟩))
    (pss_one (ps_if (pt_val (pe_callH h_join_classes hr (by omega) rfl (pa_cons (pv 1) (pa_cons (pv 6) (pa_cons (pv 4) pa_nil))))) (pss_one (ps_set (i:=2) sc_join_like.nd rfl (Or.inl rfl) pe_bl)) pss_nil))))
    (pss_one (ps_ret (pv 2)))))),?_⟩
  try dsimp only [cxOf]
  have hut:=Paired.length hts
  intro p φ hp dn0
  dsimp only [gName]
  have hpL:p≠L:=fun e=>by rw [e,hL] at hp;cases hp
  have hpT:p≠T:=fun e=>by rw [e,hT] at hp;cases hp
  refine ⟨_,rfl,T,rfl,⟨us,SqL.of (by rw [upd_ne (Ne.symm hpT)];exact hT)⟩,?_⟩
  refine for_enum (xs:=us) (Iv_join_like1 P w H T L p ts es ls)
    ⟨ls,false, [],none,none,none,rfl,(But.refl L H).new hp,by rw [upd_ne (Ne.symm hpL)];exact hL,dn0,hg,hs,keeps_refl ls,rfl,(fun z=>nomatch z),fun _=>rfl,Nat.le_refl _,Nat.zero_le _,(fun key v e=>by rw [valV_nil] at e;cases e),fun _ j t hj=>absurd hj (Nat.not_lt_zero _)⟩ ?_ ?_ ?_
  · rintro i σ H' _ ⟨ls',jd,kvs,x4,x5,x6,rfl,bt,_⟩
    exact SqL.of (bt T _ hTL hT)
  · rintro i x a0 σ H' hx ⟨ls',jd,kvs,x4,x5,x6,rfl,bt,hL',dn,hg',hs',hk',hlen',hjt,hjf,hsum,hkl,iA,iB⟩ ha0
    obtain ⟨t,ht,hx'⟩:=tms_at hts hx
    have hi:i < ts.length:=(List.getElem?_eq_some_iff.mp ht).1
    have sm0:=same_new ha0 (.tup [.int (i:Int),x])
    have bt1:=bt.same sm0
    have itx:IsTm (upd H' a0 (.tup [.int (i:Int),x])) t x:=hx'.keep (bt1.tup hL)
    have hL1:=sm0 _ _ hL'
    have dn1:=dn.same sm0
    refine ⟨a0,_,rfl,SqT.of upd_same,rfl,_,_,rfl,_,_,rfl,rfl,?_⟩
    generalize upd H' a0 (.tup [.int (i:Int),x])=H1 at bt1 itx hL1 dn1 ⊢
    have hb:∀ x as,t = .of x as→as.length≤1000∧∀ a∈as,a < ls'.length:=fun x as e=>by
      subst e
      refine ⟨hza i x as ht,fun a ha => ?_⟩
      have:=har i x as ht a ha
      omega
    refine ⟨_,rfl,p,rfl,⟨kvs,dn1⟩,_,rfl,_,rfl,x,t,L,ls',rfl,itx,SqL.of hL1,hb,fun v' H2 sm2 hm => ?_⟩
    obtain ⟨b,rfl,nk⟩:=hm.key
    have dn2:=dn1.same sm2
    have hL2:=sm2 _ _ hL1
    have bt2:=bt1.same sm2
    obtain ⟨li,hli⟩:∃ li,ls'[i]? = some li:=⟨_,List.getElem?_eq_getElem (by omega)⟩
    refine ⟨_,rfl,kvs,tmNK (mk ls' t),b,dn2,rfl,nk,small1000 (by omega),fun v hv => ?_,fun hn φ2 dn3 => ?_⟩
    · -- there is one already
      obtain ⟨j,u,m,rfl,hu,hkey,hst⟩:=iA _ _ hv
      have em:m=mk ls' t:=tmNK_inj hkey.symm
      subst em
      have hj:j < ts.length:=(List.getElem?_eq_some_iff.mp hu).1
      obtain ⟨lj,hlj⟩:∃ lj,ls'[j]? = some lj:=⟨_,List.getElem?_eq_getElem (by omega)⟩
      have eq:Eqv ts es j i:=stands_eqv hu ht hst (stands_mk hs' (fun x as e=>(hb x as e).2))
      refine ⟨_,rfl,_,rfl,_,rfl,L,ls',j,i,lj,li,rfl,hL2,hg',by omega,hlj,hli,fun e => ?_,fun e => ?_⟩
      · refine ⟨_,rfl,iteF ⟨ls',jd,kvs,_,_,_,rfl,bt2,hL2,dn2,hg',hs',hk',hlen',hjt,hjf,hsum,by omega,iA,fun hjd j' t' hj' ht' => ?_⟩⟩
        by_cases hji:j' < i
        · exact iB hjd j' t' hji ht'
        · have e':j'=i:=by omega
          subst e'
          rw [ht] at ht';cases ht'
          have el:=hjf hjd
          rw [el] at hv hlj hli
          exact ⟨j,hv,by rw [hlj,hli,e]⟩
      · have e1:Eqv ts es lj li := .trans (.symm (hs' j lj hlj)) (.trans eq (hs' i li hli))
        have g1:=(hg' j lj hlj).2
        have g2:=(hg' i li hli).2
        have eqv:Eqv ts es (max lj li) (min lj li):=by
          rcases Nat.le_total lj li with h | h
          · rw [Nat.max_eq_right h,Nat.min_eq_left h];exact e1.symm
          · rw [Nat.max_eq_left h,Nat.min_eq_right h];exact e1
        have hlo:ls'[min lj li]? = some (min lj li):=by
          rcases Nat.le_total lj li with h | h
          · rw [Nat.min_eq_left h];exact g1
          · rw [Nat.min_eq_right h];exact g2
        have hhi:max lj li∈ls':=by
          rcases Nat.le_total lj li with h | h
          · rw [Nat.max_eq_right h];exact List.mem_of_getElem? g2
          · rw [Nat.max_eq_left h];exact List.mem_of_getElem? g1
        have hlt:min lj li < max lj li:=by omega
        have hsm:=sum_jn hlt hhi
        refine ⟨_,rfl,iteT ?_⟩
        refine ⟨jn ls' (max lj li) (min lj li),true,kvs,_,_,_,rfl,bt2.put,upd_same,dn2.keep (fun φ e=>by rw [upd_ne hpL];exact e) (fun c ys e=>by rw [upd_ne (ne_of e hL2 (fun z=>nomatch z))];exact e),
          good_jn hg' hlo hlt,sound_jn hs' eqv,hk'.trans (keeps_jn _ _ _),by rw [jn_len];exact hlen',fun _=>by omega,(fun z=>nomatch z),by omega,by omega,iA,(fun z=>nomatch z)⟩
    · -- it is the first one
      have hL3:(upd H2 p (.ext φ2)) L=some (.lst (ls'.map nV)):=by rw [upd_ne (Ne.symm hpL)];exact hL2
      refine ⟨_,rfl,_,rfl,_,rfl,L,ls',i,i,li,li,rfl,hL3,hg',by omega,hli,hli,fun _ => ?_,fun z=>absurd rfl z⟩
      refine ⟨_,rfl,iteF ⟨ls',jd,_,_,_,_,rfl,bt2.new hp,hL3,dn3,hg',hs',hk',hlen',hjt,hjf,hsum,by rw [List.length_append];show kvs.length+1≤i+1;omega,fun key v e => ?_,fun hjd j' t' hj' ht' => ?_⟩⟩
      · rw [valV_snoc _ _ _ _ hn] at e
        by_cases hk:key=tmNK (mk ls' t)
        · rw [if_pos hk] at e
          cases e
          exact ⟨i,t,mk ls' t,rfl,ht,hk,stands_mk hs' (fun x as e=>(hb x as e).2)⟩
        · rw [if_neg hk] at e
          exact iA key v e
      · have el:=hjf hjd
        rw [valV_snoc _ _ _ _ hn]
        by_cases hji:j' < i
        · obtain ⟨j2,e1,e2⟩:=iB hjd j' t' hji ht'
          by_cases hk:tmNK (mk ls t')=tmNK (mk ls' t)
          · rw [hk,hn] at e1;cases e1
          · rw [if_neg hk];exact ⟨j2,e1,e2⟩
        · have e':j'=i:=by omega
          subst e'
          rw [ht] at ht';cases ht'
          rw [el,if_pos rfl]
          exact ⟨j',rfl,rfl⟩
  · rintro σ H' ⟨ls',jd,kvs,x4,x5,x6,rfl,bt,hL',dn,hg',hs',hk',hlen',hjt,hjf,hsum,hkl,iA,iB⟩
    refine ⟨_,rfl,q ls' jd H' bt hL' hg' hs' hk' hlen' hjt fun hjd=>⟨hjf hjd,fun i j t u hi hj hm => ?_⟩⟩
    obtain ⟨i',a1,a2⟩:=iB hjd i t (by rw [hut];exact (List.getElem?_eq_some_iff.mp hi).1) hi
    obtain ⟨j',b1,b2⟩:=iB hjd j u (by rw [hut];exact (List.getElem?_eq_some_iff.mp hj).1) hj
    rw [hm,b1] at a1
    have e:i'=j':=by have:=V.int.inj (Option.some.inj a1);omega
    rw [← a2, ← b2,e]
inductive SpClosed (K:PySem.W.Frag) (vs:List V) (H:Hp) (Q:VK):Prop
  | mk (T E:Addr) (us evs:List V) (ts:List Tm) (es:List (Nat × Nat)) (z0:vs = [.ref T,.ref E]) (z1:H T=some (.lst us)) (z2:Tms H us ts) (z3:SqL K H E evs) (z4:Edges H evs es) (z5:Arms ts) (z6:ts.length≤1000) (z7:(∀ (i:Nat) x as,ts[i]? = some (.of x as)→as.length≤1000)) (z8:(∀ a b:Nat,(a,b)∈es→a < ts.length∧b < ts.length)) (z9:∀ L ls H',Same H H'→H L=none→H' L=some (.lst (ls.map nV))→Closed ts es ls→Q (.ref L) H'):SpClosed K vs H Q
noncomputable def spClosed (K:PySem.W.Frag):Sp:=fun vs H Q _=>SpClosed K vs H Q
inductive Iv_closed2 (H:Hp) (T:Addr) (E:Addr) (L:Addr) (ts:List Tm) (es:List (Nat × Nat)) (σ':St) (H':Hp):Prop
  | mk:∀ (ls:List Nat) (x3:Option V),(σ' = [some (.ref T),some (.ref E),some (.ref L),x3])→(Same H H')→(H' L=some (.lst (ls.map nV)))→(GoodL ls)→(Sound ts es ls)→(ls.length=ts.length)→(∀ a b:Nat,(a,b)∈es→ls[a]? = ls[b]?)→Iv_closed2 H T E L ts es σ' H'
inductive Iv_closed3 (H:Hp) (T:Addr) (E:Addr) (L:Addr) (ts:List Tm) (es:List (Nat × Nat)) (i:Nat) (σ':St) (H':Hp):Prop
  | mk:∀ (ls:List Nat) (x3:Option V),(σ' = [some (.ref T),some (.ref E),some (.ref L),x3])→(Same H H')→(H' L=some (.lst (ls.map nV)))→(GoodL ls)→(Sound ts es ls)→(ls.length=ts.length)→(∀ (j a b:Nat),j < i→es[j]? = some (a,b)→ls[a]? = ls[b]?)→Iv_closed3 H T E L ts es i σ' H'
theorem ok_closed (B:Blt mg) (h_join_classes:Has P w K mg base 1 "join_classes" ["leads", "a", "b"] spJoin) (h_join_like:Has P w K mg base 2 "join_like" ["terms", "leads"] (spJoinLike P w)) (D:Def K mg "closed" s_closed ["terms", "edges"]) :
    Has P w K mg base 3 "closed" ["terms", "edges"] (spClosed K):=by
  refine D.has sc_closed (fun vs H Q E h => ?_) (fun f cdv A outer s H vs Q E hr h => ?_)
  · obtain ⟨T,E,us,evs,ts,es,rfl,_⟩:=h;rfl
  obtain ⟨T,E,us,evs,ts,es,rfl,hT,hts,hE,hes,har,hz,hza,hee,q⟩:=h
  refine ⟨_,(pss_cons (ps_set (i:=2) sc_closed.nd rfl (Or.inl rfl) (pe_callTy (call_list_rng rfl) rfl B.list_ boot_list_ (pa_cons (pe_callTy call_range1V rfl B.range_ PyProof.Rows.boot_range (pa_cons (pe_callB call_len_seq rfl B.len_ PySem.boot_len (pa_cons (pv 0) pa_nil)) pa_nil)) pa_nil)))
    (pss_cons (ps_for PassesOwn.never rfl (pi_list (pv 1)) (pg_name (i:=3) sc_closed.nd rfl (Or.inl rfl))
    (pss_one (ps_expr (pe_callH h_join_classes hr (by omega) rfl (pa_cons (pv 2) (pa_cons (pe_ix ix_tup (pv 3) pe_int (fun _ _=>rfl)) (pa_cons (pe_ix ix_tup (pv 3) pe_int (fun _ _=>rfl)) pa_nil)))))))
    (pss_cons (ps_while PassesOwn.never (pt_val (pe_callH h_join_like hr (by omega) rfl (pa_cons (pv 0) (pa_cons (pv 2) pa_nil))))
    (pss_one ps_pass))
    (pss_one (ps_ret (pv 2)))))),?_⟩
  try dsimp only [cxOf]
  have hut:=Paired.length hts
  have hue:=Paired.length hes
  refine ⟨_,rfl,T,us,rfl,.inl (SqL.of hT),_,rfl,fun r hr0=>⟨r,us.length,rfl,upd_same,by omega,fun L hL0 => ?_⟩⟩
  dsimp only [gName]
  have hLH:H L=none:=by
    by_cases e:L=r
    · rw [e];exact hr0
    · rw [upd_ne e] at hL0;exact hL0
  have sm0:Same H (upd (upd H r (.rng 0 ((us.length:Nat):Int))) L (.lst ((List.range us.length).map fun i:Nat=>V.int (i:Int)))):=(same_new hr0 _).trans (same_new hL0 _)
  have hL1:(upd (upd H r (.rng 0 ((us.length:Nat):Int))) L (.lst ((List.range us.length).map fun i:Nat=>V.int (i:Int)))) L=some (.lst ((List.range ts.length).map nV)):=by rw [upd_same,hut]
  generalize (upd (upd H r (.rng 0 ((us.length:Nat):Int))) L (.lst ((List.range us.length).map fun i:Nat=>V.int (i:Int))))=H1 at sm0 hL1 ⊢
  have hTL:T≠L:=fun e=>by rw [e,hLH] at hT;cases hT
  refine rd_cut (Iv_closed2 H T E L ts es) ?_ (fun key => ?_)
  · rintro σ' H2 ⟨ls,x3,rfl,sm2,hL2,hg2,hs2,hlen2,hed2⟩
    refine ⟨fun m σ' H'=>∃ (ls:List Nat),m=ls.sum ∧ σ' = [some (.ref T),some (.ref E),some (.ref L),x3]∧Same H H'∧H' L=some (.lst (ls.map nV))∧GoodL ls∧Sound ts es ls∧ls.length=ts.length∧∀ a b:Nat,(a,b)∈es→ls[a]? = ls[b]?,
      ⟨_,ls,rfl,rfl,sm2,hL2,hg2,hs2,hlen2,hed2⟩,?_⟩
    rintro m σ' H3 ⟨ls,rfl,rfl,sm3,hL3,hg3,hs3,hlen3,hed3⟩
    refine ⟨_,rfl,_,rfl,T,L,us,ts,ls,es,rfl,sm3 _ _ hT,tms_same sm3 hts,hL3,hTL,hg3,hs3,har,hlen3,hz,hza,fun ls' b H4 bt hL4 hg4 hs4 hk4 hlen4 hbt hbf => ?_⟩
    have sm4:Same H H4:=fun c o h=>bt c o (fun e=>by rw [e,hLH] at h;cases h) (sm3 c o h)
    have hed4:∀ a b:Nat,(a,b)∈es→ls'[a]? = ls'[b]? := fun a b h=>by
      obtain ⟨h1,h2⟩:=hee a b h
      obtain ⟨v,hv⟩:∃ v,ls[a]? = some v:=⟨_,List.getElem?_eq_getElem (by omega)⟩
      obtain ⟨u,e1,e2⟩:=hk4 a b v hv (by rw [← hed3 a b h];exact hv)
      rw [e1,e2]
    refine ⟨_,rfl,?_⟩
    cases b with
    | true =>
      refine iteT ⟨fun σ' H'=>∃ m',m' < ls.sum∧∃ (ls:List Nat),m'=ls.sum ∧ σ' = [some (.ref T),some (.ref E),some (.ref L),x3]∧Same H H'∧H' L=some (.lst (ls.map nV))∧GoodL ls∧Sound ts es ls∧ls.length=ts.length∧∀ a b:Nat,(a,b)∈es→ls[a]? = ls[b]?,fun σ' H' h=>h,?_⟩
      exact ⟨_,hbt rfl,ls',rfl,rfl,sm4,hL4,hg4,hs4,by omega,hed4⟩
    | false =>
      obtain ⟨el,hm⟩:=hbf rfl
      refine iteF ⟨_,rfl,q L ls' H4 sm4 hLH hL4 ⟨by omega,hg4,hs4,fun i j hi hj e => ?_⟩⟩
      rw [el]
      exact complete har hee hlen3 hed3 hm e
  · refine ⟨_,rfl,E,rfl,⟨evs,sm0.seq hE⟩,?_⟩
    refine for_list (xs:=evs) (Iv_closed3 H T E L ts es)
      ⟨_,none,rfl,sm0,hL1,good_id _,sound_id _ _ _,List.length_range,fun j a b hj=>absurd hj (Nat.not_lt_zero _)⟩ ?_ ?_ ?_
    · rintro i σ' H' _ ⟨ls,x3,rfl,sm,_⟩
      exact sm.seq hE
    · rintro i x σ' H' hx ⟨ls,x3,rfl,sm,hL',hg',hs',hlen',hed'⟩
      obtain ⟨⟨a,b⟩,he,ea,rest,rfl,hea⟩:=edges_at hes hx
      have hea':=sm _ _ hea
      obtain ⟨ha,hb⟩:=hee a b (List.mem_of_getElem? he)
      obtain ⟨la,hla⟩:∃ la,ls[a]? = some la:=⟨_,List.getElem?_eq_getElem (by omega)⟩
      obtain ⟨lb,hlb⟩:∃ lb,ls[b]? = some lb:=⟨_,List.getElem?_eq_getElem (by omega)⟩
      refine ⟨_,rfl,_,rfl,ea,_,0,_,rfl,rfl,SqT.of hea',atI_nat (j:=0) rfl,_,rfl,ea,_,1,_,rfl,rfl,SqT.of hea',atI_nat (j:=1) rfl,L,ls,a,b,la,lb,rfl,hL',hg',by omega,hla,hlb,fun e => ?_,fun e => ?_⟩
      · refine ⟨ls,_,rfl,sm,hL',hg',hs',hlen',fun j c d hj hcd => ?_⟩
        by_cases hji:j < i
        · exact hed' j c d hji hcd
        · have e':j=i:=by omega
          subst e'
          rw [he] at hcd;cases hcd
          rw [hla,hlb,e]
      · have e1:Eqv ts es la lb := .trans (.symm (hs' a la hla)) (.trans (.edge (List.mem_of_getElem? he)) (hs' b lb hlb))
        have g1:=(hg' a la hla).2
        have g2:=(hg' b lb hlb).2
        have eqv:Eqv ts es (max la lb) (min la lb):=by
          rcases Nat.le_total la lb with h | h
          · rw [Nat.max_eq_right h,Nat.min_eq_left h];exact e1.symm
          · rw [Nat.max_eq_left h,Nat.min_eq_right h];exact e1
        have hlo:ls[min la lb]? = some (min la lb):=by
          rcases Nat.le_total la lb with h | h
          · rw [Nat.min_eq_left h];exact g1
          · rw [Nat.min_eq_right h];exact g2
        have hlt:min la lb < max la lb:=by omega
        refine ⟨jn ls (max la lb) (min la lb),_,rfl,sm.put hLH,upd_same,good_jn hg' hlo hlt,sound_jn hs' eqv,by rw [jn_len];exact hlen',fun j c d hj hcd => ?_⟩
        by_cases hji:j < i
        · have:=hed' j c d hji hcd
          rw [jn_at,jn_at,this]
        · have e':j=i:=by omega
          subst e'
          rw [he] at hcd;cases hcd
          rw [jn_at,jn_at,hla,hlb]
          show some _=some _
          unfold ren
          by_cases h:la≤lb
          · rw [Nat.max_eq_right h,Nat.min_eq_left h,if_neg e,if_pos rfl]
          · rw [Nat.max_eq_left (by omega),Nat.min_eq_right (by omega),if_pos rfl,if_neg (fun z=>e z.symm)]
    · rintro σ' H' ⟨ls,x3,rfl,sm,hL',hg',hs',hlen',hed'⟩
      refine key _ _ ⟨ls,x3,rfl,sm,hL',hg',hs',hlen',fun a b h => ?_⟩
      obtain ⟨j,hj⟩:=List.mem_iff_getElem?.mp h
      exact hed' j a b (by rw [hue];exact (List.getElem?_eq_some_iff.mp hj).1) hj
end

end K51
namespace K51
open PySem L2 Sw
section
variable {P:Program} {w:World} {K:PySem.W.Frag} {mg:Str→Option Value} {base:Heap} {CB CF CH:Addr}
noncomputable def b0:Str→Nat:=fun _=>0
structure TopBh (K:PySem.W.Frag) (CH:Addr):Prop where
  cH:Cls K CH
  nBank:NoAttr K CH "bank"
  nEdges:NoAttr K CH "edges"
structure BenchAt (P:Program) (w:World) (CB CH:Addr) (H:Hp) (bn dn b dx L M EL:Addr) (room:Int) (ts:List Tm) (es:List Ed):Prop where
  hn:H bn=some (.ins CH dn [("bank",.ref b),("edges",.ref EL)])
  hB:BankAt P w CB H b dx L M room ts
  hE:∃ evs,H EL=some (.lst evs)∧Eds H evs es
  ne:EL≠L
theorem bank_lst {H:Hp} {b dx L M:Addr} {room:Int} {ts:List Tm} (h:BankAt P w CB H b dx L M room ts):∃ us,H L=some (.lst us):=let ⟨_,⟨us,h,_⟩,_⟩:=h; ⟨us,h⟩
theorem bank_ext {H:Hp} {b dx L M:Addr} {room:Int} {ts:List Tm} (h:BankAt P w CB H b dx L M room ts):∃ φ,H M=some (.ext φ):=by
  obtain ⟨_,_,kvs,dn,_⟩:=h
  exact dn.ext
inductive SpBInit (P:Program) (w:World) (CB CH:Addr) (vs:List V) (H:Hp) (Q:VK):Prop
  | mk (bn dn:Addr) (room:Int) (ev:vs = [.ref bn,.int room]) (hn:H bn=some (.ins CH dn [])) (q:∀ H' b dx L M EL,But bn H H'→H L=none→H M=none→H EL=none→BenchAt P w CB CH H' bn dn b dx L M EL room [] []→Q .non H'):SpBInit P w CB CH vs H Q
noncomputable def spBInit (P:Program) (w:World) (CB CH:Addr):Sp:=fun vs H Q _=>SpBInit P w CB CH vs H Q
theorem ok_binit (Y:TopBh K CH) (h_init_Bank:HasC P w K mg base 1 "Bank" CB ["self", "room"] (spInit P w CB)) (D:DefC K mg "Bench" CH "Bench.__init__" s_binit ["self", "room"]):HasC P w K mg base 3 "Bench" CH ["self", "room"] (spBInit P w CB CH):=by
  refine D.has sc_binit (fun vs H Q E h => ?_) (fun f cdv A outer s H vs Q E hr h => ?_)
  · obtain ⟨bn,dn,room,rfl,_⟩:=h;rfl
  obtain ⟨bn,dn,room,rfl,hn,q⟩:=h
  refine ⟨_,(pss_cons (ps_fld (pv 0) (pe_makeE h_init_Bank hr (by omega) (passE fun _ _ _ z=>z) rfl (pa_cons (pv 1) pa_nil)) rfl)
    (pss_one (ps_fld (pv 0) (pe_lst pa_nil) rfl))),?_⟩
  try dsimp only [cxOf]
  refine ⟨_,rfl,fun b dx hb hdx hne => ?_⟩
  have nb:bn≠b:=fun e=>by rw [← e,hn] at hb;cases hb
  have nd:bn≠dx:=fun e=>by rw [← e,hn] at hdx;cases hdx
  refine ⟨b,dx,room,rfl,upd_same,fun H1 L M bt hL hM hB=>⟨rfl,?_⟩⟩
  have k1:∀ c o,c≠b→c≠dx→H c=some o→H1 c=some o:=fun c o n1 n2 h=>bt c o n1 (by rw [upd_ne n1,upd_ne n2];exact h)
  have s1:Same H H1:=fun c o h=>k1 c o (fun e=>by rw [e,hb] at h;cases h) (fun e=>by rw [e,hdx] at h;cases h) h
  have old:∀ c,(upd (upd H dx (.own b)) b (.ins CB dx [])) c=none→H c=none:=fun c h=>by
    by_cases e1:c=b
    · rw [e1];exact hb
    · rw [upd_ne e1] at h
      by_cases e2:c=dx
      · rw [e2];exact hdx
      · rw [upd_ne e2] at h;exact h
  have hL0:=old L hL
  have hM0:=old M hM
  have hn1:=s1 _ _ hn
  obtain ⟨us1,hL1,_⟩:=id hB.2.1
  obtain ⟨φ,hM1⟩:=bank_ext hB
  refine ⟨_,rfl,bn,CH,dn, [],rfl,hn1,Y.cH,Y.nBank,by decide,?_⟩
  refine ⟨Nat.zero_le _,fun EL hEL => ?_⟩
  have nE:EL≠bn:=fun e=>by rw [e,upd_same] at hEL;cases hEL
  have hEL1:H1 EL=none:=by rw [upd_ne nE] at hEL;exact hEL
  have hEL0:=s1.free hEL1
  refine ⟨_,rfl,bn,CH,dn, [("bank",.ref b)],rfl,(by rw [upd_ne (Ne.symm nE),upd_same];rfl),Y.cH,Y.nEdges,(show 1 < 1000 by decide),?_⟩
  have kb:∀ c o,c≠bn→H1 c=some o→(upd (upd (upd H1 bn (.ins CH dn [("bank",V.ref b)])) EL (.lst [])) bn (.ins CH dn [("bank",V.ref b),("edges",V.ref EL)])) c=some o:=fun c o n h=>by
    have h2:c≠EL:=fun e=>by rw [e,hEL1] at h;cases h
    rw [upd_ne n,upd_ne h2,upd_ne n];exact h
  have nbb:b≠bn:=Ne.symm nb
  show Q .non (upd (upd (upd H1 bn (.ins CH dn [("bank",V.ref b)])) EL (.lst [])) bn (.ins CH dn [("bank",V.ref b),("edges",V.ref EL)]))
  refine q _ b dx L M EL (fun c o n h=>kb c o n (s1 _ _ h)) hL0 hM0 hEL0 ⟨upd_same,?_,⟨[],?_,.nil⟩,fun e=>by rw [e,hL1] at hEL1;cases hEL1⟩
  · obtain ⟨h1,⟨us,h2,h3⟩,kvs,d,h5,h6⟩:=hB
    have nL:L≠bn:=fun e=>by rw [e,hn1] at h2;cases h2
    have nM:M≠bn:=fun e=>by rw [e,hn1] at hM1;cases hM1
    have kt:∀ c ys,H1 c=some (.tup ys)→_:=fun c ys z=>kb c _ (fun e=>by rw [e,hn1] at z;cases z) z
    exact ⟨kb _ _ nbb h1,⟨us,kb _ _ nL h2,tms_keep kt h3⟩,kvs,d.keep (fun φ' z=>kb _ _ nM z) kt,h5,h6⟩
  · rw [upd_ne nE,upd_same]
inductive SpBPut (P:Program) (w:World) (CB CF CH:Addr) (n:Nat) (vs:List V) (H:Hp) (Q:VK) (E:XK):Prop
  | mk (bn dn b dx L M EL:Addr) (room:Int) (ts:List Tm) (es:List Ed) (v:V) (p:T) (ev:vs = [.ref bn,v]) (hb:BenchAt P w CB CH H bn dn b dx L M EL room ts es) (nd:ts.Nodup) (hT:IsTr H p v) (hd:p.depth≤n) (hs:p.Slim) (hh:p.hol = []) (len:(ptF b0 ts p).1.length≤900) (hr:(ts.length:Int)≤room)
    (q1:(((ptF b0 ts p).1.length:Int)≤room)→∀ H',But2 L M H H'→BankAt P w CB H' b dx L M room (ptF b0 ts p).1→Q (nV (ptF b0 ts p).2) H')
    (q2:¬ (((ptF b0 ts p).1.length:Int)≤room)→∀ H' m,But2 L M H H'→BankAt P w CB H' b dx L M room ts→E (.ref CF) m H'):SpBPut P w CB CF CH n vs H Q E
noncomputable def spBPut (P:Program) (w:World) (CB CF CH:Addr) (n:Nat):Sp:=fun vs H Q E=>SpBPut P w CB CF CH n vs H Q E
theorem ok_bput {n:Nat} (Zb:TopBk K mg CB CF) (Y:TopBh K CH) (h_put:HasMd P w K mg base (n+2) CB "put" ["self", "pattern", "binds"] [.non] (spPutE P w CB CF n)) (D:DefM K CH "put" "Bench.put" s_bput ["self", "tree"]):HasM P w K mg base (n+3) CH "put" ["self", "tree"] (spBPut P w CB CF CH n):=by
  have cB:=Zb.cB
  refine D.has sc_bput (fun vs H Q E h => ?_) (fun f cdv A outer s H vs Q E hr h => ?_)
  · obtain ⟨bn,dn,b,dx,L,M,EL,room,ts,es,v,p,rfl,_⟩:=h;rfl
  obtain ⟨bn,dn,b,dx,L,M,EL,room,ts,es,v,p,rfl,hb,nd,hT,hd,hs,hh,len,hro,q1,q2⟩:=h
  refine ⟨_,(pss_one (ps_ret (pe_mEd h_put cB hr (by omega) (passE fun _ _ _ z=>z) (pe_fld (pv 0) rfl) (pa_cons (pv 1) pa_nil)))),?_⟩
  try dsimp only [cxOf]
  exact ⟨_,rfl,bn,CH,dn,_,_,rfl,hb.hn,Y.cH,Y.nBank,rfl,b,dx,_,rfl,hb.hB.1,rfl,_,rfl,SpPutE.mk b dx L M room ts v .non p b0 rfl hb.hB nd hT hd hs (fun x hx=>by rw [hh] at hx;cases hx) len hro q1 fun hn H' ea bt hB _ _=>q2 hn H' (some ea) bt hB⟩
inductive SpPair (P:Program) (w:World) (CB CF CH:Addr) (n:Nat) (vs:List V) (H:Hp) (Q:VK) (E:XK):Prop
  | mk (bn dn b dx L M EL:Addr) (room:Int) (ts:List Tm) (es:List Ed) (v1 v2:V) (p1 p2:T) (ev:vs = [.ref bn,v1,v2]) (hb:BenchAt P w CB CH H bn dn b dx L M EL room ts es) (nd:ts.Nodup) (hT1:IsTr H p1 v1) (hd1:p1.depth≤n) (hs1:p1.Slim) (hh1:p1.hol = []) (hT2:IsTr H p2 v2) (hd2:p2.depth≤n) (hs2:p2.Slim) (hh2:p2.hol = []) (len:(ptF b0 (ptF b0 ts p1).1 p2).1.length≤900) (hr:(ts.length:Int)≤room)
    (q1:(((ptF b0 (ptF b0 ts p1).1 p2).1.length:Int)≤room)→∀ pr H',But2 L M H H'→BankAt P w CB H' b dx L M room (ptF b0 (ptF b0 ts p1).1 p2).1→H' pr=some (.tup [nV (ptF b0 ts p1).2,nV (ptF b0 (ptF b0 ts p1).1 p2).2])→Q (.ref pr) H')
    (q2:¬ (((ptF b0 (ptF b0 ts p1).1 p2).1.length:Int)≤room)→∀ H' m,But2 L M H H'→BankAt P w CB H' b dx L M room ts→E (.ref CF) m H'):SpPair P w CB CF CH n vs H Q E
noncomputable def spPair (P:Program) (w:World) (CB CF CH:Addr) (n:Nat):Sp:=fun vs H Q E=>SpPair P w CB CF CH n vs H Q E
theorem ok_pair {n:Nat} (B:Blt mg) (Zb:TopBk K mg CB CF) (Y:TopBh K CH) (mFF:PySem.W.exmOne K (.ref CF) (.ref CF)=some true) (h_put:HasMd P w K mg base (n+2) CB "put" ["self", "pattern", "binds"] [.non] (spPutE P w CB CF n)) (h_cutN:HasMN P w K mg base 1 CB "cut" ["self", "many"] (spCut P w CB)) (D:DefM K CH "pair" "Bench.pair" s_pair ["self", "one", "other"]):HasM P w K mg base (n+3) CH "pair" ["self", "one", "other"] (spPair P w CB CF CH n):=by
  have cB:=Zb.cB
  have oFull:=Zb.oFull
  have e_Full:=Zb.oFull.glob
  refine D.has sc_pair (fun vs H Q E h => ?_) (fun f cdv A outer s H vs Q E hr h => ?_)
  · obtain ⟨bn,dn,b,dx,L,M,EL,room,ts,es,v1,v2,p1,p2,rfl,_⟩:=h;rfl
  obtain ⟨bn,dn,b,dx,L,M,EL,room,ts,es,v1,v2,p1,p2,rfl,hb,nd,hT1,hd1,hs1,hh1,hT2,hd2,hs2,hh2,len,hro,q1,q2⟩:=h
  refine ⟨_,(pss_cons (ps_set (i:=3) sc_pair.nd rfl (Or.inl rfl) (pe_callB call_len_seq rfl B.len_ PySem.boot_len (pa_cons (pe_fld (pe_fld (pv 0) rfl) rfl) pa_nil)))
    (pss_cons (ps_tryG ⟨rfl,rfl⟩ rfl e_Full (pstG_set (i:=4) sc_pair.nd rfl (Or.inl rfl) (pet_mEd h_put cB hr (by omega) (pe_fld (pv 0) rfl) (pa_cons (pv 1) pa_nil)) (pstG_one (pst_set (i:=5) sc_pair.nd rfl (Or.inl rfl) (pet_mEd h_put cB hr (by omega) (pe_fld (pv 0) rfl) (pa_cons (pv 2) pa_nil))))) (fun ea=>(pss_cons (ps_expr (pe_mN h_cutN cB (hr.mark _) (by omega) (pe_fld (pv 0) rfl) (pa_cons (pv 3) pa_nil)))
    (pss_one (ps_raiseN oFull fliesN (pa_cons pe_str pa_nil) rfl)))))
    (pss_one (ps_ret (pe_tup (pa_cons (pv 4) (pa_cons (pv 5) pa_nil))))))),?_⟩
  try dsimp only [cxOf]
  have hn:=hb.hn
  have hB:=hb.hB
  obtain ⟨us,hL,hts⟩:=id hB.2.1
  have hut:=Paired.length hts
  obtain ⟨φ,hM⟩:=bank_ext hB
  have nbL:bn≠L:=ne_of hn hL (fun z=>nomatch z)
  have nbM:bn≠M:=ne_of hn hM (fun z=>nomatch z)
  have pre1:=put_pre b0 p1 ts
  have pre2:=put_pre b0 p2 (ptF b0 ts p1).1
  have le1:=pre1.length_le
  have le2:=pre2.length_le
  have nd1:=put_nodup b0 p1 ts nd
  refine ⟨_,rfl,bn,CH,dn,_,_,rfl,hn,Y.cH,Y.nBank,rfl,b,CB,dx,_,_,rfl,hB.1,Zb.cB,Zb.nTerms,rfl,L,us,rfl,.inl (SqL.of hL),?_⟩
  dsimp only [gName]
  refine ⟨_,rfl,bn,CH,dn,_,_,rfl,hn,Y.cH,Y.nBank,rfl,b,dx,_,rfl,hB.1,rfl,_,rfl,SpPutE.mk b dx L M room ts v1 .non p1 b0 rfl hB nd hT1 hd1 hs1 (fun x hx=>by rw [hh1] at hx;cases hx) (by omega) hro (fun f1 H1 bt1 hB1 => ?_) (fun nf1 H1 ea1 bt1 hB1 h01 hx1=>⟨CF,rfl,mFF,fun ea2 hea2 => ?_⟩)⟩
  · have hn1:=bt1 _ _ nbL nbM hn
    have hT21:=tr_keep (hB.tup bt1) hT2
    dsimp only [gName]
    refine ⟨_,rfl,bn,CH,dn,_,_,rfl,hn1,Y.cH,Y.nBank,rfl,b,dx,_,rfl,hB1.1,rfl,_,rfl,SpPutE.mk b dx L M room (ptF b0 ts p1).1 v2 .non p2 b0 rfl hB1 nd1 hT21 hd2 hs2 (fun x hx=>by rw [hh2] at hx;cases hx) (by omega) f1 (fun f2 H2 bt2 hB2 => ?_) (fun nf2 H2 ea1 bt2 hB2 h01 hx1=>⟨CF,rfl,mFF,fun ea2 hea2 => ?_⟩)⟩
    · dsimp only [gName]
      refine ⟨_,rfl,_,rfl,(show 2≤sizeLine by decide),fun pr hpr => ?_⟩
      have sp:=same_new hpr (.tup [nV (ptF b0 ts p1).2,nV (ptF b0 (ptF b0 ts p1).1 p2).2])
      exact q1 f2 pr _ ((bt1.trans bt2).same sp) (hB2.same sp) upd_same
    · have n12:ea1≠ea2:=fun e=>by rw [← e,hx1] at hea2;cases hea2
      have s2:=same_new hea2 (XCm ea2 CF (some ea1))
      have hx2:=upd_same (H:=H2) (a:=ea2) (o:=XCm ea2 CF (some ea1))
      have hB3:=hB2.same s2
      have hx13:=s2 _ _ hx1
      have hn3:=s2 _ _ (bt2 _ _ nbL nbM hn1)
      generalize upd H2 ea2 (XCm ea2 CF (some ea1))=H3 at s2 hx2 hB3 hx13 hn3 ⊢
      refine ⟨_,rfl,bn,CH,dn,_,_,rfl,hn3,Y.cH,Y.nBank,rfl,b,dx,_,rfl,hB3.1,rfl,_,rfl,b,dx,L,M,room,(ptF b0 ts p1).1,us.length,rfl,hB3,nd1,by omega,fun H4 bt4 hB4 => ?_⟩
      have e:(ptF b0 ts p1).1.take us.length=ts:=by
        obtain ⟨r,er⟩:=pre1
        rw [← er,hut,List.take_left]
      rw [e] at hB4
      obtain ⟨us2,hL2,_⟩:=id hB2.2.1
      obtain ⟨φ2,hM2⟩:=bank_ext hB2
      have nL2:ea2≠L:=fun z=>by rw [z,hL2] at hea2;cases hea2
      have nM2:ea2≠M:=fun z=>by rw [z,hM2] at hea2;cases hea2
      have nL1:ea1≠L:=fun z=>by obtain ⟨u1,h1,_⟩:=id hB1.2.1;rw [z,h1] at h01;cases h01
      have nM1:ea1≠M:=fun z=>by obtain ⟨p,h1⟩:=bank_ext hB1;rw [z,h1] at h01;cases h01
      exact ⟨(show 1≤sizeLine by decide),.inr ⟨CF,ea1,CF,n12,bt4 _ _ nL2 nM2 hx2,bt4 _ _ nL1 nM1 hx13⟩,q2 nf2 H4 _ (fun c u m1 m2 h=>bt4 c u m1 m2 (s2 _ _ (bt2 c u m1 m2 (bt1 c u m1 m2 h)))) hB4⟩
  · have n12:ea1≠ea2:=fun e=>by rw [← e,hx1] at hea2;cases hea2
    have s2:=same_new hea2 (XCm ea2 CF (some ea1))
    have hx2:=upd_same (H:=H1) (a:=ea2) (o:=XCm ea2 CF (some ea1))
    have hB3:=hB1.same s2
    have hx13:=s2 _ _ hx1
    have hn3:=s2 _ _ (bt1 _ _ nbL nbM hn)
    generalize upd H1 ea2 (XCm ea2 CF (some ea1))=H3 at s2 hx2 hB3 hx13 hn3 ⊢
    refine ⟨_,rfl,bn,CH,dn,_,_,rfl,hn3,Y.cH,Y.nBank,rfl,b,dx,_,rfl,hB3.1,rfl,_,rfl,b,dx,L,M,room,ts,us.length,rfl,hB3,nd,by omega,fun H4 bt4 hB4 => ?_⟩
    rw [hut,List.take_length] at hB4
    obtain ⟨us2,hL2,_⟩:=id hB1.2.1
    obtain ⟨φ2,hM2⟩:=bank_ext hB1
    have nL2:ea2≠L:=fun z=>by rw [z,hL2] at hea2;cases hea2
    have nM2:ea2≠M:=fun z=>by rw [z,hM2] at hea2;cases hea2
    have nL1:ea1≠L:=fun z=>by rw [z,hL] at h01;cases h01
    have nM1:ea1≠M:=fun z=>by rw [z,hM] at h01;cases h01
    exact ⟨(show 1≤sizeLine by decide),.inr ⟨CF,ea1,CF,n12,bt4 _ _ nL2 nM2 hx2,bt4 _ _ nL1 nM1 hx13⟩,q2 (fun z=>nf1 (by omega)) H4 _ (fun c u m1 m2 h=>bt4 c u m1 m2 (s2 _ _ (bt1 c u m1 m2 h))) hB4⟩
noncomputable def But3 (L M R:Addr) (H H':Hp):Prop := ∀ c o,c≠L→c≠M→c≠R→H c=some o→H' c=some o
inductive SpTell (P:Program) (w:World) (CB CF CH:Addr) (n:Nat) (vs:List V) (H:Hp) (Q:VK) (E:XK):Prop
  | mk (bn dn b dx L M EL:Addr) (room wt:Int) (ts:List Tm) (es:List Ed) (v1 v2:V) (p1 p2:T) (ev:vs = [.ref bn,v1,v2,.int wt]) (hb:BenchAt P w CB CH H bn dn b dx L M EL room ts es) (nd:ts.Nodup) (hT1:IsTr H p1 v1) (hd1:p1.depth≤n) (hs1:p1.Slim) (hh1:p1.hol = []) (hT2:IsTr H p2 v2) (hd2:p2.depth≤n) (hs2:p2.Slim) (hh2:p2.hol = []) (len:(ptF b0 (ptF b0 ts p1).1 p2).1.length≤900) (hr:(ts.length:Int)≤room) (he:es.length≤900)
    (q1:(((ptF b0 (ptF b0 ts p1).1 p2).1.length:Int)≤room)→∀ H',But3 L M EL H H'→BenchAt P w CB CH H' bn dn b dx L M EL room (ptF b0 (ptF b0 ts p1).1 p2).1 (es ++ [((ptF b0 ts p1).2,(ptF b0 (ptF b0 ts p1).1 p2).2,wt)])→Q (.int (es.length:Int)) H')
    (q2:¬ (((ptF b0 (ptF b0 ts p1).1 p2).1.length:Int)≤room)→∀ H' m,But2 L M H H'→BankAt P w CB H' b dx L M room ts→E (.ref CF) m H'):SpTell P w CB CF CH n vs H Q E
noncomputable def spTell (P:Program) (w:World) (CB CF CH:Addr) (n:Nat):Sp:=fun vs H Q E=>SpTell P w CB CF CH n vs H Q E
theorem ok_tell {n:Nat} (B:Blt mg) (Zb:TopBk K mg CB CF) (Y:TopBh K CH) (h_pair:HasM P w K mg base (n+3) CH "pair" ["self", "one", "other"] (spPair P w CB CF CH n)) (D:DefM4 K CH "tell" "Bench.tell" s_tell ["self", "one", "other", "weight"] [.int 1] ["weight"]):HasM4 P w K mg base (n+4) CH "tell" ["self", "one", "other", "weight"] [.int 1] ["weight"] (spTell P w CB CF CH n):=by
  have cH:=Y.cH
  refine D.has sc_tell (fun vs H Q E h => ?_) (fun f cdv A outer s H vs Q E hr h => ?_)
  · obtain ⟨bn,dn,b,dx,L,M,EL,room,wt,ts,es,v1,v2,p1,p2,rfl,_⟩:=h;rfl
  obtain ⟨bn,dn,b,dx,L,M,EL,room,wt,ts,es,v1,v2,p1,p2,rfl,hb,nd,hT1,hd1,hs1,hh1,hT2,hd2,hs2,hh2,len,hro,he,q1,q2⟩:=h
  refine ⟨_,(pss_cons (ps_set (i:=4) sc_tell.nd rfl (Or.inl rfl) (pe_mE h_pair cH hr (by omega) (passE fun _ _ _ z=>z) (pv 0) (pa_cons (pv 1) (pa_cons (pv 2) pa_nil))))
    (pss_cons (ps_expr (pe_bm PySem.F.plainAttrs_list PySem.F.slot_list_append PySem.F.type_list_append mt_append (pe_fld (pv 0) rfl) (pa_cons (pe_tup (pa_cons (pe_ix ix_tup (pv 4) pe_int (fun _ _=>rfl)) (pa_cons (pe_ix ix_tup (pv 4) pe_int (fun _ _=>rfl)) (pa_cons (pv 3) (pa_cons (pe_tup (pa_cons pe_str pa_nil)) pa_nil))))) pa_nil)))
    (pss_one (ps_ret (pe_op op_sub (pe_callB call_len_seq rfl B.len_ PySem.boot_len (pa_cons (pe_fld (pv 0) rfl) pa_nil)) pe_int))))),?_⟩
  try dsimp only [cxOf]
  have hn:=hb.hn
  have hB:=hb.hB
  obtain ⟨us,hL⟩:=bank_lst hB
  obtain ⟨φ,hM⟩:=bank_ext hB
  obtain ⟨evs,hE,heds⟩:=hb.hE
  have nbL:bn≠L:=ne_of hn hL (fun z=>nomatch z)
  have nbM:bn≠M:=ne_of hn hM (fun z=>nomatch z)
  have nbE:bn≠EL:=ne_of hn hE (fun z=>nomatch z)
  have nEM:EL≠M:=ne_of hE hM (fun z=>nomatch z)
  have hel:=Paired.length heds
  refine ⟨_,rfl,bn,dn,_,rfl,hn,rfl,_,rfl,_,rfl,SpPair.mk bn dn b dx L M EL room ts es v1 v2 p1 p2 rfl hb nd hT1 hd1 hs1 hh1 hT2 hd2 hs2 hh2 len hro (fun f1 pr H1 bt hB1 hpr => ?_) q2⟩
  dsimp only [gName]
  have hn1:=bt _ _ nbL nbM hn
  have hE1:=bt _ _ hb.ne nEM hE
  have ed1:=eds_keep (hB.tup bt) heds
  refine ⟨_,rfl,bn,CH,dn,_,_,rfl,hn1,Y.cH,Y.nEdges,rfl,.inl ⟨rfl,_,SqL.of hE1⟩,_,rfl,pr,_,0,_,rfl,rfl,SqT.of hpr,atI_nat (j:=0) rfl,_,rfl,pr,_,1,_,rfl,rfl,SqT.of hpr,atI_nat (j:=1) rfl,_,rfl,(show 1≤sizeLine by decide),fun tq htq=>⟨(show 4≤sizeLine by decide),fun tp htp => ?_⟩⟩
  have sq:=same_new htq (.tup [.str "told"])
  have sp:=same_new htp (.tup [nV (ptF b0 ts p1).2,nV (ptF b0 (ptF b0 ts p1).1 p2).2,.int wt,.ref tq])
  have sA:=sq.trans sp
  have hv:EdAt (upd (upd H1 tq (.tup [.str "told"])) tp (.tup [nV (ptF b0 ts p1).2,nV (ptF b0 (ptF b0 ts p1).1 p2).2,.int wt,.ref tq])) (.ref tp) ((ptF b0 ts p1).2,(ptF b0 (ptF b0 ts p1).1 p2).2,wt):=⟨tp,tq,rfl,upd_same,sp _ _ upd_same⟩
  have hE2:=sA _ _ hE1
  have hn2:=sA _ _ hn1
  have hB2:=hB1.same sA
  have ed2:=eds_same sA ed1
  generalize upd (upd H1 tq (.tup [.str "told"])) tp (.tup [nV (ptF b0 ts p1).2,nV (ptF b0 (ptF b0 ts p1).1 p2).2,.int wt,.ref tq])=H2 at sA hv hE2 hn2 hB2 ed2 ⊢
  refine ⟨EL,evs,.ref tp,rfl,rfl,hE2,small1000 (by omega),?_⟩
  have kp:=keep_put (o' := .lst (evs ++ [.ref tp])) hE2 trivial
  have hn3:(upd H2 EL (.lst (evs ++ [.ref tp]))) bn=some (.ins CH dn [("bank",.ref b),("edges",.ref EL)]):=by rw [upd_ne nbE];exact hn2
  have hB3:BankAt P w CB (upd H2 EL (.lst (evs ++ [.ref tp]))) b dx L M room (ptF b0 (ptF b0 ts p1).1 p2).1:=hB2.keep hE2 hb.ne (fun c o n h=>by rw [upd_ne n];exact h)
  refine ⟨_,rfl,bn,CH,dn,_,_,rfl,hn3,Y.cH,Y.nEdges,rfl,EL,_,rfl,.inl (SqL.of upd_same),_,_,rfl,rfl,?_⟩
  have el:(((evs ++ [V.ref tp]).length:Nat):Int) - 1=(es.length:Int):=by rw [List.length_append,hel,List.length_singleton];omega
  rw [el]
  refine q1 f1 _ (fun c o m1 m2 m3 h=>by rw [upd_ne m3];exact sA _ _ (bt c o m1 m2 h)) ⟨hn3,hB3,⟨_,upd_same,Paired.snoc (eds_keep kp ed2) (hv.keep kp)⟩,hb.ne⟩
inductive SpLeads (P:Program) (w:World) (CB CH:Addr) (vs:List V) (H:Hp) (Q:VK):Prop
  | mk (bn dn b dx L M EL:Addr) (room:Int) (ts:List Tm) (es:List Ed) (ev:vs = [.ref bn]) (hb:BenchAt P w CB CH H bn dn b dx L M EL room ts es) (ha:Arms ts) (len:ts.length≤1000) (ar:∀ (i:Nat) x as,ts[i]? = some (.of x as)→as.length≤1000) (he:∀ a b:Nat,(a,b)∈ends es→a < ts.length∧b < ts.length)
    (q:∀ R ls H',Same H H'→H R=none→H' R=some (.lst (ls.map nV))→Closed ts (ends es) ls→Q (.ref R) H'):SpLeads P w CB CH vs H Q
noncomputable def spLeads (P:Program) (w:World) (CB CH:Addr):Sp:=fun vs H Q _=>SpLeads P w CB CH vs H Q
theorem ok_leads_of (Zb:TopBk K mg CB CF) (Y:TopBh K CH) (h_closed:Has P w K mg base 3 "closed" ["terms", "edges"] (spClosed K)) (D:Def K mg "leads_of" s_leads_of ["bench"]):Has P w K mg base 4 "leads_of" ["bench"] (spLeads P w CB CH):=by
  refine D.has sc_leads_of (fun vs H Q E h => ?_) (fun f cdv A outer s H vs Q E hr h => ?_)
  · obtain ⟨bn,dn,b,dx,L,M,EL,room,ts,es,rfl,_⟩:=h;rfl
  obtain ⟨bn,dn,b,dx,L,M,EL,room,ts,es,rfl,hb,ha,len,ar,he,q⟩:=h
  refine ⟨_,(pss_one (ps_ret (pe_callH h_closed hr (by omega) rfl (pa_cons (pe_fld (pe_fld (pv 0) rfl) rfl) (pa_cons (pe_fld (pv 0) rfl) pa_nil))))),?_⟩
  try dsimp only [cxOf]
  obtain ⟨us,hL,hts⟩:=id hb.hB.2.1
  obtain ⟨evs,hE,heds⟩:=hb.hE
  exact ⟨_,rfl,bn,CH,dn,_,_,rfl,hb.hn,Y.cH,Y.nBank,rfl,b,CB,dx,_,_,rfl,hb.hB.1,Zb.cB,Zb.nTerms,rfl,_,rfl,bn,CH,dn,_,_,rfl,hb.hn,Y.cH,Y.nEdges,rfl,L,EL,us,evs,ts,ends es,rfl,hL,hts,SqL.of hE,eds_edges heds,ha,len,ar,he,fun R ls H' sm fr hR hc=>q R ls H' sm fr hR hc⟩
end

end K51
namespace K51
open PySem L2 Sw
section
variable {P:Program} {w:World} {K:PySem.W.Frag} {mg:Str→Option Value} {base:Heap}
noncomputable def drawZ (c p m:Int):Int:=c % p * 48271 % p % m
theorem drawZ_nn (c p:Int) {m:Int} (h:0 < m):0≤drawZ c p m:=Int.emod_nonneg _ (by omega)
theorem drawZ_lt (c p:Int) {m:Int} (h:0 < m):drawZ c p m < m:=Int.emod_lt_of_pos _ h
inductive SpDraw (vs:List V) (H:Hp) (Q:VK):Prop
  | mk (c p m:Int) (z0:vs = [.int c,.int p,.int m]) (z1:0 < p) (z2:p < 20000) (z3:0 < m) (z4:Q (.int (drawZ c p m)) H):SpDraw vs H Q
noncomputable def spDraw:Sp:=fun vs H Q _=>SpDraw vs H Q
theorem ok_draw (D:Def K mg "_law_draw" s_draw ["_law_cell", "_law_prime", "_law_many"]):Has P w K mg base 1 "_law_draw" ["_law_cell", "_law_prime", "_law_many"] spDraw:=by
  refine D.has sc_draw (fun vs H Q E h => ?_) (fun f cdv A outer s H vs Q E hr h => ?_)
  · obtain ⟨c,f,m,rfl,_⟩:=h;rfl
  obtain ⟨c,p,m,rfl,h0,h1,h2,q⟩:=h
  refine ⟨_,(pss_one (ps_ret (pe_op op_mod (pe_op op_mod (pe_op op_mul (pe_op op_mod (pv 0) (pv 1)) pe_int) (pv 1)) (pv 2)))),?_⟩
  try dsimp only [cxOf]
  have a0:0≤c % p:=Int.emod_nonneg _ (by omega)
  have a1:c % p < p:=Int.emod_lt_of_pos _ h0
  exact ⟨_,rfl,_,rfl,_,_,rfl,rfl,h0,_,_,rfl,rfl,.inl ⟨by omega,by omega⟩,_,rfl,_,_,rfl,rfl,h0,_,rfl,_,_,rfl,rfl,h2,q⟩
noncomputable def mmS (c:Int):Str:=Txt.slice "mmmmmmm" none (some (drawZ c 10007 8))
noncomputable def mmP (c:Int):Int:=drawZ c 10009 ((mmS c).length+1)
noncomputable def wordZ (c k:Int):Str:=Txt.slice (mmS c) none (some (mmP c)) ++ letF k ++ Txt.slice (mmS c) (some (mmP c)) none
theorem slice_le (x:Str) (lo hi:Option Int):(Txt.slice x lo hi).length≤x.length:=by
  show (Txt.slice x lo hi).cps.size≤x.cps.size
  rw [← Array.length_toList,slice_cps,List.length_take,List.length_drop,Array.length_toList]
  omega
theorem mm7 (c:Int):(mmS c).length≤7:=Nat.le_trans (slice_le _ _ _) (by decide)
inductive SpWord (vs:List V) (H:Hp) (Q:VK):Prop
  | mk (k c:Int) (z0:vs = [.int k,.int c]) (z4:Q (.str (wordZ c k)) H):SpWord vs H Q
noncomputable def spWord:Sp:=fun vs H Q _=>SpWord vs H Q
theorem ok_word (B:Blt mg) (h_draw:Has P w K mg base 1 "_law_draw" ["_law_cell", "_law_prime", "_law_many"] spDraw) (D:Def K mg "_law_word" s_word ["_law_k", "_law_cell"]):Has P w K mg base 2 "_law_word" ["_law_k", "_law_cell"] spWord:=by
  refine D.has sc_word (fun vs H Q E h => ?_) (fun f cdv A outer s H vs Q E hr h => ?_)
  · obtain ⟨k,c,rfl,_⟩:=h;rfl
  obtain ⟨k,c,rfl,q⟩:=h
  refine ⟨_,(pss_cons (ps_set (i:=2) sc_word.nd rfl (Or.inl rfl) (pe_slice sl_str pe_str po_none (po_some (pe_callH h_draw hr (by omega) rfl (pa_cons (pv 1) (pa_cons pe_int (pa_cons pe_int pa_nil)))))))
    (pss_cons (ps_set (i:=3) sc_word.nd rfl (Or.inl rfl) (pe_callH h_draw hr (by omega) rfl (pa_cons (pv 1) (pa_cons pe_int (pa_cons (pe_op op_add (pe_callB call_len_str rfl B.len_ PySem.boot_len (pa_cons (pv 2) pa_nil)) pe_int) pa_nil)))))
    (pss_one (ps_ret (pe_op op_add_str (pe_op op_add_str (pe_slice sl_str (pv 2) po_none (po_some (pv 3))) (pe_ix ix_str pe_str (pe_op op_mod (pv 0) pe_int) (fun _ _=>rfl))) (pe_slice sl_str (pv 2) (po_some (pv 3)) po_none)))))),?_⟩
  try dsimp only [cxOf]
  have big:(1000:Nat)≤sizeLine:=by decide
  have l7:=mm7 c
  refine ⟨_,rfl,c,10007,8,rfl,by decide,by decide,by decide,_,rfl,_,rfl,(by decide),?_⟩
  dsimp only [gName]
  refine ⟨_,rfl,_,rfl,_,rfl,(show (mmS c).length≤sizeLine by omega),_,_,rfl,rfl,c,10009,_,rfl,by decide,by decide,(show (0:Int) < ((mmS c).length:Int)+1 by omega),?_⟩
  dsimp only [gName]
  have l1:=slice_le (mmS c) none (some (mmP c))
  have l2:=slice_le (mmS c) (some (mmP c)) none
  have hz:("abcdefghijklmnopqrstuvwxyz" : Str).length≤sizeLine:=by decide +kernel
  refine ⟨_,rfl,_,rfl,_,rfl,_,rfl,(show (mmS c).length≤sizeLine by omega),_,rfl,_,_,rfl,rfl,pos',_,_,_,rfl,rfl,hz,abcF_at k,_,_,rfl,rfl,?_,?_⟩
  · show (Txt.slice (mmS c) none (some (mmP c))).length+(letF k).length≤sizeLine
    have:(letF k).length=1:=rfl
    omega
  refine ⟨_,rfl,_,rfl,_,rfl,_,rfl,(show (mmS c).length≤sizeLine by omega),_,_,rfl,rfl,?_,q⟩
  show (Txt.slice (mmS c) none (some (mmP c)) ++ letF k).length+(Txt.slice (mmS c) (some (mmP c)) none).length≤sizeLine
  have:(letF k).length=1:=rfl
  rw [Str.length_append]
  omega
end

section
variable {P:Program} {w:World} {K:PySem.W.Frag} {mg:Str→Option Value} {base:Heap}
theorem rd_cut {t rest:TS} {D:Ends} {σ : St} {H:Hp} (R:St→Hp→Prop) (key:∀ σ' H',R σ' H'→rest D σ' H') (h:∀ {N:St→Hp→Prop},(∀ σ' H',R σ' H'→N σ' H')→t { D with nx:=N } σ H):tSeq t rest D σ H:=h key
theorem atI_ex {xs:List V} {i:Int} (h0:0≤i) (h1:i < xs.length):∃ v,atI xs i=some v∧v∈xs:=by
  have hi:i.toNat < xs.length:=by omega
  have z:atI xs ((i.toNat:Nat):Int)=some xs[i.toNat]:=atI_nat (List.getElem?_eq_getElem hi)
  rw [show ((i.toNat:Nat):Int)=i by omega] at z
  exact ⟨_,z,List.getElem_mem hi⟩
mutual
noncomputable def Bin:T→Prop
  | .num _=>True
  | .name _=>True
  | .any _=>False
  | .of _ ts=>1≤ts.length∧ts.length≤2∧Bins ts
noncomputable def Bins:List T→Prop
  | []=>True
  | t :: ts=>Bin t∧Bins ts
end
theorem bins_all:∀ {ts:List T},Bins ts↔∀ t∈ts,Bin t
  | []=>by rw [Bins];simp
  | t :: ts=>by rw [Bins,bins_all];simp
mutual
theorem bin_slim:∀ t:T,Bin t→t.Slim∧t.hol = []
  | .num n,_=>by rw [T.Slim,T.hol];exact ⟨trivial,rfl⟩
  | .name n,_=>by rw [T.Slim,T.hol];exact ⟨trivial,rfl⟩
  | .any n,h=>by rw [Bin] at h;exact h.elim
  | .of x ts,h=>by
    rw [Bin] at h
    have:=bins_slim ts h.2.2
    rw [T.Slim,T.hol]
    exact ⟨⟨by omega,this.1⟩,this.2⟩
theorem bins_slim:∀ ts:List T,Bins ts→T.Slims ts∧T.hols ts = []
  | [],_=>by rw [T.Slims,T.hols];exact ⟨trivial,rfl⟩
  | t :: ts,h=>by
    rw [Bins] at h
    have h1:=bin_slim t h.1
    have h2:=bins_slim ts h.2
    rw [T.Slims,T.hols,h1.2,h2.2]
    exact ⟨⟨h1.1,h2.1⟩,rfl⟩
end
theorem bin_parts:∀ (n:Nat) (t:T),Bin t→t.depth≤n→t.parts+1≤2 ^ n
  | 0,t,_,h=>by have:=depth_pos t;omega
  | n+1,.num k,_,_=>by rw [T.parts,Nat.pow_succ];have:=Nat.one_le_two_pow (n:=n);omega
  | n+1,.name k,_,_=>by rw [T.parts,Nat.pow_succ];have:=Nat.one_le_two_pow (n:=n);omega
  | n+1,.any k,h,_=>by rw [Bin] at h;exact h.elim
  | n+1,.of x ts,h,hd=>by
    rw [Bin,bins_all] at h
    rw [T.depth] at hd
    rw [T.parts,Nat.pow_succ]
    obtain ⟨h1,h2,h3⟩:=h
    match ts,h1,h2,h3,hd with
    | [a],_,_,h3,hd =>
      have:=bin_parts n a (h3 a List.mem_cons_self) (by have:=deepest_le (ts := [a]) (t:=a) List.mem_cons_self;omega)
      rw [T.partss,T.partss];omega
    | [a,b],_,_,h3,hd =>
      have:=bin_parts n a (h3 a List.mem_cons_self) (by have:=deepest_le (ts := [a,b]) (t:=a) List.mem_cons_self;omega)
      have:=bin_parts n b (h3 b (List.mem_cons_of_mem _ List.mem_cons_self)) (by have:=deepest_le (ts := [a,b]) (t:=b) (List.mem_cons_of_mem _ List.mem_cons_self);omega)
      rw [T.partss,T.partss,T.partss];omega
theorem add_len1 (ts:List Tm) (u:Tm):(addF ts u).1.length≤ts.length+1:=by
  cases e:posF ts u with
  | some i=>rw [add_old e];exact Nat.le_succ _
  | none=>rw [add_new e,List.length_append];exact Nat.le_refl _
mutual
theorem put_len (bf:Str→Nat):∀ (t:T) (ts:List Tm),(ptF bf ts t).1.length≤ts.length+t.parts
  | .num n,ts=>by rw [ptF,T.parts];exact add_len1 _ _
  | .name n,ts=>by rw [ptF,T.parts];exact add_len1 _ _
  | .any n,ts=>by rw [ptF];exact Nat.le_add_right _ _
  | .of x as,ts=>by
    rw [ptF,T.parts]
    have h1:=puts_lenB bf as ts
    have h2:=add_len1 (ptsF bf ts as).1 (.of x (ptsF bf ts as).2)
    omega
theorem puts_lenB (bf:Str→Nat):∀ (as:List T) (ts:List Tm),(ptsF bf ts as).1.length≤ts.length+T.partss as
  | [],ts=>by rw [ptsF,T.partss];exact Nat.le_refl _
  | a :: as,ts=>by
    rw [ptsF,T.partss]
    have h1:=put_len bf a ts
    have h2:=puts_lenB bf as (ptF bf ts a).1
    show (ptsF bf (ptF bf ts a).1 as).1.length≤_
    omega
end
theorem paired_at {α β : Type} {R : α → β → Prop} {xs:List α} {ys:List β} (h:Paired R xs ys):∀ {i:Nat} {x : α},xs[i]? = some x→∃ y,ys[i]? = some y∧R x y:=by
  induction h with
  | nil=>intro i x e;cases e
  | cons h _ ih =>
    intro i x e
    cases i with
    | zero=>cases e;exact ⟨_,rfl,h⟩
    | succ i=>exact ih e
structure TrG (n:Nat) (t:T):Prop where
  bin:Bin t
  dep:t.depth≤n
inductive SpTree (K:PySem.W.Frag) (vs:List V) (H:Hp) (Q:VK):Prop
  | mk (c s:Int) (PL:Addr) (us:List V) (ts:List T) (ev:vs = [.int c,.int s,.ref PL]) (hP:H PL=some (.lst us)) (ht:Paired (fun v t=>IsTr H t v) us ts) (g:∀ t∈ts,TrG 4 t) (l0:0 < us.length) (l1:us.length≤900) (q:∀ v t H',Same H H'→IsTr H' t v→TrG 5 t→Q v H'):SpTree K vs H Q
noncomputable def spTree (K:PySem.W.Frag):Sp:=fun vs H Q _=>SpTree K vs H Q
theorem ok_tree (B:Blt mg) (h_draw:Has P w K mg base 1 "_law_draw" ["_law_cell", "_law_prime", "_law_many"] spDraw) (h_word:Has P w K mg base 2 "_law_word" ["_law_k", "_law_cell"] spWord) (D:Def K mg "_law_tree" s_tree ["_law_cell", "_law_seed", "_law_pool"]):Has P w K mg base 3 "_law_tree" ["_law_cell", "_law_seed", "_law_pool"] (spTree K):=by
  refine D.has sc_tree (fun vs H Q E h => ?_) (fun f cdv A outer s H vs Q E hr h => ?_)
  · obtain ⟨c,s,PL,us,ts,rfl,_⟩:=h;rfl
  obtain ⟨c,sd,PL,us,ts,rfl,hP,ht,g,l0,l1,q⟩:=h
  refine ⟨_,(pss_cons (ps_set (i:=3) sc_tree.nd rfl (Or.inl rfl) (pe_callH h_draw hr (by omega) rfl (pa_cons (pv 0) (pa_cons pe_int (pa_cons pe_int pa_nil)))))
    (pss_cons (ps_set (i:=4) sc_tree.nd rfl (Or.inl rfl) (pe_ix ix_list (pv 2) (pe_callH h_draw hr (by omega) rfl (pa_cons (pv 0) (pa_cons pe_int (pa_cons (pe_callB call_len_seq rfl B.len_ PySem.boot_len (pa_cons (pv 2) pa_nil)) pa_nil)))) (fun _ _=>rfl)))
    (pss_cons (ps_set (i:=5) sc_tree.nd rfl (Or.inl rfl) (pe_ix ix_list (pv 2) (pe_callH h_draw hr (by omega) rfl (pa_cons (pv 0) (pa_cons pe_int (pa_cons (pe_callB call_len_seq rfl B.len_ PySem.boot_len (pa_cons (pv 2) pa_nil)) pa_nil)))) (fun _ _=>rfl)))
    (pss_cons (ps_if (pt_cmpR op_eq (pv 3) pe_int (nomark _)) (pss_one (ps_ret (pe_tup (pa_cons pe_str (pa_cons (pe_callH h_word hr (by omega) rfl (pa_cons (pe_callH h_draw hr (by omega) rfl (pa_cons (pv 0) (pa_cons pe_int (pa_cons pe_int pa_nil)))) (pa_cons (pv 1) pa_nil))) pa_nil))))) pss_nil)
    (pss_cons (ps_if (pt_cmpR op_eq (pv 3) pe_int (nomark _)) (pss_cons (ps_set (i:=6) sc_tree.nd rfl (Or.inl rfl) (pe_tup (pa_cons (pe_op op_mod (pe_op op_fdiv (pv 0) pe_int) (pe_op op_pow pe_int pe_int)) (pa_cons (pe_callH h_draw hr (by omega) rfl (pa_cons (pv 0) (pa_cons pe_int (pa_cons pe_int pa_nil)))) (pa_cons (pe_un un_neg (pe_op op_mod (pe_op op_fdiv (pv 0) pe_int) (pe_op op_pow pe_int pe_int))) pa_nil)))))
    (pss_one (ps_ret (pe_tup (pa_cons pe_str (pa_cons (pe_ix ix_tup (pv 6) (pe_callH h_draw hr (by omega) rfl (pa_cons (pv 0) (pa_cons pe_int (pa_cons pe_int pa_nil)))) (fun _ _=>rfl)) pa_nil)))))) pss_nil)
    (pss_cons (ps_if (pt_cmpR op_lt (pv 3) pe_int (nomark _)) (pss_one (ps_ret (pe_tup (pa_cons pe_str (pa_cons (pe_ix ix_tup (pe_tup (pa_cons pe_str (pa_cons (pe_callH h_word hr (by omega) rfl (pa_cons pe_int (pa_cons (pe_op op_fdiv (pv 1) pe_int) pa_nil))) pa_nil))) (pe_callH h_draw hr (by omega) rfl (pa_cons (pv 0) (pa_cons pe_int (pa_cons pe_int pa_nil)))) (fun _ _=>rfl)) (pa_cons (pe_tup (pa_cons (pv 4) pa_nil)) pa_nil)))))) pss_nil)
    (pss_cons (ps_set (i:=7) sc_tree.nd rfl (Or.inl rfl) (pe_callH h_word hr (by omega) rfl (pa_cons pe_int (pa_cons (pe_op op_fdiv (pv 1) pe_int) pa_nil))))
    (pss_one (ps_ret (pe_tup (pa_cons pe_str (pa_cons (pe_ix ix_tup (pe_tup (pa_cons (pv 7) (pa_cons (pv 7) (pa_cons pe_str (pa_cons pe_str (pa_cons pe_str pa_nil)))))) (pe_callH h_draw hr (by omega) rfl (pa_cons (pv 0) (pa_cons pe_int (pa_cons pe_int pa_nil)))) (fun _ _=>rfl)) (pa_cons (pe_tup (pa_cons (pv 4) (pa_cons (pv 5) pa_nil))) pa_nil))))))))))))),?_⟩
  try dsimp only [cxOf]
  have at_:∀ {y:V},y∈us→∃ t,IsTr H t y∧TrG 4 t:=fun {y} hm=>by
    obtain ⟨k,hk,hky⟩:=List.getElem_of_mem hm
    obtain ⟨t,ht1,hT⟩:=paired_at ht (show us[k]? = some y by rw [List.getElem?_eq_getElem hk,hky])
    exact ⟨t,hT,g t (List.mem_of_getElem? ht1)⟩
  have lz:(0:Int) < (us.length:Int):=by omega
  refine ⟨_,rfl,c,_,_,rfl,by decide,by decide,by decide,?_⟩
  generalize drawZ c 10067 8=kd
  dsimp only [gName]
  obtain ⟨y1,hy1,hm1⟩:=atI_ex (xs:=us) (drawZ_nn c 10079 lz) (drawZ_lt c 10079 lz)
  obtain ⟨t1,ht1,g1⟩:=at_ hm1
  refine ⟨_,rfl,_,rfl,_,rfl,PL,_,rfl,.inl (SqL.of hP),c,_,_,rfl,by decide,by decide,lz,PL,us,_,y1,rfl,rfl,SqL.of hP,hy1,?_⟩
  dsimp only [gName]
  obtain ⟨y2,hy2,hm2⟩:=atI_ex (xs:=us) (drawZ_nn c 10091 lz) (drawZ_lt c 10091 lz)
  obtain ⟨t2,ht2,g2⟩:=at_ hm2
  refine ⟨_,rfl,_,rfl,_,rfl,PL,_,rfl,.inl (SqL.of hP),c,_,_,rfl,by decide,by decide,lz,PL,us,_,y2,rfl,rfl,SqL.of hP,hy2,?_⟩
  dsimp only [gName]
  clear hy1 hm1 hy2 hm2 at_
  refine ⟨_,rfl,rfl,_,rfl,iteD (fun _ => ?_) (fun _ => ?_)⟩
  · refine ⟨_,rfl,c,_,_,rfl,by decide,by decide,by decide,_,rfl,SpWord.mk _ sd rfl ⟨(show 2≤sizeLine by decide),fun p hp => ?_⟩⟩
    exact q (.ref p) (.name _) _ (same_new hp _) (by rw [IsTr];exact ⟨p,rfl,upd_same⟩) ⟨by rw [Bin];trivial,by rw [T.depth];decide⟩
  dsimp only [tNext]
  refine ⟨_,rfl,rfl,_,rfl,iteD (fun _ => ?_) (fun _ => ?_)⟩
  · refine ⟨_,rfl,_,_,rfl,rfl,div',10,60,rfl,rfl,⟨by decide,by decide,by decide⟩,_,_,rfl,rfl,(by decide:(0:Int) < 10 ^ (60:Int).toNat),_,rfl,c,_,_,rfl,by decide,by decide,by decide,_,rfl,_,_,rfl,rfl,div',10,60,rfl,rfl,⟨by decide,by decide,by decide⟩,_,_,rfl,rfl,(by decide:(0:Int) < 10 ^ (60:Int).toNat),_,rfl,(show 3≤sizeLine by decide),fun L hL => ?_⟩
    dsimp only [gName]
    obtain ⟨z,hz,hzm⟩:=atI_ex (xs:=([c / 5 % 10 ^ (60:Int).toNat,drawZ c 10093 4, -(c / 7 % 10 ^ (60:Int).toNat)]:List Int).map V.int) (drawZ_nn c 10099 (by decide:(0:Int) < 3)) (drawZ_lt c 10099 (by decide:(0:Int) < 3))
    obtain ⟨z,hzn,rfl⟩:=List.mem_map.mp hzm
    refine ⟨_,rfl,_,rfl,c,_,_,rfl,by decide,by decide,by decide,L,_,_,_,rfl,rfl,SqT.of upd_same,hz,(show 2≤sizeLine by decide),fun p hp => ?_⟩
    exact q (.ref p) (.num z) _ ((same_new hL _).trans (same_new hp _)) (by rw [IsTr];exact ⟨p,rfl,upd_same⟩) ⟨by rw [Bin];trivial,by rw [T.depth];decide⟩
  dsimp only [tNext]
  refine ⟨_,rfl,_,_,rfl,rfl,_,rfl,iteD (fun _ => ?_) (fun _ => ?_)⟩
  · refine ⟨_,rfl,_,_,rfl,rfl,div',SpWord.mk _ _ rfl ⟨(show 2≤sizeLine by decide),fun L hL => ?_⟩⟩
    obtain ⟨x,hx,hxm⟩:=atI_ex (xs:=(["neg",wordZ (sd / 7) 20]:List Str).map V.str) (drawZ_nn c 10103 (by decide:(0:Int) < 2)) (drawZ_lt c 10103 (by decide:(0:Int) < 2))
    obtain ⟨x,hxn,rfl⟩:=List.mem_map.mp hxm
    refine ⟨_,rfl,c,_,_,rfl,by decide,by decide,by decide,L,_,_,_,rfl,rfl,SqT.of upd_same,hx,_,rfl,(show 1≤sizeLine by decide),fun a ha=>⟨(show 3≤sizeLine by decide),fun p hp => ?_⟩⟩
    have s1:=same_new hL (.tup [.str "neg",.str (wordZ (sd / 7) 20)])
    have s2:=same_new ha (.tup [y1])
    have s3:=same_new hp (.tup [.str "of",.str x,.ref a])
    refine q (.ref p) (.of x [t1]) _ (s1.trans (s2.trans s3)) ?_ ⟨?_,?_⟩
    · rw [IsTr]
      refine ⟨p,a, [y1],rfl,upd_same,s3 _ _ upd_same,?_⟩
      rw [IsTrs]
      exact ⟨_,_,rfl,tr_same (s1.trans (s2.trans s3)) ht1,by rw [IsTrs]⟩
    · rw [Bin];exact ⟨Nat.le_refl _,(show 1≤2 by decide),by rw [Bins];exact ⟨g1.bin,by rw [Bins];trivial⟩⟩
    · have:=g1.dep
      rw [T.depth,T.deepest,T.deepest];omega
  dsimp only [tNext]
  refine ⟨_,rfl,_,_,rfl,rfl,div',SpWord.mk _ _ rfl ?_⟩
  dsimp only [gName]
  refine ⟨_,rfl,_,rfl,(show 5≤sizeLine by decide),fun L hL => ?_⟩
  obtain ⟨x,hx,hxm⟩:=atI_ex (xs:=([wordZ (sd / 7) 21,wordZ (sd / 7) 21, "plus", "times", "bind"]:List Str).map V.str) (drawZ_nn c 10111 (by decide:(0:Int) < 5)) (drawZ_lt c 10111 (by decide:(0:Int) < 5))
  obtain ⟨x,hxn,rfl⟩:=List.mem_map.mp hxm
  refine ⟨_,rfl,c,_,_,rfl,by decide,by decide,by decide,L,_,_,_,rfl,rfl,SqT.of upd_same,hx,_,rfl,_,rfl,(show 2≤sizeLine by decide),fun a ha=>⟨(show 3≤sizeLine by decide),fun p hp => ?_⟩⟩
  have s1:=same_new hL (.tup [.str (wordZ (sd / 7) 21),.str (wordZ (sd / 7) 21),.str "plus",.str "times",.str "bind"])
  have s2:=same_new ha (.tup [y1,y2])
  have s3:=same_new hp (.tup [.str "of",.str x,.ref a])
  have sA:=s1.trans (s2.trans s3)
  refine q (.ref p) (.of x [t1,t2]) _ sA ?_ ⟨?_,?_⟩
  · rw [IsTr]
    refine ⟨p,a, [y1,y2],rfl,upd_same,s3 _ _ upd_same,?_⟩
    rw [IsTrs]
    refine ⟨_,_,rfl,tr_same sA ht1,?_⟩
    rw [IsTrs]
    exact ⟨_,_,rfl,tr_same sA ht2,by rw [IsTrs]⟩
  · rw [Bin];exact ⟨(show 1≤2 by decide),Nat.le_refl _,by rw [Bins];exact ⟨g1.bin,by rw [Bins];exact ⟨g2.bin,by rw [Bins];trivial⟩⟩⟩
  · have:=g1.dep
    have:=g2.dep
    rw [T.depth,T.deepest,T.deepest,T.deepest];omega
noncomputable def spDepth (n:Nat):Sp:=fun vs H Q _=>∃ v t,vs = [v]∧IsTr H t v∧Bin t∧t.depth≤n∧∀ H',Same H H'→Q (.int (t.depth:Int)) H'
theorem ints_map (ts:List T):(ts.map fun t=>V.int (t.depth:Int))=(ts.map fun t=>(t.depth:Int)).map V.int:=by rw [List.map_map];rfl
theorem deepest_max {ats:List T} {M:Int} (h1:M∈ats.map fun t=>(t.depth:Int)) (h2:∀ a∈ats.map fun t=>(t.depth:Int),a≤M):((T.deepest ats:Nat):Int)=M:=by
  obtain ⟨t,ht,rfl⟩:=List.mem_map.mp h1
  have a1:=deepest_le ht
  have a2:=deepest_is (ts:=ats) (M:=t.depth) fun u hu=>by have:=h2 _ (List.mem_map.mpr ⟨u,hu,rfl⟩);omega
  omega
theorem ok_depth (B:Blt mg) (D:Def K mg "_law_depth" s_depth ["_law_tree_here"]):∀ n,Has P w K mg base n "_law_depth" ["_law_tree_here"] (spDepth n)
  | 0=>by
    obtain ⟨fa,fd,F,hm,hb⟩:=D.ex
    have no:∀ vs H Q E, ¬ spDepth 0 vs H Q E:=fun vs H Q E h=>by
      obtain ⟨v,t,_,_,_,z,_⟩:=h
      have:=depth_pos t
      omega
    exact ⟨fa,fd,⟨fun vs H Q E h=>absurd h (no vs H Q E),fun A outer s H args us vs Q E _ _ _ _ h=>absurd h (no vs H Q E)⟩,hm,F.kp,hb⟩
  | n+1=>by
    have h_depth:=ok_depth B D n
    refine D.has sc_depth (fun vs H Q E h => ?_) (fun f cdv A outer s H vs Q E hr h => ?_)
    · obtain ⟨v,t,rfl,_⟩:=h;rfl
    obtain ⟨v,t,rfl,hT,hbn,hd,q⟩:=h
    refine ⟨_,(pss_cons (ps_if (pt_cmpR op_ne (pe_ix ix_tup (pv 0) pe_int (fun _ _=>rfl)) pe_str (nomark _)) (pss_one (ps_ret pe_int)) pss_nil)
    (pss_one (ps_ret (pe_op op_add pe_int (pe_callB (call_maxL rfl) rfl B.max_ boot_max_ (pa_cons (pe_comp (te:=(tCall _ _ _ (tCons _ tNil))) (own := ["_law_arm"]) (caps := []) (comp_scope (defScope s_depth) ["_law_tree_here"] rfl rfl rfl (by decide +kernel)) (pi_tup (pe_ix ix_tup (pv 0) pe_int (fun _ _=>rfl))) rfl (fun _ _ _=>pg_name (i:=0) (show (["_law_arm"]:List Str).Nodup by decide +kernel) rfl (Or.inl rfl)) (fun _ _ _=>(pe_callH h_depth hr (by omega) rfl (pa_cons (pv 0) pa_nil)))) pa_nil)))))),?_⟩
    try dsimp only [cxOf]
    cases t with
    | num k =>
      rw [IsTr] at hT
      rw [T.depth] at q
      obtain ⟨a,rfl,h⟩:=hT
      exact ⟨_,rfl,a,_,0,_,rfl,rfl,SqT.of h,atI_nat (j:=0) rfl,rfl,_,rfl,iteDN (fun _=>q _ (Same.refl _)) (fun z=>absurd (V.str.inj z) (by decide))⟩
    | name k =>
      rw [IsTr] at hT
      rw [T.depth] at q
      obtain ⟨a,rfl,h⟩:=hT
      exact ⟨_,rfl,a,_,0,_,rfl,rfl,SqT.of h,atI_nat (j:=0) rfl,rfl,_,rfl,iteDN (fun _=>q _ (Same.refl _)) (fun z=>absurd (V.str.inj z) (by decide))⟩
    | any k=>rw [Bin] at hbn;exact hbn.elim
    | of x ts =>
      rw [IsTr] at hT
      rw [T.depth] at hd q
      rw [Bin,bins_all] at hbn
      obtain ⟨a,b,vs,rfl,h,hb,hTs⟩:=hT
      obtain ⟨l1,l2,hbs⟩:=hbn
      have hlen:=trs_len hTs
      refine ⟨_,rfl,a,_,0,_,rfl,rfl,SqT.of h,atI_nat (j:=0) rfl,rfl,_,rfl,iteDN (fun z=>absurd rfl z) (fun _ => ?_)⟩
      refine ⟨_,rfl,a,_,2,_,rfl,rfl,SqT.of h,atI_nat (j:=2) rfl,b,rfl,⟨vs,SqT.of hb⟩,?_⟩
      refine comp_tupS (ys:=ts.map fun t=>V.int (t.depth:Int)) (SqT.of hb) (by omega) (by rw [List.length_map,hlen]) (fun i y z hy hz H' sm Q' q' => ?_) (fun D2 H3 hD2 s3 hDl => ?_)
      · obtain ⟨ti,hti,hTi⟩:=trs_at hTs hy
        have hmem:ti∈ts:=List.mem_of_getElem? hti
        have d1:=deepest_le hmem
        rw [List.getElem?_map,hti] at hz
        cases hz
        exact ⟨_,rfl,y,ti,rfl,tr_same sm hTi,hbs ti hmem,by omega,fun H3 s3=>q' _ s3⟩
      rw [ints_map] at hDl
      refine ⟨D2,_,rfl,SqL.of hDl,by rw [List.length_map];omega,fun M hM1 hM2=>⟨_,_,rfl,rfl,?_⟩⟩
      have e:=deepest_max hM1 hM2
      have e2:1+M=((1+T.deepest ts:Nat):Int):=by omega
      rw [e2]
      exact q _ s3
end

end K51
namespace K51
open PySem L2 Sw
section
variable {P:Program} {w:World} {K:PySem.W.Frag} {mg:Str→Option Value} {base:Heap} {CB CF CH:Addr}
theorem rd_set' {v:V} {i:Nat} {rest:TS} {D:Ends} {σ : St} {H:Hp} (h:rest D (σ.set i (some v)) H):tSeq (tAsg (tC v) (gName i)) rest D σ H:=h
theorem kit_tt {K:PySem.W.Frag}:PySem.W.kitOne K (.type "tuple") (.type "tuple")=some true:=by rfl
theorem kit_ii {K:PySem.W.Frag}:PySem.W.kitOne K (.type "int") (.type "int")=some true:=by rfl
theorem kit_ib {K:PySem.W.Frag}:PySem.W.kitOne K (.type "int") (.type "bool")=some false:=by rfl
theorem tr_first {H:Hp} {t:T} {v:V} (h:IsTr H t v) (b:Bin t):∃ a s0 ys,v = .ref a∧H a=some (.tup (.str s0 :: ys))∧s0 ≠ "any" := by
  cases t with
  | num n=>rw [IsTr] at h;obtain ⟨a,e,h⟩:=h;exact ⟨a,_,_,e,h,by decide⟩
  | name n=>rw [IsTr] at h;obtain ⟨a,e,h⟩:=h;exact ⟨a,_,_,e,h,by decide⟩
  | any n=>rw [Bin] at b;exact b.elim
  | of x ts=>rw [IsTr] at h;obtain ⟨a,c,us,e,h,_⟩:=h;exact ⟨a,_,_,e,h,by decide⟩
inductive SpLput (n:Nat) (vs:List V) (H:Hp) (Q:VK):Prop
  | mk (R:Addr) (us:List V) (ts:List Tm) (v bv:V) (p:T) (ev:vs = [.ref R,v,bv]) (hR:H R=some (.lst us)) (hts:Tms H us ts) (hT:IsTr H p v) (bin:Bin p) (hd:p.depth≤n) (hz:(ptF b0 ts p).1.length≤900) (q:∀ H' us',But R H H'→H' R=some (.lst us')→Tms H' us' (ptF b0 ts p).1→Q (nV (ptF b0 ts p).2) H'):SpLput n vs H Q
noncomputable def spLput (n:Nat):Sp:=fun vs H Q _=>SpLput n vs H Q
inductive LpC (H:Hp) (R:Addr) (v bv:V) (e0:List Tm × Nat) (σ : St) (H':Hp):Prop
  | mk (v':V) (t:Tm) (us1:List V) (ts1:List Tm) (e : σ = [some (.ref R),some v,some bv,some v']) (bt:But R H H') (hR:H' R=some (.lst us1)) (hts:Tms H' us1 ts1) (ht:IsTm H' t v') (ea:e0=addF ts1 t):LpC H R v bv e0 σ H'
inductive LpI (H:Hp) (R:Addr) (as:List T) (ts:List Tm) (Dl:Addr) (i:Nat) (zs:List V) (H':Hp):Prop
  | mk (us':List V) (hi:i≤as.length) (bt:But R H H') (hD:H' Dl=some (.lst zs)) (ez:zs=(ptsF b0 ts (as.take i)).2.map nV) (hR:H' R=some (.lst us')) (ht:Tms H' us' (ptsF b0 ts (as.take i)).1):LpI H R as ts Dl i zs H'
theorem den_tms {H:Hp} {R:Addr} {us:List V} {ts:List Tm} (hR:H R=some (.lst us)) (h:Tms H us ts):Den H (.lst (ts.map tmD)) (.ref R):=by rw [Den];exact ⟨R,us,rfl,hR,tms_den h⟩
theorem in_tms {ts:List Tm} {t:Tm}:tmD t∈ts.map tmD↔t∈ts:=by
  refine ⟨fun h => ?_,fun h=>List.mem_map.mpr ⟨t,h,rfl⟩⟩
  obtain ⟨u,hu,e⟩:=List.mem_map.mp h
  rw [← tmD_inj e];exact hu
theorem first_tms {ts:List Tm} {t:Tm} {i:Nat} (h:posF ts t=some i):(ts.map tmD)[i]? = some (tmD t)∧∀ j,j < i→(ts.map tmD)[j]? ≠ some (tmD t):=by
  refine ⟨by rw [List.getElem?_map,pos_at h];rfl,fun j hj z => ?_⟩
  rw [List.getElem?_map] at z
  obtain ⟨u,hu,e⟩:=Option.map_eq_some_iff.mp z
  exact pos_first h j hj (by rw [hu,tmD_inj e])
theorem ok_lput (B:Blt mg) (D:Def K mg "_law_put" s_lput ["_law_held", "_law_pattern", "_law_binds"]):∀ n,Has P w K mg base (n+1) "_law_put" ["_law_held", "_law_pattern", "_law_binds"] (spLput n)
  | 0=>by
    obtain ⟨fa,fd,F,hm,hb⟩:=D.ex
    have no:∀ vs H Q E, ¬ spLput 0 vs H Q E:=fun vs H Q E h=>by
      obtain ⟨R,us,ts,v,bv,p,_,_,_,_,_,z,_⟩:=h
      have:=depth_pos p
      omega
    exact ⟨fa,fd,⟨fun vs H Q E h=>absurd h (no vs H Q E),fun A outer s H args us vs Q E _ _ _ _ h=>absurd h (no vs H Q E)⟩,hm,F.kp,hb⟩
  | n+1=>by
    have h_lput:=ok_lput B D n
    refine D.has sc_lput (fun vs H Q E h => ?_) (fun f cdv A outer s H vs Q E hr h => ?_)
    · obtain ⟨R,us,ts,v,bv,p,rfl,_⟩:=h;rfl
    obtain ⟨R,us,ts,v,bv,p,rfl,hR,hts,hT,hbin,hd,hz,q⟩:=h
    refine ⟨_,(pss_cons (ps_if (pt_cmpR op_eq (pe_ix ix_tup (pv 1) pe_int (fun _ _=>rfl)) pe_str (nomark _)) (pss_one (ps_ret (pe_dget (hu_of hr) (pv 2) (pe_ix ix_tup (pv 1) pe_int (fun _ _=>rfl)) (fun _ _=>rfl)))) pss_nil)
    (pss_cons (ps_set (i:=3) sc_lput.nd rfl (Or.inl rfl) (pv 1))
    (pss_cons (ps_if (pt_cmpR op_eq (pe_ix ix_tup (pv 1) pe_int (fun _ _=>rfl)) pe_str (nomark _)) (pss_one (ps_set (i:=3) sc_lput.nd rfl (Or.inl rfl) (pe_tup (pa_cons pe_str (pa_cons (pe_ix ix_tup (pv 1) pe_int (fun _ _=>rfl)) (pa_cons (pe_callTy call_tuple_of rfl B.tuple_ boot_tuple_ (pa_cons (pe_comp (te:=(tCall _ _ _ (tCons _ (tCons _ (tCons _ tNil))))) (own := ["_law_arm"]) (caps := [("_law_held",0),("_law_binds",2)]) (comp_scope (defScope s_lput) ["_law_held", "_law_pattern", "_law_binds", "_law_term"] rfl rfl rfl (by decide +kernel)) (pi_tup (pe_ix ix_tup (pv 1) pe_int (fun _ _=>rfl))) rfl (fun _ _ _=>pg_name (i:=0) (show (["_law_arm", "_law_held", "_law_binds"]:List Str).Nodup by decide +kernel) rfl (Or.inl rfl)) (fun _ _ _=>(pe_callH h_lput hr (by omega) rfl (pa_cons (pv 1) (pa_cons (pv 0) (pa_cons (pv 2) pa_nil)))))) pa_nil)) pa_nil)))))) pss_nil)
    (pss_cons (ps_if (pt_cmpR (op_notInD (un101 hr)) (pv 3) (pv 0) (by with_unfolding_all rfl)) (pss_one (ps_expr (pe_bm PySem.F.plainAttrs_list PySem.F.slot_list_append PySem.F.type_list_append mt_append (pv 0) (pa_cons (pv 3) pa_nil)))) pss_nil)
    (pss_one (ps_ret (pe_bm PySem.F.plainAttrs_list PySem.F.slot_list_index PySem.F.type_list_index (mt_indexD (un101 hr)) (pv 0) (pa_cons (pv 3) pa_nil)))))))),?_⟩
    try dsimp only [cxOf]
    obtain ⟨a,s0,ys,rfl,ha,hs0⟩:=tr_first hT hbin
    refine ⟨_,rfl,a,_,0,_,rfl,rfl,SqT.of ha,atI_nat (j:=0) rfl,rfl,_,rfl,iteD (fun z=>absurd (V.str.inj z) hs0) (fun _ => ?_)⟩
    dsimp only [tNext]
    refine ⟨_,rfl,?_⟩
    dsimp only [gName]
    refine rd_cut (LpC H R (.ref a) bv (ptF b0 ts p)) ?_ (fun key => ?_)
    · rintro σ H' ⟨v',t,us1,ts1,rfl,bt,hR',hts',ht,e⟩
      have hlen:=Paired.length hts'
      rw [e] at hz q
      have hp:=(add_pre ts1 t).length_le
      refine ⟨_,rfl,_,rfl,tmD t,ts1.map tmD,ht.den,.inl (den_tms hR' hts'),Nat.le_trans (tms_deep ts1) (by decide),_,rfl,?_⟩
      rw [if_pos rfl]
      cases eq:posF ts1 t with
      | some i =>
        rw [decide_eq_true (in_tms.mpr (List.mem_of_getElem? (pos_at eq)))]
        refine iteF ?_
        rw [add_old eq] at q
        obtain ⟨f1,f2⟩:=first_tms eq
        exact ⟨_,rfl,.inl ⟨rfl,_,SqL.of hR'⟩,_,rfl,v',tmD t,ts1.map tmD,i,rfl,ht.den,den_tms hR' hts',Nat.le_trans (tms_deep ts1) (by decide),by rw [List.length_map];omega,f1,f2,q H' us1 bt hR' hts'⟩
      | none =>
        rw [decide_eq_false (fun z=>pos_none.mp eq (in_tms.mp z))]
        refine iteT ?_
        refine ⟨_,rfl,.inl ⟨rfl,_,SqL.of hR'⟩,_,rfl,R,us1,v',rfl,rfl,hR',small1000 (by omega),?_⟩
        rw [add_new eq] at q hz hp
        have b2:But R H' (upd H' R (.lst (us1 ++ [v']))):=(But.refl R H').put
        have kt:=b2.tup hR'
        have hR2:(upd H' R (.lst (us1 ++ [v']))) R=some (.lst (us1 ++ [v'])):=upd_same
        have ht2:=tms_snoc (tms_keep kt hts') (ht.keep kt)
        have hp2:posF (ts1 ++ [t]) t=some ts1.length:=by rw [pos_app,eq,if_pos rfl]
        obtain ⟨f1,f2⟩:=first_tms hp2
        exact ⟨_,rfl,.inl ⟨rfl,_,SqL.of hR2⟩,_,rfl,v',tmD t,(ts1 ++ [t]).map tmD,ts1.length,rfl,(ht.keep kt).den,den_tms hR2 ht2,Nat.le_trans (tms_deep _) (by decide),by rw [List.length_map];exact Nat.le_trans hz (by decide),f1,f2,q _ _ (bt.trans b2) hR2 ht2⟩
    cases p with
    | any k=>rw [Bin] at hbin;exact hbin.elim
    | num k =>
      rw [IsTr] at hT
      obtain ⟨a',e,h⟩:=hT
      cases e
      exact ⟨_,rfl,a,_,0,_,rfl,rfl,SqT.of h,atI_nat (j:=0) rfl,rfl,_,rfl,iteD (fun z=>absurd (V.str.inj z) (by decide)) (fun _=>key _ _ (LpC.mk (.ref a) (.num k) us ts rfl (But.refl R H) hR hts ⟨a,rfl,h⟩ (by rw [ptF])))⟩
    | name k =>
      rw [IsTr] at hT
      obtain ⟨a',e,h⟩:=hT
      cases e
      exact ⟨_,rfl,a,_,0,_,rfl,rfl,SqT.of h,atI_nat (j:=0) rfl,rfl,_,rfl,iteD (fun z=>absurd (V.str.inj z) (by decide)) (fun _=>key _ _ (LpC.mk (.ref a) (.name k) us ts rfl (But.refl R H) hR hts ⟨a,rfl,h⟩ (by rw [ptF])))⟩
    | of x as =>
      rw [IsTr] at hT
      obtain ⟨a',c,avs,e,h,hc,htr⟩:=hT
      cases e
      have hla:=trs_len htr
      rw [T.depth] at hd
      rw [Bin,bins_all] at hbin
      have hof:(ptF b0 ts (.of x as))=addF (ptsF b0 ts as).1 (.of x (ptsF b0 ts as).2):=by rw [ptF]
      have hz1:(ptsF b0 ts as).1.length≤900:=by have:=(add_pre (ptsF b0 ts as).1 (.of x (ptsF b0 ts as).2)).length_le;rw [hof] at hz;omega
      refine ⟨_,rfl,a,_,0,_,rfl,rfl,SqT.of h,atI_nat (j:=0) rfl,rfl,_,rfl,iteD (fun _ => ?_) (fun z=>absurd rfl z)⟩
      refine ⟨_,rfl,a,_,1,_,rfl,rfl,SqT.of h,atI_nat (j:=1) rfl,_,rfl,a,_,2,_,rfl,rfl,SqT.of h,atI_nat (j:=2) rfl,c,rfl,⟨_,SqT.of hc⟩,?_⟩
      refine comp_tupW (xs:=avs) (by omega) (LpI H R as ts) ?_ ?_ ?_ ?_
      · intro Dl hDl
        have s0:=same_new hDl (.lst [])
        exact LpI.mk us (Nat.zero_le _) (fun c o _ h=>s0 c o h) upd_same (by rw [List.take_zero,ptsF];rfl) (s0 _ _ hR) (by rw [List.take_zero,ptsF];exact tms_same s0 hts)
      · rintro Dl i zs H' hDl ⟨us',hi,bt,hD',rfl,hR',ht'⟩
        refine ⟨hD',SqT.of (bt.tup hR _ _ hc),?_⟩
        rw [List.length_map,puts_len,List.length_take]
        omega
      · rintro Dl i y zs H' hDl hy ⟨us',hi,bt,hD',rfl,hR',ht'⟩ Q' q'
        obtain ⟨t,ht,hyt⟩:=trs_at htr hy
        have hmem:=List.mem_of_getElem? ht
        have hil:=(List.getElem?_eq_some_iff.mp ht).1
        have et:as.take (i+1)=as.take i ++ [t]:=by rw [List.take_add_one,ht];rfl
        have e1:(ptsF b0 ts (as.take (i+1))).1=(ptF b0 (ptsF b0 ts (as.take i)).1 t).1:=by rw [et,puts_snoc]
        have e2:(ptsF b0 ts (as.take (i+1))).2=(ptsF b0 ts (as.take i)).2 ++ [(ptF b0 (ptsF b0 ts (as.take i)).1 t).2]:=by rw [et,puts_snoc]
        have p1:(ptF b0 (ptsF b0 ts (as.take i)).1 t).1 <+: (ptsF b0 ts as).1:=by rw [← e1];exact puts_take _ _ _ _
        have hDR:Dl≠R:=fun e=>by rw [e,hR] at hDl;cases hDl
        refine ⟨_,rfl,_,rfl,_,rfl,SpLput.mk R us' _ y bv t rfl hR' ht' (tr_keep (bt.tup hR) hyt) (hbin.2.2 t hmem) (by have:=deepest_le hmem;omega) (by have:=p1.length_le;omega) fun H2 us2 b2 hR2 ht2 => ?_⟩
        have hD2:=b2 _ _ hDR hD'
        refine q' _ H2 hD2 (LpI.mk us2 hil (fun c o n h => ?_) upd_same (by rw [e2,List.map_append];rfl) ?_ ?_)
        · have:c≠Dl:=fun e=>by rw [e,hDl] at h;cases h
          rw [upd_ne this]
          exact b2 _ _ n (bt _ _ n h)
        · rw [upd_ne (Ne.symm hDR)];exact hR2
        · rw [e1]
          exact tms_keep (fun b ys e=>by rw [upd_ne (ne_of e hD2 (fun z=>nomatch z))];exact e) ht2
      · rintro Dl zs H' hDl ⟨us',hi,bt,hD',rfl,hR',ht'⟩
        rw [← hla,List.take_length] at hD' ht'
        refine ⟨Dl,_,rfl,.inl ⟨SqL.of hD',fun tl htl => ?_⟩⟩
        have s1:=same_new htl (.tup ((ptsF b0 ts as).2.map nV))
        have g1:=upd_same (H:=H') (a:=tl) (o := .tup ((ptsF b0 ts as).2.map nV))
        generalize upd H' tl (.tup ((ptsF b0 ts as).2.map nV))=H1 at s1 g1 ⊢
        refine ⟨(show 3≤sizeLine by decide),fun tp htp => ?_⟩
        have s2:=same_new htp (.tup [.str "of",.str x,.ref tl])
        have g2:=upd_same (H:=H1) (a:=tp) (o := .tup [.str "of",.str x,.ref tl])
        generalize upd H1 tp (.tup [.str "of",.str x,.ref tl])=H2 at s2 g2 ⊢
        dsimp only [gName]
        exact key _ _ (LpC.mk (.ref tp) (.of x (ptsF b0 ts as).2) us' (ptsF b0 ts as).1 rfl ((bt.same s1).same s2) (s2 _ _ (s1 _ _ hR')) (tms_same s2 (tms_same s1 ht')) (tm_of g2 (s2 _ _ g1)) hof)
inductive SpNumber (vs:List V) (H:Hp) (Q:VK):Prop
  | mk (n:Int) (z0:vs = [.int n,.int n]) (z1:Q (.bl true) H):SpNumber  vs H Q
noncomputable def spNumber:Sp:=fun vs H Q _=>SpNumber  vs H Q
theorem ok_number (B:Blt mg) (D:Def K mg "_law_number" s_number ["_law_found", "_law_due"]):Has P w K mg base 1 "_law_number" ["_law_found", "_law_due"] spNumber:=by
  refine D.has sc_number (fun vs H Q E h => ?_) (fun f cdv A outer s H vs Q E hr h => ?_)
  · obtain ⟨n,rfl,_⟩:=h;rfl
  obtain ⟨n,rfl,q⟩:=h
  refine ⟨_,(pss_one (ps_ret (pe_and (pe_callB call_isT rfl B.isinstance_ boot_isinstance_ (pa_cons (pv 0) (pa_cons (pe_bltn (v := .ty "int") rfl B.int_ boot_int_ rfl) pa_nil))) (pe_and (pe_not (pe_callB call_isT rfl B.isinstance_ boot_isinstance_ (pa_cons (pv 0) (pa_cons (pe_bltn (v := .ty "bool") rfl B.bool_ boot_bool_ rfl) pa_nil)))) (pe_one (pe_cmpR op_eq (pv 0) (pv 1) (nomark _))))))),?_⟩
  try dsimp only [cxOf]
  refine ⟨_,rfl,_,_,_,true,rfl,.int _,kit_ii,_,rfl,iteT ⟨_,rfl,_,_,_,false,rfl,.int _,kit_ib,_,rfl,_,rfl,iteT ⟨_,rfl,_,rfl,rfl,?_⟩⟩⟩
  rw [decide_eq_true rfl]
  exact q
end

end K51
namespace K51
open PySem L2 Sw
section
variable {P:Program} {w:World} {K:PySem.W.Frag} {mg:Str→Option Value} {base:Heap} {CB CF CH:Addr}
theorem bench_bank {H H':Hp} {bn dn b dx L M EL:Addr} {room:Int} {ts ts':List Tm} {es:List Ed} (h:BenchAt P w CB CH H bn dn b dx L M EL room ts es) (bt:But2 L M H H') (hB:BankAt P w CB H' b dx L M room ts'):BenchAt P w CB CH H' bn dn b dx L M EL room ts' es:=by
  obtain ⟨evs,hE,heds⟩:=h.hE
  obtain ⟨us,hL⟩:=bank_lst h.hB
  obtain ⟨φ,hM⟩:=bank_ext h.hB
  exact ⟨bt _ _ (ne_of h.hn hL (fun z=>nomatch z)) (ne_of h.hn hM (fun z=>nomatch z)) h.hn,hB,⟨evs,bt _ _ h.ne (ne_of hE hM (fun z=>nomatch z)) hE,eds_keep (h.hB.tup bt) heds⟩,h.ne⟩
noncomputable def tsF (k:Int) (ts:List Tm) (p1 p2:T):List Tm:=if k=0 then (ptF b0 ts p1).1 else (ptF b0 (ptF b0 ts p1).1 p2).1
noncomputable def esF (k wt:Int) (ts:List Tm) (es:List Ed) (p1 p2:T):List Ed:=if k=2 then es ++ [((ptF b0 ts p1).2,(ptF b0 (ptF b0 ts p1).1 p2).2,1)] else if k=3 then es ++ [((ptF b0 ts p1).2,(ptF b0 (ptF b0 ts p1).1 p2).2,wt)] else es
noncomputable def ResAt (H:Hp) (k:Int) (ts:List Tm) (es:List Ed) (p1 p2:T) (v:V):Prop:=(k=0→v=nV (ptF b0 ts p1).2)∧(k=1→∃ pr,v = .ref pr∧H pr=some (.tup [nV (ptF b0 ts p1).2,nV (ptF b0 (ptF b0 ts p1).1 p2).2]))∧(2≤k→v = .int (es.length:Int))
structure DeedAt (P:Program) (w:World) (CB CH:Addr) (H:Hp) (bn dn b dx L M EL dd:Addr) (room k wt:Int) (ts:List Tm) (es:List Ed) (v1 v2:V) (p1 p2:T):Prop where
  hb:BenchAt P w CB CH H bn dn b dx L M EL room ts es
  nd:ts.Nodup
  hd:H dd=some (.tup [.int k,v1,v2,.int wt])
  k0:0≤k
  k3:k≤3
  T1:IsTr H p1 v1
  G1:TrG 5 p1
  T2:IsTr H p2 v2
  G2:TrG 5 p2
  len:(ptF b0 (ptF b0 ts p1).1 p2).1.length≤900
  hr:(ts.length:Int)≤room
  he:es.length≤900
inductive SpDo (P:Program) (w:World) (CB CF CH:Addr) (vs:List V) (H:Hp) (Q:VK) (E:XK):Prop
  | mk (bn dn b dx L M EL dd:Addr) (room k wt:Int) (ts:List Tm) (es:List Ed) (v1 v2:V) (p1 p2:T) (ev:vs = [.ref bn,.ref dd]) (a:DeedAt P w CB CH H bn dn b dx L M EL dd room k wt ts es v1 v2 p1 p2)
    (q1:(((tsF k ts p1 p2).length:Int)≤room)→∀ v H',But3 L M EL H H'→BenchAt P w CB CH H' bn dn b dx L M EL room (tsF k ts p1 p2) (esF k wt ts es p1 p2)→ResAt H' k ts es p1 p2 v→Q v H')
    (q2:¬ (((tsF k ts p1 p2).length:Int)≤room)→∀ H' m,But2 L M H H'→BankAt P w CB H' b dx L M room ts→E (.ref CF) m H'):SpDo P w CB CF CH vs H Q E
noncomputable def spDo (P:Program) (w:World) (CB CF CH:Addr):Sp:=fun vs H Q E=>SpDo P w CB CF CH vs H Q E
theorem ok_do (Y:TopBh K CH) (h_bput:HasM P w K mg base 8 CH "put" ["self", "tree"] (spBPut P w CB CF CH 5)) (h_pair:HasM P w K mg base 8 CH "pair" ["self", "one", "other"] (spPair P w CB CF CH 5)) (h_tell:HasM4 P w K mg base 9 CH "tell" ["self", "one", "other", "weight"] [.int 1] ["weight"] (spTell P w CB CF CH 5)) (D:Def K mg "_law_do" s_do ["_law_bench", "_law_deed"]):HasE P w K mg base 10 "_law_do" ["_law_bench", "_law_deed"] (spDo P w CB CF CH):=by
  have cH:=Y.cH
  refine D.hasE sc_do (fun vs H Q E h => ?_) (fun f cdv A outer s H vs Q E hr h => ?_)
  · obtain ⟨bn,dn,b,dx,L,M,EL,dd,room,k,wt,ts,es,v1,v2,p1,p2,rfl,_⟩:=h;rfl
  obtain ⟨bn,dn,b,dx,L,M,EL,dd,room,k,wt,ts,es,v1,v2,p1,p2,rfl,a,q1,q2⟩:=h
  refine ⟨_,(pss_cons (ps_if (pt_cmpR op_eq (pe_ix ix_tup (pv 1) pe_int (fun _ _=>rfl)) pe_int (nomark _)) (pss_one (ps_ret (pe_mE h_bput cH hr (by omega) (passE fun _ _ _ z=>z) (pv 0) (pa_cons (pe_ix ix_tup (pv 1) pe_int (fun _ _=>rfl)) pa_nil)))) pss_nil)
    (pss_cons (ps_if (pt_cmpR op_eq (pe_ix ix_tup (pv 1) pe_int (fun _ _=>rfl)) pe_int (nomark _)) (pss_one (ps_ret (pe_mE h_pair cH hr (by omega) (passE fun _ _ _ z=>z) (pv 0) (pa_cons (pe_ix ix_tup (pv 1) pe_int (fun _ _=>rfl)) (pa_cons (pe_ix ix_tup (pv 1) pe_int (fun _ _=>rfl)) pa_nil))))) pss_nil)
    (pss_cons (ps_if (pt_cmpR op_eq (pe_ix ix_tup (pv 1) pe_int (fun _ _=>rfl)) pe_int (nomark _)) (pss_one (ps_ret (pe_mEd h_tell.d cH hr (by omega) (passE fun _ _ _ z=>z) (pv 0) (pa_cons (pe_ix ix_tup (pv 1) pe_int (fun _ _=>rfl)) (pa_cons (pe_ix ix_tup (pv 1) pe_int (fun _ _=>rfl)) pa_nil))))) pss_nil)
    (pss_cons (ps_if (pt_cmpR op_eq (pe_op op_mod (pe_ix ix_tup (pv 1) pe_int (fun _ _=>rfl)) pe_int) pe_int (nomark _)) (pss_one (ps_ret (pe_mKw4 h_tell cH hr (by omega) (passE fun _ _ _ z=>z) (pv 0) (pa_cons (pe_ix ix_tup (pv 1) pe_int (fun _ _=>rfl)) (pa_cons (pe_ix ix_tup (pv 1) pe_int (fun _ _=>rfl)) pa_nil)) (pk_cons (pe_ix ix_tup (pv 1) pe_int (fun _ _=>rfl)) pk_nil)))) pss_nil)
    (pss_one (ps_ret (pe_mE h_tell.a cH hr (by omega) (passE fun _ _ _ z=>z) (pv 0) (pa_cons (pe_ix ix_tup (pv 1) pe_int (fun _ _=>rfl)) (pa_cons (pe_ix ix_tup (pv 1) pe_int (fun _ _=>rfl)) (pa_cons (pe_ix ix_tup (pv 1) pe_int (fun _ _=>rfl)) pa_nil)))))))))),?_⟩
  try dsimp only [cxOf]
  obtain ⟨hb,nd,hd,k0,k3,T1,G1,T2,G2,len,hro,he⟩:=a
  obtain ⟨s1,h1⟩:=bin_slim p1 G1.bin
  obtain ⟨s2,h2⟩:=bin_slim p2 G2.bin
  have hn:=hb.hn
  have le2:=(put_pre b0 p2 (ptF b0 ts p1).1).length_le
  rcases (show k=0∨k=1∨k=2∨k=3 by omega) with rfl | rfl | rfl | rfl
  · refine ⟨_,rfl,dd,_,0,_,rfl,rfl,SqT.of hd,atI_nat (j:=0) rfl,rfl,_,rfl,iteD (fun _ => ?_) (fun z=>absurd rfl z)⟩
    refine ⟨_,rfl,bn,dn,_,rfl,hn,rfl,_,rfl,dd,_,1,_,rfl,rfl,SqT.of hd,atI_nat (j:=1) rfl,SpBPut.mk bn dn b dx L M EL room ts es v1 p1 rfl hb nd T1 G1.dep s1 h1 (by omega) hro (fun f H1 bt hB => ?_) (fun nf H1 m bt hB=>q2 (fun z=>nf z) H1 m bt hB)⟩
    exact q1 f _ H1 (fun c o m1 m2 _ h=>bt c o m1 m2 h) (bench_bank hb bt hB) ⟨fun _=>rfl,fun z=>absurd z (by decide),fun z=>absurd z (by decide)⟩
  · refine ⟨_,rfl,dd,_,0,_,rfl,rfl,SqT.of hd,atI_nat (j:=0) rfl,rfl,_,rfl,iteD (fun z=>absurd (V.int.inj z) (by decide)) (fun _ => ?_)⟩
    refine ⟨_,rfl,dd,_,0,_,rfl,rfl,SqT.of hd,atI_nat (j:=0) rfl,rfl,_,rfl,iteD (fun _ => ?_) (fun z=>absurd rfl z)⟩
    refine ⟨_,rfl,bn,dn,_,rfl,hn,rfl,_,rfl,dd,_,1,_,rfl,rfl,SqT.of hd,atI_nat (j:=1) rfl,_,rfl,dd,_,2,_,rfl,rfl,SqT.of hd,atI_nat (j:=2) rfl,SpPair.mk bn dn b dx L M EL room ts es v1 v2 p1 p2 rfl hb nd T1 G1.dep s1 h1 T2 G2.dep s2 h2 len hro (fun f pr H1 bt hB hpr => ?_) (fun nf H1 m bt hB=>q2 (fun z=>nf z) H1 m bt hB)⟩
    exact q1 f _ H1 (fun c o m1 m2 _ h=>bt c o m1 m2 h) (bench_bank hb bt hB) ⟨fun z=>absurd z (by decide),fun _=>⟨pr,rfl,hpr⟩,fun z=>absurd z (by decide)⟩
  · refine ⟨_,rfl,dd,_,0,_,rfl,rfl,SqT.of hd,atI_nat (j:=0) rfl,rfl,_,rfl,iteD (fun z=>absurd (V.int.inj z) (by decide)) (fun _ => ?_)⟩
    refine ⟨_,rfl,dd,_,0,_,rfl,rfl,SqT.of hd,atI_nat (j:=0) rfl,rfl,_,rfl,iteD (fun z=>absurd (V.int.inj z) (by decide)) (fun _ => ?_)⟩
    refine ⟨_,rfl,dd,_,0,_,rfl,rfl,SqT.of hd,atI_nat (j:=0) rfl,rfl,_,rfl,iteD (fun _ => ?_) (fun z=>absurd rfl z)⟩
    refine ⟨_,rfl,bn,dn,_,rfl,hn,rfl,_,rfl,dd,_,1,_,rfl,rfl,SqT.of hd,atI_nat (j:=1) rfl,_,rfl,dd,_,2,_,rfl,rfl,SqT.of hd,atI_nat (j:=2) rfl,SpTell.mk bn dn b dx L M EL room 1 ts es v1 v2 p1 p2 rfl hb nd T1 G1.dep s1 h1 T2 G2.dep s2 h2 len hro he (fun f H1 bt hB => ?_) (fun nf H1 m bt hB=>q2 (fun z=>nf z) H1 m bt hB)⟩
    exact q1 f _ H1 bt hB ⟨fun z=>absurd z (by decide),fun z=>absurd z (by decide),fun _=>rfl⟩
  · refine ⟨_,rfl,dd,_,0,_,rfl,rfl,SqT.of hd,atI_nat (j:=0) rfl,rfl,_,rfl,iteD (fun z=>absurd (V.int.inj z) (by decide)) (fun _ => ?_)⟩
    refine ⟨_,rfl,dd,_,0,_,rfl,rfl,SqT.of hd,atI_nat (j:=0) rfl,rfl,_,rfl,iteD (fun z=>absurd (V.int.inj z) (by decide)) (fun _ => ?_)⟩
    refine ⟨_,rfl,dd,_,0,_,rfl,rfl,SqT.of hd,atI_nat (j:=0) rfl,rfl,_,rfl,iteD (fun z=>absurd (V.int.inj z) (by decide)) (fun _ => ?_)⟩
    refine ⟨_,rfl,dd,_,3,_,rfl,rfl,SqT.of hd,atI_nat (j:=3) rfl,_,_,rfl,rfl,pos',rfl,_,rfl,iteD (fun _ => ?_) (fun _ => ?_)⟩
    · refine ⟨_,rfl,bn,dn,_,rfl,hn,rfl,_,rfl,dd,_,1,_,rfl,rfl,SqT.of hd,atI_nat (j:=1) rfl,_,rfl,dd,_,2,_,rfl,rfl,SqT.of hd,atI_nat (j:=2) rfl,_,rfl,dd,_,3,_,rfl,rfl,SqT.of hd,atI_nat (j:=3) rfl,v1,v2,.int wt,rfl,rfl,SpTell.mk bn dn b dx L M EL room wt ts es v1 v2 p1 p2 rfl hb nd T1 G1.dep s1 h1 T2 G2.dep s2 h2 len hro he (fun f H1 bt hB => ?_) (fun nf H1 m bt hB=>q2 (fun z=>nf z) H1 m bt hB)⟩
      exact q1 f _ H1 bt hB ⟨fun z=>absurd z (by decide),fun z=>absurd z (by decide),fun _=>rfl⟩
    · refine ⟨_,rfl,bn,dn,_,rfl,hn,rfl,_,rfl,dd,_,1,_,rfl,rfl,SqT.of hd,atI_nat (j:=1) rfl,_,rfl,dd,_,2,_,rfl,rfl,SqT.of hd,atI_nat (j:=2) rfl,_,rfl,dd,_,3,_,rfl,rfl,SqT.of hd,atI_nat (j:=3) rfl,SpTell.mk bn dn b dx L M EL room wt ts es v1 v2 p1 p2 rfl hb nd T1 G1.dep s1 h1 T2 G2.dep s2 h2 len hro he (fun f H1 bt hB => ?_) (fun nf H1 m bt hB=>q2 (fun z=>nf z) H1 m bt hB)⟩
      exact q1 f _ H1 bt hB ⟨fun z=>absurd z (by decide),fun z=>absurd z (by decide),fun _=>rfl⟩
end
section
variable {P:Program} {w:World} {K:PySem.W.Frag} {mg:Str→Option Value} {base:Heap} {CB CH:Addr} {c_NoTree c_NoRule c_NoRow c_Full c_Apart c_TooBig c_TooWide c_SameError:Addr}
structure ExcsF (K:PySem.W.Frag) (mg:Str→Option Value) (c_NoTree c_NoRule c_NoRow c_Full c_Apart c_TooBig c_TooWide c_SameError:Addr):Prop where
  e_NoTree:mg "NoTree" = some (.ref c_NoTree)
  e_NoRule:mg "NoRule" = some (.ref c_NoRule)
  e_NoRow:mg "NoRow" = some (.ref c_NoRow)
  e_Full:mg "Full" = some (.ref c_Full)
  e_Apart:mg "Apart" = some (.ref c_Apart)
  e_TooBig:mg "TooBig" = some (.ref c_TooBig)
  e_TooWide:mg "TooWide" = some (.ref c_TooWide)
  e_SameError:mg "SameError" = some (.ref c_SameError)
  b_ValueError:mg "ValueError" = none
  zFull:ExcI K c_Full
  i_Full:PySem.W.kitOne K (.ref c_Full) (.ref c_Full)=some true
  i_SameError:PySem.W.kitOne K (.ref c_Full) (.ref c_SameError)=some true
  i_ValueError:PySem.W.kitOne K (.ref c_Full) (.type "ValueError")=some true
  i_NoTree:PySem.W.kitOne K (.ref c_Full) (.ref c_NoTree)=some false
  i_NoRule:PySem.W.kitOne K (.ref c_Full) (.ref c_NoRule)=some false
  i_NoRow:PySem.W.kitOne K (.ref c_Full) (.ref c_NoRow)=some false
  i_Apart:PySem.W.kitOne K (.ref c_Full) (.ref c_Apart)=some false
  i_TooBig:PySem.W.kitOne K (.ref c_Full) (.ref c_TooBig)=some false
  i_TooWide:PySem.W.kitOne K (.ref c_Full) (.ref c_TooWide)=some false
  m_Full:PySem.W.exmOne K (.ref c_Full) (.ref c_Full)=some true
  m_SameError:PySem.W.exmOne K (.ref c_Full) (.ref c_SameError)=some true
theorem ref_one {a:Addr}:∀ u v,RelV (.ref a) u→RelV (.ref a) v→u=v:=fun u v h1 h2=>(show u=Value.ref a from h1).trans (show v=Value.ref a from h2).symm
theorem ty_one {T:String}:∀ u v,RelV (.ty T) u→RelV (.ty T) v→u=v:=fun u v h1 h2=>(show u=Value.type T from h1).trans (show v=Value.type T from h2).symm
theorem vals_refs:∀ (cs:List Addr) (us:List Value),Vals (cs.map V.ref) us→us=cs.map Value.ref
  | [],us,h=>by cases h;rfl
  | c :: cs,us,h=>by
    cases h with
    | cons h1 h2=>rw [vals_refs cs _ h2,show _=Value.ref c from h1];rfl
theorem kit_none {K:PySem.W.Frag} {t:Value}:∀ (cs:List Addr),(∀ c∈cs,PySem.W.kitOne K t (.ref c)=some false)→PySem.W.kitAny K t (cs.map Value.ref)=some false
  | [],_=>rfl
  | c :: cs,h=>by
    rw [List.map_cons,PySem.W.kitAny,h c List.mem_cons_self]
    exact kit_none cs fun d hd=>h d (List.mem_cons_of_mem _ hd)
inductive SpFull (P:Program) (w:World) (CB CH:Addr) (vs:List V) (H:Hp) (Q:VK):Prop
  | mk (bn dn b dx L M EL dd:Addr) (room k wt:Int) (ts:List Tm) (es:List Ed) (v1 v2:V) (p1 p2:T) (by_:Bool) (ev:vs = [.ref bn,.ref dd,.bl by_]) (a:DeedAt P w CB CH H bn dn b dx L M EL dd room k wt ts es v1 v2 p1 p2) (nf:¬ (((tsF k ts p1 p2).length:Int)≤room))
    (q:∀ H',But2 L M H H'→BankAt P w CB H' b dx L M room ts→Q (.bl true) H'):SpFull P w CB CH vs H Q
noncomputable def spFull (P:Program) (w:World) (CB CH:Addr):Sp:=fun vs H Q _=>SpFull P w CB CH vs H Q
inductive FuC (P:Program) (w:World) (CB c_Full:Addr) (H:Hp) (b dx L M:Addr) (room:Int) (ts:List Tm) (pre:V→St) (σ : St) (H':Hp):Prop
  | mk (ea:Addr) (e : σ = pre (.ref ea)) (bt:But2 L M H H') (hB:BankAt P w CB H' b dx L M room ts) (hx:H' ea=some (XO ea c_Full)):FuC P w CB c_Full H b dx L M room ts pre σ H'
theorem ok_full (B:Blt mg) (oFull:Exc K mg "Full" c_Full) (Y:ExcsF K mg c_NoTree c_NoRule c_NoRow c_Full c_Apart c_TooBig c_TooWide c_SameError) (h_do:HasE P w K mg base 10 "_law_do" ["_law_bench", "_law_deed"] (spDo P w CB c_Full CH)) (D:Def K mg "_law_full" s_full ["_law_bench", "_law_deed", "_law_by_base"]):Has P w K mg base 11 "_law_full" ["_law_bench", "_law_deed", "_law_by_base"] (spFull P w CB CH):=by
  have zFull:=Y.zFull
  have e_Full:=oFull.glob
  have e_NoTree:=Y.e_NoTree
  have e_NoRule:=Y.e_NoRule
  have e_NoRow:=Y.e_NoRow
  have e_Apart:=Y.e_Apart
  have e_TooBig:=Y.e_TooBig
  have e_TooWide:=Y.e_TooWide
  have e_SameError:=Y.e_SameError
  have b_ValueError:=Y.b_ValueError
  refine D.has sc_full (fun vs H Q E h => ?_) (fun f cdv A outer s H vs Q E hr h => ?_)
  · obtain ⟨bn,dn,b,dx,L,M,EL,dd,room,k,wt,ts,es,v1,v2,p1,p2,by_,rfl,_⟩:=h;rfl
  obtain ⟨bn,dn,b,dx,L,M,EL,dd,room,k,wt,ts,es,v1,v2,p1,p2,by_,rfl,a,nf,q⟩:=h
  refine ⟨_,(pss_cons (ps_set (i:=3) sc_full.nd rfl (Or.inl rfl) pe_non)
    (pss_cons (ps_if (pt_val (pv 2)) (pss_one (ps_try (i:=4) ⟨rfl,rfl⟩ sc_full.nd rfl rfl rfl e_SameError (pst_expr (pet_callE h_do hr (by omega) rfl (pa_cons (pv 0) (pa_cons (pv 1) pa_nil)))) (fun ea=>(pss_one (ps_set (i:=3) sc_full.nd rfl (Or.inl rfl) (pv 4)))))) (pss_one (ps_try (i:=4) ⟨rfl,rfl⟩ sc_full.nd rfl rfl rfl e_Full (pst_expr (pet_callE h_do hr (by omega) rfl (pa_cons (pv 0) (pa_cons (pv 1) pa_nil)))) (fun ea=>(pss_one (ps_set (i:=3) sc_full.nd rfl (Or.inl rfl) (pv 4)))))))
    (pss_cons (ps_if (PW.pt (pw_or (pt_not (pt_val (pe_callB (call_isXK (K:=K) rfl oFull zFull) rfl B.isinstance_ boot_isinstance_ (pa_cons (pv 3) (pa_cons (pe_glob (v := .ref c_Full) rfl e_Full rfl) pa_nil))))) (pw_or (pt_not (pt_val (pe_callB (call_isXK (K:=K) rfl oFull zFull) rfl B.isinstance_ boot_isinstance_ (pa_cons (pv 3) (pa_cons (pe_glob (v := .ref c_SameError) rfl e_SameError rfl) pa_nil))))) (pw_or1 (pt_not (pt_val (pe_callB (call_isXK (K:=K) rfl oFull zFull) rfl B.isinstance_ boot_isinstance_ (pa_cons (pv 3) (pa_cons (pe_bltn (v := .ty "ValueError") rfl b_ValueError boot_ValueError_ rfl) pa_nil))))))))) (pss_one (ps_ret pe_bl)) pss_nil)
    (pss_one (ps_ret (pe_not (pe_callB (call_isXKT (K:=K) rfl oFull zFull) rfl B.isinstance_ boot_isinstance_ (pa_cons (pv 3) (pa_cons (pe_tup (pa_cons (pe_glob (v := .ref c_NoTree) rfl e_NoTree rfl) (pa_cons (pe_glob (v := .ref c_NoRule) rfl e_NoRule rfl) (pa_cons (pe_glob (v := .ref c_NoRow) rfl e_NoRow rfl) (pa_cons (pe_glob (v := .ref c_Apart) rfl e_Apart rfl) (pa_cons (pe_glob (v := .ref c_TooBig) rfl e_TooBig rfl) (pa_cons (pe_glob (v := .ref c_TooWide) rfl e_TooWide rfl) pa_nil))))))) pa_nil))))))))),?_⟩
  try dsimp only [cxOf]
  refine rd_set' ?_
  refine rd_cut (FuC P w CB c_Full H b dx L M room ts fun v => [some (.ref bn),some (.ref dd),some (.bl by_),some v,none]) ?_ (fun key => ?_)
  rotate_left
  · refine ⟨_,rfl,by_,rfl,?_⟩
    cases by_ with
    | true =>
      refine iteT ?_
      refine ⟨_,rfl,_,rfl,SpDo.mk bn dn b dx L M EL dd room k wt ts es v1 v2 p1 p2 rfl a (fun f=>absurd f nf) (fun _ H1 m bt hB=>⟨c_Full,rfl,Y.m_SameError,fun ea hea => ?_⟩)⟩
      have s1:=same_new hea (XO ea c_Full)
      exact ⟨_,rfl,key _ _ (FuC.mk ea rfl (bt.same s1) (hB.same s1) upd_same)⟩
    | false =>
      refine iteF ?_
      refine ⟨_,rfl,_,rfl,SpDo.mk bn dn b dx L M EL dd room k wt ts es v1 v2 p1 p2 rfl a (fun f=>absurd f nf) (fun _ H1 m bt hB=>⟨c_Full,rfl,Y.m_Full,fun ea hea => ?_⟩)⟩
      have s1:=same_new hea (XO ea c_Full)
      exact ⟨_,rfl,key _ _ (FuC.mk ea rfl (bt.same s1) (hB.same s1) upd_same)⟩
  rintro σ' H1 ⟨ea,rfl,bt,hB,hx⟩
  refine ⟨_,rfl,ea,_,_,true,rfl,hx,rfl,ref_one,Y.i_Full,_,rfl,iteF ?_⟩
  refine ⟨_,rfl,ea,_,_,true,rfl,hx,rfl,ref_one,Y.i_SameError,_,rfl,iteF ?_⟩
  refine ⟨_,rfl,ea,_,_,true,rfl,hx,rfl,ty_one,Y.i_ValueError,_,rfl,iteF ?_⟩
  have kn:PySem.W.kitAny K (.ref c_Full) ([c_NoTree,c_NoRule,c_NoRow,c_Apart,c_TooBig,c_TooWide].map Value.ref)=some false:=kit_none _ fun c hc=>by
    simp only [List.mem_cons,List.not_mem_nil,or_false] at hc
    rcases hc with rfl | rfl | rfl | rfl | rfl | rfl
    · exact Y.i_NoTree
    · exact Y.i_NoRule
    · exact Y.i_NoRow
    · exact Y.i_Apart
    · exact Y.i_TooBig
    · exact Y.i_TooWide
  refine ⟨_,rfl,(show 6≤sizeLine by decide),fun tp htp => ?_⟩
  have s1:=same_new htp (.tup ([c_NoTree,c_NoRule,c_NoRow,c_Apart,c_TooBig,c_TooWide].map V.ref))
  have htp1:(upd H1 tp (.tup ([c_NoTree,c_NoRule,c_NoRow,c_Apart,c_TooBig,c_TooWide].map V.ref))) tp=some (.tup ([c_NoTree,c_NoRule,c_NoRow,c_Apart,c_TooBig,c_TooWide].map V.ref)):=upd_same
  exact ⟨ea,tp,_,_,false,rfl,s1 _ _ hx,htp1,vals_refs _,kn,_,rfl,q _ (bt.same s1) (hB.same s1)⟩
end

end K51
namespace K51
open PySem L2 Sw
section
variable {P:Program} {w:World} {K:PySem.W.Frag} {mg:Str→Option Value} {base:Heap} {CB CF CH:Addr}
theorem arms_add {ts:List Tm} {u:Tm} (h:Arms ts) (hu:∀ x as,u = .of x as→∀ a∈as,a < ts.length):Arms (addF ts u).1:=by
  cases e:posF ts u with
  | some i=>rw [add_old e];exact h
  | none =>
    rw [add_new e]
    intro i x as hi a ha
    have hi:(ts ++ [u])[i]? = some (.of x as):=hi
    rcases Nat.lt_trichotomy i ts.length with z | z | z
    · rw [List.getElem?_append_left z] at hi
      exact h i x as hi a ha
    · rw [z,List.getElem?_concat_length] at hi
      rw [z];exact hu x as (Option.some.inj hi) a ha
    · rw [List.getElem?_eq_none (by rw [List.length_append];exact z)] at hi;cases hi
mutual
theorem put_arms (bf:Str→Nat):∀ (t:T) (ts:List Tm),t.hol = []→Arms ts→Arms (ptF bf ts t).1∧(ptF bf ts t).2 < (ptF bf ts t).1.length
  | .any x,ts,hh,_=>by rw [T.hol] at hh;cases hh
  | .num n,ts,_,h=>by rw [ptF];exact ⟨arms_add h (fun x as e=>nomatch e),pos_lt (add_pos _ _)⟩
  | .name n,ts,_,h=>by rw [ptF];exact ⟨arms_add h (fun x as e=>nomatch e),pos_lt (add_pos _ _)⟩
  | .of x as,ts,hh,h=>by
    rw [T.hol] at hh
    obtain ⟨a1,a2⟩:=puts_arms bf as ts hh h
    rw [ptF]
    exact ⟨arms_add a1 (fun y bs e a ha=>by cases e;exact a2 a ha),pos_lt (add_pos _ _)⟩
theorem puts_arms (bf:Str→Nat):∀ (as:List T) (ts:List Tm),T.hols as = []→Arms ts→Arms (ptsF bf ts as).1∧∀ a∈(ptsF bf ts as).2,a < (ptsF bf ts as).1.length
  | [],ts,_,h=>by rw [ptsF];exact ⟨h,fun a ha=>nomatch ha⟩
  | t :: as,ts,hh,h=>by
    rw [T.hols,List.append_eq_nil_iff] at hh
    obtain ⟨b1,b2⟩:=put_arms bf t ts hh.1 h
    obtain ⟨c1,c2⟩:=puts_arms bf as _ hh.2 b1
    rw [ptsF]
    refine ⟨c1,fun a ha => ?_⟩
    rcases List.mem_cons.mp ha with rfl | ha
    · exact Nat.lt_of_lt_of_le b2 (puts_pre bf as _).length_le
    · exact c2 a ha
end
end

section
variable {P:Program} {w:World} {K:PySem.W.Frag} {mg:Str→Option Value} {base:Heap} {CB CF CH:Addr}
noncomputable def Ar2 (ts:List Tm):Prop := ∀ (i:Nat) x as,ts[i]? = some (.of x as)→as.length≤2
theorem ar_add {ts:List Tm} {u:Tm} (h:Ar2 ts) (hu:∀ x as,u = .of x as→as.length≤2):Ar2 (addF ts u).1:=by
  cases e:posF ts u with
  | some i=>rw [add_old e];exact h
  | none =>
    rw [add_new e]
    intro i x as hi
    have hi:(ts ++ [u])[i]? = some (.of x as):=hi
    rcases Nat.lt_trichotomy i ts.length with z | z | z
    · rw [List.getElem?_append_left z] at hi
      exact h i x as hi
    · rw [z,List.getElem?_concat_length] at hi
      exact hu x as (Option.some.inj hi)
    · rw [List.getElem?_eq_none (by rw [List.length_append];exact z)] at hi;cases hi
mutual
theorem put_ar (bf:Str→Nat):∀ (t:T) (ts:List Tm),Bin t→Ar2 ts→Ar2 (ptF bf ts t).1
  | .any x,ts,hh,_=>by rw [Bin] at hh;exact hh.elim
  | .num n,ts,_,h=>by rw [ptF];exact ar_add h (fun x as e=>nomatch e)
  | .name n,ts,_,h=>by rw [ptF];exact ar_add h (fun x as e=>nomatch e)
  | .of x as,ts,hh,h=>by
    rw [Bin] at hh
    have a1:=puts_ar bf as ts hh.2.2 h
    rw [ptF]
    exact ar_add a1 (fun y bs e=>by cases e;rw [puts_len];exact hh.2.1)
theorem puts_ar (bf:Str→Nat):∀ (as:List T) (ts:List Tm),Bins as→Ar2 ts→Ar2 (ptsF bf ts as).1
  | [],ts,_,h=>by rw [ptsF];exact h
  | t :: as,ts,hh,h=>by
    rw [Bins] at hh
    rw [ptsF]
    exact puts_ar bf as _ hh.2 (put_ar bf t ts hh.1 h)
end
structure SD where
  bn:Addr
  dn:Addr
  b:Addr
  dx:Addr
  L:Addr
  M:Addr
  EL:Addr
  HL:Addr
  EG:Addr
  room:Int
noncomputable def SD.mut (d:SD):List Addr := [d.L,d.M,d.EL,d.HL,d.EG]
structure Side (P:Program) (w:World) (CB CH:Addr) (H:Hp) (d:SD) (ts:List Tm) (es:List Ed):Prop where
  hb:BenchAt P w CB CH H d.bn d.dn d.b d.dx d.L d.M d.EL d.room ts es
  held:∃ us,H d.HL=some (.lst us)∧Tms H us ts
  edges:∃ evs,H d.EG=some (.lst evs)∧Eds H evs es
  n1:d.HL≠d.L
  n2:d.EG≠d.L
  n3:d.HL≠d.EL
  n4:d.EG≠d.EL
  n5:d.HL≠d.EG
noncomputable def ButL (S:List Addr) (H H':Hp):Prop := ∀ c o,c ∉ S→H c=some o→H' c=some o
structure SInv (n:Nat) (d:SD) (ts:List Tm) (es:List Ed):Prop where
  nd:ts.Nodup
  arms:Arms ts
  few:(ts.length:Int)≤d.room
  r30:d.room≤30
  ar:Ar2 ts
  he:∀ a b:Nat,(a,b)∈ends es→a < ts.length∧b < ts.length
  el:es.length≤n
theorem BenchAt.same {H H':Hp} {bn dn b dx L M EL:Addr} {room:Int} {ts:List Tm} {es:List Ed} (h:BenchAt P w CB CH H bn dn b dx L M EL room ts es) (s:Same H H'):BenchAt P w CB CH H' bn dn b dx L M EL room ts es:=by
  obtain ⟨evs,hE,heds⟩:=h.hE
  exact ⟨s _ _ h.hn,h.hB.same s,⟨evs,s _ _ hE,eds_same s heds⟩,h.ne⟩
theorem bench_lst {H:Hp} {bn dn b dx L M EL R:Addr} {room:Int} {ts:List Tm} {es:List Ed} {xs ys:List V} (h:BenchAt P w CB CH H bn dn b dx L M EL room ts es) (hR:H R=some (.lst xs)) (n1:R≠L) (n2:R≠EL):BenchAt P w CB CH (upd H R (.lst ys)) bn dn b dx L M EL room ts es:=by
  obtain ⟨evs,hE,heds⟩:=h.hE
  have kp:=keep_put (o' := .lst ys) hR trivial
  have nb:bn≠R:=ne_of h.hn hR (fun z=>nomatch z)
  exact ⟨by rw [upd_ne nb];exact h.hn,h.hB.keep hR n1 (fun c o n z=>by rw [upd_ne n];exact z),⟨evs,by rw [upd_ne (Ne.symm n2)];exact hE,eds_keep kp heds⟩,h.ne⟩
theorem Side.same {H H':Hp} {d:SD} {ts:List Tm} {es:List Ed} (h:Side P w CB CH H d ts es) (s:Same H H'):Side P w CB CH H' d ts es:=by
  obtain ⟨us,h1,h2⟩:=h.held
  obtain ⟨evs,h3,h4⟩:=h.edges
  exact ⟨h.hb.same s,⟨us,s _ _ h1,tms_same s h2⟩,⟨evs,s _ _ h3,eds_same s h4⟩,h.n1,h.n2,h.n3,h.n4,h.n5⟩
theorem Side.kinds {H:Hp} {d:SD} {ts:List Tm} {es:List Ed} (h:Side P w CB CH H d ts es):∀ c∈d.mut,(∃ xs,H c=some (.lst xs))∨∃ φ,H c=some (.ext φ):=by
  obtain ⟨us,h1,_⟩:=h.held
  obtain ⟨evs,h3,_⟩:=h.edges
  obtain ⟨ev2,h5,_⟩:=h.hb.hE
  intro c hc
  unfold SD.mut at hc
  rcases List.mem_cons.mp hc with rfl | hc
  · exact .inl (bank_lst h.hb.hB)
  rcases List.mem_cons.mp hc with rfl | hc
  · exact .inr (bank_ext h.hb.hB)
  rcases List.mem_cons.mp hc with rfl | hc
  · exact .inl ⟨_,h5⟩
  rcases List.mem_cons.mp hc with rfl | hc
  · exact .inl ⟨_,h1⟩
  · rw [List.mem_singleton.mp hc];exact .inl ⟨_,h3⟩
theorem paired_appT {α β : Type} {R : α → β → Prop} {us:List α} {ws:List β}:∀ {xs:List α} {ys:List β},Paired R xs ys→Paired R us ws→Paired R (xs ++ us) (ys ++ ws)
  | _,_,.nil,h=>h
  | _,_,.cons h t,g => .cons h (paired_appT t g)
theorem sinv_put {n:Nat} {d:SD} {ts:List Tm} {es:List Ed} {k wt:Int} {p1 p2:T} (i:SInv n d ts es) (G1:TrG 5 p1) (G2:TrG 5 p2) (k0:0≤k) (k3:k≤3) (f:((tsF k ts p1 p2).length:Int)≤d.room):SInv (n+1) d (tsF k ts p1 p2) (esF k wt ts es p1 p2):=by
  obtain ⟨s1,h1⟩:=bin_slim p1 G1.bin
  obtain ⟨s2,h2⟩:=bin_slim p2 G2.bin
  obtain ⟨a1,l1⟩:=put_arms b0 p1 ts h1 i.arms
  obtain ⟨a2,l2⟩:=put_arms b0 p2 (ptF b0 ts p1).1 h2 a1
  have pr1:=(put_pre b0 p1 ts).length_le
  have pr2:=(put_pre b0 p2 (ptF b0 ts p1).1).length_le
  have nd1:=put_nodup b0 p1 ts i.nd
  have nd2:=put_nodup b0 p2 (ptF b0 ts p1).1 nd1
  have r1:=put_ar b0 p1 ts G1.bin i.ar
  have r2:=put_ar b0 p2 (ptF b0 ts p1).1 G2.bin r1
  have he:=i.he
  have el:=i.el
  have ee:∀ (x y:Nat) (z:Int) (a b:Nat),(a,b)∈ends (es ++ [(x,y,z)])→(a,b)∈ends es∨(a=x∧b=y):=fun x y z a b h=>by
    unfold ends at h ⊢
    rw [List.map_append] at h
    rcases List.mem_append.mp h with h | h
    · exact .inl h
    · have:=List.mem_singleton.mp h
      cases this
      exact .inr ⟨rfl,rfl⟩
  rcases (show k=0∨k=1∨k=2∨k=3 by omega) with rfl | rfl | rfl | rfl
  · exact ⟨nd1,a1,f,i.r30,r1,fun a b h=>by have:=he a b h;show a < (ptF b0 ts p1).1.length∧b < (ptF b0 ts p1).1.length;omega,by show es.length≤n+1;omega⟩
  · exact ⟨nd2,a2,f,i.r30,r2,fun a b h=>by have:=he a b h;show a < (ptF b0 (ptF b0 ts p1).1 p2).1.length∧b < (ptF b0 (ptF b0 ts p1).1 p2).1.length;omega,by show es.length≤n+1;omega⟩
  · refine ⟨nd2,a2,f,i.r30,r2,fun a b h => ?_,by show (es ++ [_]).length≤n+1;rw [List.length_append];exact Nat.succ_le_succ el⟩
    show a < (ptF b0 (ptF b0 ts p1).1 p2).1.length∧b < (ptF b0 (ptF b0 ts p1).1 p2).1.length
    rcases ee _ _ _ a b h with h | ⟨rfl,rfl⟩
    · have:=he a b h;omega
    · omega
  · refine ⟨nd2,a2,f,i.r30,r2,fun a b h => ?_,by show (es ++ [_]).length≤n+1;rw [List.length_append];exact Nat.succ_le_succ el⟩
    show a < (ptF b0 (ptF b0 ts p1).1 p2).1.length∧b < (ptF b0 (ptF b0 ts p1).1 p2).1.length
    rcases ee _ _ _ a b h with h | ⟨rfl,rfl⟩
    · have:=he a b h;omega
    · omega
theorem tsF_len {k:Int} {ts:List Tm} {p1 p2:T} (l:ts.length≤30) (G1:TrG 5 p1) (G2:TrG 5 p2):(ptF b0 (ptF b0 ts p1).1 p2).1.length≤92∧(tsF k ts p1 p2).length≤92∧ts <+: tsF k ts p1 p2:=by
  have q1:=bin_parts 5 p1 G1.bin G1.dep
  have q2:=bin_parts 5 p2 G2.bin G2.dep
  have l1:=put_len b0 p1 ts
  have l2:=put_len b0 p2 (ptF b0 ts p1).1
  have e:(2:Nat) ^ 5=32:=by decide
  rw [e] at q1 q2
  refine ⟨by omega,?_,?_⟩
  · unfold tsF
    split <;> omega
  · unfold tsF
    split
    · exact put_pre b0 p1 ts
    · exact (put_pre b0 p1 ts).trans (put_pre b0 p2 _)
inductive SpAsked (P:Program) (w:World) (CB CH:Addr) (vs:List V) (H:Hp) (Q:VK):Prop
  | mk (n:Nat) (d:SD) (dd:Addr) (k wt:Int) (ts:List Tm) (es:List Ed) (v1 v2:V) (p1 p2:T) (ev:vs = [.ref d.bn,.ref dd,.ref d.HL,.ref d.EG,.int d.room]) (sd:Side P w CB CH H d ts es) (iv:SInv n d ts es) (n9:n≤800) (hd:H dd=some (.tup [.int k,v1,v2,.int wt])) (k0:0≤k) (k3:k≤3) (T1:IsTr H p1 v1) (G1:TrG 5 p1) (T2:IsTr H p2 v2) (G2:TrG 5 p2)
    (q:∀ ts' es' H',ButL d.mut H H'→Side P w CB CH H' d ts' es'→SInv (n+1) d ts' es'→Q (.bl true) H'):SpAsked P w CB CH vs H Q
noncomputable def spAsked (P:Program) (w:World) (CB CH:Addr):Sp:=fun vs H Q _=>SpAsked P w CB CH vs H Q
inductive AkC (H:Hp) (R:Addr) (pre:V→St) (k:Int) (ts:List Tm) (p1 p2:T) (σ : St) (H':Hp):Prop
  | mk (n:Nat) (us':List V) (e : σ = pre (nV n)) (e2:1≤k→n=(ptF b0 (ptF b0 ts p1).1 p2).2) (sm:Same H H') (hR:H' R=some (.lst us')) (ht:Tms H' us' (tsF k ts p1 p2)):AkC H R pre k ts p1 p2 σ H'
theorem ok_asked {CF:Addr} (B:Blt mg) (h_lput:Has P w K mg base 6 "_law_put" ["_law_held", "_law_pattern", "_law_binds"] (spLput 5)) (h_number:Has P w K mg base 1 "_law_number" ["_law_found", "_law_due"] spNumber) (h_full:Has P w K mg base 11 "_law_full" ["_law_bench", "_law_deed", "_law_by_base"] (spFull P w CB CH)) (h_do:HasE P w K mg base 10 "_law_do" ["_law_bench", "_law_deed"] (spDo P w CB CF CH)) (D:Def K mg "_law_asked" s_asked ["_law_bench", "_law_deed", "_law_held", "_law_edges", "_law_room"]):Has P w K mg base 12 "_law_asked" ["_law_bench", "_law_deed", "_law_held", "_law_edges", "_law_room"] (spAsked P w CB CH):=by
  refine D.has sc_asked (fun vs H Q E h => ?_) (fun f cdv A outer s H vs Q E hr h => ?_)
  · obtain ⟨n,d,dd,k,wt,ts,es,v1,v2,p1,p2,rfl,_⟩:=h;rfl
  obtain ⟨n,d,dd,k,wt,ts,es,v1,v2,p1,p2,rfl,sd,iv,n9,hd,k0,k3,T1,G1,T2,G2,q⟩:=h
  refine ⟨_,(pss_cons (ps_set (i:=5) sc_asked.nd rfl (Or.inl rfl) (pe_callTy call_list_of rfl B.list_ boot_list_ (pa_cons (pv 2) pa_nil)))
    (pss_cons (ps_set (i:=6) sc_asked.nd rfl (Or.inl rfl) (pe_callH h_lput hr (by omega) rfl (pa_cons (pv 5) (pa_cons (pe_ix ix_tup (pv 1) pe_int (fun _ _=>rfl)) (pa_cons pe_dnewK pa_nil)))))
    (pss_cons (ps_set (i:=7) sc_asked.nd rfl (Or.inl rfl) (pe_ifExp (pt_cmpR op_eq (pe_ix ix_tup (pv 1) pe_int (fun _ _=>rfl)) pe_int (nomark _)) (pv 6) (pe_callH h_lput hr (by omega) rfl (pa_cons (pv 5) (pa_cons (pe_ix ix_tup (pv 1) pe_int (fun _ _=>rfl)) (pa_cons pe_dnewK pa_nil))))))
    (pss_cons (ps_if (pt_cmpR op_gt (pe_callB call_len_seq rfl B.len_ PySem.boot_len (pa_cons (pv 5) pa_nil)) (pv 4) (nomark _)) (pss_one (ps_ret (pe_callH h_full hr (by omega) rfl (pa_cons (pv 0) (pa_cons (pv 1) (pa_cons (pe_cmpR op_eq (pe_op op_mod (pe_ix ix_tup (pv 1) pe_int (fun _ _=>rfl)) pe_int) pe_int (nomark _)) pa_nil)))))) pss_nil)
    (pss_cons (ps_expr (pe_bm PySem.F.plainAttrs_list PySem.F.slot_list_extend PySem.F.type_list_extend mt_extend (pv 2) (pa_cons (pe_slice sl_list (pv 5) (po_some (pe_callB call_len_seq rfl B.len_ PySem.boot_len (pa_cons (pv 2) pa_nil))) po_none) pa_nil)))
    (pss_cons (ps_set (i:=8) sc_asked.nd rfl (Or.inl rfl) (pe_callE h_do hr (by omega) passNo rfl (pa_cons (pv 0) (pa_cons (pv 1) pa_nil))))
    (pss_cons (ps_if (pt_cmpR op_eq (pe_ix ix_tup (pv 1) pe_int (fun _ _=>rfl)) pe_int (nomark _)) (pss_one (ps_ret (pe_callH h_number hr (by omega) rfl (pa_cons (pv 8) (pa_cons (pv 6) pa_nil))))) pss_nil)
    (pss_cons (ps_if (pt_cmpR op_eq (pe_ix ix_tup (pv 1) pe_int (fun _ _=>rfl)) pe_int (nomark _)) (pss_cons (ps_if (PW.pt (pw_or (pt_not (pt_val (pe_callB call_isT rfl B.isinstance_ boot_isinstance_ (pa_cons (pv 8) (pa_cons (pe_bltn (v := .ty "tuple") rfl B.tuple_ boot_tuple_ rfl) pa_nil))))) (pw_or1 (pt_cmpR op_ne (pe_callB call_len_seq rfl B.len_ PySem.boot_len (pa_cons (pv 8) pa_nil)) pe_int (nomark _))))) (pss_one (ps_ret pe_bl)) pss_nil)
    (pss_one (ps_ret (pe_and (pe_callH h_number hr (by omega) rfl (pa_cons (pe_ix ix_tup (pv 8) pe_int (fun _ _=>rfl)) (pa_cons (pv 6) pa_nil))) (pe_one (pe_callH h_number hr (by omega) rfl (pa_cons (pe_ix ix_tup (pv 8) pe_int (fun _ _=>rfl)) (pa_cons (pv 7) pa_nil)))))))) pss_nil)
    (pss_cons (ps_expr (pe_bm PySem.F.plainAttrs_list PySem.F.slot_list_append PySem.F.type_list_append mt_append (pv 3) (pa_cons (pe_tup (pa_cons (pv 6) (pa_cons (pv 7) (pa_cons (pe_ifExp (pt_cmpR op_eq (pe_ix ix_tup (pv 1) pe_int (fun _ _=>rfl)) pe_int (nomark _)) pe_int (pe_ix ix_tup (pv 1) pe_int (fun _ _=>rfl))) (pa_cons (pe_tup (pa_cons pe_str pa_nil)) pa_nil))))) pa_nil)))
    (pss_one (ps_ret (pe_callH h_number hr (by omega) rfl (pa_cons (pv 8) (pa_cons (pe_op op_sub (pe_callB call_len_seq rfl B.len_ PySem.boot_len (pa_cons (pv 3) pa_nil)) pe_int) pa_nil)))))))))))))),?_⟩
  try dsimp only [cxOf]
  obtain ⟨us,hHL,hts⟩:=sd.held
  have hul:=Paired.length hts
  have few:=iv.few
  have r30:=iv.r30
  obtain ⟨len2,lenF,preF⟩:=tsF_len (k:=k) (ts:=ts) (p1:=p1) (p2:=p2) (by omega) G1 G2
  have le1:=(put_pre b0 p2 (ptF b0 ts p1).1).length_le
  refine ⟨_,rfl,d.HL,us,rfl,.inl (SqL.of hHL),fun R hR0 => ?_⟩
  dsimp only [gName]
  have s1:=same_new hR0 (.lst us)
  have hR1:=upd_same (H:=H) (a:=R) (o := .lst us)
  have hts1:=tms_same s1 hts
  have T11:=tr_same s1 T1
  have T21:=tr_same s1 T2
  have hd1:=s1 _ _ hd
  generalize hH1:upd H R (.lst us)=H1 at s1 hR1 hts1 T11 T21 hd1 ⊢
  refine ⟨_,rfl,_,rfl,dd,_,1,_,rfl,rfl,SqT.of hd1,atI_nat (j:=1) rfl,fun q0 hq0 => ?_⟩
  have s2:=same_new hq0 (.dK [])
  refine SpLput.mk R us ts v1 (.ref q0) p1 rfl (s2 _ _ hR1) (tms_same s2 hts1) (tr_same s2 T11) G1.bin G1.dep (by omega) fun H2 us2 bt2 hR2 ht2 => ?_
  have g2:Same H H2:=fun c u h=>bt2 c u (fun e=>by rw [e,hR0] at h;cases h) (s2 _ _ (s1 _ _ h))
  dsimp only [gName]
  refine rd_cut (AkC H R (fun v => [some (.ref d.bn),some (.ref dd),some (.ref d.HL),some (.ref d.EG),some (.int d.room),some (.ref R),some (nV (ptF b0 ts p1).2),some v,none]) k ts p1 p2) ?_ (fun key => ?_)
  rotate_left
  · refine ⟨_,rfl,dd,_,0,_,rfl,rfl,SqT.of (g2 _ _ hd),atI_nat (j:=0) rfl,rfl,_,rfl,iteD (fun ek => ?_) (fun nk => ?_)⟩
    · have ek:k=0:=V.int.inj ek
      refine ⟨_,rfl,key _ _ (AkC.mk (ptF b0 ts p1).2 us2 rfl (fun z=>by omega) g2 hR2 ?_)⟩
      unfold tsF
      rw [if_pos ek]
      exact ht2
    · have nk:k≠0:=fun z=>nk (by rw [z])
      refine ⟨_,rfl,_,rfl,dd,_,2,_,rfl,rfl,SqT.of (g2 _ _ hd),atI_nat (j:=2) rfl,fun q1 hq1 => ?_⟩
      have s3:=same_new hq1 (.dK [])
      refine SpLput.mk R us2 (ptF b0 ts p1).1 v2 (.ref q1) p2 rfl (s3 _ _ hR2) (tms_same s3 ht2) (tr_same (g2.trans s3) T2) G2.bin G2.dep (by omega) fun H3 us3 bt3 hR3 ht3=>key _ _ (AkC.mk (ptF b0 (ptF b0 ts p1).1 p2).2 us3 rfl (fun _=>rfl) (fun c u h=>bt3 c u (fun e=>by rw [e,hR0] at h;cases h) (s3 _ _ (g2 _ _ h))) hR3 ?_)
      unfold tsF
      rw [if_neg nk]
      exact ht3
  rintro σ' H4 ⟨nb,us4,rfl,enb,s4,hR4,ht4⟩
  have hl4:=Paired.length ht4
  have hd4:=s4 _ _ hd
  have dee:∀ {H':Hp},BenchAt P w CB CH H' d.bn d.dn d.b d.dx d.L d.M d.EL d.room ts es→H' dd=some (.tup [.int k,v1,v2,.int wt])→IsTr H' p1 v1→IsTr H' p2 v2→DeedAt P w CB CH H' d.bn d.dn d.b d.dx d.L d.M d.EL dd d.room k wt ts es v1 v2 p1 p2:=fun hb hd t1 t2=>⟨hb,iv.nd,hd,k0,k3,t1,G1,t2,G2,by omega,few,by have:=iv.el;omega⟩
  refine ⟨_,rfl,R,_,rfl,.inl (SqL.of hR4),_,rfl,_,_,rfl,rfl,_,rfl,iteD (fun gt => ?_) (fun ngt => ?_)⟩
  · refine ⟨_,rfl,_,rfl,_,rfl,dd,_,3,_,rfl,rfl,SqT.of hd4,atI_nat (j:=3) rfl,_,_,rfl,rfl,pos',rfl,SpFull.mk d.bn d.dn d.b d.dx d.L d.M d.EL dd d.room k wt ts es v1 v2 p1 p2 _ rfl (dee (sd.hb.same s4) hd4 (tr_same s4 T1) (tr_same s4 T2)) (by omega) fun H5 bt5 hB5 => ?_⟩
    have sd4:=sd.same s4
    have hb5:=bench_bank sd4.hb bt5 hB5
    obtain ⟨us5,h1,h2⟩:=sd4.held
    obtain ⟨evs5,h3,h4⟩:=sd4.edges
    obtain ⟨φ,hM⟩:=bank_ext sd4.hb.hB
    have kt:=sd4.hb.hB.tup bt5
    refine q ts es H5 (fun c o nc h=>bt5 c o (fun e=>nc (by rw [e];exact List.mem_cons_self)) (fun e=>nc (by rw [e];exact List.mem_cons_of_mem _ List.mem_cons_self)) (s4 _ _ h)) ⟨hb5,⟨us5,bt5 _ _ sd.n1 (ne_of h1 hM (fun z=>nomatch z)) h1,tms_keep kt h2⟩,⟨evs5,bt5 _ _ sd.n2 (ne_of h3 hM (fun z=>nomatch z)) h3,eds_keep kt h4⟩,sd.n1,sd.n2,sd.n3,sd.n4,sd.n5⟩ ⟨iv.nd,iv.arms,iv.few,iv.r30,iv.ar,iv.he,by have:=iv.el;omega⟩
  · have fit:(((tsF k ts p1 p2).length:Int)≤d.room):=by omega
    have hHL4:=s4 _ _ hHL
    refine ⟨_,rfl,.inl ⟨rfl,_,SqL.of hHL4⟩,_,rfl,_,rfl,d.HL,us,rfl,.inl (SqL.of hHL4),_,rfl,R,_,rfl,SqL.of hR4,fun C hC => ?_⟩
    have pl:=preF.length_le
    rw [cut_drop (by omega)]
    have s5:=s4.trans (same_new hC (.lst (us4.drop us.length)))
    have hHL5:=same_new hC (.lst (us4.drop us.length)) _ _ hHL4
    have hC5:=upd_same (H:=H4) (a:=C) (o := .lst (us4.drop us.length))
    have ht5:=tms_same (same_new hC (.lst (us4.drop us.length))) ht4
    have hts5:=tms_same s5 hts
    generalize upd H4 C (.lst (us4.drop us.length))=H5 at s5 hHL5 hC5 ht5 hts5 ⊢
    have big:(1000:Nat)≤sizeLine:=by decide
    have lx:us.length+(us4.drop us.length).length≤sizeLine:=by rw [List.length_drop];omega
    refine ⟨d.HL,C,us,us4.drop us.length,rfl,rfl,hHL5,hC5,lx,?_⟩
    have kp:=keep_put (o' := .lst (us ++ us4.drop us.length)) hHL5 trivial
    have sd5:=sd.same s5
    have hb6:=bench_lst (ys:=us ++ us4.drop us.length) sd5.hb hHL5 sd.n1 sd.n3
    have tm6:Tms (upd H5 d.HL (.lst (us ++ us4.drop us.length))) (us ++ us4.drop us.length) (tsF k ts p1 p2):=by
      obtain ⟨r,er⟩:=preF
      have e1:=paired_drop us.length ht5
      rw [← er,hul,List.drop_left, ← hul] at e1
      rw [← er]
      exact tms_keep kp (paired_appT hts5 e1)
    obtain ⟨evs,hEG,hed⟩:=sd5.edges
    have hEG6:(upd H5 d.HL (.lst (us ++ us4.drop us.length))) d.EG=some (.lst evs):=by rw [upd_ne (Ne.symm sd.n5)];exact hEG
    have ed6:=eds_keep kp hed
    have hd6:=kp _ _ (s5 _ _ hd)
    have T16:=tr_keep kp (tr_same s5 T1)
    have T26:=tr_keep kp (tr_same s5 T2)
    have hHL6:=upd_same (H:=H5) (a:=d.HL) (o := .lst (us ++ us4.drop us.length))
    have b6:ButL d.mut H (upd H5 d.HL (.lst (us ++ us4.drop us.length))):=fun c o nc h=>by
      rw [upd_ne (fun e=>nc (by rw [e];exact List.mem_cons_of_mem _ (List.mem_cons_of_mem _ (List.mem_cons_of_mem _ List.mem_cons_self))))]
      exact s5 _ _ h
    show tSeq _ _ _ _ (upd H5 d.HL (.lst (us ++ us4.drop us.length)))
    generalize upd H5 d.HL (.lst (us ++ us4.drop us.length))=H6 at hb6 tm6 hEG6 ed6 hd6 T16 T26 hHL6 b6 ⊢
    refine ⟨_,rfl,_,rfl,SpDo.mk d.bn d.dn d.b d.dx d.L d.M d.EL dd d.room k wt ts es v1 v2 p1 p2 rfl (dee hb6 hd6 T16 T26) (fun _ v H7 bt7 hb7 res => ?_) (fun nf=>absurd fit nf)⟩
    dsimp only [gName]
    obtain ⟨us0,hL6⟩:=bank_lst hb6.hB
    obtain ⟨φ,hM6⟩:=bank_ext hb6.hB
    obtain ⟨ev6,hE6,_⟩:=hb6.hE
    have kt7:∀ c ys,H6 c=some (.tup ys)→H7 c=some (.tup ys):=fun c ys z=>bt7 c _ (ne_of z hL6 (fun z=>nomatch z)) (ne_of z hM6 (fun z=>nomatch z)) (ne_of z hE6 (fun z=>nomatch z)) z
    have hd7:=kt7 _ _ hd6
    have hHL7:=bt7 _ _ sd.n1 (ne_of hHL6 hM6 (fun z=>nomatch z)) sd.n3 hHL6
    have tm7:=tms_keep kt7 tm6
    have hEG7:=bt7 _ _ sd.n2 (ne_of hEG6 hM6 (fun z=>nomatch z)) sd.n4 hEG6
    have ed7:=eds_keep kt7 ed6
    have b7:ButL d.mut H H7:=fun c o nc h=>bt7 c o (fun e=>nc (by rw [e];exact List.mem_cons_self)) (fun e=>nc (by rw [e];exact List.mem_cons_of_mem _ List.mem_cons_self)) (fun e=>nc (by rw [e];exact List.mem_cons_of_mem _ (List.mem_cons_of_mem _ List.mem_cons_self))) (b6 c o nc h)
    have iv7:=sinv_put (wt:=wt) iv G1 G2 k0 k3 fit
    have hel:=Paired.length ed7
    have el:=iv.el
    obtain ⟨r1,r2,r3⟩:=res
    have edge:∀ (w':Int),esF k wt ts es p1 p2=es ++ [((ptF b0 ts p1).2,nb,w')]→∀ (tq tp:Addr),H7 tq=none→(upd H7 tq (.tup [.str "told"])) tp=none→Q (.bl true) (upd (upd (upd H7 tq (.tup [.str "told"])) tp (.tup [nV (ptF b0 ts p1).2,nV nb,.int w',.ref tq])) d.EG (.lst (evs ++ [.ref tp]))):=fun w' ee tq tp htq htp=>by
      have sq:=same_new htq (.tup [.str "told"])
      have sp:=same_new htp (.tup [nV (ptF b0 ts p1).2,nV nb,.int w',.ref tq])
      have sA:=sq.trans sp
      have hv:EdAt (upd (upd H7 tq (.tup [.str "told"])) tp (.tup [nV (ptF b0 ts p1).2,nV nb,.int w',.ref tq])) (.ref tp) ((ptF b0 ts p1).2,nb,w'):=⟨tp,tq,rfl,upd_same,sp _ _ upd_same⟩
      generalize upd (upd H7 tq (.tup [.str "told"])) tp (.tup [nV (ptF b0 ts p1).2,nV nb,.int w',.ref tq])=H8 at sA hv ⊢
      have hEG8:=sA _ _ hEG7
      have kp8:=keep_put (o' := .lst (evs ++ [.ref tp])) hEG8 trivial
      have hb9:=bench_lst (ys:=evs ++ [.ref tp]) (hb7.same sA) hEG8 sd.n2 sd.n4
      refine q _ _ _ (fun c o nc h => ?_) ⟨hb9,⟨_,by rw [upd_ne sd.n5];exact sA _ _ hHL7,tms_keep kp8 (tms_same sA tm7)⟩,⟨_,upd_same,?_⟩,sd.n1,sd.n2,sd.n3,sd.n4,sd.n5⟩ iv7
      · rw [upd_ne (fun e=>nc (by rw [e];exact List.mem_cons_of_mem _ (List.mem_cons_of_mem _ (List.mem_cons_of_mem _ (List.mem_cons_of_mem _ List.mem_cons_self)))))]
        exact sA _ _ (b7 c o nc h)
      · rw [ee]
        exact Paired.snoc (eds_keep kp8 (eds_same sA ed7)) (hv.keep kp8)
    rcases (show k=0∨k=1∨k=2∨k=3 by omega) with rfl | rfl | rfl | rfl
    · refine ⟨_,rfl,dd,_,0,_,rfl,rfl,SqT.of hd7,atI_nat (j:=0) rfl,rfl,_,rfl,iteD (fun _ => ?_) (fun z=>absurd rfl z)⟩
      rw [r1 rfl]
      exact ⟨_,rfl,_,rfl,_,rfl,q _ _ H7 b7 ⟨hb7,⟨_,hHL7,tm7⟩,⟨evs,hEG7,ed7⟩,sd.n1,sd.n2,sd.n3,sd.n4,sd.n5⟩ iv7⟩
    · refine ⟨_,rfl,dd,_,0,_,rfl,rfl,SqT.of hd7,atI_nat (j:=0) rfl,rfl,_,rfl,iteD (fun z=>absurd (V.int.inj z) (by decide)) (fun _ => ?_)⟩
      refine ⟨_,rfl,dd,_,0,_,rfl,rfl,SqT.of hd7,atI_nat (j:=0) rfl,rfl,_,rfl,iteD (fun _ => ?_) (fun z=>absurd rfl z)⟩
      obtain ⟨pr,rfl,hpr⟩:=r2 rfl
      rw [← enb (by decide)] at hpr
      refine ⟨_,rfl,_,_,_,true,rfl,.tup hpr,kit_tt,_,rfl,iteF ?_⟩
      refine ⟨_,rfl,pr,_,rfl,.inr (SqT.of hpr),rfl,_,rfl,iteDN (fun z=>absurd rfl z) (fun _ => ?_)⟩
      refine ⟨_,rfl,pr,_,0,_,rfl,rfl,SqT.of hpr,atI_nat (j:=0) rfl,_,rfl,_,rfl,_,rfl,iteT ?_⟩
      exact ⟨_,rfl,pr,_,1,_,rfl,rfl,SqT.of hpr,atI_nat (j:=1) rfl,_,rfl,_,rfl,q _ _ H7 b7 ⟨hb7,⟨_,hHL7,tm7⟩,⟨evs,hEG7,ed7⟩,sd.n1,sd.n2,sd.n3,sd.n4,sd.n5⟩ iv7⟩
    · refine ⟨_,rfl,dd,_,0,_,rfl,rfl,SqT.of hd7,atI_nat (j:=0) rfl,rfl,_,rfl,iteD (fun z=>absurd (V.int.inj z) (by decide)) (fun _ => ?_)⟩
      refine ⟨_,rfl,dd,_,0,_,rfl,rfl,SqT.of hd7,atI_nat (j:=0) rfl,rfl,_,rfl,iteD (fun z=>absurd (V.int.inj z) (by decide)) (fun _ => ?_)⟩
      refine ⟨_,rfl,.inl ⟨rfl,_,SqL.of hEG7⟩,_,rfl,_,rfl,_,rfl,dd,_,0,_,rfl,rfl,SqT.of hd7,atI_nat (j:=0) rfl,rfl,_,rfl,iteD (fun _ => ?_) (fun z=>absurd rfl z)⟩
      refine ⟨(show 1≤sizeLine by decide),fun tq htq=>⟨(show 4≤sizeLine by decide),fun tp htp => ?_⟩⟩
      have sA:=(same_new htq (.tup [.str "told"])).trans (same_new htp (.tup [nV (ptF b0 ts p1).2,nV nb,.int 1,.ref tq]))
      refine ⟨d.EG,evs,.ref tp,rfl,rfl,sA _ _ hEG7,small1000 (by omega),?_⟩
      have e:=edge 1 (by rw [enb (by decide)];rfl) tq tp htq htp
      rw [r3 (by decide)]
      refine ⟨_,rfl,_,rfl,d.EG,_,rfl,.inl (SqL.of upd_same),_,_,rfl,rfl,(es.length:Int),?_,e⟩
      rw [List.length_append,hel,List.length_singleton,show (((es.length+1:Nat):Int) - 1)=(es.length:Int) by omega]
      rfl
    · refine ⟨_,rfl,dd,_,0,_,rfl,rfl,SqT.of hd7,atI_nat (j:=0) rfl,rfl,_,rfl,iteD (fun z=>absurd (V.int.inj z) (by decide)) (fun _ => ?_)⟩
      refine ⟨_,rfl,dd,_,0,_,rfl,rfl,SqT.of hd7,atI_nat (j:=0) rfl,rfl,_,rfl,iteD (fun z=>absurd (V.int.inj z) (by decide)) (fun _ => ?_)⟩
      refine ⟨_,rfl,.inl ⟨rfl,_,SqL.of hEG7⟩,_,rfl,_,rfl,_,rfl,dd,_,0,_,rfl,rfl,SqT.of hd7,atI_nat (j:=0) rfl,rfl,_,rfl,iteD (fun z=>absurd (V.int.inj z) (by decide)) (fun _ => ?_)⟩
      refine ⟨_,rfl,dd,_,3,_,rfl,rfl,SqT.of hd7,atI_nat (j:=3) rfl,(show 1≤sizeLine by decide),fun tq htq=>⟨(show 4≤sizeLine by decide),fun tp htp => ?_⟩⟩
      have sA:=(same_new htq (.tup [.str "told"])).trans (same_new htp (.tup [nV (ptF b0 ts p1).2,nV nb,.int wt,.ref tq]))
      refine ⟨d.EG,evs,.ref tp,rfl,rfl,sA _ _ hEG7,small1000 (by omega),?_⟩
      have e:=edge wt (by rw [enb (by decide)];rfl) tq tp htq htp
      rw [r3 (by decide)]
      refine ⟨_,rfl,_,rfl,d.EG,_,rfl,.inl (SqL.of upd_same),_,_,rfl,rfl,(es.length:Int),?_,e⟩
      rw [List.length_append,hel,List.length_singleton,show (((es.length+1:Nat):Int) - 1)=(es.length:Int) by omega]
      rfl
end

end K51
namespace K51
open PySem L2 Sw
section
variable {P:Program} {w:World} {K:PySem.W.Frag} {mg:Str→Option Value} {base:Heap} {CB CF CH:Addr}
theorem den_ints {H:Hp} {R:Addr} {ls:List Nat} (h:H R=some (.lst (ls.map nV))):Den H (.lst (ls.map fun n:Nat=>L2.D.int (n:Int))) (.ref R):=by rw [Den];exact ⟨R,_,rfl,h,dens_ints ls⟩
theorem deep_ints:∀ ls:List Nat,L2.D.deeps (ls.map fun n:Nat=>L2.D.int (n:Int))=0
  | []=>by rw [List.map_nil,L2.D.deeps]
  | n :: ls=>by rw [List.map_cons,L2.D.deeps,deep_ints ls,L2.D.deep];rfl
inductive SpLook (P:Program) (w:World) (CB CH:Addr) (vs:List V) (H:Hp) (Q:VK):Prop
  | mk (n:Nat) (d:SD) (r:Int) (ts:List Tm) (es:List Ed) (ev:vs = [.ref d.bn,.ref d.HL,.ref d.EG,.int r]) (sd:Side P w CB CH H d ts es) (iv:SInv n d ts es) (q:∀ H',Same H H'→Q (.bl true) H'):SpLook P w CB CH vs H Q
noncomputable def spLook (P:Program) (w:World) (CB CH:Addr):Sp:=fun vs H Q _=>SpLook P w CB CH vs H Q
theorem sp_leads {n:Nat} {H:Hp} {Q:VK} {d:SD} {ts:List Tm} {es:List Ed} (sd:Side P w CB CH H d ts es) (iv:SInv n d ts es) (q:∀ R ls H',Same H H'→H R=none→H' R=some (.lst (ls.map nV))→Closed ts (ends es) ls→Q (.ref R) H'):SpLeads P w CB CH [.ref d.bn] H Q :=
  SpLeads.mk d.bn d.dn d.b d.dx d.L d.M d.EL d.room ts es rfl sd.hb iv.arms (by have:=iv.few;have:=iv.r30;omega) (fun i x as h=>Nat.le_trans (iv.ar i x as h) (by decide)) iv.he q
theorem sp_closed {n:Nat} {H:Hp} {Q:VK} {E:XK} {d:SD} {ts:List Tm} {es:List Ed} {us evs:List V} {C1 C2:Addr} (h1:H C1=some (.lst us)) (h2:Tms H us ts) (h3:H C2=some (.lst evs)) (h4:Eds H evs es) (iv:SInv n d ts es) (q:∀ R ls H',Same H H'→H R=none→H' R=some (.lst (ls.map nV))→Closed ts (ends es) ls→Q (.ref R) H'):spClosed K [.ref C1,.ref C2] H Q E :=
  ⟨C1,C2,us,evs,ts,ends es,rfl,h1,h2,SqL.of h3,eds_edges h4,iv.arms,by have:=iv.few;have:=iv.r30;omega,fun i x as h=>Nat.le_trans (iv.ar i x as h) (by decide),iv.he,q⟩
theorem ok_look (B:Blt mg) (Zb:TopBk K mg CB CF) (Y:TopBh K CH) (h_leads_of:Has P w K mg base 4 "leads_of" ["bench"] (spLeads P w CB CH)) (h_closed:Has P w K mg base 3 "closed" ["terms", "edges"] (spClosed K)) (D:Def K mg "_law_look" s_look ["_law_bench", "_law_held", "_law_edges", "_law_order"]):Has P w K mg base 5 "_law_look" ["_law_bench", "_law_held", "_law_edges", "_law_order"] (spLook P w CB CH):=by
  refine D.has sc_look (fun vs H Q E h => ?_) (fun f cdv A outer s H vs Q E hr h => ?_)
  · obtain ⟨n,d,r,ts,es,rfl,_⟩:=h;rfl
  obtain ⟨n,d,r,ts,es,rfl,sd,iv,q⟩:=h
  refine ⟨_,(pss_cons (ps_if (pt_cmpR op_lt (pv 3) pe_int (nomark _)) (pss_one (ps_expr (pe_bm0 PySem.F.plainAttrs_list PySem.F.slot_list_clear PySem.F.type_list_clear mt_clear (pe_callH h_leads_of hr (by omega) rfl (pa_cons (pv 0) pa_nil))))) pss_nil)
    (pss_cons (ps_if (PW.pt (pw_and (pt_cmpR op_eq (pv 3) pe_int (nomark _)) (pw_and1 (pt_cmpR (op_neD (un101 hr)) (pe_callH h_leads_of hr (by omega) rfl (pa_cons (pv 0) pa_nil)) (pe_callH h_closed hr (by omega) rfl (pa_cons (pe_callTy call_list_of rfl B.list_ boot_list_ (pa_cons (pv 1) pa_nil)) (pa_cons (pe_callTy call_list_of rfl B.list_ boot_list_ (pa_cons (pv 2) pa_nil)) pa_nil))) (nomark _))))) (pss_one (ps_ret pe_bl)) pss_nil)
    (pss_cons (ps_if (PW.pt (pw_or (pt_cmpR (op_neD (un101 hr)) (pe_fld (pv 0) rfl) (pv 2) (nomark _)) (pw_or1 (pt_cmpR (op_neD (un101 hr)) (pe_fld (pe_fld (pv 0) rfl) rfl) (pv 1) (nomark _))))) (pss_one (ps_ret pe_bl)) pss_nil)
    (pss_one (ps_ret (pe_or (pe_cmpR op_ne (pv 3) pe_int (nomark _)) (pe_one (pe_cmpR (op_eqD (un101 hr)) (pe_callH h_leads_of hr (by omega) rfl (pa_cons (pv 0) pa_nil)) (pe_callH h_closed hr (by omega) rfl (pa_cons (pe_callTy call_list_of rfl B.list_ boot_list_ (pa_cons (pv 1) pa_nil)) (pa_cons (pe_callTy call_list_of rfl B.list_ boot_list_ (pa_cons (pv 2) pa_nil)) pa_nil))) (nomark _))))))))),?_⟩
  try dsimp only [cxOf]
  obtain ⟨us,hHL,hts⟩:=sd.held
  obtain ⟨evs,hEG,hed⟩:=sd.edges
  refine rd_cut (fun σ H' => σ = [some (.ref d.bn),some (.ref d.HL),some (.ref d.EG),some (.int r)]∧Same H H') ?_ (fun key => ?_)
  rotate_left
  · refine ⟨_,rfl,_,_,rfl,rfl,_,rfl,iteD (fun _ => ?_) (fun _=>key _ _ ⟨rfl,Same.refl _⟩)⟩
    refine ⟨_,rfl,sp_leads sd iv fun R ls H1 s1 fr hR _=>⟨.inl ⟨rfl,_,SqL.of hR⟩,R,_,rfl,rfl,hR,key _ _ ⟨rfl,?_⟩⟩⟩
    exact s1.put fr
  rintro σ' H1 ⟨rfl,s1⟩
  refine rd_if2 (fun b Hc=>Same H1 Hc∧b=false) (fun Qc qc => ?_) (fun Hc h=>by cases h.2) (fun Hc h => ?_)
  · refine ⟨_,rfl,rfl,_,rfl,iteD (fun _ => ?_) (fun _=>qc _ _ ⟨Same.refl _,rfl⟩)⟩
    refine ⟨_,rfl,sp_leads (sd.same s1) iv fun R ls H2 s2 fr hR hc => ?_⟩
    have g2:=s1.trans s2
    refine ⟨_,rfl,d.HL,us,rfl,.inl (SqL.of (g2 _ _ hHL)),fun C1 hC1 => ?_⟩
    have s3:=same_new hC1 (.lst us)
    have h31:=upd_same (H:=H2) (a:=C1) (o := .lst us)
    generalize upd H2 C1 (.lst us)=H3 at s3 h31 ⊢
    refine ⟨_,rfl,d.EG,evs,rfl,.inl (SqL.of (s3 _ _ (g2 _ _ hEG))),fun C2 hC2 => ?_⟩
    have s4:=same_new hC2 (.lst evs)
    have h42:=upd_same (H:=H3) (a:=C2) (o := .lst evs)
    generalize upd H3 C2 (.lst evs)=H4 at s4 h42 ⊢
    have g4:=g2.trans (s3.trans s4)
    show spClosed K [.ref C1,.ref C2] _ _ E0
    refine sp_closed (s4 _ _ h31) (tms_same g4 hts) h42 (eds_same g4 hed) iv fun R2 ls2 H5 s5 fr2 hR2 hc2 => ?_
    have e:=closed_one hc hc2
    subst e
    refine ⟨_,_,.inr ⟨den_ints (s5 _ _ (s4 _ _ (s3 _ _ hR))),den_ints hR2⟩,by rw [deep_ints];decide,_,rfl,qc _ _ ⟨s2.trans (s3.trans (s4.trans s5)),?_⟩⟩
    rw [decide_eq_true rfl]
    rfl
  obtain ⟨s2, -⟩:=h
  dsimp only [tNext]
  have g2:=s1.trans s2
  have sd2:=sd.same g2
  obtain ⟨ev2,hE2,hed2⟩:=sd2.hb.hE
  obtain ⟨us2,hL2,hts2⟩:=id sd2.hb.hB.2.1
  refine ⟨_,rfl,d.bn,CH,d.dn,_,_,rfl,sd2.hb.hn,Y.cH,Y.nEdges,rfl,_,rfl,es.map edD,es.map edD,.inr ⟨?_,?_⟩,Nat.le_trans (eds_deep es) (by decide),_,rfl,?_⟩
  · rw [Den];exact ⟨d.EL,ev2,rfl,hE2,eds_den hed2⟩
  · rw [Den];exact ⟨d.EG,evs,rfl,g2 _ _ hEG,eds_den (eds_same g2 hed)⟩
  rw [decide_eq_true rfl]
  refine iteF ?_
  refine ⟨_,rfl,d.bn,CH,d.dn,_,_,rfl,sd2.hb.hn,Y.cH,Y.nBank,rfl,d.b,CB,d.dx,_,_,rfl,sd2.hb.hB.1,Zb.cB,Zb.nTerms,rfl,_,rfl,ts.map tmD,ts.map tmD,.inr ⟨den_tms hL2 hts2,den_tms (g2 _ _ hHL) (tms_same g2 hts)⟩,Nat.le_trans (tms_deep ts) (by decide),_,rfl,?_⟩
  rw [decide_eq_true rfl]
  refine iteF ?_
  dsimp only [tNext]
  refine ⟨_,rfl,rfl,_,rfl,iteDN (fun _=>q _ g2) (fun _ => ?_)⟩
  refine ⟨_,rfl,sp_leads sd2 iv fun R ls H3 s3 fr hR hc => ?_⟩
  have g3:=g2.trans s3
  refine ⟨_,rfl,d.HL,us,rfl,.inl (SqL.of (g3 _ _ hHL)),fun C1 hC1 => ?_⟩
  have s4:=same_new hC1 (.lst us)
  have h41:=upd_same (H:=H3) (a:=C1) (o := .lst us)
  generalize upd H3 C1 (.lst us)=H4 at s4 h41 ⊢
  refine ⟨_,rfl,d.EG,evs,rfl,.inl (SqL.of (s4 _ _ (g3 _ _ hEG))),fun C2 hC2 => ?_⟩
  have s5:=same_new hC2 (.lst evs)
  have h52:=upd_same (H:=H4) (a:=C2) (o := .lst evs)
  generalize upd H4 C2 (.lst evs)=H5 at s5 h52 ⊢
  have g5:=g3.trans (s4.trans s5)
  show spClosed K [.ref C1,.ref C2] _ _ E0
  refine sp_closed (s5 _ _ h41) (tms_same g5 hts) h52 (eds_same g5 hed) iv fun R2 ls2 H6 s6 fr2 hR2 hc2 => ?_
  have e:=closed_one hc hc2
  subst e
  refine ⟨_,_,.inr ⟨den_ints (s6 _ _ (s5 _ _ (s4 _ _ hR))),den_ints hR2⟩,by rw [deep_ints];decide,?_⟩
  rw [decide_eq_true rfl]
  exact q _ (g5.trans s6)
end

end K51
namespace K51
open PySem L2 Sw
section
variable {P:Program} {w:World} {K:PySem.W.Frag} {mg:Str→Option Value} {base:Heap} {CB CF CH:Addr}
theorem Side.keep {H H':Hp} {d:SD} {ts:List Tm} {es:List Ed} {S:List Addr} (h:Side P w CB CH H d ts es) (hk:∀ c∈S,(∃ xs,H c=some (.lst xs))∨∃ φ,H c=some (.ext φ)) (dis:∀ c∈d.mut,c ∉ S) (bt:ButL S H H'):Side P w CB CH H' d ts es:=by
  obtain ⟨vs,h1,h2⟩:=h.held
  obtain ⟨evs,h3,h4⟩:=h.edges
  obtain ⟨ev2,h5,h6⟩:=h.hb.hE
  have kt:∀ c ys,H c=some (.tup ys)→H' c=some (.tup ys):=fun c ys z=>bt c _ (fun m=>by
    rcases hk c m with ⟨xs,e⟩ | ⟨φ,e⟩
    · rw [e] at z;cases z
    · rw [e] at z;cases z) z
  have ki:∀ c C x fs,H c=some (.ins C x fs)→H' c=some (.ins C x fs):=fun c C x fs z=>bt c _ (fun m=>by
    rcases hk c m with ⟨xs,e⟩ | ⟨φ,e⟩
    · rw [e] at z;cases z
    · rw [e] at z;cases z) z
  have m1:d.L∈d.mut:=List.mem_cons_self
  have m2:d.M∈d.mut:=List.mem_cons_of_mem _ List.mem_cons_self
  have m3:d.EL∈d.mut:=List.mem_cons_of_mem _ (List.mem_cons_of_mem _ List.mem_cons_self)
  have m4:d.HL∈d.mut:=List.mem_cons_of_mem _ (List.mem_cons_of_mem _ (List.mem_cons_of_mem _ List.mem_cons_self))
  have m5:d.EG∈d.mut:=List.mem_cons_of_mem _ (List.mem_cons_of_mem _ (List.mem_cons_of_mem _ (List.mem_cons_of_mem _ List.mem_cons_self)))
  obtain ⟨b1,⟨ws,b2,b3⟩,kvs,b4,b5,b6⟩:=h.hb.hB
  refine ⟨⟨ki _ _ _ _ h.hb.hn,⟨ki _ _ _ _ b1,⟨ws,bt _ _ (dis _ m1) b2,tms_keep kt b3⟩,kvs,b4.keep (fun φ z=>bt _ _ (dis _ m2) z) kt,b5,b6⟩,⟨ev2,bt _ _ (dis _ m3) h5,eds_keep kt h6⟩,h.hb.ne⟩,⟨vs,bt _ _ (dis _ m4) h1,tms_keep kt h2⟩,⟨evs,bt _ _ (dis _ m5) h3,eds_keep kt h4⟩,h.n1,h.n2,h.n3,h.n4,h.n5⟩
structure LawAt (P:Program) (w:World) (CB CH:Addr) (H0 H:Hp) (RL BL HS ES PL:Addr) (d:Nat→SD) (ts:Nat→List Tm) (es:Nat→List Ed) (n:Nat) (us:List V) (ps:List T):Prop where
  sm:Same H0 H
  sd:∀ i,i < 2→Side P w CB CH H (d i) (ts i) (es i)
  iv:∀ i,i < 2→SInv n (d i) (ts i) (es i)
  dis:∀ i j,i < 2→j < 2→i≠j→∀ c∈(d i).mut,c ∉ (d j).mut
  fr:∀ i,i < 2→∀ c∈(d i).mut,H0 c=none
  hRL:H RL=some (.lst [.int (d 0).room,.int (d 1).room])
  hBL:H BL=some (.lst [.ref (d 0).bn,.ref (d 1).bn])
  hHS:H HS=some (.lst [.ref (d 0).HL,.ref (d 1).HL])
  hES:H ES=some (.lst [.ref (d 0).EG,.ref (d 1).EG])
  hPL:H PL=some (.lst us)
  frP:H0 PL=none
  pool:Paired (fun v t=>IsTr H t v) us ps
  g:∀ t∈ps,TrG 4 t
  out:∀ i,i < 2→∀ c ∈ [RL,BL,HS,ES,PL],c ∉ (d i).mut
  pne:∀ c ∈ [RL,BL,HS,ES],PL≠c
theorem SInv.more {n:Nat} {d:SD} {ts:List Tm} {es:List Ed} (h:SInv n d ts es):SInv (n+1) d ts es:=⟨h.nd,h.arms,h.few,h.r30,h.ar,h.he,Nat.le_succ_of_le h.el⟩
variable {H0 H H':Hp} {RL BL HS ES PL:Addr} {d:Nat→SD} {ts:Nat→List Tm} {es:Nat→List Ed} {n:Nat} {us:List V} {ps:List T}
theorem LawAt.same (h:LawAt P w CB CH H0 H RL BL HS ES PL d ts es n us ps) (s:Same H H'):LawAt P w CB CH H0 H' RL BL HS ES PL d ts es n us ps :=
  ⟨h.sm.trans s,fun i hi=>(h.sd i hi).same s,h.iv,h.dis,h.fr,s _ _ h.hRL,s _ _ h.hBL,s _ _ h.hHS,s _ _ h.hES,s _ _ h.hPL,h.frP,Paired.mapP h.pool fun _ _ z=>tr_same s z,h.g,h.out,h.pne⟩
theorem LawAt.asked {q:Nat} {t':List Tm} {e':List Ed} (h:LawAt P w CB CH H0 H RL BL HS ES PL d ts es n us ps) (hq:q < 2) (bt:ButL (d q).mut H H') (sd:Side P w CB CH H' (d q) t' e') (iv:SInv (n+1) (d q) t' e') :
    LawAt P w CB CH H0 H' RL BL HS ES PL d (fun j=>if j=q then t' else ts j) (fun j=>if j=q then e' else es j) (n+1) us ps:=by
  have kd:=(h.sd q hq).kinds
  have kt:∀ c ys,H c=some (.tup ys)→H' c=some (.tup ys):=fun c ys z=>bt c _ (fun m=>by
    rcases kd c m with ⟨xs,e⟩ | ⟨φ,e⟩
    · rw [e] at z;cases z
    · rw [e] at z;cases z) z
  have o:=h.out q hq
  refine ⟨fun c u z=>bt c u (fun m=>by rw [h.fr q hq c m] at z;cases z) (h.sm _ _ z),fun i hi => ?_,fun i hi => ?_,h.dis,h.fr,bt _ _ (o _ List.mem_cons_self) h.hRL,bt _ _ (o _ (List.mem_cons_of_mem _ List.mem_cons_self)) h.hBL,bt _ _ (o _ (List.mem_cons_of_mem _ (List.mem_cons_of_mem _ List.mem_cons_self))) h.hHS,bt _ _ (o _ (List.mem_cons_of_mem _ (List.mem_cons_of_mem _ (List.mem_cons_of_mem _ List.mem_cons_self)))) h.hES,bt _ _ (o _ (List.mem_cons_of_mem _ (List.mem_cons_of_mem _ (List.mem_cons_of_mem _ (List.mem_cons_of_mem _ List.mem_cons_self))))) h.hPL,h.frP,Paired.mapP h.pool fun _ _ z=>tr_keep kt z,h.g,h.out,h.pne⟩
  · by_cases e:i=q
    · subst e
      show Side P w CB CH H' (d i) (if i=i then t' else ts i) (if i=i then e' else es i)
      rw [if_pos rfl,if_pos rfl];exact sd
    · show Side P w CB CH H' (d i) (if i=q then t' else ts i) (if i=q then e' else es i)
      rw [if_neg e,if_neg e]
      exact (h.sd i hi).keep kd (h.dis i q hi hq e) bt
  · by_cases e:i=q
    · subst e
      show SInv (n+1) (d i) (if i=i then t' else ts i) (if i=i then e' else es i)
      rw [if_pos rfl,if_pos rfl];exact iv
    · show SInv (n+1) (d i) (if i=q then t' else ts i) (if i=q then e' else es i)
      rw [if_neg e,if_neg e]
      exact (h.iv i hi).more
theorem LawAt.push {v:V} {t:T} (h:LawAt P w CB CH H0 H RL BL HS ES PL d ts es n us ps) (hT:IsTr H t v) (g:TrG 4 t):LawAt P w CB CH H0 (upd H PL (.lst (us ++ [v]))) RL BL HS ES PL d ts es n (us ++ [v]) (ps ++ [t]):=by
  have kp:=keep_put (o' := .lst (us ++ [v])) h.hPL trivial
  have bt:ButL [PL] H (upd H PL (.lst (us ++ [v]))):=fun c o nc z=>by rw [upd_ne (fun e=>nc (by rw [e];exact List.mem_cons_self))];exact z
  have ne:=h.pne
  refine ⟨h.sm.put h.frP,fun i hi=>(h.sd i hi).keep (S := [PL]) (fun c hc=>by rw [List.mem_singleton.mp hc];exact .inl ⟨_,h.hPL⟩) (fun c hc z=>h.out i hi PL (List.mem_cons_of_mem _ (List.mem_cons_of_mem _ (List.mem_cons_of_mem _ (List.mem_cons_of_mem _ List.mem_cons_self)))) (by rw [← List.mem_singleton.mp z];exact hc)) bt,h.iv,h.dis,h.fr,?_,?_,?_,?_,upd_same,h.frP,Paired.snoc (Paired.mapP h.pool fun _ _ z=>tr_keep kp z) (tr_keep kp hT),fun u hu => ?_,h.out,h.pne⟩
  · rw [upd_ne (Ne.symm (ne _ List.mem_cons_self))];exact h.hRL
  · rw [upd_ne (Ne.symm (ne _ (List.mem_cons_of_mem _ List.mem_cons_self)))];exact h.hBL
  · rw [upd_ne (Ne.symm (ne _ (List.mem_cons_of_mem _ (List.mem_cons_of_mem _ List.mem_cons_self))))];exact h.hHS
  · rw [upd_ne (Ne.symm (ne _ (List.mem_cons_of_mem _ (List.mem_cons_of_mem _ (List.mem_cons_of_mem _ List.mem_cons_self)))))];exact h.hES
  · rcases List.mem_append.mp hu with z | z
    · exact h.g u z
    · rw [List.mem_singleton.mp z];exact g
theorem LawAt.up {n':Nat} (h:LawAt P w CB CH H0 H RL BL HS ES PL d ts es n us ps) (le:n≤n'):LawAt P w CB CH H0 H RL BL HS ES PL d ts es n' us ps :=
  ⟨h.sm,h.sd,fun i hi=>let v:=h.iv i hi; ⟨v.nd,v.arms,v.few,v.r30,v.ar,v.he,Nat.le_trans v.el le⟩,h.dis,h.fr,h.hRL,h.hBL,h.hHS,h.hES,h.hPL,h.frP,h.pool,h.g,h.out,h.pne⟩
theorem LawAt.tup {q:Nat} (h:LawAt P w CB CH H0 H RL BL HS ES PL d ts es n us ps) (hq:q < 2) (bt:ButL (d q).mut H H'):∀ c ys,H c=some (.tup ys)→H' c=some (.tup ys):=fun c ys z=>bt c _ (fun m=>by
  rcases (h.sd q hq).kinds c m with ⟨xs,e⟩ | ⟨φ,e⟩
  · rw [e] at z;cases z
  · rw [e] at z;cases z) z
structure Born (X Y:Hp) (c:Addr):Prop where
  no:X c=none
  yes:∃ o,Y c=some o
theorem Born.not {X Y X' Y':Hp} {c:Addr} (b:Born X Y c) (b':Born X' Y' c) (s:Same Y X'):False:=by
  obtain ⟨o,h⟩:=b.yes
  have:=s _ _ h
  rw [b'.no] at this
  cases this
theorem at2 {α : Type} {x y : α} {f:Nat → α} (h0:x=f 0) (h1:y=f 1) {q:Nat} (hq:q < 2):atI [x,y] ((q:Nat):Int)=some (f q):=by
  rcases (show q=0∨q=1 by omega) with rfl | rfl
  · exact atI_nat (by rw [h0];rfl)
  · exact atI_nat (by rw [h1];rfl)
end

end K51
namespace K51
open PySem L2 Sw
section
variable {P:Program} {w:World} {K:PySem.W.Frag} {mg:Str→Option Value} {base:Heap} {CB CF CH:Addr}
inductive SpLaw (K:PySem.W.Frag) (vs:List V) (H:Hp) (Q:VK):Prop
  | mk (a:Addr) (ns:List Int) (z0:vs = [.ref a]) (z1:SqL K H a (ns.map V.int)) (z2:ns.length≤63) (z3:(∀ c∈ns,Builtin.Int.intBits c≤1048576)) (z4:∀ H',Q (.bl true) H'):SpLaw K vs H Q
noncomputable def spLaw (K:PySem.W.Frag):Sp:=fun vs H Q _=>SpLaw K vs H Q
inductive LwI (P:Program) (w:World) (CB CH:Addr) (H0:Hp) (pre:List (Option V)) (RL BL HS ES PL:Addr) (d:Nat→SD) (i:Nat) (σ : St) (H:Hp):Prop
  | mk (x7 x8 x9 x10 x11 x12:Option V) (ts:Nat→List Tm) (es:Nat→List Ed) (us:List V) (ps:List T) (e : σ = pre ++ [x7,x8,x9,x10,x11,x12]) (at_:LawAt P w CB CH H0 H RL BL HS ES PL d ts es (2 * i) us ps) (len:us.length≤i+2) (len0:0 < us.length):LwI P w CB CH H0 pre RL BL HS ES PL d i σ H
inductive LnI (P:Program) (w:World) (CB CH:Addr) (H0:Hp) (pre:List (Option V)) (RL BL HS ES PL dd:Addr) (d:Nat→SD) (us:List V) (ps:List T) (n:Nat) (dl:List V) (v1 v2:V) (p1 p2:T) (j:Nat) (σ : St) (H:Hp):Prop
  | mk (x11 x12:Option V) (ts:Nat→List Tm) (es:Nat→List Ed) (e : σ = pre ++ [x11,x12]) (at_:LawAt P w CB CH H0 H RL BL HS ES PL d ts es (n+j) us ps) (hd:H dd=some (.tup dl)) (T1:IsTr H p1 v1) (T2:IsTr H p2 v2):LnI P w CB CH H0 pre RL BL HS ES PL dd d us ps n dl v1 v2 p1 p2 j σ H
theorem old2 {H:Hp} {b x c:Addr} {o1 o2:HO} (hb:H b=none) (hx:H x=none) (h:(upd (upd H x o1) b o2) c=none):H c=none:=by
  by_cases e1:c=b
  · rw [e1];exact hb
  · rw [upd_ne e1] at h
    by_cases e2:c=x
    · rw [e2];exact hx
    · rw [upd_ne e2] at h;exact h
theorem same_mk {H H':Hp} {b x:Addr} {o1 o2:HO} (hb:H b=none) (hx:H x=none) (bt:But b (upd (upd H x o1) b o2) H'):Same H H':=fun c o h=>by
  have n1:c≠b:=fun e=>by rw [e,hb] at h;cases h
  have n2:c≠x:=fun e=>by rw [e,hx] at h;cases h
  exact bt c o n1 (by rw [upd_ne n1,upd_ne n2];exact h)
theorem sinv_nil {d:SD} (h1:0≤d.room) (h2:d.room≤30):SInv 0 d [] []:=⟨List.nodup_nil,fun i x as h=>by simp at h,h1,h2,fun i x as h=>by simp at h,fun a b h=>(nomatch h),Nat.le_refl _⟩
theorem ok_law (B:Blt mg) (h_draw:Has P w K mg base 1 "_law_draw" ["_law_cell", "_law_prime", "_law_many"] spDraw) (h_word:Has P w K mg base 2 "_law_word" ["_law_k", "_law_cell"] spWord) (h_tree:Has P w K mg base 3 "_law_tree" ["_law_cell", "_law_seed", "_law_pool"] (spTree K)) (h_depth:Has P w K mg base 5 "_law_depth" ["_law_tree_here"] (spDepth 5)) (h_init_Bench:HasC P w K mg base 3 "Bench" CH ["self", "room"] (spBInit P w CB CH)) (h_asked:Has P w K mg base 12 "_law_asked" ["_law_bench", "_law_deed", "_law_held", "_law_edges", "_law_room"] (spAsked P w CB CH)) (h_look:Has P w K mg base 5 "_law_look" ["_law_bench", "_law_held", "_law_edges", "_law_order"] (spLook P w CB CH)) {f:Addr} {fd:FuncData} (F:Fun K "law" "law" s_law f fd) :
    FnOk P w K mg base CX0 13 f fd ["_law_script"] (spLaw K):=by
  refine F.ok sc_law (fun vs H Q E h => ?_) (fun cdv A outer s H vs Q E hr h => ?_)
  · obtain ⟨a,ns,rfl,_⟩:=h;rfl
  obtain ⟨a,ns,rfl,hS,h63,_,q⟩:=h
  refine ⟨_,(pss_cons (ps_set (i:=1) sc_law.nd rfl (Or.inl rfl) (pe_ifExp (pt_cmpR op_gt (pe_callB call_len_seq rfl B.len_ PySem.boot_len (pa_cons (pv 0) pa_nil)) pe_int (nomark _)) (pe_ix ix_list (pv 0) pe_int (fun _ _=>rfl)) pe_int))
    (pss_cons (ps_set (i:=2) sc_law.nd rfl (Or.inl rfl) (pe_lst (pa_cons (pe_op op_add pe_int (pe_callH h_draw hr (by omega) rfl (pa_cons (pv 1) (pa_cons pe_int (pa_cons pe_int pa_nil))))) (pa_cons (pe_op op_add pe_int (pe_callH h_draw hr (by omega) rfl (pa_cons (pv 1) (pa_cons pe_int (pa_cons pe_int pa_nil))))) pa_nil))))
    (pss_cons (ps_asg (pe_ix ix_tup (pe_tup (pa_cons pe_int (pa_cons pe_int pa_nil))) (pe_callH h_draw hr (by omega) rfl (pa_cons (pv 1) (pa_cons pe_int (pa_cons pe_int pa_nil)))) (fun _ _=>rfl)) (pg_sub (pv 2) (pe_callH h_draw hr (by omega) rfl (pa_cons (pv 1) (pa_cons pe_int (pa_cons pe_int pa_nil)))) set_list))
    (pss_cons (ps_set (i:=3) sc_law.nd rfl (Or.inl rfl) (pe_lst (pa_cons (pe_makeE h_init_Bench hr (by omega) passNo rfl (pa_cons (pe_ix ix_list (pv 2) pe_int (fun _ _=>rfl)) pa_nil)) (pa_cons (pe_makeE h_init_Bench hr (by omega) passNo rfl (pa_cons (pe_ix ix_list (pv 2) pe_int (fun _ _=>rfl)) pa_nil)) pa_nil))))
    (pss_cons (ps_set (i:=4) sc_law.nd rfl (Or.inl rfl) (pe_lst (pa_cons (pe_lst pa_nil) (pa_cons (pe_lst pa_nil) pa_nil))))
    (pss_cons (ps_set (i:=5) sc_law.nd rfl (Or.inl rfl) (pe_lst (pa_cons (pe_lst pa_nil) (pa_cons (pe_lst pa_nil) pa_nil))))
    (pss_cons (ps_set (i:=6) sc_law.nd rfl (Or.inl rfl) (pe_lst (pa_cons (pe_tup (pa_cons pe_str (pa_cons (pe_callH h_word hr (by omega) rfl (pa_cons pe_int (pa_cons (pv 1) pa_nil))) pa_nil))) (pa_cons (pe_tup (pa_cons pe_str (pa_cons (pe_op op_mod (pv 1) (pe_op op_pow pe_int pe_int)) pa_nil))) pa_nil))))
    (pss_cons (ps_for PassesOwn.never rfl (pi_list (pv 0)) (pg_name (i:=7) sc_law.nd rfl (Or.inl rfl))
    (pss_cons (ps_set (i:=8) sc_law.nd rfl (Or.inl rfl) (pe_callH h_tree hr (by omega) rfl (pa_cons (pv 7) (pa_cons (pv 1) (pa_cons (pv 6) pa_nil)))))
    (pss_cons (ps_if (pt_cmpR op_lt (pe_callH h_depth hr (by omega) rfl (pa_cons (pv 8) pa_nil)) pe_int (nomark _)) (pss_one (ps_expr (pe_bm PySem.F.plainAttrs_list PySem.F.slot_list_append PySem.F.type_list_append mt_append (pv 6) (pa_cons (pv 8) pa_nil)))) pss_nil)
    (pss_cons (ps_set (i:=9) sc_law.nd rfl (Or.inl rfl) (pe_callH h_draw hr (by omega) rfl (pa_cons (pv 7) (pa_cons pe_int (pa_cons pe_int pa_nil)))))
    (pss_cons (ps_set (i:=10) sc_law.nd rfl (Or.inl rfl) (pe_tup (pa_cons (pe_callH h_draw hr (by omega) rfl (pa_cons (pv 7) (pa_cons pe_int (pa_cons pe_int pa_nil)))) (pa_cons (pv 8) (pa_cons (pe_ix ix_list (pv 6) (pe_callH h_draw hr (by omega) rfl (pa_cons (pv 7) (pa_cons pe_int (pa_cons (pe_callB call_len_seq rfl B.len_ PySem.boot_len (pa_cons (pv 6) pa_nil)) pa_nil)))) (fun _ _=>rfl)) (pa_cons (pe_op op_add pe_int (pe_op op_mod (pv 7) (pe_op op_pow pe_int pe_int))) pa_nil))))))
    (pss_one (ps_for PassesOwn.never rfl (pi_range1 rfl B.range_ (pa_cons (pe_op op_add pe_int (pe_callH h_draw hr (by omega) rfl (pa_cons (pv 7) (pa_cons pe_int (pa_cons pe_int pa_nil))))) pa_nil)) (pg_name (i:=11) sc_law.nd rfl (Or.inl rfl))
    (pss_cons (ps_if (pt_not (pt_val (pe_callH h_asked hr (by omega) rfl (pa_cons (pe_ix ix_list (pv 3) (pv 9) (fun _ _=>rfl)) (pa_cons (pv 10) (pa_cons (pe_ix ix_list (pv 4) (pv 9) (fun _ _=>rfl)) (pa_cons (pe_ix ix_list (pv 5) (pv 9) (fun _ _=>rfl)) (pa_cons (pe_ix ix_list (pv 2) (pv 9) (fun _ _=>rfl)) pa_nil)))))))) (pss_one (ps_ret pe_bl)) pss_nil)
    (pss_one (ps_for PassesOwn.never rfl (pi_range1 rfl B.range_ (pa_cons pe_int pa_nil)) (pg_name (i:=12) sc_law.nd rfl (Or.inl rfl))
    (pss_one (ps_if (pt_not (pt_val (pe_callH h_look hr (by omega) rfl (pa_cons (pe_ix ix_list (pv 3) (pv 12) (fun _ _=>rfl)) (pa_cons (pe_ix ix_list (pv 4) (pv 12) (fun _ _=>rfl)) (pa_cons (pe_ix ix_list (pv 5) (pv 12) (fun _ _=>rfl)) (pa_cons (pe_ifExp (pt_cmpR op_eq (pv 11) pe_int (nomark _)) (pe_callH h_draw hr (by omega) rfl (pa_cons (pv 7) (pa_cons pe_int (pa_cons pe_int pa_nil)))) pe_int) pa_nil))))))) (pss_one (ps_ret pe_bl)) pss_nil))))))))))))
    (pss_one (ps_ret pe_bl)))))))))),?_⟩
  try dsimp only [cxOf]
  refine rd_cut (fun σ H'=>∃ sd:Int, σ = [some (.ref a),some (.int sd),none,none,none,none,none,none,none,none,none,none,none]∧H'=H) ?_ (fun key => ?_)
  rotate_left
  · refine ⟨_,rfl,a,_,rfl,.inl hS,_,_,rfl,rfl,_,rfl,iteD (fun c => ?_) (fun _=>key _ _ ⟨0,rfl,rfl⟩)⟩
    rw [List.length_map] at c
    have h0:0 < ns.length:=by omega
    exact ⟨_,rfl,a,_,0,_,rfl,rfl,hS,atI_nat (j:=0) (by rw [List.getElem?_map,List.getElem?_eq_getElem h0];rfl),key _ _ ⟨ns[0],rfl,rfl⟩⟩
  rintro σ' H' ⟨sd,rfl,rfl⟩
  refine ⟨_,rfl,sd,_,_,rfl,by decide,by decide,by decide,_,_,rfl,rfl,_,rfl,sd,_,_,rfl,by decide,by decide,by decide,_,_,rfl,rfl,(show 2≤sizeLine by decide),fun RL hRL0 => ?_⟩
  dsimp only [gName]
  have m1:=drawZ_nn sd 10037 (m:=14) (by decide)
  have m2:=drawZ_lt sd 10037 (m:=14) (by decide)
  have m3:=drawZ_nn sd 10039 (m:=14) (by decide)
  have m4:=drawZ_lt sd 10039 (m:=14) (by decide)
  generalize drawZ sd 10037 14=y1 at m1 m2
  generalize drawZ sd 10039 14=y2 at m3 m4
  have sR:=same_new hRL0 (.lst [.int (1+y1),.int (1+y2)])
  have hRL:=upd_same (H:=H') (a:=RL) (o := .lst [.int (1+y1),.int (1+y2)])
  generalize upd H' RL (.lst [.int (1+y1),.int (1+y2)])=HR1 at sR hRL ⊢
  obtain ⟨rv,hrv,hrm⟩:=atI_ex (xs:=([14,30]:List Int).map V.int) (drawZ_nn sd 10099 (m:=2) (by decide)) (drawZ_lt sd 10099 (m:=2) (by decide))
  obtain ⟨rv,hrn,rfl⟩:=List.mem_map.mp hrm
  have rb:1≤rv∧rv≤30:=by
    rcases List.mem_cons.mp hrn with z | hrn
    · omega
    · have:=List.mem_singleton.mp hrn;omega
  have w1:=drawZ_nn sd 10069 (m:=2) (by decide)
  have w2:=drawZ_lt sd 10069 (m:=2) (by decide)
  obtain ⟨r0,r1,rj,hj,er,b0',b1'⟩:∃ (r0 r1:Int) (rj:Nat),ixN ([V.int (1+y1),V.int (1+y2)]:List V).length (drawZ sd 10069 2)=some rj∧([V.int (1+y1),V.int (1+y2)]:List V).set rj (.int rv) = [.int r0,.int r1]∧(0≤r0∧r0≤30)∧(0≤r1∧r1≤30):=by
    generalize drawZ sd 10069 2=z at w1 w2
    rcases (show z=0∨z=1 by omega) with rfl | rfl
    · exact ⟨rv,1+y2,0,rfl,rfl,by omega,by omega⟩
    · exact ⟨1+y1,rv,1,rfl,rfl,by omega,by omega⟩
  refine ⟨(show 2≤sizeLine by decide),fun tr htr=>⟨_,rfl,sd,_,_,rfl,by decide,by decide,by decide,tr,_,_,_,rfl,rfl,SqT.of upd_same,hrv,_,rfl,_,rfl,sd,_,_,rfl,by decide,by decide,by decide,RL,_,_,rj,rfl,rfl,same_new htr _ _ _ hRL,hj,?_⟩⟩
  rw [er]
  have sT:=same_new htr (.tup (([14,30]:List Int).map V.int))
  have sR2:Same H' (upd (upd HR1 tr (.tup (([14,30]:List Int).map V.int))) RL (.lst [.int r0,.int r1])):=(sR.trans sT).put hRL0
  have hRL2:=upd_same (H:=upd HR1 tr (.tup (([14,30]:List Int).map V.int))) (a:=RL) (o := .lst [.int r0,.int r1])
  show tSeq _ _ _ _ (upd (upd HR1 tr (.tup (([14,30]:List Int).map V.int))) RL (.lst [.int r0,.int r1]))
  generalize upd (upd HR1 tr (.tup (([14,30]:List Int).map V.int))) RL (.lst [.int r0,.int r1])=HR at sR2 hRL2 ⊢
  clear hrm hrv hrn rb hj er hRL sR sT htr m1 m2 m3 m4 w1 w2
  refine ⟨_,rfl,RL,_,0,_,rfl,rfl,SqL.of hRL2,atI_nat (j:=0) rfl,fun bn0 dn0 hbn0 hdn0 hne0=>SpBInit.mk bn0 dn0 r0 rfl upd_same fun HA bb0 dx0 L0 M0 EL0 bt0 hL0 hM0 hEL0 hB0=>⟨rfl,?_⟩⟩
  have sA:=same_mk hbn0 hdn0 bt0
  have bL0:Born HR HA L0:=⟨old2 hbn0 hdn0 hL0,let ⟨us,h⟩:=bank_lst hB0.hB; ⟨_,h⟩⟩
  have bM0:Born HR HA M0:=⟨old2 hbn0 hdn0 hM0,let ⟨us,h⟩:=bank_ext hB0.hB; ⟨_,h⟩⟩
  have bE0:Born HR HA EL0:=⟨old2 hbn0 hdn0 hEL0,let ⟨us,h,_⟩:=hB0.hE; ⟨_,h⟩⟩
  refine ⟨_,rfl,RL,_,1,_,rfl,rfl,SqL.of (sA _ _ hRL2),atI_nat (j:=1) rfl,fun bn1 dn1 hbn1 hdn1 hne1=>SpBInit.mk bn1 dn1 r1 rfl upd_same fun HB bb1 dx1 L1 M1 EL1 bt1 hL1 hM1 hEL1 hB1=>⟨rfl,?_⟩⟩
  have sB:=same_mk hbn1 hdn1 bt1
  have bL1:Born HA HB L1:=⟨old2 hbn1 hdn1 hL1,let ⟨us,h⟩:=bank_lst hB1.hB; ⟨_,h⟩⟩
  have bM1:Born HA HB M1:=⟨old2 hbn1 hdn1 hM1,let ⟨us,h⟩:=bank_ext hB1.hB; ⟨_,h⟩⟩
  have bE1:Born HA HB EL1:=⟨old2 hbn1 hdn1 hEL1,let ⟨us,h,_⟩:=hB1.hE; ⟨_,h⟩⟩
  refine ⟨(show 2≤sizeLine by decide),fun BL hBL0 => ?_⟩
  dsimp only [gName]
  have s4:=same_new hBL0 (.lst [.ref bn0,.ref bn1])
  have hBL:=upd_same (H:=HB) (a:=BL) (o := .lst [.ref bn0,.ref bn1])
  have bBL:Born HB (upd HB BL (.lst [.ref bn0,.ref bn1])) BL:=⟨hBL0,_,hBL⟩
  generalize upd HB BL (.lst [.ref bn0,.ref bn1])=X4 at s4 hBL bBL ⊢
  refine ⟨Nat.zero_le _,fun h0 hh0 => ?_⟩
  have s5:=same_new hh0 (.lst [])
  have hh05:=upd_same (H:=X4) (a:=h0) (o := .lst [])
  have bh0:Born X4 (upd X4 h0 (.lst [])) h0:=⟨hh0,_,hh05⟩
  generalize upd X4 h0 (.lst [])=X5 at s5 hh05 bh0 ⊢
  refine ⟨Nat.zero_le _,fun h1 hh1 => ?_⟩
  have s6:=same_new hh1 (.lst [])
  have hh16:=upd_same (H:=X5) (a:=h1) (o := .lst [])
  have bh1:Born X5 (upd X5 h1 (.lst [])) h1:=⟨hh1,_,hh16⟩
  generalize upd X5 h1 (.lst [])=X6 at s6 hh16 bh1 ⊢
  refine ⟨(show 2≤sizeLine by decide),fun HS hHS0 => ?_⟩
  dsimp only [gName]
  have s7:=same_new hHS0 (.lst [.ref h0,.ref h1])
  have hHS:=upd_same (H:=X6) (a:=HS) (o := .lst [.ref h0,.ref h1])
  have bHS:Born X6 (upd X6 HS (.lst [.ref h0,.ref h1])) HS:=⟨hHS0,_,hHS⟩
  generalize upd X6 HS (.lst [.ref h0,.ref h1])=X7 at s7 hHS bHS ⊢
  refine ⟨Nat.zero_le _,fun e0 he0 => ?_⟩
  have s8:=same_new he0 (.lst [])
  have he08:=upd_same (H:=X7) (a:=e0) (o := .lst [])
  have be0:Born X7 (upd X7 e0 (.lst [])) e0:=⟨he0,_,he08⟩
  generalize upd X7 e0 (.lst [])=X8 at s8 he08 be0 ⊢
  refine ⟨Nat.zero_le _,fun e1 he1 => ?_⟩
  have s9:=same_new he1 (.lst [])
  have he19:=upd_same (H:=X8) (a:=e1) (o := .lst [])
  have be1:Born X8 (upd X8 e1 (.lst [])) e1:=⟨he1,_,he19⟩
  generalize upd X8 e1 (.lst [])=X9 at s9 he19 be1 ⊢
  refine ⟨(show 2≤sizeLine by decide),fun ES hES0 => ?_⟩
  dsimp only [gName]
  have s10:=same_new hES0 (.lst [.ref e0,.ref e1])
  have hES:=upd_same (H:=X9) (a:=ES) (o := .lst [.ref e0,.ref e1])
  have bES:Born X9 (upd X9 ES (.lst [.ref e0,.ref e1])) ES:=⟨hES0,_,hES⟩
  generalize upd X9 ES (.lst [.ref e0,.ref e1])=X10 at s10 hES bES ⊢
  refine ⟨_,rfl,SpWord.mk _ sd rfl ⟨(show 2≤sizeLine by decide),fun t1 ht1=>⟨_,rfl,10,60,rfl,rfl,⟨by decide,by decide,by decide⟩,_,_,rfl,rfl,(by decide:(0:Int) < 10 ^ (60:Int).toNat),(show 2≤sizeLine by decide),fun t2 ht2=>⟨(show 2≤sizeLine by decide),fun PL hPL0 => ?_⟩⟩⟩⟩
  dsimp only [gName]
  have u1:=same_new ht1 (.tup [.str "name",.str (wordZ sd 0)])
  have q1:=upd_same (H:=X10) (a:=t1) (o := .tup [.str "name",.str (wordZ sd 0)])
  generalize upd X10 t1 (.tup [.str "name",.str (wordZ sd 0)])=X11 at u1 q1 ht2 hPL0 ⊢
  have u2:=same_new ht2 (.tup [.str "num",.int (sd % 10 ^ (60:Int).toNat)])
  have q2:=upd_same (H:=X11) (a:=t2) (o := .tup [.str "num",.int (sd % 10 ^ (60:Int).toNat)])
  generalize upd X11 t2 (.tup [.str "num",.int (sd % 10 ^ (60:Int).toNat)])=X12 at u2 q2 hPL0 ⊢
  have u3:=same_new hPL0 (.lst [.ref t1,.ref t2])
  have hPL:=upd_same (H:=X12) (a:=PL) (o := .lst [.ref t1,.ref t2])
  have bPL:Born X12 (upd X12 PL (.lst [.ref t1,.ref t2])) PL:=⟨hPL0,_,hPL⟩
  generalize upd X12 PL (.lst [.ref t1,.ref t2])=X13 at u3 hPL bPL ⊢
  have c12:=u1.trans u2
  have c10:=s10.trans c12
  have c9:=s9.trans c10
  have c8:=s8.trans c9
  have c7:=s7.trans c8
  have c6:=s6.trans c7
  have c5:=s5.trans c6
  have c4:=s4.trans c5
  have cB:=sB.trans c4
  have cA:=sA.trans cB
  -- what is new at each stage
  have nil0:∀ c,c ∈ [L0,M0,EL0]→Born HR HA c:=fun c hc=>by
    rcases List.mem_cons.mp hc with rfl | hc
    · exact bL0
    rcases List.mem_cons.mp hc with rfl | hc
    · exact bM0
    · rw [List.mem_singleton.mp hc];exact bE0
  have nil1:∀ c,c ∈ [L1,M1,EL1]→Born HA HB c:=fun c hc=>by
    rcases List.mem_cons.mp hc with rfl | hc
    · exact bL1
    rcases List.mem_cons.mp hc with rfl | hc
    · exact bM1
    · rw [List.mem_singleton.mp hc];exact bE1
  have cut0:∀ {x y z u v c:Addr},c ∈ [x,y,z,u,v]→c ∈ [x,y,z]∨c=u∨c=v:=fun {x y z u v c} hc=>by
    simp only [List.mem_cons,List.not_mem_nil,or_false] at hc ⊢
    rcases hc with h | h | h | h | h
    · exact .inl (.inl h)
    · exact .inl (.inr (.inl h))
    · exact .inl (.inr (.inr h))
    · exact .inr (.inl h)
    · exact .inr (.inr h)
  have apart:∀ c,c ∈ [L0,M0,EL0,h0,e0]→c ∈ [L1,M1,EL1,h1,e1]→False:=fun c p1 p2=>by
    rcases cut0 p1 with p1 | rfl | rfl
    · have b:=nil0 c p1
      rcases cut0 p2 with p2 | rfl | rfl
      · exact b.not (nil1 c p2) (Same.refl _)
      · exact b.not bh1 (sB.trans (s4.trans s5))
      · exact b.not be1 (sB.trans (s4.trans (s5.trans (s6.trans (s7.trans s8)))))
    · rcases cut0 p2 with p2 | rfl | rfl
      · exact (nil1 _ p2).not bh0 s4
      · exact bh0.not bh1 (Same.refl _)
      · exact bh0.not be1 (s6.trans (s7.trans s8))
    · rcases cut0 p2 with p2 | rfl | rfl
      · exact (nil1 _ p2).not be0 (s4.trans (s5.trans (s6.trans s7)))
      · exact bh1.not be0 s7
      · exact be0.not be1 (Same.refl _)
  have bRL:∃ Y,Born Y HR RL:=⟨fun _=>none,rfl,_,hRL2⟩
  obtain ⟨Y0,bRL⟩:=bRL
  have far:∀ c,c ∈ [RL,BL,HS,ES,PL]→(c ∉ [L0,M0,EL0,h0,e0])∧c ∉ [L1,M1,EL1,h1,e1]:=fun c hc=>by
    have two:∀ {X Y:Hp},Born X Y c→(∀ {X' Y':Hp},Born X' Y' c→True):=fun _ _ _ _=>trivial
    clear two
    rcases List.mem_cons.mp hc with rfl | hc
    · refine ⟨fun z => ?_,fun z => ?_⟩
      · rcases cut0 z with z | rfl | rfl
        · exact bRL.not (nil0 _ z) (Same.refl _)
        · exact bRL.not bh0 (sA.trans (sB.trans s4))
        · exact bRL.not be0 (sA.trans (sB.trans (s4.trans (s5.trans (s6.trans s7)))))
      · rcases cut0 z with z | rfl | rfl
        · exact bRL.not (nil1 _ z) sA
        · exact bRL.not bh1 (sA.trans (sB.trans (s4.trans s5)))
        · exact bRL.not be1 (sA.trans (sB.trans (s4.trans (s5.trans (s6.trans (s7.trans s8))))))
    rcases List.mem_cons.mp hc with rfl | hc
    · refine ⟨fun z => ?_,fun z => ?_⟩
      · rcases cut0 z with z | rfl | rfl
        · exact (nil0 _ z).not bBL sB
        · exact bBL.not bh0 (Same.refl _)
        · exact bBL.not be0 (s5.trans (s6.trans s7))
      · rcases cut0 z with z | rfl | rfl
        · exact (nil1 _ z).not bBL (Same.refl _)
        · exact bBL.not bh1 s5
        · exact bBL.not be1 (s5.trans (s6.trans (s7.trans s8)))
    rcases List.mem_cons.mp hc with rfl | hc
    · refine ⟨fun z => ?_,fun z => ?_⟩
      · rcases cut0 z with z | rfl | rfl
        · exact (nil0 _ z).not bHS (sB.trans (s4.trans (s5.trans s6)))
        · exact bh0.not bHS s6
        · exact bHS.not be0 (Same.refl _)
      · rcases cut0 z with z | rfl | rfl
        · exact (nil1 _ z).not bHS (s4.trans (s5.trans s6))
        · exact bh1.not bHS (Same.refl _)
        · exact bHS.not be1 s8
    rcases List.mem_cons.mp hc with rfl | hc
    · refine ⟨fun z => ?_,fun z => ?_⟩
      · rcases cut0 z with z | rfl | rfl
        · exact (nil0 _ z).not bES (sB.trans (s4.trans (s5.trans (s6.trans (s7.trans (s8.trans s9))))))
        · exact bh0.not bES (s6.trans (s7.trans (s8.trans s9)))
        · exact be0.not bES s9
      · rcases cut0 z with z | rfl | rfl
        · exact (nil1 _ z).not bES (s4.trans (s5.trans (s6.trans (s7.trans (s8.trans s9)))))
        · exact bh1.not bES (s7.trans (s8.trans s9))
        · exact be1.not bES (Same.refl _)
    · have e:=List.mem_singleton.mp hc
      subst e
      refine ⟨fun z => ?_,fun z => ?_⟩
      · rcases cut0 z with z | rfl | rfl
        · exact (nil0 _ z).not bPL cB
        · exact bh0.not bPL c6
        · exact be0.not bPL c9
      · rcases cut0 z with z | rfl | rfl
        · exact (nil1 _ z).not bPL c4
        · exact bh1.not bPL c7
        · exact be1.not bPL c10
  have pne:∀ c ∈ [RL,BL,HS,ES],PL≠c:=fun c hc e=>by
    subst e
    rcases List.mem_cons.mp hc with e | hc
    · exact (e ▸ bRL).not bPL cA
    rcases List.mem_cons.mp hc with e | hc
    · exact (e ▸ bBL).not bPL c5
    rcases List.mem_cons.mp hc with e | hc
    · exact (e ▸ bHS).not bPL c8
    · exact ((List.mem_singleton.mp hc) ▸ bES).not bPL c12
  -- the two sides
  let d:Nat→SD:=fun i=>if i=0 then ⟨bn0,dn0,bb0,dx0,L0,M0,EL0,h0,e0,r0⟩ else ⟨bn1,dn1,bb1,dx1,L1,M1,EL1,h1,e1,r1⟩
  have fin13:=c12.trans u3
  have f0:∀ {c:Addr} {X Y:Hp},Same H' X→Born X Y c→H' c=none:=fun s b=>s.free b.no
  have cR:=sR2
  have law0:LawAt P w CB CH H' X13 RL BL HS ES PL d (fun _ => []) (fun _ => []) 0 [.ref t1,.ref t2] [.name (wordZ sd 0),.num (sd % 10 ^ (60:Int).toNat)]:=by
    refine ⟨cR.trans (cA.trans u3),fun i hi => ?_,fun i hi => ?_,fun i j hi hj hij c hc z => ?_,fun i hi c hc => ?_,(cA.trans u3) _ _ hRL2,(c5.trans u3) _ _ hBL,(c8.trans u3) _ _ hHS,fin13 _ _ hES,hPL,f0 (cR.trans cA) bPL,?_,fun t ht => ?_,fun i hi c hc => ?_,pne⟩
    · rcases (show i=0∨i=1 by omega) with rfl | rfl
      · refine ⟨hB0.same (cB.trans u3),⟨[],(c6.trans u3) _ _ hh05,.nil⟩,⟨[],(c9.trans u3) _ _ he08,.nil⟩,fun e => ?_,fun e => ?_,fun e => ?_,fun e => ?_,fun e => ?_⟩
        · exact bL0.not ((show h0=L0 from e) ▸ bh0) (sB.trans s4)
        · exact bL0.not ((show e0=L0 from e) ▸ be0) (sB.trans (s4.trans (s5.trans (s6.trans s7))))
        · exact bE0.not ((show h0=EL0 from e) ▸ bh0) (sB.trans s4)
        · exact bE0.not ((show e0=EL0 from e) ▸ be0) (sB.trans (s4.trans (s5.trans (s6.trans s7))))
        · exact bh0.not ((show h0=e0 from e).symm ▸ be0) (s6.trans s7)
      · refine ⟨hB1.same (c4.trans u3),⟨[],(c7.trans u3) _ _ hh16,.nil⟩,⟨[],(c10.trans u3) _ _ he19,.nil⟩,fun e => ?_,fun e => ?_,fun e => ?_,fun e => ?_,fun e => ?_⟩
        · exact bL1.not ((show h1=L1 from e) ▸ bh1) (s4.trans s5)
        · exact bL1.not ((show e1=L1 from e) ▸ be1) (s4.trans (s5.trans (s6.trans (s7.trans s8))))
        · exact bE1.not ((show h1=EL1 from e) ▸ bh1) (s4.trans s5)
        · exact bE1.not ((show e1=EL1 from e) ▸ be1) (s4.trans (s5.trans (s6.trans (s7.trans s8))))
        · exact bh1.not ((show h1=e1 from e).symm ▸ be1) (s7.trans s8)
    · rcases (show i=0∨i=1 by omega) with rfl | rfl
      · exact sinv_nil b0'.1 b0'.2
      · exact sinv_nil b1'.1 b1'.2
    · rcases (show i=0∧j=1∨i=1∧j=0 by omega) with ⟨rfl,rfl⟩ | ⟨rfl,rfl⟩
      · exact apart c hc z
      · exact apart c z hc
    · rcases (show i=0∨i=1 by omega) with rfl | rfl
      · rcases cut0 (show c ∈ [L0,M0,EL0,h0,e0] from hc) with z | rfl | rfl
        · exact f0 cR (nil0 c z)
        · exact f0 (cR.trans (sA.trans (sB.trans s4))) bh0
        · exact f0 (cR.trans (sA.trans (sB.trans (s4.trans (s5.trans (s6.trans s7)))))) be0
      · rcases cut0 (show c ∈ [L1,M1,EL1,h1,e1] from hc) with z | rfl | rfl
        · exact f0 (cR.trans sA) (nil1 c z)
        · exact f0 (cR.trans (sA.trans (sB.trans (s4.trans s5)))) bh1
        · exact f0 (cR.trans (sA.trans (sB.trans (s4.trans (s5.trans (s6.trans (s7.trans s8))))))) be1
    · exact .cons (by rw [IsTr];exact ⟨t1,rfl,(u2.trans u3) _ _ q1⟩) (.cons (by rw [IsTr];exact ⟨t2,rfl,u3 _ _ q2⟩) .nil)
    · rcases List.mem_cons.mp ht with rfl | ht
      · exact ⟨by rw [Bin];trivial,by rw [T.depth];decide⟩
      · rw [List.mem_singleton.mp ht];exact ⟨by rw [Bin];trivial,by rw [T.depth];decide⟩
    · rcases (show i=0∨i=1 by omega) with rfl | rfl
      · exact (far c hc).1
      · exact (far c hc).2
  clear_value d
  clear apart far pne nil0 nil1 cut0 bRL bPL bES be1 be0 bHS bh1 bh0 bBL bL0 bM0 bE0 bL1 bM1 bE1 hB0 hB1 f0
  refine ⟨_,rfl,a,rfl,⟨_,law0.sm.seq hS⟩,?_⟩
  refine for_list (xs:=ns.map V.int) (LwI P w CB CH H' [some (.ref a),some (.int sd),some (.ref RL),some (.ref BL),some (.ref HS),some (.ref ES),some (.ref PL)] RL BL HS ES PL d) (LwI.mk none none none none none none _ _ _ _ rfl law0 (Nat.le_refl _) (Nat.succ_pos _)) (fun i σ Hx _ h=>by obtain ⟨_,_,_,_,_,_,_,_,_,_,_,h,_,_⟩:=h;exact h.sm.seq hS) ?_ (fun σ Hx _=>q _)
  rintro i x σ H1 hx ⟨x7,x8,x9,x10,x11,x12,ts,es,us,ps,rfl,la,len,len0⟩
  have hi:i < ns.length:=by have:=(List.getElem?_eq_some_iff.mp hx).1;rw [List.length_map] at this;exact this
  obtain ⟨c,rfl⟩:∃ c,x = .int c:=by
    rw [List.getElem?_map] at hx
    obtain ⟨c,_,e⟩:=Option.map_eq_some_iff.mp hx
    exact ⟨c,e.symm⟩
  dsimp only [gName]
  refine ⟨_,rfl,_,rfl,_,rfl,SpTree.mk c sd PL us ps rfl la.hPL la.pool la.g len0 (by omega) fun v t H2 s2 hT G => ?_⟩
  dsimp only [gName]
  refine rd_cut (fun σ Hx=>∃ us' ps', σ = [some (.ref a),some (.int sd),some (.ref RL),some (.ref BL),some (.ref HS),some (.ref ES),some (.ref PL),some (.int c),some v,x9,x10,x11,x12]∧LawAt P w CB CH H' Hx RL BL HS ES PL d ts es (2 * i) us' ps'∧IsTr Hx t v∧us'.length≤i+3∧0 < us'.length) ?_ (fun key => ?_)
  rotate_left
  · refine ⟨_,rfl,v,t,rfl,hT,G.bin,G.dep,fun H3 s3=>⟨_,_,rfl,rfl,_,rfl,iteD (fun lt => ?_) (fun _ => ?_)⟩⟩
    · have la3:=la.same (s2.trans s3)
      have hT3:=tr_same s3 hT
      refine ⟨_,rfl,.inl ⟨rfl,_,SqL.of la3.hPL⟩,_,rfl,PL,us,v,rfl,rfl,la3.hPL,small1000 (by omega),key _ _ ⟨us ++ [v],ps ++ [t],rfl,la3.push hT3 ⟨G.bin,by omega⟩,tr_keep (keep_put (o' := .lst (us ++ [v])) la3.hPL trivial) hT3,by rw [List.length_append];exact Nat.succ_le_succ len,by rw [List.length_append];exact Nat.succ_pos _⟩⟩
    · exact key _ _ ⟨us,ps,rfl,la.same (s2.trans s3),tr_same s3 hT,by omega,len0⟩
  clear la len len0 hT s2
  rintro σ2 H3 ⟨us,ps,rfl,la,hT,len,len0⟩
  obtain ⟨qn,eq,hq⟩:∃ qn:Nat,drawZ c 10133 2=(qn:Int)∧qn < 2:=by
    have a1:=drawZ_nn c 10133 (m:=2) (by decide)
    have a2:=drawZ_lt c 10133 (m:=2) (by decide)
    exact ⟨(drawZ c 10133 2).toNat,by omega,by omega⟩
  refine ⟨_,rfl,c,_,_,rfl,by decide,by decide,by decide,?_⟩
  rw [eq]
  dsimp only [gName]
  have lz:(0:Int) < (us.length:Int):=by omega
  obtain ⟨y,hy,hym⟩:=atI_ex (xs:=us) (drawZ_nn c 10141 lz) (drawZ_lt c 10141 lz)
  obtain ⟨p2,T2,G2⟩:∃ t,IsTr H3 t y∧TrG 4 t:=by
    obtain ⟨k,hk,hky⟩:=List.getElem_of_mem hym
    obtain ⟨t,ht1,hT⟩:=paired_at la.pool (show us[k]? = some y by rw [List.getElem?_eq_getElem hk,hky])
    exact ⟨t,hT,la.g t (List.mem_of_getElem? ht1)⟩
  have k0:=drawZ_nn c 10139 (m:=4) (by decide)
  have k3:=drawZ_lt c 10139 (m:=4) (by decide)
  refine ⟨_,rfl,c,_,_,rfl,by decide,by decide,by decide,_,rfl,_,rfl,_,rfl,_,rfl,PL,_,rfl,.inl (SqL.of la.hPL),c,_,_,rfl,by decide,by decide,lz,PL,us,_,y,rfl,rfl,SqL.of la.hPL,hy,_,rfl,10,12,rfl,rfl,⟨by decide,by decide,by decide⟩,_,_,rfl,rfl,(by decide:(0:Int) < 10 ^ (12:Int).toNat),_,_,rfl,rfl,(show 4≤sizeLine by decide),fun dd hdd => ?_⟩
  generalize drawZ c 10139 4=kk at k0 k3
  generalize 1+c % 10 ^ (12:Int).toNat=wt
  dsimp only [gName]
  have sD:=same_new hdd (.tup [.int kk,v,y,.int wt])
  have hd:=upd_same (H:=H3) (a:=dd) (o := .tup [.int kk,v,y,.int wt])
  have la4:=la.same sD
  have T14:=tr_same sD hT
  have T24:=tr_same sD T2
  generalize upd H3 dd (.tup [.int kk,v,y,.int wt])=H4 at sD hd la4 T14 T24 ⊢
  have z0:=drawZ_nn c 10151 (m:=2) (by decide)
  have z2:=drawZ_lt c 10151 (m:=2) (by decide)
  refine ⟨_,rfl,c,_,_,rfl,by decide,by decide,by decide,_,_,rfl,rfl,_,rfl,by omega,by omega,?_⟩
  obtain ⟨m,em,hm⟩:∃ m:Nat,(1+drawZ c 10151 2).toNat=m∧m≤2:=⟨_,rfl,by omega⟩
  rw [em]
  refine for_range (lo:=0) (n:=m) (LnI P w CB CH H' [some (.ref a),some (.int sd),some (.ref RL),some (.ref BL),some (.ref HS),some (.ref ES),some (.ref PL),some (.int c),some v,some (.int (qn:Int)),some (.ref dd)] RL BL HS ES PL dd d us ps (2 * i) [.int kk,v,y,.int wt] v y t p2) (LnI.mk x11 x12 ts es rfl la4 hd T14 T24) ?_ ?_
  · rintro j σ3 H5 hj ⟨y11,y12,ts,es,rfl,la,hd,T1,T2⟩
    dsimp only [gName]
    refine ⟨_,rfl,_,rfl,BL,_,_,_,rfl,rfl,SqL.of la.hBL,at2 (f:=fun i=>V.ref (d i).bn) rfl rfl hq,_,rfl,_,rfl,_,rfl,HS,_,_,_,rfl,rfl,SqL.of la.hHS,at2 (f:=fun i=>V.ref (d i).HL) rfl rfl hq,_,rfl,_,rfl,ES,_,_,_,rfl,rfl,SqL.of la.hES,at2 (f:=fun i=>V.ref (d i).EG) rfl rfl hq,_,rfl,_,rfl,RL,_,_,_,rfl,rfl,SqL.of la.hRL,at2 (f:=fun i=>V.int (d i).room) rfl rfl hq,SpAsked.mk (2 * i+j) (d qn) dd kk wt (ts qn) (es qn) v y t p2 rfl (la.sd qn hq) (la.iv qn hq) (by omega) hd k0 (by omega) T1 G T2 ⟨G2.bin,by have:=G2.dep;omega⟩ fun ts' es' H6 bt sd' iv'=>⟨_,rfl,iteF ?_⟩⟩
    have la6:=la.asked hq bt sd' iv'
    have kt:=la.tup hq bt
    have hd6:=kt _ _ hd
    have T16:=tr_keep kt T1
    have T26:=tr_keep kt T2
    generalize (fun j=>if j=qn then ts' else ts j)=tsN at la6
    generalize (fun j=>if j=qn then es' else es j)=esN at la6
    dsimp only [tNext]
    refine ⟨2,rfl,by decide,by decide,?_⟩
    refine for_range (lo:=0) (n:=2) (fun m σ Hx=>∃ y12, σ = [some (.ref a),some (.int sd),some (.ref RL),some (.ref BL),some (.ref HS),some (.ref ES),some (.ref PL),some (.int c),some v,some (.int (qn:Int)),some (.ref dd),some (.int (0+(j:Int))),y12]∧Same H6 Hx) ⟨_,rfl,Same.refl _⟩ ?_ ?_
    · rintro m' σ4 H7 hm' ⟨y12,rfl,s7⟩
      have ei:(0:Int)+(m':Int)=((m':Nat):Int):=by omega
      dsimp only [gName]
      have la7:=la6.same s7
      refine ⟨_,rfl,_,rfl,BL,_,_,_,rfl,rfl,SqL.of la7.hBL,(by rw [ei];exact at2 (f:=fun i=>V.ref (d i).bn) rfl rfl hm'),_,rfl,_,rfl,HS,_,_,_,rfl,rfl,SqL.of la7.hHS,(by rw [ei];exact at2 (f:=fun i=>V.ref (d i).HL) rfl rfl hm'),_,rfl,_,rfl,ES,_,_,_,rfl,rfl,SqL.of la7.hES,(by rw [ei];exact at2 (f:=fun i=>V.ref (d i).EG) rfl rfl hm'),_,rfl,rfl,_,rfl,iteD (fun _ => ?_) (fun _ => ?_)⟩
      · refine ⟨_,rfl,c,_,_,rfl,by decide,by decide,by decide,SpLook.mk (2 * i+j+1) (d m') _ (tsN m') (esN m') rfl (la7.sd m' hm') (la7.iv m' hm') fun H8 s8=>⟨_,rfl,iteF ⟨_,rfl,s7.trans s8⟩⟩⟩
      · exact SpLook.mk (2 * i+j+1) (d m') _ (tsN m') (esN m') rfl (la7.sd m' hm') (la7.iv m' hm') fun H8 s8=>⟨_,rfl,iteF ⟨_,rfl,s7.trans s8⟩⟩
    · rintro σ4 H7 ⟨y12,rfl,s7⟩
      exact LnI.mk (some (.int (0+(j:Int)))) y12 tsN esN rfl (la6.same s7) (s7 _ _ hd6) (tr_same s7 T16) (tr_same s7 T26)
  · rintro σ3 H5 ⟨y11,y12,ts,es,rfl,la,hd,T1,T2⟩
    exact LwI.mk _ _ _ _ _ _ ts es us ps rfl (la.up (by omega)) (by omega) len0
end

end K51
namespace K51
open PySem L2
theorem len_s {n:Nat} {us:List Value} (h:us.length=n+1):∃ v vs,us=v :: vs∧vs.length=n:=by cases us with | nil=>cases h | cons v vs=>exact ⟨v,vs,rfl,Nat.succ.inj h⟩
theorem len1_ {fd:FuncData} {ps:List Str} (h:∀ v0:Value,bindArgs fd ⟨[v0], []⟩=pure (ps.zip [v0])):∀ us:List Value,us.length=1→bindArgs fd ⟨us, []⟩=pure (ps.zip us):=fun us h0=>by obtain ⟨v0,us,rfl,h1⟩:=len_s h0;obtain rfl:=List.eq_nil_of_length_eq_zero h1;exact h v0
open PySem L2 Sw
theorem len2_ {fd:FuncData} {ps:List Str} (h:∀ v0 v1:Value,bindArgs fd ⟨[v0,v1], []⟩=pure (ps.zip [v0,v1])):∀ us:List Value,us.length=2→bindArgs fd ⟨us, []⟩=pure (ps.zip us):=fun us h0=>by obtain ⟨v0,us,rfl,h1⟩:=len_s h0;obtain ⟨v1,us,rfl,h2⟩:=len_s h1;obtain rfl:=List.eq_nil_of_length_eq_zero h2;exact h v0 v1
open PySem L2 Sw
theorem len3_ {fd:FuncData} {ps:List Str} (h:∀ v0 v1 v2:Value,bindArgs fd ⟨[v0,v1,v2], []⟩=pure (ps.zip [v0,v1,v2])):∀ us:List Value,us.length=3→bindArgs fd ⟨us, []⟩=pure (ps.zip us):=fun us h0=>by obtain ⟨v0,us,rfl,h1⟩:=len_s h0;obtain ⟨v1,us,rfl,h2⟩:=len_s h1;obtain ⟨v2,us,rfl,h3⟩:=len_s h2;obtain rfl:=List.eq_nil_of_length_eq_zero h3;exact h v0 v1 v2
open PySem L2 Sw
theorem len4_ {fd:FuncData} {ps:List Str} (h:∀ v0 v1 v2 v3:Value,bindArgs fd ⟨[v0,v1,v2,v3], []⟩=pure (ps.zip [v0,v1,v2,v3])):∀ us:List Value,us.length=4→bindArgs fd ⟨us, []⟩=pure (ps.zip us):=fun us h0=>by obtain ⟨v0,us,rfl,h1⟩:=len_s h0;obtain ⟨v1,us,rfl,h2⟩:=len_s h1;obtain ⟨v2,us,rfl,h3⟩:=len_s h2;obtain ⟨v3,us,rfl,h4⟩:=len_s h3;obtain rfl:=List.eq_nil_of_length_eq_zero h4;exact h v0 v1 v2 v3
open PySem L2 Sw
theorem len5_ {fd:FuncData} {ps:List Str} (h:∀ v0 v1 v2 v3 v4:Value,bindArgs fd ⟨[v0,v1,v2,v3,v4], []⟩=pure (ps.zip [v0,v1,v2,v3,v4])):∀ us:List Value,us.length=5→bindArgs fd ⟨us, []⟩=pure (ps.zip us):=fun us h0=>by obtain ⟨v0,us,rfl,h1⟩:=len_s h0;obtain ⟨v1,us,rfl,h2⟩:=len_s h1;obtain ⟨v2,us,rfl,h3⟩:=len_s h2;obtain ⟨v3,us,rfl,h4⟩:=len_s h3;obtain ⟨v4,us,rfl,h5⟩:=len_s h4;obtain rfl:=List.eq_nil_of_length_eq_zero h5;exact h v0 v1 v2 v3 v4
open PySem L2 Sw
theorem all_mk {l:PySem.W.OpenLaw} {w:World} {K:PySem.W.Frag} {h:Heap} {mg:Str→Option Value} {fa CB CH f0 f1 f2 f3 f4 f5 f6 f7 f8 f9 f10 f11 f12 f13 f14 f15 f16 f17 f18 f19 f20 f21 f22 f23 f24 c_Full c_NoTree c_NoRule c_NoRow c_Apart c_TooBig c_TooWide c_SameError:Addr} (X:K.In h) (G:h.Ns mainGlobals mg) (hfa:mg "law" = some (.ref fa))
    {od0 an0 od1 an1 od2 an2 od3 an3 od4 an4 od5 an5 od6 an6 od7 an7 od8 an8 od9 an9 od10 an10 od11 an11 od12 an12 od13 an13 od14 an14 od15 an15 od16 an16 od17 an17 od18 an18 od19 an19 od20 an20 od21 an21 od22 an22 od23 an23 od24 an24:Option Addr} {sl0 sl1 sl2 sl3 sl4 sl5 sl6 sl7 sl8 sl9 sl10 sl11 sl12 sl13 sl14 sl15 sl16 sl17 sl18 sl19 sl20 sl21 sl22 sl23 sl24:Array (Option Value)} {oc0 kV0 dc0 pm0 cd0 ct0 oc1 kV1 dc1 pm1 cd1 ct1 oc2 kV2 dc2 pm2 cd2 ct2 oc3 kV3 dc3 pm3 cd3 ct3 oc4 kV4 dc4 pm4 cd4 ct4 oc5 kV5 dc5 pm5 cd5 ct5 oc6 kV6 dc6 pm6 cd6 ct6 oc7 kV7 dc7 pm7 cd7 ct7 oc8 kV8 dc8 pm8 cd8 ct8 oc9 kV9 dc9 pm9 cd9 ct9 oc10 kV10 dc10 pm10 cd10 ct10 oc11 kV11 dc11 pm11 cd11 ct11 oc12 kV12 dc12 pm12 cd12 ct12 oc13 kV13 dc13 pm13 cd13 ct13 oc14 kV14 dc14 pm14 cd14 ct14 oc15 kV15 dc15 pm15 cd15 ct15 oc16 kV16 dc16 pm16 cd16 ct16 oc17 kV17 dc17 pm17 cd17 ct17 oc18 kV18 dc18 pm18 cd18 ct18 oc19 kV19 dc19 pm19 cd19 ct19 oc20 kV20 dc20 pm20 cd20 ct20 oc21 kV21 dc21 pm21 cd21 ct21 oc22 kV22 dc22 pm22 cd22 ct22 oc23 kV23 dc23 pm23 cd23 ct23 oc24 kV24 dc24 pm24 cd24 ct24:Value}
    {td1 td12:Addr} {tc1 tc12:Value} {tt1 tt12:Option Addr} {tn1 tn12:Nat} {ts1 ts12:Array (Option Value)} {ud12:Tok}
    (aC_Bank:PySem.W.nsIn K mainGlobals "Bank" = some (some (.ref CB)))
    (aC_Bench:PySem.W.nsIn K mainGlobals "Bench" = some (some (.ref CH)))
    (ai_Bank:PySem.W.findIn K (.ref CB) "__init__" = some (some (.ref f0)))
    (l0:K.lookup f0=some ⟨oc0,od0,.func (PySem.W.fnOf "__init__" "Bank.__init__" (defArgs s_init) (defBody s_init) (defScope s_init) .none kV0 dc0 pm0 an0 cd0 ct0),sl0⟩)
    (c0:PySem.W.codeIn K cd0 "Bank.__init__" = true)
    (k0:PySem.W.keepIn K (.ref f0)=true)
    (n0:PySem.W.isFn K (.ref f0)=true)
    (a1:PySem.W.findIn K (.ref CB) "put" = some (some (.ref f1)))
    (l1:K.lookup f1=some ⟨oc1,od1,.func (PySem.W.fnOf "put" "Bank.put" (defArgs s_put) (defBody s_put) (defScope s_put) (.ref td1) kV1 dc1 pm1 an1 cd1 ct1),sl1⟩)
    (t1:K.lookup td1=some ⟨tc1,tt1,.seq #[.none] tn1,ts1⟩)
    (c1:PySem.W.codeIn K cd1 "Bank.put" = true)
    (k1:PySem.W.keepIn K (.ref f1)=true)
    (n1:PySem.W.isFn K (.ref f1)=true)
    (a2:PySem.W.findIn K (.ref CB) "put_part" = some (some (.ref f2)))
    (l2:K.lookup f2=some ⟨oc2,od2,.func (PySem.W.fnOf "put_part" "Bank.put_part" (defArgs s_put_part) (defBody s_put_part) (defScope s_put_part) .none kV2 dc2 pm2 an2 cd2 ct2),sl2⟩)
    (c2:PySem.W.codeIn K cd2 "Bank.put_part" = true)
    (k2:PySem.W.keepIn K (.ref f2)=true)
    (n2:PySem.W.isFn K (.ref f2)=true)
    (a3:PySem.W.findIn K (.ref CB) "put_term" = some (some (.ref f3)))
    (l3:K.lookup f3=some ⟨oc3,od3,.func (PySem.W.fnOf "put_term" "Bank.put_term" (defArgs s_put_term) (defBody s_put_term) (defScope s_put_term) .none kV3 dc3 pm3 an3 cd3 ct3),sl3⟩)
    (c3:PySem.W.codeIn K cd3 "Bank.put_term" = true)
    (k3:PySem.W.keepIn K (.ref f3)=true)
    (n3:PySem.W.isFn K (.ref f3)=true)
    (a4:PySem.W.findIn K (.ref CB) "cut" = some (some (.ref f4)))
    (l4:K.lookup f4=some ⟨oc4,od4,.func (PySem.W.fnOf "cut" "Bank.cut" (defArgs s_cut) (defBody s_cut) (defScope s_cut) .none kV4 dc4 pm4 an4 cd4 ct4),sl4⟩)
    (c4:PySem.W.codeIn K cd4 "Bank.cut" = true)
    (k4:PySem.W.keepIn K (.ref f4)=true)
    (n4:PySem.W.isFn K (.ref f4)=true)
    (a5:PySem.W.nsIn K mainGlobals "mark" = some (some (.ref f5)))
    (l5:K.lookup f5=some ⟨oc5,od5,.func (PySem.W.fnOf "mark" "mark" (defArgs s_mark) (defBody s_mark) (defScope s_mark) .none kV5 dc5 pm5 an5 cd5 ct5),sl5⟩)
    (c5:PySem.W.codeIn K cd5 "mark" = true)
    (k5:PySem.W.keepIn K (.ref f5)=true)
    (a6:PySem.W.nsIn K mainGlobals "join_classes" = some (some (.ref f6)))
    (l6:K.lookup f6=some ⟨oc6,od6,.func (PySem.W.fnOf "join_classes" "join_classes" (defArgs s_join_classes) (defBody s_join_classes) (defScope s_join_classes) .none kV6 dc6 pm6 an6 cd6 ct6),sl6⟩)
    (c6:PySem.W.codeIn K cd6 "join_classes" = true)
    (k6:PySem.W.keepIn K (.ref f6)=true)
    (a7:PySem.W.nsIn K mainGlobals "join_like" = some (some (.ref f7)))
    (l7:K.lookup f7=some ⟨oc7,od7,.func (PySem.W.fnOf "join_like" "join_like" (defArgs s_join_like) (defBody s_join_like) (defScope s_join_like) .none kV7 dc7 pm7 an7 cd7 ct7),sl7⟩)
    (c7:PySem.W.codeIn K cd7 "join_like" = true)
    (k7:PySem.W.keepIn K (.ref f7)=true)
    (a8:PySem.W.nsIn K mainGlobals "closed" = some (some (.ref f8)))
    (l8:K.lookup f8=some ⟨oc8,od8,.func (PySem.W.fnOf "closed" "closed" (defArgs s_closed) (defBody s_closed) (defScope s_closed) .none kV8 dc8 pm8 an8 cd8 ct8),sl8⟩)
    (c8:PySem.W.codeIn K cd8 "closed" = true)
    (k8:PySem.W.keepIn K (.ref f8)=true)
    (ai_Bench:PySem.W.findIn K (.ref CH) "__init__" = some (some (.ref f9)))
    (l9:K.lookup f9=some ⟨oc9,od9,.func (PySem.W.fnOf "__init__" "Bench.__init__" (defArgs s_binit) (defBody s_binit) (defScope s_binit) .none kV9 dc9 pm9 an9 cd9 ct9),sl9⟩)
    (c9:PySem.W.codeIn K cd9 "Bench.__init__" = true)
    (k9:PySem.W.keepIn K (.ref f9)=true)
    (n9:PySem.W.isFn K (.ref f9)=true)
    (a10:PySem.W.findIn K (.ref CH) "put" = some (some (.ref f10)))
    (l10:K.lookup f10=some ⟨oc10,od10,.func (PySem.W.fnOf "put" "Bench.put" (defArgs s_bput) (defBody s_bput) (defScope s_bput) .none kV10 dc10 pm10 an10 cd10 ct10),sl10⟩)
    (c10:PySem.W.codeIn K cd10 "Bench.put" = true)
    (k10:PySem.W.keepIn K (.ref f10)=true)
    (n10:PySem.W.isFn K (.ref f10)=true)
    (a11:PySem.W.findIn K (.ref CH) "pair" = some (some (.ref f11)))
    (l11:K.lookup f11=some ⟨oc11,od11,.func (PySem.W.fnOf "pair" "Bench.pair" (defArgs s_pair) (defBody s_pair) (defScope s_pair) .none kV11 dc11 pm11 an11 cd11 ct11),sl11⟩)
    (c11:PySem.W.codeIn K cd11 "Bench.pair" = true)
    (k11:PySem.W.keepIn K (.ref f11)=true)
    (n11:PySem.W.isFn K (.ref f11)=true)
    (a12:PySem.W.findIn K (.ref CH) "tell" = some (some (.ref f12)))
    (l12:K.lookup f12=some ⟨oc12,od12,.func (PySem.W.fnOf "tell" "Bench.tell" (defArgs s_tell) (defBody s_tell) (defScope s_tell) (.ref td12) kV12 dc12 pm12 an12 cd12 ct12),sl12⟩)
    (t12:K.lookup td12=some ⟨tc12,tt12,.seq #[.int 1 ud12] tn12,ts12⟩)
    (c12:PySem.W.codeIn K cd12 "Bench.tell" = true)
    (k12:PySem.W.keepIn K (.ref f12)=true)
    (n12:PySem.W.isFn K (.ref f12)=true)
    (a13:PySem.W.nsIn K mainGlobals "leads_of" = some (some (.ref f13)))
    (l13:K.lookup f13=some ⟨oc13,od13,.func (PySem.W.fnOf "leads_of" "leads_of" (defArgs s_leads_of) (defBody s_leads_of) (defScope s_leads_of) .none kV13 dc13 pm13 an13 cd13 ct13),sl13⟩)
    (c13:PySem.W.codeIn K cd13 "leads_of" = true)
    (k13:PySem.W.keepIn K (.ref f13)=true)
    (a14:PySem.W.nsIn K mainGlobals "_law_draw" = some (some (.ref f14)))
    (l14:K.lookup f14=some ⟨oc14,od14,.func (PySem.W.fnOf "_law_draw" "_law_draw" (defArgs s_draw) (defBody s_draw) (defScope s_draw) .none kV14 dc14 pm14 an14 cd14 ct14),sl14⟩)
    (c14:PySem.W.codeIn K cd14 "_law_draw" = true)
    (k14:PySem.W.keepIn K (.ref f14)=true)
    (a15:PySem.W.nsIn K mainGlobals "_law_word" = some (some (.ref f15)))
    (l15:K.lookup f15=some ⟨oc15,od15,.func (PySem.W.fnOf "_law_word" "_law_word" (defArgs s_word) (defBody s_word) (defScope s_word) .none kV15 dc15 pm15 an15 cd15 ct15),sl15⟩)
    (c15:PySem.W.codeIn K cd15 "_law_word" = true)
    (k15:PySem.W.keepIn K (.ref f15)=true)
    (a16:PySem.W.nsIn K mainGlobals "_law_tree" = some (some (.ref f16)))
    (l16:K.lookup f16=some ⟨oc16,od16,.func (PySem.W.fnOf "_law_tree" "_law_tree" (defArgs s_tree) (defBody s_tree) (defScope s_tree) .none kV16 dc16 pm16 an16 cd16 ct16),sl16⟩)
    (c16:PySem.W.codeIn K cd16 "_law_tree" = true)
    (k16:PySem.W.keepIn K (.ref f16)=true)
    (a17:PySem.W.nsIn K mainGlobals "_law_depth" = some (some (.ref f17)))
    (l17:K.lookup f17=some ⟨oc17,od17,.func (PySem.W.fnOf "_law_depth" "_law_depth" (defArgs s_depth) (defBody s_depth) (defScope s_depth) .none kV17 dc17 pm17 an17 cd17 ct17),sl17⟩)
    (c17:PySem.W.codeIn K cd17 "_law_depth" = true)
    (k17:PySem.W.keepIn K (.ref f17)=true)
    (a18:PySem.W.nsIn K mainGlobals "_law_put" = some (some (.ref f18)))
    (l18:K.lookup f18=some ⟨oc18,od18,.func (PySem.W.fnOf "_law_put" "_law_put" (defArgs s_lput) (defBody s_lput) (defScope s_lput) .none kV18 dc18 pm18 an18 cd18 ct18),sl18⟩)
    (c18:PySem.W.codeIn K cd18 "_law_put" = true)
    (k18:PySem.W.keepIn K (.ref f18)=true)
    (a19:PySem.W.nsIn K mainGlobals "_law_number" = some (some (.ref f19)))
    (l19:K.lookup f19=some ⟨oc19,od19,.func (PySem.W.fnOf "_law_number" "_law_number" (defArgs s_number) (defBody s_number) (defScope s_number) .none kV19 dc19 pm19 an19 cd19 ct19),sl19⟩)
    (c19:PySem.W.codeIn K cd19 "_law_number" = true)
    (k19:PySem.W.keepIn K (.ref f19)=true)
    (a20:PySem.W.nsIn K mainGlobals "_law_do" = some (some (.ref f20)))
    (l20:K.lookup f20=some ⟨oc20,od20,.func (PySem.W.fnOf "_law_do" "_law_do" (defArgs s_do) (defBody s_do) (defScope s_do) .none kV20 dc20 pm20 an20 cd20 ct20),sl20⟩)
    (c20:PySem.W.codeIn K cd20 "_law_do" = true)
    (k20:PySem.W.keepIn K (.ref f20)=true)
    (a21:PySem.W.nsIn K mainGlobals "_law_full" = some (some (.ref f21)))
    (l21:K.lookup f21=some ⟨oc21,od21,.func (PySem.W.fnOf "_law_full" "_law_full" (defArgs s_full) (defBody s_full) (defScope s_full) .none kV21 dc21 pm21 an21 cd21 ct21),sl21⟩)
    (c21:PySem.W.codeIn K cd21 "_law_full" = true)
    (k21:PySem.W.keepIn K (.ref f21)=true)
    (a22:PySem.W.nsIn K mainGlobals "_law_asked" = some (some (.ref f22)))
    (l22:K.lookup f22=some ⟨oc22,od22,.func (PySem.W.fnOf "_law_asked" "_law_asked" (defArgs s_asked) (defBody s_asked) (defScope s_asked) .none kV22 dc22 pm22 an22 cd22 ct22),sl22⟩)
    (c22:PySem.W.codeIn K cd22 "_law_asked" = true)
    (k22:PySem.W.keepIn K (.ref f22)=true)
    (a23:PySem.W.nsIn K mainGlobals "_law_look" = some (some (.ref f23)))
    (l23:K.lookup f23=some ⟨oc23,od23,.func (PySem.W.fnOf "_law_look" "_law_look" (defArgs s_look) (defBody s_look) (defScope s_look) .none kV23 dc23 pm23 an23 cd23 ct23),sl23⟩)
    (c23:PySem.W.codeIn K cd23 "_law_look" = true)
    (k23:PySem.W.keepIn K (.ref f23)=true)
    (a24:PySem.W.nsIn K mainGlobals "law" = some (some (.ref f24)))
    (l24:K.lookup f24=some ⟨oc24,od24,.func (PySem.W.fnOf "law" "law" (defArgs s_law) (defBody s_law) (defScope s_law) .none kV24 dc24 pm24 an24 cd24 ct24),sl24⟩)
    (c24:PySem.W.codeIn K cd24 "law" = true)
    (k24:PySem.W.keepIn K (.ref f24)=true)
    (rMk_Bank:PySem.W.makesIn K CB=true)
    (rKp_Bank:PySem.W.keepIn K (.ref CB)=true)
    (rPg_Bank:PySem.W.plainGet K CB Str.empty=true)
    (rHd_Bank:PySem.W.hasDictIn K CB=true)
    (rPo_Bank:PySem.W.plainOver K CB=true)
    (rSa_Bank:PySem.W.findIn K (.ref CB) "__setattr__" = some (some (.builtin "object.__setattr__")))
    (nA_Bank_room:PySem.W.findIn K (.ref CB) "room" = some none)
    (nA_Bank_terms:PySem.W.findIn K (.ref CB) "terms" = some none)
    (nA_Bank_places:PySem.W.findIn K (.ref CB) "places" = some none)
    (rMk_Bench:PySem.W.makesIn K CH=true)
    (rKp_Bench:PySem.W.keepIn K (.ref CH)=true)
    (rPg_Bench:PySem.W.plainGet K CH Str.empty=true)
    (rHd_Bench:PySem.W.hasDictIn K CH=true)
    (rPo_Bench:PySem.W.plainOver K CH=true)
    (rSa_Bench:PySem.W.findIn K (.ref CH) "__setattr__" = some (some (.builtin "object.__setattr__")))
    (nA_Bench_bank:PySem.W.findIn K (.ref CH) "bank" = some none)
    (nA_Bench_edges:PySem.W.findIn K (.ref CH) "edges" = some none)
    (x_Full:PySem.W.nsIn K mainGlobals "Full" = some (some (.ref c_Full)))
    (xEx_Full:PySem.W.excIn K c_Full [.type "ValueError",.type "Exception",.type "BaseException",.type "object"] "ValueError.__new__" = true)
    (x_NoTree:PySem.W.nsIn K mainGlobals "NoTree" = some (some (.ref c_NoTree)))
    (x_NoRule:PySem.W.nsIn K mainGlobals "NoRule" = some (some (.ref c_NoRule)))
    (x_NoRow:PySem.W.nsIn K mainGlobals "NoRow" = some (some (.ref c_NoRow)))
    (x_Apart:PySem.W.nsIn K mainGlobals "Apart" = some (some (.ref c_Apart)))
    (x_TooBig:PySem.W.nsIn K mainGlobals "TooBig" = some (some (.ref c_TooBig)))
    (x_TooWide:PySem.W.nsIn K mainGlobals "TooWide" = some (some (.ref c_TooWide)))
    (x_SameError:PySem.W.nsIn K mainGlobals "SameError" = some (some (.ref c_SameError)))
    (xCl:PySem.W.findIn K (.ref c_Full) "__class__" = some (some (.builtin "object.__class__")))
    (xGa:PySem.W.findIn K (.ref c_Full) "__getattribute__" = some (some (.builtin "BaseException.__getattribute__")))
    (xGn:PySem.W.findIn K (.ref c_Full) "__getattr__" = some none)
    (iVE:PySem.W.nsIn K mainGlobals "ValueError" = some none)
    (i_Full:PySem.W.kitOne K (.ref c_Full) (.ref c_Full)=some true)
    (i_ValueError:PySem.W.kitOne K (.ref c_Full) (.type "ValueError")=some true)
    (i_NoTree:PySem.W.kitOne K (.ref c_Full) (.ref c_NoTree)=some false)
    (i_NoRule:PySem.W.kitOne K (.ref c_Full) (.ref c_NoRule)=some false)
    (i_NoRow:PySem.W.kitOne K (.ref c_Full) (.ref c_NoRow)=some false)
    (i_Apart:PySem.W.kitOne K (.ref c_Full) (.ref c_Apart)=some false)
    (i_TooBig:PySem.W.kitOne K (.ref c_Full) (.ref c_TooBig)=some false)
    (i_TooWide:PySem.W.kitOne K (.ref c_Full) (.ref c_TooWide)=some false)
    (i_SameError:PySem.W.kitOne K (.ref c_Full) (.ref c_SameError)=some true)
    (m_Full:PySem.W.exmOne K (.ref c_Full) (.ref c_Full)=some true)
    (m_SameError:PySem.W.exmOne K (.ref c_Full) (.ref c_SameError)=some true)
    (z0:PySem.W.nsIn K mainGlobals "len" = some none)
    (z1:PySem.W.nsIn K mainGlobals "min" = some none)
    (z2:PySem.W.nsIn K mainGlobals "max" = some none)
    (z3:PySem.W.nsIn K mainGlobals "sum" = some none)
    (z4:PySem.W.nsIn K mainGlobals "range" = some none)
    (z5:PySem.W.nsIn K mainGlobals "enumerate" = some none)
    (z6:PySem.W.nsIn K mainGlobals "isinstance" = some none)
    (z7:PySem.W.nsIn K mainGlobals "tuple" = some none)
    (z8:PySem.W.nsIn K mainGlobals "int" = some none)
    (z9:PySem.W.nsIn K mainGlobals "bool" = some none)
    (z10:PySem.W.nsIn K mainGlobals "str" = some none)
    (z11:PySem.W.nsIn K mainGlobals "list" = some none) :
    ∃ fd:FuncData,(∀ (s:Shared) (v:Value),BindsTo s fd ⟨[v], []⟩ [("_law_script",v)])∧∀ base:Heap,K.In base→base.Ns mainGlobals mg→FnOk l.prog w K mg base CX0 13 fa fd ["_law_script"] (spLaw K):=by
  have e:=hfa.symm.trans (PySem.W.mg_of X G a24)
  cases e
  have B:Blt mg:=⟨PySem.W.mg_none_of X G z0,PySem.W.mg_none_of X G z1,PySem.W.mg_none_of X G z2,PySem.W.mg_none_of X G z3,PySem.W.mg_none_of X G z4,PySem.W.mg_none_of X G z5,PySem.W.mg_none_of X G z6,PySem.W.mg_none_of X G z7,PySem.W.mg_none_of X G z8,PySem.W.mg_none_of X G z9,PySem.W.mg_none_of X G z10,PySem.W.mg_none_of X G z11⟩
  have cls_Bank:Cls K CB:=⟨rPg_Bank,rHd_Bank,rPo_Bank,rSa_Bank⟩
  have cls_Bench:Cls K CH:=⟨rPg_Bench,rHd_Bench,rPo_Bench,rSa_Bench⟩
  have oFull:Exc K mg "Full" c_Full:=⟨PySem.W.mg_of X G x_Full,xEx_Full⟩
  have Y:ExcsF K mg c_NoTree c_NoRule c_NoRow c_Full c_Apart c_TooBig c_TooWide c_SameError := { e_NoTree:=PySem.W.mg_of X G x_NoTree,e_NoRule:=PySem.W.mg_of X G x_NoRule,e_NoRow:=PySem.W.mg_of X G x_NoRow,e_Full:=PySem.W.mg_of X G x_Full,e_Apart:=PySem.W.mg_of X G x_Apart,e_TooBig:=PySem.W.mg_of X G x_TooBig,e_TooWide:=PySem.W.mg_of X G x_TooWide,e_SameError:=PySem.W.mg_of X G x_SameError,b_ValueError:=PySem.W.mg_none_of X G iVE,zFull:=⟨xCl,xGa,xGn⟩,i_ValueError:=i_ValueError,i_NoTree:=i_NoTree,i_NoRule:=i_NoRule,i_NoRow:=i_NoRow,i_Full:=i_Full,i_Apart:=i_Apart,i_TooBig:=i_TooBig,i_TooWide:=i_TooWide,i_SameError:=i_SameError,m_Full:=m_Full,m_SameError:=m_SameError }
  have F_init:=fun_mk (st:=s_init) l0 c0 k0
  have D_init_Bank:DefC K mg "Bank" CB "Bank.__init__" s_init ["self", "room"]:=⟨_,_,F_init,PySem.W.mg_of X G aC_Bank,⟨rMk_Bank,ai_Bank,n0,rKp_Bank⟩,F_init.binds fun _ _ _ _ _ _ us hl=>len2_ (fun _ _=>rfl) us hl⟩
  have D_put:DefMd K CB "put" "Bank.put" s_put ["self", "pattern", "binds"] [.non]:=by
    refine ⟨f1,_, [.none],⟨⟨_,_,_,_,_,_,_,_,_,_,rfl,l1,c1⟩⟩,⟨a1,n1,k1⟩,?_,.cons rfl (.nil)⟩
    · intro s us KX hl
      have hl2:us.length=2:=by simpa using hl
      match us,hl2 with
      | [u0,u1],_=>exact PySem.W.binds_K KX rfl t1 rfl rfl rfl
  have F_put_part:=fun_mk (st:=s_put_part) l2 c2 k2
  have D_put_part:DefM K CB "put_part" "Bank.put_part" s_put_part ["self", "pattern", "binds"]:=⟨_,_,F_put_part,⟨a2,n2,k2⟩,F_put_part.binds fun _ _ _ _ _ _ us hl=>len3_ (fun _ _ _=>rfl) us hl⟩
  have F_put_term:=fun_mk (st:=s_put_term) l3 c3 k3
  have D_put_term:DefM K CB "put_term" "Bank.put_term" s_put_term ["self", "term"]:=⟨_,_,F_put_term,⟨a3,n3,k3⟩,F_put_term.binds fun _ _ _ _ _ _ us hl=>len2_ (fun _ _=>rfl) us hl⟩
  have F_cut:=fun_mk (st:=s_cut) l4 c4 k4
  have D_cut:DefM K CB "cut" "Bank.cut" s_cut ["self", "many"]:=⟨_,_,F_cut,⟨a4,n4,k4⟩,F_cut.binds fun _ _ _ _ _ _ us hl=>len2_ (fun _ _=>rfl) us hl⟩
  have F_mark:=fun_mk (st:=s_mark) l5 c5 k5
  have D_mark:Def K mg "mark" s_mark ["term", "leads"]:=⟨_,_,F_mark,PySem.W.mg_of X G a5,F_mark.binds fun _ _ _ _ _ _ us hl=>len2_ (fun _ _=>rfl) us hl⟩
  have F_join_classes:=fun_mk (st:=s_join_classes) l6 c6 k6
  have D_join_classes:Def K mg "join_classes" s_join_classes ["leads", "a", "b"]:=⟨_,_,F_join_classes,PySem.W.mg_of X G a6,F_join_classes.binds fun _ _ _ _ _ _ us hl=>len3_ (fun _ _ _=>rfl) us hl⟩
  have F_join_like:=fun_mk (st:=s_join_like) l7 c7 k7
  have D_join_like:Def K mg "join_like" s_join_like ["terms", "leads"]:=⟨_,_,F_join_like,PySem.W.mg_of X G a7,F_join_like.binds fun _ _ _ _ _ _ us hl=>len2_ (fun _ _=>rfl) us hl⟩
  have F_closed:=fun_mk (st:=s_closed) l8 c8 k8
  have D_closed:Def K mg "closed" s_closed ["terms", "edges"]:=⟨_,_,F_closed,PySem.W.mg_of X G a8,F_closed.binds fun _ _ _ _ _ _ us hl=>len2_ (fun _ _=>rfl) us hl⟩
  have F_binit:=fun_mk (st:=s_binit) l9 c9 k9
  have D_init_Bench:DefC K mg "Bench" CH "Bench.__init__" s_binit ["self", "room"]:=⟨_,_,F_binit,PySem.W.mg_of X G aC_Bench,⟨rMk_Bench,ai_Bench,n9,rKp_Bench⟩,F_binit.binds fun _ _ _ _ _ _ us hl=>len2_ (fun _ _=>rfl) us hl⟩
  have F_bput:=fun_mk (st:=s_bput) l10 c10 k10
  have D_bput:DefM K CH "put" "Bench.put" s_bput ["self", "tree"]:=⟨_,_,F_bput,⟨a10,n10,k10⟩,F_bput.binds fun _ _ _ _ _ _ us hl=>len2_ (fun _ _=>rfl) us hl⟩
  have F_pair:=fun_mk (st:=s_pair) l11 c11 k11
  have D_pair:DefM K CH "pair" "Bench.pair" s_pair ["self", "one", "other"]:=⟨_,_,F_pair,⟨a11,n11,k11⟩,F_pair.binds fun _ _ _ _ _ _ us hl=>len3_ (fun _ _ _=>rfl) us hl⟩
  have D_tell:DefM4 K CH "tell" "Bench.tell" s_tell ["self", "one", "other", "weight"] [.int 1] ["weight"]:=by
    refine ⟨f12,_, [.int 1 ud12],⟨⟨_,_,_,_,_,_,_,_,_,_,rfl,l12,c12⟩⟩,⟨a12,n12,k12⟩,?_,.cons ⟨_,rfl⟩ (.nil),?_,?_⟩
    · intro s us KX hl
      have hl2:us.length=3:=by simpa using hl
      match us,hl2 with
      | [u0,u1,u2],_=>exact PySem.W.binds_K KX rfl t12 rfl rfl rfl
    · intro s us KX hl
      have hl2:us.length=4:=by simpa using hl
      match us,hl2 with
      | [u0,u1,u2,u3],_=>exact PySem.W.binds_K KX rfl t12 rfl rfl rfl
    · refine ⟨fun s us ws KX hz => ?_,g31_rel⟩
      obtain ⟨a,b,c,d,rfl,rfl⟩:=g31_len hz
      exact PySem.W.binds_K KX rfl t12 rfl rfl rfl
  have F_leads_of:=fun_mk (st:=s_leads_of) l13 c13 k13
  have D_leads_of:Def K mg "leads_of" s_leads_of ["bench"]:=⟨_,_,F_leads_of,PySem.W.mg_of X G a13,F_leads_of.binds fun _ _ _ _ _ _ us hl=>len1_ (fun _=>rfl) us hl⟩
  have F_draw:=fun_mk (st:=s_draw) l14 c14 k14
  have D_draw:Def K mg "_law_draw" s_draw ["_law_cell", "_law_prime", "_law_many"]:=⟨_,_,F_draw,PySem.W.mg_of X G a14,F_draw.binds fun _ _ _ _ _ _ us hl=>len3_ (fun _ _ _=>rfl) us hl⟩
  have F_word:=fun_mk (st:=s_word) l15 c15 k15
  have D_word:Def K mg "_law_word" s_word ["_law_k", "_law_cell"]:=⟨_,_,F_word,PySem.W.mg_of X G a15,F_word.binds fun _ _ _ _ _ _ us hl=>len2_ (fun _ _=>rfl) us hl⟩
  have F_tree:=fun_mk (st:=s_tree) l16 c16 k16
  have D_tree:Def K mg "_law_tree" s_tree ["_law_cell", "_law_seed", "_law_pool"]:=⟨_,_,F_tree,PySem.W.mg_of X G a16,F_tree.binds fun _ _ _ _ _ _ us hl=>len3_ (fun _ _ _=>rfl) us hl⟩
  have F_depth:=fun_mk (st:=s_depth) l17 c17 k17
  have D_depth:Def K mg "_law_depth" s_depth ["_law_tree_here"]:=⟨_,_,F_depth,PySem.W.mg_of X G a17,F_depth.binds fun _ _ _ _ _ _ us hl=>len1_ (fun _=>rfl) us hl⟩
  have F_lput:=fun_mk (st:=s_lput) l18 c18 k18
  have D_lput:Def K mg "_law_put" s_lput ["_law_held", "_law_pattern", "_law_binds"]:=⟨_,_,F_lput,PySem.W.mg_of X G a18,F_lput.binds fun _ _ _ _ _ _ us hl=>len3_ (fun _ _ _=>rfl) us hl⟩
  have F_number:=fun_mk (st:=s_number) l19 c19 k19
  have D_number:Def K mg "_law_number" s_number ["_law_found", "_law_due"]:=⟨_,_,F_number,PySem.W.mg_of X G a19,F_number.binds fun _ _ _ _ _ _ us hl=>len2_ (fun _ _=>rfl) us hl⟩
  have F_do:=fun_mk (st:=s_do) l20 c20 k20
  have D_do:Def K mg "_law_do" s_do ["_law_bench", "_law_deed"]:=⟨_,_,F_do,PySem.W.mg_of X G a20,F_do.binds fun _ _ _ _ _ _ us hl=>len2_ (fun _ _=>rfl) us hl⟩
  have F_full:=fun_mk (st:=s_full) l21 c21 k21
  have D_full:Def K mg "_law_full" s_full ["_law_bench", "_law_deed", "_law_by_base"]:=⟨_,_,F_full,PySem.W.mg_of X G a21,F_full.binds fun _ _ _ _ _ _ us hl=>len3_ (fun _ _ _=>rfl) us hl⟩
  have F_asked:=fun_mk (st:=s_asked) l22 c22 k22
  have D_asked:Def K mg "_law_asked" s_asked ["_law_bench", "_law_deed", "_law_held", "_law_edges", "_law_room"]:=⟨_,_,F_asked,PySem.W.mg_of X G a22,F_asked.binds fun _ _ _ _ _ _ us hl=>len5_ (fun _ _ _ _ _=>rfl) us hl⟩
  have F_look:=fun_mk (st:=s_look) l23 c23 k23
  have D_look:Def K mg "_law_look" s_look ["_law_bench", "_law_held", "_law_edges", "_law_order"]:=⟨_,_,F_look,PySem.W.mg_of X G a23,F_look.binds fun _ _ _ _ _ _ us hl=>len4_ (fun _ _ _ _=>rfl) us hl⟩
  have F_law:=fun_mk (st:=s_law) l24 c24 k24
  refine ⟨PySem.W.fnOf "law" "law" (defArgs s_law) (defBody s_law) (defScope s_law) .none kV24 dc24 pm24 an24 cd24 ct24,fun s v => .of_eq rfl,fun base _ _ => ?_⟩
  have Z:TopBk K mg CB c_Full:=⟨cls_Bank,nA_Bank_room,nA_Bank_terms,nA_Bank_places,oFull⟩
  have Yh:TopBh K CH:=⟨cls_Bench,nA_Bench_bank,nA_Bench_edges⟩
  have h_init:=ok_init (P:=l.prog) (w:=w) (base:=base) Z D_init_Bank
  have h_put_term:=ok_put_term (P:=l.prog) (w:=w) (base:=base) B Z D_put_term
  have h_put_part:=ok_put_part B Z h_put_term D_put_part 5
  have h_cutN:=ok_cutN (P:=l.prog) (w:=w) (base:=base) B Z D_cut
  have h_put:=ok_putE B Z Y.m_Full h_put_part h_cutN D_put
  have h_mark:=ok_mark (P:=l.prog) (w:=w) (base:=base) B D_mark
  have h_join_classes:=ok_join_classes (P:=l.prog) (w:=w) (base:=base) B D_join_classes
  have h_join_like:=ok_join_like B h_mark h_join_classes D_join_like
  have h_closed:=ok_closed B h_join_classes h_join_like D_closed
  have h_binit:=ok_binit Yh h_init D_init_Bench
  have h_bput:=ok_bput Z Yh h_put D_bput
  have h_pair:=ok_pair B Z Yh Y.m_Full h_put h_cutN D_pair
  have h_tell:=ok_tell B Z Yh h_pair D_tell
  have h_leads_of:=ok_leads_of Z Yh h_closed D_leads_of
  have h_draw:=ok_draw (P:=l.prog) (w:=w) (mg:=mg) (base:=base) D_draw
  have h_word:=ok_word B h_draw D_word
  have h_tree:=ok_tree B h_draw h_word D_tree
  have h_depth:=ok_depth (P:=l.prog) (w:=w) (base:=base) B D_depth 5
  have h_lput:=ok_lput (P:=l.prog) (w:=w) (base:=base) B D_lput 5
  have h_number:=ok_number (P:=l.prog) (w:=w) (base:=base) B D_number
  have h_do:=ok_do Yh h_bput h_pair h_tell D_do
  have h_full:=ok_full B oFull Y h_do D_full
  have h_asked:=ok_asked B h_lput h_number h_full h_do D_asked
  have h_look:=ok_look B Z Yh h_leads_of h_closed D_look
  exact ok_law B h_draw h_word h_tree h_depth h_binit h_asked h_look F_law
theorem walk {l:PySem.W.OpenLaw} {q:Program} {loose:List Str} {XP:(Str→Option Value)→Heap→Prop} {YP:World→Heap→Prop} {d:DefRec} {K:Params→PySem.W.Frag} (hn:l.most=some 63) (hdf:d.params.defaults = [])
    (hY:∀ (w:World) (h:Heap),YP w h→(K w.params).In h)
    (F:∀ (w:World) (mg:Str→Option Value) (fa:Addr) (h:Heap),(K w.params).In h→h.Ns mainGlobals mg→mg d.name=some (.ref fa) →
      ∃ fd:FuncData,(∀ (s:Shared) (u:Value),BindsTo s fd ⟨[u], []⟩ [("_law_script",u)])∧∀ base:Heap,(K w.params).In base→base.Ns mainGlobals mg→FnOk l.prog w (K w.params) mg base CX0 13 fa fd ["_law_script"] (spLaw (K w.params))) :
    PySem.W.WalkO q loose XP YP l.row.toRowW d [] (fun f vs=>PySem.call f vs) :=
  L2.walk_ofB (n:=63) (k:=13) (x := "_law_script") (CX:=fun _=>CX0) (sp:=fun w=>spLaw (K w.params)) hn (by decide) hdf ⟨rfl,by decide,by decide⟩ hY F (fun _ _ a ns hl hb hS=>⟨a,ns,rfl,hS,hl,hb,fun _=>rfl⟩) fun _ _ _ _ _ z=>z
end K51
open PySem PySem.W PyProof.Rows
set_option maxRecDepth 100000 in
set_option maxHeartbeats 0 in
theorem PySem.Challenge.cw_samewise_k51_put_pair_tell_holds : PySem.Challenge.rw_samewise_k51_put_pair_tell.Holds := by
  refine KHd.top ?_
  k_fill
  refine K51.walk (l:=PySem.Challenge.rw_samewise_k51_put_pair_tell) rfl rfl (fun w h Y=>PySem.W.kIn_of Y) ?F
  case F =>
    intro w mg fa h KX G hmg
    refine' K51.all_mk KX G hmg ?aC_Bank ?aC_Bench ?ai_Bank ?l0 ?c0 ?k0 ?n0 ?a1 ?l1 ?t1 ?c1 ?k1 ?n1 ?a2 ?l2 ?c2 ?k2 ?n2 ?a3 ?l3 ?c3 ?k3 ?n3 ?a4 ?l4 ?c4 ?k4 ?n4 ?a5 ?l5 ?c5 ?k5 ?a6 ?l6 ?c6 ?k6 ?a7 ?l7 ?c7 ?k7 ?a8 ?l8 ?c8 ?k8 ?ai_Bench ?l9 ?c9 ?k9 ?n9 ?a10 ?l10 ?c10 ?k10 ?n10 ?a11 ?l11 ?c11 ?k11 ?n11 ?a12 ?l12 ?t12 ?c12 ?k12 ?n12 ?a13 ?l13 ?c13 ?k13 ?a14 ?l14 ?c14 ?k14 ?a15 ?l15 ?c15 ?k15 ?a16 ?l16 ?c16 ?k16 ?a17 ?l17 ?c17 ?k17 ?a18 ?l18 ?c18 ?k18 ?a19 ?l19 ?c19 ?k19 ?a20 ?l20 ?c20 ?k20 ?a21 ?l21 ?c21 ?k21 ?a22 ?l22 ?c22 ?k22 ?a23 ?l23 ?c23 ?k23 ?a24 ?l24 ?c24 ?k24 ?rMk_Bank ?rKp_Bank ?rPg_Bank ?rHd_Bank ?rPo_Bank ?rSa_Bank ?nA_Bank_room ?nA_Bank_terms ?nA_Bank_places ?rMk_Bench ?rKp_Bench ?rPg_Bench ?rHd_Bench ?rPo_Bench ?rSa_Bench ?nA_Bench_bank ?nA_Bench_edges ?x_Full ?xEx_Full ?x_NoTree ?x_NoRule ?x_NoRow ?x_Apart ?x_TooBig ?x_TooWide ?x_SameError ?xCl ?xGa ?xGn ?iVE ?i_Full ?i_ValueError ?i_NoTree ?i_NoRule ?i_NoRow ?i_Apart ?i_TooBig ?i_TooWide ?i_SameError ?m_Full ?m_SameError ?z0 ?z1 ?z2 ?z3 ?z4 ?z5 ?z6 ?z7 ?z8 ?z9 ?z10 ?z11
    (case aC_Bank=>k_is)
    (case aC_Bench=>k_is)
    (case ai_Bank=>k_is)
    (case l0=>k_is)
    (case c0=>k_is)
    (case k0=>k_is)
    (case n0=>k_is)
    (case a1=>k_is)
    (case l1=>k_is)
    (case t1=>k_is)
    (case c1=>k_is)
    (case k1=>k_is)
    (case n1=>k_is)
    (case a2=>k_is)
    (case l2=>k_is)
    (case c2=>k_is)
    (case k2=>k_is)
    (case n2=>k_is)
    (case a3=>k_is)
    (case l3=>k_is)
    (case c3=>k_is)
    (case k3=>k_is)
    (case n3=>k_is)
    (case a4=>k_is)
    (case l4=>k_is)
    (case c4=>k_is)
    (case k4=>k_is)
    (case n4=>k_is)
    (case a5=>k_is)
    (case l5=>k_is)
    (case c5=>k_is)
    (case k5=>k_is)
    (case a6=>k_is)
    (case l6=>k_is)
    (case c6=>k_is)
    (case k6=>k_is)
    (case a7=>k_is)
    (case l7=>k_is)
    (case c7=>k_is)
    (case k7=>k_is)
    (case a8=>k_is)
    (case l8=>k_is)
    (case c8=>k_is)
    (case k8=>k_is)
    (case ai_Bench=>k_is)
    (case l9=>k_is)
    (case c9=>k_is)
    (case k9=>k_is)
    (case n9=>k_is)
    (case a10=>k_is)
    (case l10=>k_is)
    (case c10=>k_is)
    (case k10=>k_is)
    (case n10=>k_is)
    (case a11=>k_is)
    (case l11=>k_is)
    (case c11=>k_is)
    (case k11=>k_is)
    (case n11=>k_is)
    (case a12=>k_is)
    (case l12=>k_is)
    (case t12=>k_is)
    (case c12=>k_is)
    (case k12=>k_is)
    (case n12=>k_is)
    (case a13=>k_is)
    (case l13=>k_is)
    (case c13=>k_is)
    (case k13=>k_is)
    (case a14=>k_is)
    (case l14=>k_is)
    (case c14=>k_is)
    (case k14=>k_is)
    (case a15=>k_is)
    (case l15=>k_is)
    (case c15=>k_is)
    (case k15=>k_is)
    (case a16=>k_is)
    (case l16=>k_is)
    (case c16=>k_is)
    (case k16=>k_is)
    (case a17=>k_is)
    (case l17=>k_is)
    (case c17=>k_is)
    (case k17=>k_is)
    (case a18=>k_is)
    (case l18=>k_is)
    (case c18=>k_is)
    (case k18=>k_is)
    (case a19=>k_is)
    (case l19=>k_is)
    (case c19=>k_is)
    (case k19=>k_is)
    (case a20=>k_is)
    (case l20=>k_is)
    (case c20=>k_is)
    (case k20=>k_is)
    (case a21=>k_is)
    (case l21=>k_is)
    (case c21=>k_is)
    (case k21=>k_is)
    (case a22=>k_is)
    (case l22=>k_is)
    (case c22=>k_is)
    (case k22=>k_is)
    (case a23=>k_is)
    (case l23=>k_is)
    (case c23=>k_is)
    (case k23=>k_is)
    (case a24=>k_is)
    (case l24=>k_is)
    (case c24=>k_is)
    (case k24=>k_is)
    (case rMk_Bank=>k_is)
    (case rKp_Bank=>k_is)
    (case rPg_Bank=>k_is)
    (case rHd_Bank=>k_is)
    (case rPo_Bank=>k_is)
    (case rSa_Bank=>k_is)
    (case nA_Bank_room=>k_is)
    (case nA_Bank_terms=>k_is)
    (case nA_Bank_places=>k_is)
    (case rMk_Bench=>k_is)
    (case rKp_Bench=>k_is)
    (case rPg_Bench=>k_is)
    (case rHd_Bench=>k_is)
    (case rPo_Bench=>k_is)
    (case rSa_Bench=>k_is)
    (case nA_Bench_bank=>k_is)
    (case nA_Bench_edges=>k_is)
    (case x_Full=>k_is)
    (case xEx_Full=>k_exc)
    (case x_NoTree=>k_is)
    (case x_NoRule=>k_is)
    (case x_NoRow=>k_is)
    (case x_Apart=>k_is)
    (case x_TooBig=>k_is)
    (case x_TooWide=>k_is)
    (case x_SameError=>k_is)
    (case xCl=>k_is)
    (case xGa=>k_is)
    (case xGn=>k_is)
    (case iVE=>k_is)
    (case i_Full=>kit_is)
    (case i_ValueError=>kit_is)
    (case i_NoTree=>kit_is)
    (case i_NoRule=>kit_is)
    (case i_NoRow=>kit_is)
    (case i_Apart=>kit_is)
    (case i_TooBig=>kit_is)
    (case i_TooWide=>kit_is)
    (case i_SameError=>kit_is)
    (case m_Full=>kts_exm)
    (case m_SameError=>kts_exm)
    (case z0=>k_is)
    (case z1=>k_is)
    (case z2=>k_is)
    (case z3=>k_is)
    (case z4=>k_is)
    (case z5=>k_is)
    (case z6=>k_is)
    (case z7=>k_is)
    (case z8=>k_is)
    (case z9=>k_is)
    (case z10=>k_is)
    (case z11=>k_is)
#print axioms PySem.Challenge.cw_samewise_k51_put_pair_tell_holds
