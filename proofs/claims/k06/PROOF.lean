import PyProof.Rows.All
import Wide.All
import OpenK.AllK
import Wide.FinOn
import Lean
import PyProof.EqAt
import PyProof.EqKinds
import PyProof.TupleCall
import KE.KTryMore
import KE.KIntText
import KE.RegKTryMore
import PySem.Challenge.RW_samewise_k06_bounds
set_option Elab.async false
set_option linter.all false
namespace KHd
open PySem PySem.W PySem.Calls PyProof.Rows
noncomputable def pickL {α : Type} (l:List α) (is:List Nat):List α := is.filterMap fun i=>l[i]?
noncomputable def prg:Program:=PySem.Challenge.pw_samewise_k06_bounds
noncomputable def view:Program := { prg with main := { prg.main with body:=pickL prg.main.body [1,2,3,4,5,6,7,8,10,12,13,14,15,16,17,18,19,20,21,22,24,25,26,27,28,29,30,31,32,33,34,35,36,37,38] } }
local macro_rules | `(tactic| o_head $H) => `(tactic| (refine holds_open (q:=view) (loose := []) (Xt:=fun s=>xlAt view [] s && recOk (RowW.records PySem.Challenge.rw_samewise_k06_bounds.row.toRowW) s) (XP:=XL view []) (Yf:=Hook.obs $H) (Ya:=Hook.val $H) (YP:=Hook.says $H) (N:=5790) ?hl (Hook.of $H) (Hook.keeps $H) (fun s e=>xl_of s (Bool.and_eq_true_iff.mp e).1) XL.keeps (by rfl) (by rfl) (by rfl) (fun s e=>recFacts_of (Bool.and_eq_true_iff.mp e).2) (by rfl) (by first | assumption | decide +kernel) (by decide +kernel) ⟨rfl,rfl,rfl,rfl,rfl,by decide +kernel⟩ ?hw ?hc;case hl=>(intro w;kernel_rfl)))
set_option maxRecDepth 100000 in
set_option maxHeartbeats 0 in
open_top top for PySem.Challenge.rw_samewise_k06_bounds
end KHd
set_option Elab.async false
set_option linter.all false
set_option maxRecDepth 100000
set_option maxHeartbeats 4000000
namespace L2
open PySem PySem.Spec PyProof.Rows

noncomputable abbrev Key:=Sum Int Str
noncomputable def keyIs:Key→Value→Bool
  | .inl k,v=>Value.isInt k v
  | .inr x,v=>Value.isStrOf x v
noncomputable def keyH (w:World):Key→Int
  | .inl k=>hashInt k
  | .inr x=>hashStr w x
theorem keyIs_shape:∀ {k:Key} {v:Value},keyIs k v=true→(∃ i t,k=Sum.inl i∧v=Value.int i t)∨(∃ x t,k=Sum.inr x∧v=Value.str x t)
  | .inl i,v,h=>by
    obtain ⟨t,e⟩:=Value.isInt_shape (k:=i) (v:=v) h
    exact .inl ⟨i,t,rfl,e⟩
  | .inr x,v,h=>by
    obtain ⟨t,e⟩:=Value.isStrOf_shape (x:=x) (v:=v) h
    exact .inr ⟨x,t,rfl,e⟩
theorem key_ll (a b:Int):decide ((Sum.inl a:Key)=Sum.inl b)=(a == b):=by
  by_cases e:a=b
  · subst e;simp
  · have h:¬ (Sum.inl a:Key)=Sum.inl b:=fun q=>e (Sum.inl.inj q)
    rw [decide_eq_false h]
    exact (beq_eq_false_iff_ne.mpr e).symm
theorem key_rr (a b:Str):decide ((Sum.inr a:Key)=Sum.inr b)=decide (a=b):=by
  by_cases e:a=b
  · subst e;simp
  · have h:¬ (Sum.inr a:Key)=Sum.inr b:=fun q=>e (Sum.inr.inj q)
    rw [decide_eq_false h,decide_eq_false e]
theorem key_lr (a:Int) (b:Str):decide ((Sum.inl a:Key)=Sum.inr b)=false:=decide_eq_false (fun q=>nomatch q)
theorem key_rl (a:Str) (b:Int):decide ((Sum.inr a:Key)=Sum.inl b)=false:=decide_eq_false (fun q=>nomatch q)

noncomputable def mixKind (prog:Program) (w:World):PySem.KeyKind prog w Key where
  is:=keyIs
  hash:=keyH w
  inj:=fun v a b ha hb=>by
    rcases keyIs_shape ha with ⟨i,t,rfl,rfl⟩ | ⟨x,t,rfl,rfl⟩
    · rcases keyIs_shape hb with ⟨j,u,rfl,e⟩ | ⟨y,u,rfl,e⟩
      · injection e with e1 _;rw [e1]
      · exact nomatch e
    · rcases keyIs_shape hb with ⟨j,u,rfl,e⟩ | ⟨y,u,rfl,e⟩
      · exact nomatch e
      · injection e with e1 _;rw [e1]
  byValue:=fun k v h=>by
    rcases keyIs_shape h with ⟨i,t,rfl,rfl⟩ | ⟨x,t,rfl,rfl⟩ <;> rfl
  pyHash:=fun hv h=>by
    rcases keyIs_shape hv with ⟨i,t,rfl,rfl⟩ | ⟨x,t,rfl,rfl⟩
    · exact wpAny_pyHash_int h
    · exact wpAny_pyHash_str h
  eqBool:=fun hu hv h=>by
    rcases keyIs_shape hu with ⟨i,t,rfl,rfl⟩ | ⟨x,t,rfl,rfl⟩
    · rcases keyIs_shape hv with ⟨j,u,rfl,rfl⟩ | ⟨y,u,rfl,rfl⟩
      · rw [key_ll] at h;exact wpAny_eqBool_int h
      · rw [key_lr] at h;exact SeqAt.EqAt.int_str i t y u _ _ _ _ h
    · rcases keyIs_shape hv with ⟨j,u,rfl,rfl⟩ | ⟨y,u,rfl,rfl⟩
      · rw [key_rl] at h;exact SeqAt.EqAt.str_int x t j u _ _ _ _ h
      · rw [key_rr] at h;exact wpAny_eqBool_str h
  «strs» := fun k x t v h=>by
    rcases keyIs_shape h with ⟨i,u,rfl,e⟩ | ⟨y,u,rfl,e⟩
    · exact nomatch e
    · injection e with e1 _
      subst e1
      cases v <;> rfl

end L2

namespace L2
open PySem PySem.Spec PyProof.Rows

inductive V where
  | non | bl (b:Bool) | int (i:Int) | str (x:Str) | byt (b:Array UInt8) | flt (b:UInt64) | ref (a:Addr) | ty (n:String)
  deriving DecidableEq

noncomputable def RelV:V→Value→Prop
  | .non,u=>u=Value.none
  | .bl b,u=>u=Value.bool b
  | .int i,u=>∃ t,u=Value.int i t
  | .str x,u=>∃ t,u=Value.str x t
  | .byt b,u=>∃ t,u=Value.bytes b t
  | .flt b,u=>∃ t,u=Value.float b t
  | .ref a,u=>u=Value.ref a
  | .ty n,u=>u=Value.type n

noncomputable abbrev Vals:List V→List Value→Prop:=Paired RelV
theorem Vals.length {xs:List V} {us:List Value} (r:Vals xs us):xs.length=us.length:=Paired.length r
theorem Vals.get:∀ {xs:List V} {us:List Value} {i:Nat} {x:V},Vals xs us→xs[i]? = some x→∃ u,us[i]? = some u∧RelV x u
  | _,_,_,_,.nil,e=>by simp at e
  | _,_,0,_,.cons r _,e=>by simp at e;subst e;exact ⟨_,rfl,r⟩
  | _,_,i+1,x,.cons _ t,e=>by
    obtain ⟨u,h1,h2⟩:=Vals.get (i:=i) (x:=x) t (by simpa using e)
    exact ⟨u,by simpa using h1,h2⟩
theorem Vals.append:∀ {xs ys:List V} {us ws:List Value},Vals xs us→Vals ys ws→Vals (xs ++ ys) (us ++ ws)
  | _,_,_,_,.nil,s=>s
  | _,_,_,_,.cons r t,s => .cons r (Vals.append t s)
theorem Vals.take:∀ {xs:List V} {us:List Value} (n:Nat),Vals xs us→Vals (xs.take n) (us.take n)
  | _,_,0,_ => .nil
  | _,_,_+1,.nil => .nil
  | _,_,n+1,.cons r t => .cons r (Vals.take n t)
theorem Vals.drop:∀ {xs:List V} {us:List Value} (n:Nat),Vals xs us→Vals (xs.drop n) (us.drop n)
  | _,_,0,r=>r
  | _,_,_+1,.nil => .nil
  | _,_,n+1,.cons _ t=>Vals.drop n t

noncomputable def RelO:Option V→Option Value→Prop
  | some v,some u=>RelV v u
  | none,none=>True
  | _,_=>False
noncomputable def KV {κ : Type}:List (κ × V)→List (κ × Value)→Prop:=Paired fun (p : κ × V) (q : κ × Value)=>p.1=q.1∧RelV p.2 q.2

noncomputable def kV:Key→V
  | .inl i => .int i
  | .inr x => .str x

inductive HO where
    | lst (xs:List V)
    | tup (xs:List V)
    | dK (kvs:List (Key × V)) | dT (kvs:List (List Key × V))
    | set (S:Int→Bool) (n:Nat)
    | ins (C dx:Addr) (fs:List (Str × V))
    | own (x:Addr)
    | xd (fs:List (Str × V))
    | met (f x:Addr)
    | rng (lo hi:Int)
    | frz (o:Obj) (u:HO)
    | tbl (ps:Array Value)
    | ext (φ : Heap→Prop)

noncomputable abbrev Hp:=Addr→Option HO
noncomputable def upd (H:Hp) (a:Addr) (o:HO):Hp:=fun b=>if b=a then some o else H b
theorem upd_same {H:Hp} {a:Addr} {o:HO}:upd H a o a=some o:=by unfold upd;rw [if_pos rfl]
theorem upd_ne {H:Hp} {a b:Addr} {o:HO} (h:b≠a):upd H a o b=H b:=by unfold upd;rw [if_neg h]
theorem upd_upd {H:Hp} {a:Addr} {o u:HO}:upd (upd H a o) a u=upd H a u:=by
  funext b;unfold upd;split <;> rfl
theorem ne_of {H:Hp} {a b:Addr} {o u:HO} (h:H a=some o) (h':H b=some u) (d:o≠u):a≠b:=by
  intro e;subst e;rw [h] at h';exact d (Option.some.inj h')
theorem ne_of_none {H:Hp} {a b:Addr} {o:HO} (h:H a=some o) (h':H b=none):a≠b:=by
  intro e;subst e;rw [h] at h';cases h'

noncomputable def IsTupN (h:Heap) (a:Addr) (items:Array Value):Prop := ∃ o,h.get? a=some o∧o.cls = .type "tuple" ∧ ∃ n,o.data = .seq items n∧o.dict=none
theorem IsTupN.tup {h:Heap} {a:Addr} {items:Array Value} (x:IsTupN h a items):IsTup h a items:=let ⟨o,e,c,n,d,_⟩:=x; ⟨o,e,c,n,d⟩
theorem IsTupN.new (h:Heap) (items:Array Value):IsTupN (h.push { cls := .type "tuple",data := .seq items }) h.objs.size items:=⟨_,Heap.get?_push_size _ rfl,rfl,_,rfl,rfl⟩
section
variable (P:Program) (w:World)
noncomputable def ObjOk (H:Hp) (h:Heap) (a:Addr):HO→Prop
  | .lst xs=>xs.length≤sizeLine∧∃ (its:List Value) (n:Nat),Vals xs its∧h.get? a=some { cls := .type "list",data := .seq its.toArray n }
  | .tup xs=>xs.length≤sizeLine∧∃ its:List Value,Vals xs its∧IsTupN h a its.toArray
  | .dK kvs=>kvs.length≤sizeLine∧(a == sysModules)=false∧∃ vs,KV kvs vs∧h.DictOf (mixKind P w) a vs
  | .dT kvs=>kvs.length≤sizeLine∧(a == sysModules)=false∧∃ xs:List (List Key × Addr × Value),
      Paired (fun (p:List Key × V) (q:List Key × Addr × Value)=>p.1=q.1∧H q.2.1=some (.tup (p.1.map kV))∧RelV p.2 q.2.2) kvs xs ∧
      ∃ o es ep,h.get? a=some o∧o.ExactDict∧o.data = .dict es ep∧es.toList=xs.map (entryOfKey (tupleKind (mixKind P w)))∧(xs.map (·.1)).Nodup
  | .set S n=>h.SetOf (intKind P w) a S n
  | .ins C dx fs=>H dx=some (.own a)∧fs.length≤1000∧dx≠a∧h.get? a=some (PySem.W.instObj C dx) ∧
      ∃ mA,h.Ns1 dx mA∧(∀ f,RelO (fs.lookup f) (mA f))∧PySem.Within mA (fs.map (·.1))
  | .own _=>∃ o,h.get? a=some o
  | .xd fs=>∃ mA,h.Ns1 a mA∧∀ f,RelO (fs.lookup f) (mA f)
  | .rng lo hi=>∃ t u v,h.get? a=some { cls := .type "range",data := .fields #[.int lo t,.int hi u,.int 1 v] }
  | .frz o u=>h.get? a=some o∧ObjOk H h a u
  | .tbl ps=>h.get? a=some { cls := .none,data := .fields ps }
  | .met f x=>h.get? a=some (PySem.W.methodObj (.ref f) (.ref x))
  | .ext φ => φ h∧(∃ o,h.get? a=some o)∧∀ h1 h2:Heap, φ h1→(∀ o,h1.get? a=some o→h2.get? a=some o) → φ h2
noncomputable def HOk (H:Hp) (h:Heap):Prop := ∀ a o,H a=some o→ObjOk P w H h a o
end

section
variable {P:Program} {w:World} {H H':Hp} {h h':Heap} {a:Addr} {o:HO}
theorem ObjOk.lt (x:ObjOk P w H h a o):a < h.objs.size:=by
  cases o with
  | lst xs=>obtain ⟨_,_,_,_,e⟩:=x;exact Heap.lt_size e
  | tup xs=>obtain ⟨_,_,_,p⟩:=x;exact p.tup.lt
  | dK kvs=>obtain ⟨_,_,_,_,o,_,_,e,_⟩:=x;exact Heap.lt_size e
  | dT kvs=>obtain ⟨_,_,_,_,o,_,_,e,_⟩:=x;exact Heap.lt_size e
  | set S n=>obtain ⟨o,_,_,_,e,_⟩:=x;exact Heap.lt_size e
  | ins C dx fs=>obtain ⟨_,_,_,e,_⟩:=x;exact Heap.lt_size e
  | own y=>obtain ⟨_,e⟩:=x;exact Heap.lt_size e
  | xd fs=>obtain ⟨_,⟨_,_,_,e,_⟩,_⟩:=x;exact Heap.lt_size e
  | rng lo hi=>obtain ⟨_,_,_,e⟩:=x;exact Heap.lt_size e
  | frz ob u=>obtain ⟨e,_⟩:=x;exact Heap.lt_size e
  | tbl ps=>exact Heap.lt_size (show h.get? a=some _ from x)
  | met f y=>exact Heap.lt_size (show h.get? a=some _ from x)
  | ext φ => obtain ⟨_,⟨_,e⟩,_⟩:=x;exact Heap.lt_size e
theorem Paired.mapP {α β : Type} {F G : α → β → Prop}:∀ {l₁ : List α} {l₂ : List β},Paired F l₁ l₂ → (∀ a b,F a b→G a b)→Paired G l₁ l₂
  | _,_,.nil,_ => .nil
  | _,_,.cons r t,f => .cons (f _ _ r) (Paired.mapP t f)
theorem ObjOk.stay (x:ObjOk P w H h a o) (k:∀ b u,(b=a∨H b=some (.own a))→h.get? b=some u→h'.get? b=some u)
    (ho:∀ b,H b=some (.own a)→H' b=some (.own a)) (ht:∀ b xs,H b=some (.tup xs)→H' b=some (.tup xs)):ObjOk P w H' h' a o:=by
  induction o with
  | lst xs=>obtain ⟨z,its,n,r,e⟩:=x;exact ⟨z,its,n,r,k _ _ (.inl rfl) e⟩
  | tup xs=>obtain ⟨z,its,r,ob,e,c⟩:=x;exact ⟨z,its,r,ob,k _ _ (.inl rfl) e,c⟩
  | dK kvs=>obtain ⟨z,y,vs,r,ob,es,ep,e,c⟩:=x;exact ⟨z,y,vs,r,ob,es,ep,k _ _ (.inl rfl) e,c⟩
  | dT kvs =>
    obtain ⟨z,y,xs,r,ob,es,ep,e,c⟩:=x
    exact ⟨z,y,xs,Paired.mapP r fun p q z=>⟨z.1,ht _ _ z.2.1,z.2.2⟩,ob,es,ep,k _ _ (.inl rfl) e,c⟩
  | set S n=>obtain ⟨ob,es,ep,t,e,c⟩:=x;exact ⟨ob,es,ep,t,k _ _ (.inl rfl) e,c⟩
  | ins C dx fs =>
    obtain ⟨d,z,ne,e,mA,⟨od,es,ep,e2,c⟩,r⟩:=x
    exact ⟨ho _ d,z,ne,k _ _ (.inl rfl) e,mA,⟨od,es,ep,k _ _ (.inr d) e2,c⟩,r⟩
  | own y=>obtain ⟨ob,e⟩:=x;exact ⟨ob,k _ _ (.inl rfl) e⟩
  | xd fs=>obtain ⟨mA,⟨od,es,ep,e,c⟩,r⟩:=x;exact ⟨mA,⟨od,es,ep,k _ _ (.inl rfl) e,c⟩,r⟩
  | rng lo hi=>obtain ⟨t,u,v,e⟩:=x;exact ⟨t,u,v,k _ _ (.inl rfl) e⟩
  | frz ob u ih=>obtain ⟨e,q⟩:=x;exact ⟨k _ _ (.inl rfl) e,ih q⟩
  | tbl ps =>
    have e:h.get? a=some { cls := .none,data := .fields ps }:=x
    show h'.get? a=some { cls := .none,data := .fields ps }
    exact k a _ (.inl rfl) e
  | met f y =>
    have e:h.get? a=some (PySem.W.methodObj (.ref f) (.ref y)):=x
    show h'.get? a=some (PySem.W.methodObj (.ref f) (.ref y))
    exact k a _ (.inl rfl) e
  | ext φ => obtain ⟨p,⟨o,e⟩,st⟩:=x;exact ⟨st _ _ p fun o q=>k _ _ (.inl rfl) q,⟨o,k _ _ (.inl rfl) e⟩,st⟩
theorem HOk.lt (x:HOk P w H h) (e:H a=some o):a < h.objs.size:=(x a o e).lt
theorem HOk.fresh (x:HOk P w H h) (e:h.objs.size≤a):H a=none:=by
  cases q:H a with
  | none=>rfl
  | some u=>exact absurd (Nat.lt_of_lt_of_le (x.lt q) e) (Nat.lt_irrefl _)
theorem HOk.kept (x:HOk P w H h) (k:∀ b u,h.get? b=some u→h'.get? b=some u):HOk P w H h':=fun a o e =>
  (x a o e).stay (fun b u _ q=>k b u q) (fun _ q=>q) fun _ _ q=>q
theorem HOk.laid (x:HOk P w H h) (k:∀ b u,h.get? b=some u→h'.get? b=some u) (hp:h.objs.size≤a) (new:ObjOk P w (upd H a o) h' a o):HOk P w (upd H a o) h':=fun b u e=>by
  have hn:=x.fresh hp
  by_cases hb:b=a
  · subst hb;rw [upd_same] at e;cases e;exact new
  · rw [upd_ne hb] at e
    exact (x b u e).stay (fun c v _ q=>k c v q) (fun c q=>by rw [upd_ne (ne_of_none q hn)];exact q) fun c xs q=>by rw [upd_ne (ne_of_none q hn)];exact q
end

noncomputable def Rd (H:Hp) (a:Addr) (u:HO):Prop:=H a=some u∨∃ o,H a=some (.frz o u)
theorem Rd.ok {P:Program} {w:World} {H:Hp} {h:Heap} {a:Addr} {u:HO} (r:Rd H a u) (x:HOk P w H h):ObjOk P w H h a u:=by
  rcases r with r | ⟨o,r⟩
  · exact x a u r
  · obtain ⟨_,q⟩:=x a _ r
    exact q
noncomputable def Mut:Option HO→Prop
  | some (.lst _)=>True
  | some (.dK _)=>True
  | some (.dT _)=>True
  | some (.set _ _)=>True
  | some (.ins _ _ _)=>True
  | some (.ext _)=>True
  | _=>False
section
variable {P:Program} {w:World} {H:Hp} {h h':Heap} {x e:Addr} {o':HO}
theorem HOk.write (ok:HOk P w H h) (mu:Mut (H x)) (he:e=x∨H e=some (.own x)) (k:∀ b u,b≠e→h.get? b=some u→h'.get? b=some u) (heo:∃ u,h'.get? e=some u)
    (new:ObjOk P w (upd H x o') h' x o'):HOk P w (upd H x o') h':=fun b u q=>by
  have nown:∀ c y,H c=some (.own y)→c≠x:=fun c y r z=>by subst z;rw [r] at mu;exact mu
  have ntup:∀ c xs,H c=some (.tup xs)→c≠x:=fun c xs r z=>by subst z;rw [r] at mu;exact mu
  by_cases hb:b=x
  · subst hb;rw [upd_same] at q;cases q;exact new
  · rw [upd_ne hb] at q
    by_cases hbe:b=e
    · have q':H b=some (.own x):=by
        rcases he with z | z
        · exact absurd (hbe.trans z) hb
        · rw [hbe];exact z
      rw [q] at q';cases q'
      obtain ⟨v,hv⟩:=heo
      exact ⟨v,by rw [hbe];exact hv⟩
    · refine (ok b u q).stay (fun c v hc r=>k c v ?_ r) (fun c r=>by rw [upd_ne (nown c b r)];exact r) fun c xs r=>by rw [upd_ne (ntup c xs r)];exact r
      rcases hc with rfl | hc
      · exact hbe
      · rintro rfl
        rcases he with z | z
        · exact nown c b hc z
        · rw [hc] at z;cases z;exact hb rfl
end

structure Un (fs ex:List Addr) (H H':Hp) (h h':Heap):Prop where
  keep:∀ b o,h.get? b=some o→H b=none→b ∉ fs→b ∉ ex→h'.get? b=some o
  slot:∀ b o,h.get? b=some o→H b=none→b∈fs→b ∉ ex→∃ sl,h'.get? b=some { o with slots:=sl }
  free:∀ b o,h.get? b=some o→H b=none→b ∉ ex→H' b=none
  there:∀ b o,h.get? b=some o→b ∉ ex→∃ o',h'.get? b=some o'
  tups:∀ b xs,H b=some (.tup xs)→H' b=some (.tup xs)
  frzs:∀ b o u,H b=some (.frz o u)→H' b=some (.frz o u)
  tbls:∀ b ps,H b=some (.tbl ps)→∃ more,H' b=some (.tbl (ps ++ more))
section
variable {fs fs' ex ex':List Addr} {H H1 H2:Hp} {h h1 h2 h':Heap} {a x e:Addr} {o:HO}
theorem Un.any (u:Un fs ex H H1 h h1) {b:Addr} {ob:Obj} (q:h.get? b=some ob) (n:H b=none) (hx:b ∉ ex):∃ sl,h1.get? b=some { ob with slots:=sl }:=by
  by_cases hb:b∈fs
  · exact u.slot b ob q n hb hx
  · exact ⟨ob.slots,u.keep b ob q n hb hx⟩
theorem Un.kept (k:∀ b u,h.get? b=some u→h'.get? b=some u):Un fs ex H H h h' :=
  ⟨fun b ob q _ _ _=>k b ob q,fun b ob q _ _ _=>⟨ob.slots,k b ob q⟩,fun _ _ _ n _=>n,fun b ob q _=>⟨ob,k b ob q⟩,fun _ _ q=>q,fun _ _ _ q=>q,fun _ ps q=>⟨#[],by rw [q];simp⟩⟩
theorem Un.refl:Un fs ex H H h h:=Un.kept fun _ _ q=>q
theorem Un.laid (k:∀ b u,h.get? b=some u→h'.get? b=some u) (hp:h.objs.size≤a) (hn:H a=none):Un fs ex H (upd H a o) h h' where
  keep:=fun b u q _ _ _=>k b u q
  slot:=fun b u q _ _ _=>⟨u.slots,k b u q⟩
  free:=fun b u q n _=>by rw [upd_ne (Nat.ne_of_lt (Nat.lt_of_lt_of_le (Heap.lt_size q) hp))];exact n
  there:=fun b u q _=>⟨u,k b u q⟩
  tups:=fun b xs q=>by rw [upd_ne (ne_of_none q hn)];exact q
  frzs:=fun b u xs q=>by rw [upd_ne (ne_of_none q hn)];exact q
  tbls:=fun b ps q=>⟨#[],by rw [upd_ne (ne_of_none q hn),q];simp⟩
theorem Un.write (mu:Mut (H x)) (he:e=x∨H e=some (.own x)) (k:∀ b u,b≠e→h.get? b=some u→h'.get? b=some u) (heo:∃ u,h'.get? e=some u):Un fs ex H (upd H x o) h h':=by
  have hx:∀ b,H b=none→b≠x:=fun b n z=>by subst z;rw [n] at mu;exact mu
  have hb:∀ b,H b=none→b≠e:=fun b n z=>by
    subst z
    rcases he with r | r
    · exact hx b n r
    · rw [n] at r;cases r
  have hm:∀ b u,H b=some u→¬ Mut (some u)→b≠x:=fun b u q nm z=>by subst z;rw [q] at mu;exact nm mu
  refine ⟨fun b u q n _ _=>k b u (hb b n) q,fun b u q n _ _=>⟨u.slots,k b u (hb b n) q⟩,fun b u q n _=>by rw [upd_ne (hx b n)];exact n,fun b u q _ => ?_,
    fun b xs q=>by rw [upd_ne (hm b _ q fun z=>z)];exact q,fun b u xs q=>by rw [upd_ne (hm b _ q fun z=>z)];exact q,fun b ps q=>⟨#[],by rw [upd_ne (hm b _ q fun z=>z),q];simp⟩⟩
  by_cases hbe:b=e
  · subst hbe;exact heo
  · exact ⟨u,k b u hbe q⟩
end

noncomputable def trk (h:Heap) (H:Hp):List Addr:=(List.range h.objs.size).filter fun a=>(H a).isSome
noncomputable def hidT (h:Heap) (H:Hp):Heap:=PySem.W.hideAll h (trk h H)
theorem hidT_size (h:Heap) (H:Hp):(hidT h H).objs.size=h.objs.size:=PySem.W.hideAll_size _ _
theorem hidT_get {h:Heap} {H:Hp} {b:Addr} {o:Obj} (e:h.get? b=some o) (n:H b=none):(hidT h H).get? b=some o :=
  PySem.W.hideAll_get _ e fun hm=>by
    have q:(H b).isSome=true:=(List.mem_filter.mp hm).2
    rw [n] at q;simp at q
theorem of_hidT {h:Heap} {H:Hp} {b:Addr} {o:Obj} (e:(hidT h H).get? b=some o):h.get? b=some o∧H b=none:=by
  have e':h.get? b=some o:=PySem.W.of_hideAll (trk h H) e
  refine ⟨e',?_⟩
  cases q:H b with
  | none=>rfl
  | some x =>
    have hm:b∈trk h H:=List.mem_filter.mpr ⟨List.mem_range.mpr (Heap.lt_size e'),by simp [q]⟩
    have z:(hidT h H).get? b=none:=PySem.W.hideAll_none (trk h H) hm
    rw [z] at e;cases e

end L2

namespace L2
open PySem PySem.Spec PyProof.Rows

structure Mod (K:PySem.W.Frag) (mg:Str→Option Value) (base:Heap):Prop where
  kin:K.In base
  glob:base.Ns mainGlobals mg
  blt:∃ mb,base.Ns builtinsNs mb∧∀ x:Str,x ≠ "__name__" → mb x=bootBuiltins x
  nolimit:base.NoLimit

structure Cx where
  prog:Program
  w:World
  K:PySem.W.Frag
  mg:Str→Option Value
  base:Heap
  A:Around
  N:List Str
  s₀ : Shared
  H₀ : Hp
  env:Env
  outer:List Env
  stack:List Env
  ex:List Addr
  fn:Str→Bool
  calm:Bool
  pn:List (Addr × Obj)
  xe:Value→Shared→Prop
noncomputable def frs (l:List Env):List Addr:=l.filterMap (·.frame)
noncomputable abbrev Cx.fs (X:Cx):List Addr:=frs X.outer

noncomputable def Vis (sc:Scope) (x:Str):Prop:=sc.names.lookup x=some .local∨sc.names.lookup x=some .cell∨sc.names.lookup x=some .free
noncomputable def Loc (sc:Scope) (x:Str):Prop:=sc.names.lookup x=some .local∨sc.names.lookup x=some .cell
noncomputable def Look (env:Env) (h:Heap) (m:Str→Option Value) (x:Str) (u:Value):Prop :=
  (env.kindOf x=some .local∧m x=some u)∨((env.kindOf x=some .cell∨env.kindOf x=some .free)∧∃ c,env.cells.lookup x=some c∧h.IsCell c (some u))

structure Cx.Ok (X:Cx):Prop where
  mod:Mod X.K X.mg X.base
  kind:X.env.scope.kind = .function
  glob:X.env.globals=mainGlobals
  blt:X.env.builtins=builtinsNs
  above:X.s₀.heap.objs.size≤X.env.locals
  inj:∀ x y c,X.env.cells.lookup x=some c→X.env.cells.lookup y=some c→x=y
  has:∀ x,(X.env.kindOf x=some .cell∨X.env.kindOf x=some .free)→∃ c,X.env.cells.lookup x=some c
  cab:∀ x c,X.fn x=true→X.env.cells.lookup x=some c→X.s₀.heap.objs.size≤c
  hd:X.calm=true→X.A.handled=none
  frames:X.A.frames=some X.stack
  stk:X.stack=X.outer∨(X.stack=X.env :: X.outer∧X.env.frame=some X.env.locals)
  exf:∀ b∈X.ex,b≠X.env.locals∧∀ x c,X.env.cells.lookup x=some c→c≠b
  bs:∀ b o,X.base.get? b=some o→X.s₀.heap.get? b=some o∧X.H₀ b=none
  bsz:X.base.objs.size≤X.s₀.heap.objs.size
  noex:∀ b o,X.base.get? b=some o→b ∉ X.ex
  exfs:∀ b∈X.ex,b ∉ X.fs
  funs:X.s₀.heap.FunFrames X.base X.outer
  frf:∀ b∈X.fs,X.H₀ b=none

structure Inv (X:Cx) (pins:List (Addr × Obj)) (σ : List (Option V)) (H:Hp) (s:Shared):Prop where
  ok:X.Ok
  os:s.os=X.s₀.os
  bare:AllBare s.gens
  base:Un X.fs X.ex X.H₀ H X.s₀.heap s.heap
  loc:∃ m,s.heap.Ns X.env.locals m∧∀ (i:Nat) (x:Str) (v:V),X.N[i]? = some x → σ[i]? = some (some v)→Vis X.env.scope x→∃ u,RelV v u∧Look X.env s.heap m x u
  cell:∀ x c,X.env.cells.lookup x=some c→∃ v,s.heap.IsCell c v
  free:H X.env.locals=none
  freeC:∀ x c,X.env.cells.lookup x=some c→H c=none
  pin:∀ p∈X.pn ++ pins,s.heap.get? p.1=some p.2∧H p.1=none∧p.1≠X.env.locals∧p.1 ∉ X.fs∧∀ v,p.2.data ≠ .cell v
  hok:HOk X.prog X.w H s.heap
  len : σ.length=X.N.length

section
variable {X:Cx} {pins:List (Addr × Obj)} {σ : List (Option V)} {H H':Hp} {s:Shared} {h':Heap}

theorem Cx.Ok.nofr (ok:X.Ok) {b:Addr} {o:Obj} (e:X.base.get? b=some o):b ∉ X.fs:=fun hb=>by
  have:=(ok.funs.mem hb).1
  rw [e] at this;cases this
theorem Inv.bs (I:Inv X pins σ H s):∀ b o,X.base.get? b=some o→s.heap.get? b=some o∧H b=none:=fun b o e =>
  ⟨I.base.keep b o (I.ok.bs b o e).1 (I.ok.bs b o e).2 (I.ok.nofr e) (I.ok.noex b o e),I.base.free b o (I.ok.bs b o e).1 (I.ok.bs b o e).2 (I.ok.noex b o e)⟩
theorem Inv.bk (I:Inv X pins σ H s):∀ b o,X.base.get? b=some o→s.heap.get? b=some o:=fun b o e=>(I.bs b o e).1
theorem Inv.mod (I:Inv X pins σ H s):Mod X.K X.mg X.base:=I.ok.mod
theorem Inv.kIn (I:Inv X pins σ H s):X.K.In s.heap:=I.ok.mod.kin.keeps I.bk
theorem Inv.lt (I:Inv X pins σ H s):X.env.locals < s.heap.objs.size:=let ⟨_,hn,_⟩:=I.loc;hn.lt
theorem Inv.sz (I:Inv X pins σ H s):X.s₀.heap.objs.size≤s.heap.objs.size:=Nat.le_trans I.ok.above (Nat.le_of_lt I.lt)
theorem Inv.nofs (I:Inv X pins σ H s) {a:Addr} (h:s.heap.objs.size≤a):a ∉ X.fs:=fun hb=>by
  obtain ⟨_,o,ho,_⟩:=I.ok.funs.mem hb
  exact absurd (Nat.lt_of_lt_of_le (Heap.lt_size ho) (Nat.le_trans I.sz h)) (Nat.lt_irrefl _)
theorem Inv.cne (I:Inv X pins σ H s):∀ x c,X.env.cells.lookup x=some c→c≠X.env.locals:=fun x c e z=>by
  obtain ⟨v,o,ho,hd⟩:=I.cell x c e
  obtain ⟨m,⟨o',es,ep,ho',hd',_⟩,_⟩:=I.loc
  rw [z,ho'] at ho;cases ho;rw [hd'] at hd;cases hd
theorem Inv.funs (I:Inv X pins σ H s):s.heap.FunFrames X.base X.outer:=by
  have all:∀ (l:List Env),(∀ b∈frs l,b∈X.fs)→X.s₀.heap.FunFrames X.base l→s.heap.FunFrames X.base l:=by
    intro l
    induction l with
    | nil=>intro _ _;trivial
    | cons env r ih =>
      intro hs hl
      obtain ⟨hk,⟨L,o,hf,hn,ho,hd⟩,hr⟩:=hl
      have hL:L∈X.fs:=hs L (by unfold frs;rw [List.filterMap_cons,hf];exact List.mem_cons_self)
      obtain ⟨sl,e⟩:=I.base.slot L o ho (I.ok.frf L hL) hL fun z=>I.ok.exfs L z hL
      exact ⟨hk,⟨L,_,hf,hn,e,hd⟩,ih (fun b hb=>hs b (by unfold frs;rw [List.filterMap_cons,hf];exact List.mem_cons_of_mem _ hb)) hr⟩
  exact all X.outer (fun _ hb=>hb) I.ok.funs

theorem Inv.stack (I:Inv X pins σ H s):s.heap.FunFrames X.base X.stack:=by
  rcases I.ok.stk with e | ⟨e,hf⟩
  · rw [e];exact I.funs
  · rw [e]
    obtain ⟨m,hn,_⟩:=I.loc
    refine .cons (by rw [I.ok.kind];decide) hf hn ?_ I.funs
    exact Heap.get?_none_of_le (Nat.le_trans I.ok.bsz I.ok.above)
theorem Inv.stkSub (I:Inv X pins σ H s):∀ b∈frs X.stack,b∈X.env.locals :: X.fs:=fun b hb=>by
  rcases I.ok.stk with e | ⟨e,hf⟩
  · rw [e] at hb;exact List.mem_cons_of_mem _ hb
  · rw [e] at hb
    unfold frs at hb
    rw [List.filterMap_cons,hf] at hb
    exact hb
theorem Inv.stkFree (I:Inv X pins σ H s):∀ b∈frs X.stack,H b=none:=fun b hb=>by
  rcases List.mem_cons.mp (I.stkSub b hb) with e | hb
  · rw [e];exact I.free
  · obtain ⟨_,o,ho,_⟩:=I.ok.funs.mem hb
    exact I.base.free b o ho (I.ok.frf b hb) fun z=>I.ok.exfs b z hb

theorem Inv.step {g':Array GenState} {t':Nat} {d':Drawn} {ch:List Addr} (I:Inv X pins σ H s)
    (hch:∀ b∈ch,(b∈X.ex∨X.s₀.heap.objs.size≤b)∧b≠X.env.locals∧(∀ x c,X.env.cells.lookup x=some c→c≠b)∧∀ p∈X.pn ++ pins,p.1≠b)
    (keep:∀ b o,b≠X.env.locals→b ∉ X.fs→b ∉ ch→s.heap.get? b=some o→H b=none→h'.get? b=some o)
    (slot:∀ b o,b≠X.env.locals→b∈X.fs→b ∉ ch→s.heap.get? b=some o→H b=none→∃ sl,h'.get? b=some { o with slots:=sl }) (free:∀ b o,b ∉ ch→s.heap.get? b=some o→H b=none→H' b=none)
    (there:∀ b o,b ∉ ch→s.heap.get? b=some o→∃ o',h'.get? b=some o')
    (tups:∀ b xs,H b=some (.tup xs)→H' b=some (.tup xs)) (frzs:∀ b o u,H b=some (.frz o u)→H' b=some (.frz o u)) (tbls:∀ b ps,H b=some (.tbl ps)→∃ more,H' b=some (.tbl (ps ++ more)))
    (ns:∀ m,s.heap.Ns X.env.locals m→h'.Ns X.env.locals m) (hok:HOk X.prog X.w H' h') (hg:AllBare g') :
    Inv X pins σ H' { s with heap:=h',gens:=g',drawn:=d',toks:=t' }:=by
  have neL:∀ b o,X.s₀.heap.get? b=some o→b≠X.env.locals:=fun b o e=>Nat.ne_of_lt (Nat.lt_of_lt_of_le (Heap.lt_size e) I.ok.above)
  have neC:∀ b o,X.s₀.heap.get? b=some o→b ∉ X.ex→b ∉ ch:=fun b o e hx hb=>by
    rcases (hch b hb).1 with z | z
    · exact hx z
    · exact absurd (Nat.lt_of_lt_of_le (Heap.lt_size e) z) (Nat.lt_irrefl _)
  have cellK:∀ x c,X.env.cells.lookup x=some c→∀ v,s.heap.IsCell c v→h'.IsCell c v:=fun x c e v ⟨o,ho,hd⟩=>by
    have nch:c ∉ ch:=fun z=>(hch c z).2.2.1 x c e rfl
    by_cases hc:c∈X.fs
    · obtain ⟨sl,q⟩:=slot c o (I.cne x c e) hc nch ho (I.freeC x c e)
      exact ⟨_,q,hd⟩
    · exact ⟨o,keep c o (I.cne x c e) hc nch ho (I.freeC x c e),hd⟩
  refine ⟨I.ok,I.os,hg,⟨fun b o e n hb hx => ?_,fun b o e n hb hx => ?_,fun b o e n hx => ?_,fun b o e hx => ?_,fun b xs e=>tups b xs (I.base.tups b xs e),fun b o xs e=>frzs b o xs (I.base.frzs b o xs e),fun b ps e => ?_⟩,?_,fun x c e => ?_,?_,fun x c e => ?_,fun p hp => ?_,hok,I.len⟩
  · exact keep b o (neL b o e) hb (neC b o e hx) (I.base.keep b o e n hb hx) (I.base.free b o e n hx)
  · obtain ⟨sl,e1⟩:=I.base.slot b o e n hb hx
    obtain ⟨sl',e2⟩:=slot b _ (neL b o e) hb (neC b o e hx) e1 (I.base.free b o e n hx)
    exact ⟨sl',e2⟩
  · obtain ⟨o',e1⟩:=I.base.there b o e hx
    exact free b o' (neC b o e hx) e1 (I.base.free b o e n hx)
  · obtain ⟨o',e1⟩:=I.base.there b o e hx
    exact there b o' (neC b o e hx) e1
  · obtain ⟨m1,e1⟩:=I.base.tbls b ps e
    obtain ⟨m2,e2⟩:=tbls b _ e1
    exact ⟨m1 ++ m2,by rw [e2,Array.append_assoc]⟩
  · obtain ⟨m,hn,hl⟩:=I.loc
    refine ⟨m,ns m hn,fun i x v e1 e2 e3 => ?_⟩
    obtain ⟨u,r,l⟩:=hl i x v e1 e2 e3
    refine ⟨u,r,?_⟩
    rcases l with l | ⟨k,c,e,z⟩
    · exact .inl l
    · exact .inr ⟨k,c,e,cellK x c e _ z⟩
  · obtain ⟨v,z⟩:=I.cell x c e
    exact ⟨v,cellK x c e v z⟩
  · obtain ⟨m,⟨o,_,_,ho,_⟩,_⟩:=I.loc
    exact free _ o (fun z=>(hch _ z).2.1 rfl) ho I.free
  · obtain ⟨v,o,ho,hd⟩:=I.cell x c e
    exact free c o (fun z=>(hch c z).2.2.1 x c e rfl) ho (I.freeC x c e)
  · obtain ⟨e,n,ne,nf,d⟩:=I.pin p hp
    have nch:p.1 ∉ ch:=fun z=>(hch p.1 z).2.2.2 p hp rfl
    exact ⟨keep p.1 p.2 ne nf nch e n,free p.1 p.2 nch e n,ne,nf,d⟩
theorem Inv.un {t':Nat} (I:Inv X pins σ H s) (u:Un X.fs [] H H' s.heap h') (hok:HOk X.prog X.w H' h'):Inv X pins σ H' { s with heap:=h',toks:=t' }:=by
  obtain ⟨m,⟨o,es,ep,ho,r⟩,_⟩:=id I.loc
  obtain ⟨sl,hL⟩:=u.any ho I.free (by simp)
  exact I.step (g':=s.gens) (d':=s.drawn) (ch := []) (fun _ z=>nomatch z) (fun b o _ hb _ e n=>u.keep b o e n hb (by simp)) (fun b o _ hb _ e n=>u.slot b o e n hb (by simp)) (fun b o _ e n=>u.free b o e n (by simp)) (fun b o _ e=>u.there b o e (by simp)) u.tups u.frzs u.tbls (fun m' hm=>by
    obtain ⟨o',es',ep',ho',r'⟩:=hm
    rw [ho] at ho';cases ho'
    exact ⟨_,es',ep',hL,r'⟩) hok I.bare
theorem Inv.call {g':Array GenState} {t':Nat} {d':Drawn} {ch:List Addr} (I:Inv X pins σ H s) (u:Un (frs X.stack) ch H H' s.heap h') (hok:HOk X.prog X.w H' h') (hg:AllBare g')
    (hch:∀ b∈ch,(b∈X.ex∨X.s₀.heap.objs.size≤b)∧b≠X.env.locals∧(∀ x c,X.env.cells.lookup x=some c→c≠b)∧∀ p∈X.pn ++ pins,p.1≠b) :
    Inv X pins σ H' { s with heap:=h',gens:=g',drawn:=d',toks:=t' }:=by
  obtain ⟨m,⟨o,es,ep,ho,r⟩,_⟩:=id I.loc
  obtain ⟨sl,hL⟩:=u.any ho I.free fun z=>(hch _ z).2.1 rfl
  exact I.step (ch:=ch) hch (fun b o hL hb hc e n=>u.keep b o e n (fun z=>(List.mem_cons.mp (I.stkSub b z)).elim hL hb) hc) (fun b o _ _ hc e n=>u.any e n hc) (fun b o hc e n=>u.free b o e n hc) (fun b o hc e=>u.there b o e hc) u.tups u.frzs u.tbls (fun m' hm=>by
    obtain ⟨o',es',ep',ho',r'⟩:=hm
    rw [ho] at ho';cases ho'
    exact ⟨_,es',ep',hL,r'⟩) hok hg
theorem Inv.turned {t':Nat} {it:Addr} (I:Inv X pins σ H s) (k:∀ b o,b≠it→s.heap.get? b=some o→h'.get? b=some o) (hn:H it=none) (hL:it≠X.env.locals)
    (h1:it∈X.ex∨X.s₀.heap.objs.size≤it) (h2:∀ x c,X.env.cells.lookup x=some c→c≠it) (h3:∀ p∈X.pn ++ pins,p.1≠it):Inv X pins σ H { s with heap:=h',toks:=t' }:=by
  have nit:∀ b u,H b=some u→b≠it:=fun b u e z=>by rw [z,hn] at e;cases e
  refine I.step (g':=s.gens) (d':=s.drawn) (ch := [it]) (fun b hb => ?_) (fun b o _ _ hc e _=>k b o (fun z=>hc (by simp [z])) e) (fun b o _ _ hc e _=>⟨o.slots,k b o (fun z=>hc (by simp [z])) e⟩) (fun _ _ _ _ n=>n)
    (fun b o hc e=>⟨o,k b o (fun z=>hc (by simp [z])) e⟩) (fun _ _ e=>e) (fun _ _ _ e=>e) (fun b ps e=>⟨#[],by rw [e];simp⟩) (fun m hm => ?_) (fun b u e => ?_) I.bare
  · have e:b=it:=by simpa using hb
    subst e
    exact ⟨h1,hL,h2,h3⟩
  · obtain ⟨o,es,ep,ho,r⟩:=hm
    exact ⟨o,es,ep,k _ o (Ne.symm hL) ho,r⟩
  · refine (I.hok b u e).stay (fun c v hc q=>k c v ?_ q) (fun _ q=>q) fun _ _ q=>q
    rcases hc with z | z
    · rw [z];exact nit b u e
    · exact nit c _ z
theorem Inv.tok (I:Inv X pins σ H s) (t:Nat):Inv X pins σ H { s with toks:=t }:=I.un (h':=s.heap) (t':=t) Un.refl I.hok
theorem Inv.kept {t':Nat} (I:Inv X pins σ H s) (k:∀ b u,s.heap.get? b=some u→h'.get? b=some u):Inv X pins σ H { s with heap:=h',toks:=t' }:=I.un (Un.kept k) (I.hok.kept k)
theorem Inv.laid {a:Addr} {o:HO} {t':Nat} (I:Inv X pins σ H s) (k:∀ b u,s.heap.get? b=some u→h'.get? b=some u) (hp:s.heap.objs.size≤a) (new:ObjOk X.prog X.w (upd H a o) h' a o) :
    Inv X pins σ (upd H a o) { s with heap:=h',toks:=t' }:=I.un (Un.laid k hp (I.hok.fresh hp)) (I.hok.laid k hp new)
theorem Inv.write {x e:Addr} {o:HO} {t':Nat} (I:Inv X pins σ H s) (mu:Mut (H x)) (he:e=x∨H e=some (.own x)) (k:∀ b u,b≠e→s.heap.get? b=some u→h'.get? b=some u) (heo:∃ u,h'.get? e=some u)
    (new:ObjOk X.prog X.w (upd H x o) h' x o):Inv X pins σ (upd H x o) { s with heap:=h',toks:=t' }:=I.un (Un.write mu he k heo) (I.hok.write mu he k heo new)
theorem Inv.pins_of {pins':List (Addr × Obj)} (I:Inv X pins σ H s) (h:∀ p∈pins',s.heap.get? p.1=some p.2∧H p.1=none∧p.1≠X.env.locals∧p.1 ∉ X.fs∧∀ v,p.2.data ≠ .cell v):Inv X pins' σ H s :=
  ⟨I.ok,I.os,I.bare,I.base,I.loc,I.cell,I.free,I.freeC,fun p hp=>(List.mem_append.mp hp).elim (fun z=>I.pin p (List.mem_append_left _ z)) (h p),I.hok,I.len⟩

theorem nodup_ix {N:List Str} (hN:N.Nodup) {i j:Nat} {x:Str} (a:N[i]? = some x) (b:N[j]? = some x):i=j:=by
  obtain ⟨h1,e1⟩:=List.getElem?_eq_some_iff.mp a
  obtain ⟨h2,e2⟩:=List.getElem?_eq_some_iff.mp b
  exact (List.getElem_inj hN).mp (e1.trans e2.symm)

theorem store_ok2 {M:Model} {A:Around} {E:Value→Shared→Prop} {i:Nat} {x:Str} {v:V} {u:Value} {Q:Unit→Shared→Prop} (I:Inv X pins σ H s) (hN:X.N.Nodup) (hi:X.N[i]? = some x) (hx:Loc X.env.scope x) (r:RelV v u)
    (h:∀ s',Inv X pins (σ.set i (some v)) H s'→(∃ a,Heap.SameBut a s.heap s'.heap∧(a=X.env.locals∨X.env.cells.lookup x=some a))→Q () s') (hf:X.fn x=true∨X.env.scope.names.lookup x=some .local:=by first | exact .inl rfl | exact .inr rfl | assumption):wpAny M A (storeName X.env x u) Q E s:=by
  obtain ⟨m,hn,hl⟩:=id I.loc
  have hcls:(X.env.scope.kind == .class || (X.env.scope.kind == .module && X.env.locals != X.env.globals))=false:=by rw [I.ok.kind];rfl
  have hiσ : i < σ.length:=by rw [I.len];exact (List.getElem?_eq_some_iff.mp hi).1
  have cne:=I.cne
  have tracked:∀ {a:Addr} {h':Heap},(∃ o,s.heap.get? a=some o∧H a=none)→Heap.SameBut a s.heap h'→HOk X.prog X.w H h':=fun {a h'} ha hs b ob e=>by
    obtain ⟨_,_,hfree⟩:=ha
    refine (I.hok b ob e).stay (fun c w' hc q=>(hs.2 c ?_).trans q) (fun _ q=>q) fun _ _ q=>q
    rintro rfl
    rcases hc with rfl | hc
    · rw [hfree] at e;cases e
    · rw [hfree] at hc;cases hc
  rcases hx with hk | hk
  · refine wpAny_storeName_local hk hn (fun h' hn' hs => ?_) hcls
    obtain ⟨oL,_,_,hoL,_⟩:=id hn
    refine h _ ⟨I.ok,I.os,I.bare,⟨fun b o e n hb hx => ?_,fun b o e n hb hx => ?_,I.base.free,fun b o e hx => ?_,I.base.tups,I.base.frzs,I.base.tbls⟩,⟨_,hn',fun j y v' e1 e2 e3 => ?_⟩,fun y c e => ?_,I.free,I.freeC,fun p hp => ?_,tracked ⟨oL,hoL,I.free⟩ hs,by simpa using I.len⟩ ⟨_,hs,.inl rfl⟩
    · exact (hs.2 b (Nat.ne_of_lt (Nat.lt_of_lt_of_le (Heap.lt_size e) I.ok.above))).trans (I.base.keep b o e n hb hx)
    · obtain ⟨sl,e1⟩:=I.base.slot b o e n hb hx
      exact ⟨sl,(hs.2 b (Nat.ne_of_lt (Nat.lt_of_lt_of_le (Heap.lt_size e) I.ok.above))).trans e1⟩
    · obtain ⟨o',e1⟩:=I.base.there b o e hx
      exact ⟨o',(hs.2 b (Nat.ne_of_lt (Nat.lt_of_lt_of_le (Heap.lt_size e) I.ok.above))).trans e1⟩
    · by_cases hj:j=i
      · subst hj
        rw [hi] at e1;cases e1
        rw [List.getElem?_set_self hiσ] at e2
        cases e2
        exact ⟨u,r,.inl ⟨hk,by simp⟩⟩
      · rw [List.getElem?_set_ne (Ne.symm hj)] at e2
        obtain ⟨u',r',q⟩:=hl j y v' e1 e2 e3
        refine ⟨u',r',?_⟩
        rcases q with ⟨k,e⟩ | ⟨k,c,e,z⟩
        · refine .inl ⟨k,?_⟩
          have:y≠x:=fun e=>hj (nodup_ix hN e1 (e ▸ hi))
          simp [this,e]
        · exact .inr ⟨k,c,e,z.sameBut hs (cne y c e)⟩
    · obtain ⟨w',z⟩:=I.cell y c e
      exact ⟨w',z.sameBut hs (cne y c e)⟩
    · obtain ⟨e,n,ne,nf,d⟩:=I.pin p hp
      exact ⟨(hs.2 p.1 ne).trans e,n,ne,nf,d⟩
  · have hfn:X.fn x=true:=by
      rcases hf with z | z
      · exact z
      · rw [z] at hk;cases hk
    obtain ⟨c,hc⟩:=I.ok.has x (.inl hk)
    obtain ⟨w',z⟩:=I.cell x c hc
    refine wpAny_storeName_cell I.ok.kind hk hc z (fun h' hc' hs => ?_)
    obtain ⟨oc,hoc,hocd⟩:=id z
    refine h { s with heap:=h' } ⟨I.ok,I.os,I.bare,⟨fun b o e n hb hx => ?_,fun b o e n hb hx => ?_,I.base.free,fun b o e hx => ?_,I.base.tups,I.base.frzs,I.base.tbls⟩,⟨m,hn.sameBut hs (Ne.symm (cne x c hc)),fun j y v' e1 e2 e3 => ?_⟩,fun y c' e => ?_,I.free,I.freeC,fun p hp => ?_,tracked ⟨oc,hoc,I.freeC x c hc⟩ hs,by simpa using I.len⟩ ⟨c,hs,.inr hc⟩
    · exact (hs.2 b (Nat.ne_of_lt (Nat.lt_of_lt_of_le (Heap.lt_size e) (I.ok.cab x c hfn hc)))).trans (I.base.keep b o e n hb hx)
    · obtain ⟨sl,e1⟩:=I.base.slot b o e n hb hx
      exact ⟨sl,(hs.2 b (Nat.ne_of_lt (Nat.lt_of_lt_of_le (Heap.lt_size e) (I.ok.cab x c hfn hc)))).trans e1⟩
    · obtain ⟨o',e1⟩:=I.base.there b o e hx
      exact ⟨o',(hs.2 b (Nat.ne_of_lt (Nat.lt_of_lt_of_le (Heap.lt_size e) (I.ok.cab x c hfn hc)))).trans e1⟩
    · by_cases hj:j=i
      · subst hj
        rw [hi] at e1;cases e1
        rw [List.getElem?_set_self hiσ] at e2
        cases e2
        exact ⟨u,r,.inr ⟨.inl hk,c,hc,hc'⟩⟩
      · rw [List.getElem?_set_ne (Ne.symm hj)] at e2
        obtain ⟨u',r',q⟩:=hl j y v' e1 e2 e3
        refine ⟨u',r',?_⟩
        rcases q with q | ⟨k,c',e,z'⟩
        · exact .inl q
        · refine .inr ⟨k,c',e,z'.sameBut hs ?_⟩
          rintro rfl
          exact hj (nodup_ix hN e1 (I.ok.inj _ _ _ e hc ▸ hi))
    · by_cases hcc:c'=c
      · subst hcc;exact ⟨_,hc'⟩
      · obtain ⟨w2,z2⟩:=I.cell y c' e
        exact ⟨w2,z2.sameBut hs hcc⟩
    · obtain ⟨e,n,ne,nf,d⟩:=I.pin p hp
      refine ⟨(hs.2 p.1 ?_).trans e,n,ne,nf,d⟩
      intro q
      rw [q,hoc] at e
      have q':oc=p.2:=Option.some.inj e
      exact d w' (by rw [← q'];exact hocd)
theorem store_ok {M:Model} {A:Around} {E:Value→Shared→Prop} {i:Nat} {x:Str} {v:V} {u:Value} {Q:Unit→Shared→Prop} (I:Inv X pins σ H s) (hN:X.N.Nodup) (hi:X.N[i]? = some x) (hx:Loc X.env.scope x) (r:RelV v u)
    (h:∀ s',Inv X pins (σ.set i (some v)) H s'→Q () s') (hf:X.fn x=true∨X.env.scope.names.lookup x=some .local:=by first | exact .inl rfl | exact .inr rfl | assumption):wpAny M A (storeName X.env x u) Q E s :=
  store_ok2 I hN hi hx r (fun s' I' _=>h s' I') hf
theorem Inv.call' {s':Shared} {ch:List Addr} (I:Inv X pins σ H s) (ho:s'.os=s.os) (u:Un (frs X.stack) ch H H' s.heap s'.heap) (hok:HOk X.prog X.w H' s'.heap) (hg:AllBare s'.gens)
    (hch:∀ b∈ch,(b∈X.ex∨X.s₀.heap.objs.size≤b)∧b≠X.env.locals∧(∀ x c,X.env.cells.lookup x=some c→c≠b)∧∀ p∈X.pn ++ pins,p.1≠b):Inv X pins σ H' s':=by
  obtain ⟨h',g',d',t',o'⟩:=s'
  have e:o'=s.os:=ho
  subst e
  exact I.call (g':=g') (t':=t') (d':=d') u hok hg hch
end

noncomputable abbrev XK:=Value→Option Addr→Hp→Prop
noncomputable abbrev St:=List (Option V)
noncomputable abbrev VK:=V→Hp→Prop
noncomputable abbrev TE:=St→Hp→VK→Prop
noncomputable abbrev TT:=St→Hp→(Bool→Hp→Prop)→Prop
noncomputable abbrev TA:=St→Hp→(List V→Hp→Prop)→Prop
structure Ends where
  nx:St→Hp→Prop
  rt:VK
  bk:St→Hp→Prop:=fun _ _=>False
  ct:St→Hp→Prop:=fun _ _=>False
noncomputable abbrev TS:=Ends→St→Hp→Prop

noncomputable def EP (X:Cx) (pins:List (Addr × Obj)) (σ : St) (Q:VK) (u:Value) (s':Shared):Prop := ∃ v H',Inv X pins σ H' s'∧RelV v u∧Q v H'
noncomputable def TP (X:Cx) (pins:List (Addr × Obj)) (σ : St) (Q:Bool→Hp→Prop) (b:Bool) (s':Shared):Prop := ∃ H',Inv X pins σ H' s'∧Q b H'
noncomputable def AP (X:Cx) (pins:List (Addr × Obj)) (σ : St) (Q:List V→Hp→Prop) (us:List Value) (s':Shared):Prop := ∃ vs H',Inv X pins σ H' s'∧Vals vs us∧Q vs H'
noncomputable def SP (X:Cx) (pins:List (Addr × Obj)) (D:Ends) (f:Flow) (s':Shared):Prop :=
  match f with
  | .next=>∃ σ' H',Inv X pins σ' H' s'∧D.nx σ' H'
  | .brk=>∃ σ' H',Inv X pins σ' H' s'∧D.bk σ' H'
  | .cont=>∃ σ' H',Inv X pins σ' H' s'∧D.ct σ' H'
  | .ret u=>∃ v σ' H',Inv X pins σ' H' s'∧RelV v u∧D.rt v H'

noncomputable def PE (X:Cx) (e:Expr) (t:TE):Prop :=
  ∀ (pins:List (Addr × Obj)) (s:Shared) (σ : St) (H:Hp) (Q:VK),Inv X pins σ H s→t σ H Q→wpAny (model X.prog X.w) X.A (eval e X.env) (EP X pins σ Q) X.xe s
noncomputable def PT (X:Cx) (e:Expr) (t:TT):Prop :=
  ∀ (pins:List (Addr × Obj)) (s:Shared) (σ : St) (H:Hp) (Q:Bool→Hp→Prop),Inv X pins σ H s→t σ H Q→wpAny (model X.prog X.w) X.A (isTrue e X.env (eval e X.env)) (TP X pins σ Q) X.xe s
noncomputable def PW (X:Cx) (e:Expr) (t:TT):Prop :=
  ∀ (whole:Sem Value) (pins:List (Addr × Obj)) (s:Shared) (σ : St) (H:Hp) (Q:Bool→Hp→Prop),Inv X pins σ H s→t σ H Q→wpAny (model X.prog X.w) X.A (isTrue e X.env whole) (TP X pins σ Q) X.xe s
theorem PW.pt {X:Cx} {e:Expr} {t:TT} (h:PW X e t):PT X e t:=h _
noncomputable def PA (X:Cx) (es:List Expr) (t:TA):Prop :=
  ∀ (pos:Pos) (pins:List (Addr × Obj)) (s:Shared) (σ : St) (H:Hp) (Q:List V→Hp→Prop),Inv X pins σ H s→t σ H Q→wpAny (model X.prog X.w) X.A (spliced (backTo pos (starEach es X.env))) (AP X pins σ Q) X.xe s
noncomputable def PS (X:Cx) (st:Stmt) (t:TS):Prop :=
  ∀ (pins:List (Addr × Obj)) (s:Shared) (σ : St) (H:Hp) (D:Ends),Inv X pins σ H s→t D σ H→wpAny (model X.prog X.w) X.A (exec st X.env) (SP X pins D) X.xe s
noncomputable def PSs (X:Cx) (st:List Stmt) (t:TS):Prop :=
  ∀ (pins:List (Addr × Obj)) (s:Shared) (σ : St) (H:Hp) (D:Ends),Inv X pins σ H s→t D σ H→wpAny (model X.prog X.w) X.A (execs st X.env) (SP X pins D) X.xe s
theorem thn {α : Type} {t:Sem α} {Q Q' : α → Shared→Prop} {M:Model} {A:Around} {E:Value→Shared→Prop} {s:Shared} (h:wpAny M A t Q E s) (hQ:∀ a s,Q a s→Q' a s):wpAny M A t Q' E s:=wpAny_mono h hQ fun _ _ x=>x
end L2

namespace L2
open PySem PySem.Spec PyProof.Rows
section
variable {X:Cx}


inductive TVar (i:Nat) (σ : St) (H:Hp) (Q:VK):Prop
  | mk (v:V) (e : σ[i]? = some (some v)) (q:Q v H):TVar i σ H Q
noncomputable def tVar (i:Nat):TE:=fun σ H Q=>TVar i σ H Q
noncomputable def tC (v:V):TE:=fun _ H Q=>Q v H
theorem pe_var {i:Nat} {x:Str} {pos:Pos} (hN:X.N[i]? = some x) (hv:Vis X.env.scope x) (hd:(x == ("__debug__" : Str))=false:=by decide) (hcd:(x == ("__classdict__" : Str))=false:=by decide):PE X (.Name x pos) (tVar i):=by
  intro pins s σ H Q I h
  obtain ⟨v,e,h⟩:=h
  obtain ⟨m,hn,hl⟩:=I.loc
  obtain ⟨u,r,l⟩:=hl i x v hN e hv
  have fin:EP X pins σ Q u s:=⟨v,H,I,r,h⟩
  rcases l with ⟨hk,hm⟩ | ⟨hk,c,hc,hcell⟩
  · exact wpAny_Name (wpAny_loadName_local I.ok.kind hk hn hm fin) hd
  · rcases hk with hk | hk
    · exact wpAny_Name (wpAny_loadName_cell I.ok.kind hk hc hcell fin) hd
    · exact wpAny_Name (wpAny_loadName_free I.ok.kind hk hc hcell fin hcd) hd
theorem pe_int {i j pos}:PE X (.Constant (.int i) j pos) (tC (.int i)):=fun _ _ _ H _ I h=>wpAny_Constant_int ⟨.int i,H,I.tok _,⟨_,rfl⟩,h⟩
theorem pe_bl {b j pos}:PE X (.Constant (.bool b) j pos) (tC (.bl b)):=fun _ _ _ H _ I h=>Constant_bool ⟨.bl b,H,I,rfl,h⟩
theorem pe_non {j pos}:PE X (.Constant .none j pos) (tC .non):=fun _ _ _ H _ I h=>Constant_none ⟨.non,H,I,rfl,h⟩
theorem pe_str {x j pos}:PE X (.Constant (.str x) j pos) (tC (.str x)):=fun _ _ _ H _ I h=>Calls.Constant_str ⟨.str x,H,I.tok _,⟨_,rfl⟩,h⟩

noncomputable def Gl (X:Cx) (x:Str):Prop:=X.env.kindOf x=some .globalImplicit
theorem ld_glob {E:Value→Shared→Prop} {pins:List (Addr × Obj)} {s:Shared} {σ : St} {H:Hp} {x:Str} {u:Value} {pos:Pos} {Q:Value→Shared→Prop} (I:Inv X pins σ H s) (hg:Gl X x) (hm:X.mg x=some u) (h:Q u s)
    (hd:(x == ("__debug__" : Str))=false:=by decide):wpAny (model X.prog X.w) X.A (eval (.Name x pos) X.env) Q E s :=
  Calls.Name_function_global I.ok.kind hg (Calls.loadGlobal_global (by rw [I.ok.glob];exact I.mod.glob.keeps I.bk) hm h) hd
theorem ld_blt {E:Value→Shared→Prop} {pins:List (Addr × Obj)} {s:Shared} {σ : St} {H:Hp} {x:Str} {u:Value} {pos:Pos} {Q:Value→Shared→Prop} (I:Inv X pins σ H s) (hg:Gl X x) (hm:X.mg x=none) (hv:bootBuiltins x=some u) (h:Q u s)
    (hn:x ≠ "__name__" := by decide) (hd:(x == ("__debug__" : Str))=false:=by decide):wpAny (model X.prog X.w) X.A (eval (.Name x pos) X.env) Q E s:=by
  obtain ⟨mb,h1,h2⟩:=I.mod.blt
  exact Calls.Name_function_global I.ok.kind hg (Calls.loadGlobal_builtin (by rw [I.ok.glob];exact I.mod.glob.keeps I.bk) hm (by rw [I.ok.blt];exact h1.keeps I.bk) ((h2 x hn).trans hv) h) hd
theorem pe_glob {x:Str} {v:V} {u:Value} {pos:Pos} (hg:Gl X x) (hm:X.mg x=some u) (r:RelV v u) (hd:(x == ("__debug__" : Str))=false:=by decide):PE X (.Name x pos) (tC v) :=
  fun _ _ _ H _ I h=>ld_glob I hg hm ⟨v,H,I,r,h⟩ hd
theorem pe_bltn {x:Str} {v:V} {u:Value} {pos:Pos} (hg:Gl X x) (hm:X.mg x=none) (hv:bootBuiltins x=some u) (r:RelV v u) (hn:x ≠ "__name__" := by decide) (hd:(x == ("__debug__" : Str))=false:=by decide):PE X (.Name x pos) (tC v) :=
  fun _ _ _ H _ I h=>ld_blt I hg hm hv ⟨v,H,I,r,h⟩ hn hd

variable {a b:Expr} {ta tb:TE} {pos:Pos}

inductive J_tB (Q:Bool→Hp→Prop) (x:V) (H1:Hp):Prop
  | mk:∀ c,(x = .bl c)→(Q c H1)→J_tB Q x H1
noncomputable def tB (t:TE):TT:=fun σ H Q=>t σ H fun x H1=>J_tB Q x H1
theorem pt_val {e:Expr} {t:TE} (h:PE X e t) (he:∀ whole,isTrue e X.env whole=(do let v ← whole;standAt e.pos;holding [v] (truthy v)):=by intro _;rfl):PT X e (tB t):=by
  intro pins s σ H Q I hw
  refine isTrue_plain (thn (h pins s σ H _ I hw) fun v s1 ⟨x,H1,I1,r1,q1⟩ => ?_) (he _)
  obtain ⟨d,rfl,q⟩:=q1
  cases r1
  exact wpAny_truthy_bool ⟨H1,I1,q⟩

variable {tA tB':TT} {rest:List Expr}
noncomputable def tAnd (t u:TT):TT:=fun σ H Q=>t σ H fun c H1=>if c=true then u σ H1 Q else Q false H1
noncomputable def tOr (t u:TT):TT:=fun σ H Q=>t σ H fun c H1=>if c=true then Q true H1 else u σ H1 Q
noncomputable def tNot (t:TT):TT:=fun σ H Q=>t σ H fun c H1=>Q (!c) H1
theorem pw_and1 (ha:PT X a tA):PW X (.BoolOp .And [a] pos) tA:=by
  intro wh pins s σ H Q I h
  refine isTrue_and (thn (ha pins s σ H Q I h) fun c s1 e => ?_)
  cases c with
  | true=>exact isTrue_and_nil e
  | false=>exact e
theorem pw_or1 (ha:PT X a tA):PW X (.BoolOp .Or [a] pos) tA:=by
  intro wh pins s σ H Q I h
  refine isTrue_or (thn (ha pins s σ H Q I h) fun c s1 e => ?_)
  cases c with
  | false=>exact isTrue_or_nil e
  | true=>exact e
theorem pw_and (ha:PT X a tA) (hb:PW X (.BoolOp .And (b :: rest) pos) tB'):PW X (.BoolOp .And (a :: b :: rest) pos) (tAnd tA tB'):=by
  intro wh pins s σ H Q I h
  refine isTrue_and (thn (ha pins s σ H _ I h) fun c s1 ⟨H1,I1,q1⟩ => ?_)
  cases c with
  | true=>exact hb wh pins s1 σ H1 Q I1 q1
  | false=>exact ⟨H1,I1,q1⟩
theorem pw_or (ha:PT X a tA) (hb:PW X (.BoolOp .Or (b :: rest) pos) tB'):PW X (.BoolOp .Or (a :: b :: rest) pos) (tOr tA tB'):=by
  intro wh pins s σ H Q I h
  refine isTrue_or (thn (ha pins s σ H _ I h) fun c s1 ⟨H1,I1,q1⟩ => ?_)
  cases c with
  | true=>exact ⟨H1,I1,q1⟩
  | false=>exact hb wh pins s1 σ H1 Q I1 q1
theorem pt_not (ha:PT X a tA):PT X (.UnaryOp .Not a pos) (tNot tA):=by
  intro pins s σ H Q I h
  exact isTrue_not (ha pins s σ H (fun c H1=>Q (!c) H1) I h)
noncomputable def tAndV (ta tb:TE):TE:=fun σ H Q=>ta σ H fun x H1=>∃ c,x = .bl c∧if c=true then tb σ H1 Q else Q (.bl false) H1
noncomputable def tOrV (ta tb:TE):TE:=fun σ H Q=>ta σ H fun x H1=>∃ c,x = .bl c∧if c=true then Q (.bl true) H1 else tb σ H1 Q
inductive J_tNotV (Q:VK) (x:V) (H1:Hp):Prop
  | mk:∀ c,(x = .bl c)→(Q (.bl (!c)) H1)→J_tNotV Q x H1
noncomputable def tNotV (ta:TE):TE:=fun σ H Q=>ta σ H fun x H1=>J_tNotV Q x H1
theorem pe_one {op} {t:TE} (h:PE X a t):PE X (.BoolOp op [a] pos) t:=fun pins s σ H Q I hw=>BoolOp_one (h pins s σ H Q I hw)
theorem pe_and (ha:PE X a ta) (hb:PE X (.BoolOp .And (b :: rest) pos) tb):PE X (.BoolOp .And (a :: b :: rest) pos) (tAndV ta tb):=by
  intro pins s σ H Q I h
  refine BoolOp_and (thn (ha pins s σ H _ I h) fun v s1 ⟨x,H1,I1,r1,q1⟩ => ?_)
  obtain ⟨c,rfl,q1⟩:=q1
  cases r1
  refine wpAny_truthy_bool ?_
  cases c with
  | true=>exact hb pins s1 σ H1 Q I1 q1
  | false=>exact ⟨.bl false,H1,I1,rfl,q1⟩
theorem pe_or (ha:PE X a ta) (hb:PE X (.BoolOp .Or (b :: rest) pos) tb):PE X (.BoolOp .Or (a :: b :: rest) pos) (tOrV ta tb):=by
  intro pins s σ H Q I h
  refine BoolOp_or (thn (ha pins s σ H _ I h) fun v s1 ⟨x,H1,I1,r1,q1⟩ => ?_)
  obtain ⟨c,rfl,q1⟩:=q1
  cases r1
  refine wpAny_truthy_bool ?_
  cases c with
  | false=>exact hb pins s1 σ H1 Q I1 q1
  | true=>exact ⟨.bl true,H1,I1,rfl,q1⟩
theorem pe_not (ha:PE X a ta):PE X (.UnaryOp .Not a pos) (tNotV ta):=by
  intro pins s σ H Q I h
  refine UnaryOp_ (thn (ha pins s σ H _ I h) fun v s1 ⟨x,H1,I1,r1,q1⟩ => ?_)
  obtain ⟨c,rfl,q1⟩:=q1
  cases r1
  exact not_of (wpAny_truthy_bool ⟨.bl (!c),H1,I1,rfl,q1⟩)
end
end L2

namespace L2
open PySem PySem.Spec PyProof.Rows

noncomputable def SqL (K:PySem.W.Frag) (H:Hp) (a:Addr) (xs:List V):Prop :=
  Rd H a (.lst xs) ∨
    ∃ (o:Obj) (its:Array Value) (n:Nat),K.lookup a=some o∧o.cls = .type "list" ∧ o.dict=none∧o.data = .seq its n∧its.size≤sizeLine∧Vals xs its.toList
noncomputable def SqT (K:PySem.W.Frag) (H:Hp) (a:Addr) (xs:List V):Prop :=
  Rd H a (.tup xs) ∨
    ∃ (o:Obj) (its:Array Value) (n:Nat),K.lookup a=some o∧o.cls = .type "tuple" ∧ o.data = .seq its n∧its.size≤sizeLine∧Vals xs its.toList
noncomputable def absV:Value→Option V
  | .none=>some .non
  | .bool b=>some (.bl b)
  | .int i _=>some (.int i)
  | .str x _=>some (.str x)
  | .bytes b _=>some (.byt b)
  | .float b _=>some (.flt b)
  | .ref a=>some (.ref a)
  | .type n=>some (.ty n)
  | _=>none
theorem RelV.abs {x:V} {u:Value} (r:RelV x u):absV u=some x:=by
  cases x with
  | non=>cases r;rfl
  | bl _=>cases r;rfl
  | int _=>obtain ⟨t,rfl⟩:=r;rfl
  | str _=>obtain ⟨t,rfl⟩:=r;rfl
  | byt _=>obtain ⟨t,rfl⟩:=r;rfl
  | flt _=>obtain ⟨t,rfl⟩:=r;rfl
  | ref _=>cases r;rfl
  | ty _=>cases r;rfl
theorem RelV.inj {x y:V} {u:Value} (r:RelV x u) (q:RelV y u):x=y:=Option.some.inj (r.abs.symm.trans q.abs)
theorem Vals.inj:∀ {xs ys:List V} {us:List Value},Vals xs us→Vals ys us→xs=ys
  | _,_,_,.nil,.nil=>rfl
  | _,_,_,.cons r t,.cons r' t'=>by rw [r.inj r',Vals.inj t t']
section
variable {X:Cx} {pins:List (Addr × Obj)} {σ : St} {H:Hp} {s:Shared} {a:Addr} {xs ys:List V}
theorem SqL.of {K:PySem.W.Frag} (h:H a=some (.lst xs)):SqL K H a xs := .inl (.inl h)
theorem SqT.of {K:PySem.W.Frag} (h:H a=some (.tup xs)):SqT K H a xs := .inl (.inl h)
theorem Inv.list (I:Inv X pins σ H s) (h:SqL X.K H a xs):∃ its:List Value,Vals xs its∧PlainL s.heap a its.toArray∧xs.length≤sizeLine:=by
  rcases h with h | ⟨o,its,n,hk,hc,hd,hs,hz,r⟩
  · obtain ⟨z,its,n,r,e⟩:=h.ok I.hok
    exact ⟨its,r,⟨_,n,e,rfl,rfl,rfl⟩,z⟩
  · refine ⟨its.toList,r,⟨o,n,I.kIn a o hk,hc,hd,by simpa using hs⟩,?_⟩
    have e:=r.length
    simp only [Array.length_toList] at e
    omega
theorem Inv.tuple (I:Inv X pins σ H s) (h:SqT X.K H a xs):∃ its:List Value,Vals xs its∧IsTup s.heap a its.toArray∧xs.length≤sizeLine:=by
  rcases h with h | ⟨o,its,n,hk,hc,hs,hz,r⟩
  · obtain ⟨z,its,r,p⟩:=h.ok I.hok
    exact ⟨its,r,p.tup,z⟩
  · refine ⟨its.toList,r,⟨o,I.kIn a o hk,hc,n,by simpa using hs⟩,?_⟩
    have e:=r.length
    simp only [Array.length_toList] at e
    omega
theorem Inv.list_inj (I:Inv X pins σ H s) (h:SqL X.K H a xs) (h':SqL X.K H a ys):xs=ys:=by
  obtain ⟨its,r,⟨o,n,e,_,_,d⟩,_⟩:=I.list h
  obtain ⟨its',r',⟨o',n',e',_,_,d'⟩,_⟩:=I.list h'
  rw [e] at e';cases e'
  rw [d] at d'
  injection d' with d1 _
  have:its=its':=by simpa using congrArg Array.toList d1
  subst this
  exact r.inj r'
theorem Inv.tuple_inj (I:Inv X pins σ H s) (h:SqT X.K H a xs) (h':SqT X.K H a ys):xs=ys:=by
  obtain ⟨its,r,⟨o,e,_,n,d⟩,_⟩:=I.tuple h
  obtain ⟨its',r',⟨o',e',_,n',d'⟩,_⟩:=I.tuple h'
  rw [e] at e';cases e'
  rw [d] at d'
  injection d' with d1 _
  have:its=its':=by simpa using congrArg Array.toList d1
  subst this
  exact r.inj r'
end

noncomputable abbrev Cx.wish (X:Cx) (E:Value→Shared→Prop):Cx := { X with xe:=E }
noncomputable abbrev Cx.nox (X:Cx):Cx:=X.wish fun _ _=>False
theorem Cx.Ok.wish {X:Cx} (ok:X.Ok) (E:Value→Shared→Prop):(X.wish E).Ok :=
  ⟨ok.mod,ok.kind,ok.glob,ok.blt,ok.above,ok.inj,ok.has,ok.cab,ok.hd,ok.frames,ok.stk,ok.exf,ok.bs,ok.bsz,ok.noex,ok.exfs,ok.funs,ok.frf⟩
theorem Cx.Ok.unwish {X:Cx} {E:Value→Shared→Prop} (ok:(X.wish E).Ok):X.Ok :=
  ⟨ok.mod,ok.kind,ok.glob,ok.blt,ok.above,ok.inj,ok.has,ok.cab,ok.hd,ok.frames,ok.stk,ok.exf,ok.bs,ok.bsz,ok.noex,ok.exfs,ok.funs,ok.frf⟩
section
variable {X:Cx} {pins:List (Addr × Obj)} {σ : St} {H:Hp} {s:Shared} {E:Value→Shared→Prop}
theorem Inv.wish (I:Inv X pins σ H s) (E:Value→Shared→Prop):Inv (X.wish E) pins σ H s:=⟨I.ok.wish E,I.os,I.bare,I.base,I.loc,I.cell,I.free,I.freeC,I.pin,I.hok,I.len⟩
theorem Inv.unwish (I:Inv (X.wish E) pins σ H s):Inv X pins σ H s:=⟨I.ok.unwish,I.os,I.bare,I.base,I.loc,I.cell,I.free,I.freeC,I.pin,I.hok,I.len⟩
theorem SP.unwish {D:Ends} {f:Flow} {s':Shared} (h:SP (X.wish E) pins D f s'):SP X pins D f s':=by
  cases f with
  | next=>obtain ⟨σ',H',I,q⟩:=h;exact ⟨σ',H',I.unwish,q⟩
  | brk=>obtain ⟨σ',H',I,q⟩:=h;exact ⟨σ',H',I.unwish,q⟩
  | cont=>obtain ⟨σ',H',I,q⟩:=h;exact ⟨σ',H',I.unwish,q⟩
  | ret u=>obtain ⟨v, σ',H',I,r,q⟩:=h;exact ⟨v, σ',H',I.unwish,r,q⟩
theorem PSs.nox {st:List Stmt} {t:TS} (h:PSs X.nox st t):PSs X st t:=fun pins s σ H D I hw =>
  wpAny_mono (h pins s σ H D (I.wish _) hw) (fun _ _ q=>q.unwish) fun _ _ z=>False.elim z
end

section
variable {X:Cx} {st:Stmt} {rest:List Stmt} {t u:TS} {e:Expr} {te:TE} {pos:Pos}
noncomputable def tNext:TS:=fun D σ H=>D.nx σ H
noncomputable def tSeq (t u:TS):TS:=fun D σ H=>t { D with nx:=u D } σ H
theorem pss_nil:PSs X [] tNext:=fun _ _ σ H _ I h=>wpAny_execs_nil ⟨σ,H,I,h⟩
theorem pss_cons (h1:PS X st t) (h2:PSs X rest u):PSs X (st :: rest) (tSeq t u):=by
  intro pins s σ H D I h
  refine wpAny_execs_cons (thn (h1 pins s σ H { D with nx:=u D } I h) fun f s1 q => ?_)
  cases f with
  | next =>
    obtain ⟨σ',H',I',q⟩:=q
    exact h2 pins s1 σ' H' D I' q
  | ret v=>exact q
  | brk=>exact q
  | cont=>exact q
theorem pss_one (h1:PS X st t):PSs X [st] t:=by
  intro pins s σ H D I h
  refine wpAny_execs_cons (thn (h1 pins s σ H D I h) fun f s1 q => ?_)
  cases f with
  | next=>exact wpAny_execs_nil q
  | ret v=>exact q
  | brk=>exact q
  | cont=>exact q
theorem Inv.quiet {pins:List (Addr × Obj)} {σ : St} {H:Hp} {s:Shared} (I:Inv X pins σ H s):interactive X.env=false:=by simp [interactive,I.ok.kind]
noncomputable def tDrop (te:TE):TS:=fun D σ H=>te σ H fun _ H1=>D.nx σ H1
theorem ps_expr (he:PE X e te) (hs:swapsWith e none pos.line X.env=pure false:=by rfl):PS X (.Expr e pos) (tDrop te):=by
  intro pins s σ H D I h
  exact wpAny_Expr_any (thn (he pins s σ H _ I h) fun v s1 ⟨x,H1,I1,r1,q1⟩=>⟨σ,H1,I1,q1⟩) I.quiet hs
noncomputable def tRet (te:TE):TS:=fun D σ H=>te σ H D.rt
theorem ps_ret (he:PE X e te):PS X (.Return (some e) pos) (tRet te):=by
  intro pins s σ H D I h
  exact wpAny_Return_some (thn (he pins s σ H _ I h) fun v s1 ⟨x,H1,I1,r1,q1⟩=>⟨x, σ,H1,I1,r1,q1⟩)
noncomputable def tIfS (c:TT) (t u:TS):TS:=fun D σ H=>c σ H fun b H1=>if b=true then t D σ H1 else u D σ H1
theorem ps_if {c:Expr} {a b:List Stmt} {tc:TT} (hc:PT X c tc) (ha:PSs X a t) (hb:PSs X b u):PS X (.If c a b pos) (tIfS tc t u):=by
  intro pins s σ H D I h
  refine wpAny_If (thn (hc pins s σ H _ I h) fun d s1 ⟨H1,I1,q1⟩ => ?_)
  cases d with
  | true=>exact ha pins s1 σ H1 D I1 q1
  | false=>exact hb pins s1 σ H1 D I1 q1
end

noncomputable abbrev TG:=V→St→Hp→(St→Hp→Prop)→Prop
noncomputable abbrev TGs:=List V→St→Hp→(St→Hp→Prop)→Prop
noncomputable def PG (X:Cx) (target:Expr) (t:TG):Prop :=
  ∀ (pins:List (Addr × Obj)) (s:Shared) (σ : St) (H:Hp) (v:V) (u:Value) (Q:St→Hp→Prop),Inv X pins σ H s→RelV v u→t v σ H Q →
    wpAny (model X.prog X.w) X.A (assign target X.env u) (fun _ s'=>∃ σ' H',Inv X pins σ' H' s'∧Q σ' H') X.xe s
noncomputable def PGs (X:Cx) (ts:List Expr) (t:TGs):Prop :=
  ∀ (pins:List (Addr × Obj)) (s:Shared) (σ : St) (H:Hp) (vs:List V) (us:List Value) (Q:St→Hp→Prop),Inv X pins σ H s→Vals vs us→t vs σ H Q →
    wpAny (model X.prog X.w) X.A (assignInOrder ((assignEach ts X.env).map (·.2)) us) (fun _ s'=>∃ σ' H',Inv X pins σ' H' s'∧Q σ' H') X.xe s
noncomputable abbrev TIp:=V→V→Hp→VK→Prop
noncomputable def PIp (X:Cx) (op:Operator) (t:TIp):Prop :=
  ∀ (pins:List (Addr × Obj)) (s:Shared) (σ : St) (H:Hp) (x y:V) (v u:Value) (Q:VK),Inv X pins σ H s→RelV x v→RelV y u→t x y H Q →
    wpAny (model X.prog X.w) X.A (inplaceOp op v u) (EP X pins σ Q) X.xe s
section
variable {X:Cx} {pos:Pos}
noncomputable def gName (i:Nat):TG:=fun v σ H Q=>Q (σ.set i (some v)) H
theorem pg_name {i:Nat} {x:Str} (hN:X.N.Nodup) (hi:X.N[i]? = some x) (hx:Loc X.env.scope x) (hf:X.fn x=true∨X.env.scope.names.lookup x=some .local:=by first | exact .inl rfl | exact .inr rfl | assumption):PG X (.Name x pos) (gName i):=by
  intro pins s σ H v u Q I r h
  exact wpAny_assign_Name (store_ok I hN hi hx r (fun s' I'=>⟨_,H,I',h⟩) hf)
noncomputable def gNil:TGs:=fun vs σ H Q=>vs = []∧Q σ H
inductive J_gCons (t:TG) (u:TGs) (vs:List V) (σ : St) (H:Hp) (Q:St→Hp→Prop):Prop
  | mk:∀ v r,(vs=v :: r)→(t v σ H fun σ' H'=>u r σ' H' Q)→J_gCons t u vs σ H Q
noncomputable def gCons (t:TG) (u:TGs):TGs:=fun vs σ H Q=>J_gCons t u vs σ H Q
theorem pgs_nil:PGs X [] gNil:=by
  intro pins s σ H vs us Q I r h
  obtain ⟨e,h⟩:=h
  subst e
  cases r
  exact assignInOrder_nil ⟨σ,H,I,h⟩
theorem pgs_cons {e:Expr} {es:List Expr} {t:TG} {u:TGs} (h1:PG X e t) (h2:PGs X es u)
    (hs:(assignEach (e :: es) X.env).map (·.2)=assign e X.env :: (assignEach es X.env).map (·.2):=by rfl):PGs X (e :: es) (gCons t u):=by
  intro pins s σ H vs us Q I r h
  obtain ⟨v,vr,e1,h⟩:=h
  subst e1
  cases r with
  | cons r rr =>
    rw [hs]
    refine assignInOrder_cons (thn (h1 pins s σ H _ _ _ I r h) fun _ s1 ⟨σ1,H1,I1,q1⟩ => ?_)
    exact h2 pins s1 σ1 H1 _ _ Q I1 rr q1
inductive J_gTup (K:PySem.W.Frag) (n:Nat) (t:TGs) (v:V) (σ : St) (H:Hp) (Q:St→Hp→Prop):Prop
  | mk:∀ a xs,(v = .ref a)→(SqT K H a xs)→(xs.length=n)→(t xs σ H Q)→J_gTup K n t v σ H Q
noncomputable def gTup (K:PySem.W.Frag) (n:Nat) (t:TGs):TG:=fun v σ H Q=>J_gTup K n t v σ H Q
theorem pg_tup {es:List Expr} {k:Nat} {t:TGs} {n:Nat} (hc:X.calm=true) (h:PGs X es t)
    (hn:(assignEach es X.env).length=n:=by rfl) (hst:(assignEach es X.env).findIdx? (·.1)=none:=by rfl):PG X (.Tuple es k pos) (gTup X.K n t):=by
  intro pins s σ H v u Q I r hw
  obtain ⟨a,xs,e1,hq,hl,hw⟩:=hw
  subst e1
  cases r
  obtain ⟨its,rv,ht,hz⟩:=I.tuple hq
  refine assign_Tuple_tuple (I.ok.hd hc) ht (by simp [hn, ← hl,rv.length]) hst fun h' hx => ?_
  have I1:Inv X pins σ H { s with heap:=h' }:=I.kept (t':=s.toks) fun b o e=>hx b o (Nat.ne_of_lt (Heap.lt_size e)) e
  exact h pins _ σ H xs _ Q I1 (by simpa using rv) hw
noncomputable def tAsg (te:TE) (g:TG):TS:=fun D σ H=>te σ H fun x H1=>g x σ H1 D.nx
theorem ps_asg {tg e:Expr} {te:TE} {g:TG} (he:PE X e te) (hg:PG X tg g) (hs:swapsWithSole [tg] e pos.line X.env=pure false:=by rfl) (hw:swappedStores [tg] e X.env=pure none:=by rfl)
    (h1:(assignEach [tg] X.env).map (·.2) = [assign tg X.env]:=by rfl):PS X (.Assign [tg] e pos) (tAsg te g):=by
  intro pins s σ H D I h
  refine wpAny_Assign_stores (thn (he pins s σ H _ I h) fun v s1 ⟨x,H1,I1,r1,q1⟩ => ?_) hs hw
  rw [h1]
  exact thn (hg pins s1 σ H1 x v _ I1 r1 q1) fun _ s2 q=>q
theorem ps_set {i:Nat} {x:Str} {e:Expr} {te:TE} {pos':Pos} (hN:X.N.Nodup) (hi:X.N[i]? = some x) (hx:Loc X.env.scope x) (he:PE X e te) (hs:swapsWith e (some (.Name x pos')) pos.line X.env=pure false:=by rfl) (hf:X.fn x=true∨X.env.scope.names.lookup x=some .local:=by first | exact .inl rfl | exact .inr rfl | assumption) :
    PS X (.Assign [.Name x pos'] e pos) (tAsg te (gName i)):=by
  intro pins s σ H D I h
  refine wpAny_Assign_Name (thn (he pins s σ H _ I h) fun v s1 ⟨y,H1,I1,r1,q1⟩ => ?_) hs
  exact store_ok I1 hN hi hx r1 (fun s2 I2=>⟨_,H1,I2,q1⟩) hf
inductive J_tAug (i:Nat) (te:TE) (ti:TIp) (D:Ends) (σ : St) (H:Hp):Prop
  | mk:∀ x,(σ[i]? = some (some x))→(te σ H fun y H1=>ti x y H1 fun z H2=>D.nx (σ.set i (some z)) H2)→J_tAug i te ti D σ H
noncomputable def tAug (i:Nat) (te:TE) (ti:TIp):TS:=fun D σ H=>J_tAug i te ti D σ H
theorem ps_aug {i:Nat} {x:Str} {e:Expr} {te:TE} {op:Operator} {ti:TIp} {pos':Pos} (hN:X.N.Nodup) (hi:X.N[i]? = some x) (hx:Loc X.env.scope x) (he:PE X e te) (ho:PIp X op ti) (hf:X.fn x=true∨X.env.scope.names.lookup x=some .local:=by first | exact .inl rfl | exact .inr rfl | assumption) :
    PS X (.AugAssign (.Name x pos') op e pos) (tAug i te ti):=by
  intro pins s σ H D I h
  obtain ⟨v,e1,h⟩:=h
  obtain ⟨m,hn,hl⟩:=I.loc
  have vis:Vis X.env.scope x:=by rcases hx with k | k;exact .inl k;exact .inr (.inl k)
  obtain ⟨u,r,l⟩:=hl i x v hi e1 vis
  refine wpAny_AugAssign_Name ?_
  have go:wpAny (model X.prog X.w) X.A (eval e X.env) (fun w s₂ => wpAny (model X.prog X.w) X.A (inplaceOp op u w) (fun r s₃ => wpAny (model X.prog X.w) X.A (storeName X.env x r) (fun _=>SP X pins D .next) X.xe s₃) X.xe s₂) X.xe s:=by
    refine thn (he pins s σ H _ I h) fun w s1 ⟨y,H1,I1,r1,q1⟩ => ?_
    refine thn (ho pins s1 σ H1 v y u w _ I1 r r1 q1) fun z s2 ⟨zv,H2,I2,r2,q2⟩ => ?_
    exact store_ok I2 hN hi hx r2 (fun s3 I3=>⟨_,H2,I3,q2⟩) hf
  rcases l with ⟨hk,hm⟩ | ⟨hk,c,hc,hcell⟩
  · exact wpAny_loadName_local I.ok.kind hk hn hm go
  · rcases hk with hk | hk
    · exact wpAny_loadName_cell I.ok.kind hk hc hcell go
    · rcases hx with k | k
      · have:X.env.scope.names.lookup x=some .free:=hk
        rw [k] at this;cases this
      · have:X.env.scope.names.lookup x=some .free:=hk
        rw [k] at this;cases this
noncomputable def ipI (f:Int→Int→Int):TIp:=fun x y H Q=>∃ i j,x = .int i∧y = .int j∧Q (.int (f i j)) H
theorem ip_add:PIp X .Add (ipI fun i j=>i+j):=by
  intro pins s σ H x y v u Q I r1 r2 h
  obtain ⟨i,j,e1,e2,q⟩:=h
  subst e1;subst e2
  obtain ⟨t,rfl⟩:=r1
  obtain ⟨t',rfl⟩:=r2
  exact iadd_int ⟨.int _,H,I.tok _,⟨_,rfl⟩,q⟩
end

section
variable {X:Cx} {pos:Pos}
noncomputable def tWhile (c:TT) (tb:TS):TS:=fun D σ H=>∃ W:Nat→St→Hp→Prop,(∃ m,W m σ H)∧∀ m σ H,W m σ H →
  c σ H fun b H1=>if b=true then ∃ N:St→Hp→Prop,(∀ σ' H',N σ' H'→∃ m',m' < m∧W m' σ' H')∧tb { D with nx:=N,ct:=N,bk:=D.nx } σ H1 else D.nx σ H1
theorem ps_while {c:Expr} {body:List Stmt} {tc:TT} {tb:TS} (hp:PassesOwn (model X.prog X.w) X.A X.env X.xe) (hc:PT X c tc) (hb:PSs X body tb):PS X (.While c body [] pos) (tWhile tc tb):=by
  intro pins s σ H D I h
  obtain ⟨W,⟨m0,w0⟩,turn⟩:=h
  refine wpAny_While (codeAny_whileLoop (fun n s'=>∃ σ' H',Inv X pins σ' H' s'∧W n σ' H') ?_ m0 ⟨σ,H,I,w0⟩)
  rintro n s1 ⟨σ1,H1,I1,w1⟩
  refine wpAny_passesOwn hp (thn (hc pins s1 σ1 H1 _ I1 (turn n σ1 H1 w1)) fun b s2 ⟨H2,I2,q2⟩ => ?_)
  cases b with
  | true =>
    obtain ⟨N,hN,q2⟩:=q2
    rw [if_pos rfl]
    refine wpAny_passesOwn hp (thn (hb pins s2 σ1 H2 _ I2 q2) fun f s3 q3 => ?_)
    cases f with
    | next =>
      obtain ⟨σ3,H3,I3,n3⟩:=q3
      obtain ⟨m',hm,w3⟩:=hN σ3 H3 n3
      exact ⟨m',hm, σ3,H3,I3,w3⟩
    | cont =>
      obtain ⟨σ3,H3,I3,n3⟩:=q3
      obtain ⟨m',hm,w3⟩:=hN σ3 H3 n3
      exact ⟨m',hm, σ3,H3,I3,w3⟩
    | brk=>exact q3
    | ret v=>exact q3
  | false =>
    rw [if_neg Bool.false_ne_true]
    exact wpAny_execs_nil ⟨σ1,H2,I2,q2⟩
end

structure It where
  go:Nat→Hp→Prop
  yld:Nat→Hp→V→Hp→Prop
  stop:Nat→Hp→Prop
noncomputable def FpOk (X:Cx) (pins:List (Addr × Obj)) (H:Hp) (b:Addr):Prop :=
  H b=none∧b≠X.env.locals∧b ∉ X.fs∧(b∈X.ex∨X.s₀.heap.objs.size≤b)∧(∀ x c,X.env.cells.lookup x=some c→c≠b)∧∀ p∈X.pn ++ pins,p.1≠b
theorem Inv.fpOk {X:Cx} {pins:List (Addr × Obj)} {σ : St} {H H':Hp} {s:Shared} {b:Addr} (I:Inv X pins σ H s) (hb:s.heap.objs.size≤b) (hn:H' b=none):FpOk X pins H' b:=by
  refine ⟨hn,Nat.ne_of_gt (Nat.lt_of_lt_of_le I.lt hb),I.nofs hb,.inr (Nat.le_trans I.sz hb),fun x c e z => ?_,fun p hp z => ?_⟩
  · obtain ⟨v,q⟩:=I.cell x c e
    exact absurd (Nat.lt_of_lt_of_le q.lt (by rw [z];exact hb)) (Nat.lt_irrefl _)
  · exact absurd (Nat.lt_of_lt_of_le (Heap.lt_size (I.pin p hp).1) (by rw [z];exact hb)) (Nat.lt_irrefl _)
structure Turn (P:Program) (w:World) (K:PySem.W.Frag) (tg:Expr) (J:It) (fp:List Addr) (it:Addr) (tn:Nat→Heap→Prop):Prop where
  mem:it∈fp
  obj:∀ i h,tn i h→∀ b∈fp,∃ o,h.get? b=some o∧∀ v,o.data ≠ .cell v
  keep:∀ i h h',tn i h→(∀ b∈fp,∀ o,h.get? b=some o→h'.get? b=some o)→tn i h'
  item:∀ (X:Cx),X.prog=P→X.w=w→X.K=K→X.calm=true→∀ (i:Nat) (pins:List (Addr × Obj)) (s:Shared) (σ : St) (H:Hp) (E:Value→Shared→Prop),Inv X pins σ H s→(∀ b∈fp,FpOk X pins H b)→tn i s.heap→J.go i H →
    wpAny (model P w) X.A (pyNext (.ref it)) (fun r s1=>∃ u,r=some u ∧
      wpAny (model P w) X.A (letOwnedTupleGo tg (.ref it) u) (fun _ s2=>∃ x H',Inv X pins σ H' s2∧RelV x u∧J.yld i H x H'∧tn (i+1) s2.heap∧∀ b∈fp,H' b=none) E s1) E s
  done:∀ (X:Cx),X.prog=P→X.w=w→X.K=K→X.calm=true→∀ (i:Nat) (pins:List (Addr × Obj)) (s:Shared) (σ : St) (H:Hp) (E:Value→Shared→Prop),Inv X pins σ H s→(∀ b∈fp,FpOk X pins H b)→tn i s.heap→J.stop i H →
    wpAny (model P w) X.A (pyNext (.ref it)) (fun r s1=>r=none∧Inv X pins σ H s1) E s
  self:∀ (A:Around) (i:Nat) (s:Shared) (Q:Value→Shared→Prop) (E:Value→Shared→Prop),tn i s.heap→Q (.ref it) s→wpAny (model P w) A (pyIter (.ref it)) Q E s
noncomputable abbrev TI:=St→Hp→(It→Hp→Prop)→Prop
noncomputable def PIE (X:Cx) (pins:List (Addr × Obj)) (σ : St) (tg:Expr) (R:It→Hp→Prop) (itv:Value) (s2:Shared):Prop :=
  ∃ (it:Addr) (fp:List Addr) (tn:Nat→Heap→Prop) (J:It) (H':Hp),itv = .ref it∧Inv X pins σ H' s2∧Turn X.prog X.w X.K tg J fp it tn∧tn 0 s2.heap∧(∀ b∈fp,FpOk X pins H' b)∧R J H'
noncomputable def PI (X:Cx) (tg iter:Expr) (wi:TI):Prop :=
  ∀ (pins:List (Addr × Obj)) (s:Shared) (σ : St) (H:Hp) (R:It→Hp→Prop),Inv X pins σ H s→wi σ H R →
    wpAny (model X.prog X.w) X.A (eval iter X.env) (fun v s1=>wpAny (model X.prog X.w) X.A (pyIter v) (PIE X pins σ tg R) X.xe s1) X.xe s

theorem go_of {M:Model} {A:Around} {E:Value→Shared→Prop} {s:Shared} {tg:Expr} {it:Addr} {u:Value} {o:Obj} {n:String} {vs:Array Value} {Q:Unit→Shared→Prop} (ho:s.heap.get? it=some o) (hc:o.cls = .type n) (hd:o.data = .fields vs)
    (hn : ["enumerate", "zip", "dict_itemiterator", "dict_reverseitemiterator", "odict_iterator", "itertools.zip_longest", "itertools.pairwise"].contains n=false) (hQ:Q () s):wpAny M A (letOwnedTupleGo tg (.ref it) u) Q E s:=by
  unfold letOwnedTupleGo
  cases tg <;> first
    | exact wpAny_pure hQ
    | (cases u <;> first
        | exact wpAny_pure hQ
        | (refine wpAny_bind (wpAny_load ho ?_)
           rw [hc,hd]
           show wpAny M A (if (["enumerate", "zip", "dict_itemiterator", "dict_reverseitemiterator", "odict_iterator", "itertools.zip_longest", "itertools.pairwise"].contains n && vs[0]? == some (rawInt _))=true then _ else _) Q E s
           rw [if_neg (by intro h;rw [hn,Bool.false_and] at h;cases h)]
           exact wpAny_pure hQ))

noncomputable def Itl (K:PySem.W.Frag) (a:Addr):It :=
  ⟨fun i H=>∃ xs x,SqL K H a xs∧xs[i]? = some x,fun i H x H'=>H'=H∧∀ xs,SqL K H a xs→xs[i]? = some x,fun i H=>∃ xs,SqL K H a xs∧xs.length≤i⟩
noncomputable def Itt (K:PySem.W.Frag) (a:Addr):It :=
  ⟨fun i H=>∃ xs x,SqT K H a xs∧xs[i]? = some x,fun i H x H'=>H'=H∧∀ xs,SqT K H a xs→xs[i]? = some x,fun i H=>∃ xs,SqT K H a xs∧xs.length≤i⟩
noncomputable def Itr (lo:Int) (n:Nat):It:=⟨fun i _=>i < n,fun i H x H'=>H'=H∧x = .int (lo+i),fun i _=>n≤i⟩
theorem turn_list {P:Program} {w:World} {K:PySem.W.Frag} {tg:Expr} (a it:Addr):Turn P w K tg (Itl K a) [it] it (fun i h=>h.IsListIter it a i) where
  mem:=by simp
  obj:=fun i h st b hb=>by
    have e:b=it:=by simpa using hb
    subst e
    obtain ⟨o,e,c,d⟩:=st
    exact ⟨o,e,fun v z=>by rw [d] at z;cases z⟩
  keep:=fun i h h' st k=>st.at fun o e=>k it (by simp) o e
  item:=by
    intro X hP hw hK hc i pins s σ H E I hf st hg
    subst hP hw hK
    obtain ⟨xs,x,hq,hx⟩:=hg
    obtain ⟨its,rv,p,hz⟩:=I.list hq
    obtain ⟨u,hu,ru⟩:=rv.get hx
    obtain ⟨f0,f1,f2,f3,f4,f5⟩:=hf it (by simp)
    refine wpAny_pyNext_list_item st p.isList (x:=u) (by simpa using hu) fun h' st' sb => ?_
    have I1:Inv X pins σ H { s with heap:=h' }:=I.turned (t':=s.toks) (fun b o hb e=>(sb.2 b hb).trans e) f0 f1 f3 f4 f5
    obtain ⟨o,e,c,d⟩:=id st'
    exact ⟨u,rfl,go_of (s := { s with heap:=h' }) e c d (by decide) ⟨x,H,I1,ru,⟨rfl,fun ys hy=>by rw [I.list_inj hy hq];exact hx⟩,st',fun b hb=>(hf b hb).1⟩⟩
  done:=by
    intro X hP hw hK hc i pins s σ H E I hf st hg
    subst hP hw hK
    obtain ⟨xs,hq,hx⟩:=hg
    obtain ⟨its,rv,p,hz⟩:=I.list hq
    obtain ⟨f0,f1,f2,f3,f4,f5⟩:=hf it (by simp)
    have hl:=rv.length
    exact wpAny_pyNext_list_end (I.ok.hd hc) st p.isList (by simp;omega) fun h' eb=>⟨rfl,I.turned (t':=s.toks) (fun b o hb e=>eb b o hb e) f0 f1 f3 f4 f5⟩
  self:=fun _ _ _ _ _ st h=>wpAny_pyIter_listiter st h
theorem turn_tuple {P:Program} {w:World} {K:PySem.W.Frag} {tg:Expr} (a it:Addr):Turn P w K tg (Itt K a) [it] it (fun i h=>h.IsTupleIter it a i) where
  mem:=by simp
  obj:=fun i h st b hb=>by
    have e:b=it:=by simpa using hb
    subst e
    obtain ⟨o,e,c,d⟩:=st
    exact ⟨o,e,fun v z=>by rw [d] at z;cases z⟩
  keep:=fun i h h' st k=>st.at fun o e=>k it (by simp) o e
  item:=by
    intro X hP hw hK hc i pins s σ H E I hf st hg
    subst hP hw hK
    obtain ⟨xs,x,hq,hx⟩:=hg
    obtain ⟨its,rv,p,hz⟩:=I.tuple hq
    obtain ⟨u,hu,ru⟩:=rv.get hx
    obtain ⟨f0,f1,f2,f3,f4,f5⟩:=hf it (by simp)
    refine wpAny_pyNext_tuple_item st (show s.heap.IsTuple a its.toArray from p) (x:=u) (by simpa using hu) fun h' st' sb => ?_
    have I1:Inv X pins σ H { s with heap:=h' }:=I.turned (t':=s.toks) (fun b o hb e=>(sb.2 b hb).trans e) f0 f1 f3 f4 f5
    obtain ⟨o,e,c,d⟩:=id st'
    exact ⟨u,rfl,go_of (s := { s with heap:=h' }) e c d (by decide) ⟨x,H,I1,ru,⟨rfl,fun ys hy=>by rw [I.tuple_inj hy hq];exact hx⟩,st',fun b hb=>(hf b hb).1⟩⟩
  done:=by
    intro X hP hw hK hc i pins s σ H E I hf st hg
    subst hP hw hK
    obtain ⟨xs,hq,hx⟩:=hg
    obtain ⟨its,rv,p,hz⟩:=I.tuple hq
    obtain ⟨f0,f1,f2,f3,f4,f5⟩:=hf it (by simp)
    have hl:=rv.length
    exact wpAny_pyNext_tuple_end (I.ok.hd hc) st (show s.heap.IsTuple a its.toArray from p) (by simp;omega) fun h' eb=>⟨rfl,I.turned (t':=s.toks) (fun b o hb e=>eb b o hb e) f0 f1 f3 f4 f5⟩
  self:=fun _ _ _ _ _ st h=>wpAny_pyIter_tupleiter st h
theorem turn_range {P:Program} {w:World} {K:PySem.W.Frag} {tg:Expr} (it:Addr) (lo:Int) (n:Nat):Turn P w K tg (Itr lo n) [it] it (fun i h=>IsRangeIter h it (lo+(i:Nat) * 1) ((n:Int) - (i:Nat)) 1) where
  mem:=by simp
  obj:=fun i h st b hb=>by
    have e:b=it:=by simpa using hb
    subst e
    exact ⟨_,st,fun v z=>by
      have z':Data.fields _=Data.cell v:=z
      cases z'⟩
  keep:=fun i h h' st k=>k it (by simp) _ st
  item:=by
    intro X hP hw hK hc i pins s σ H E I hf st hg
    subst hP hw hK
    obtain ⟨f0,f1,f2,f3,f4,f5⟩:=hf it (by simp)
    have W:=Walks.range (prog:=X.prog) (w:=X.w) (I.ok.hd hc) it lo 1 n
    refine W.item i s _ _ hg st fun v h' tk hv st' kk => ?_
    obtain ⟨t,rfl⟩:=hv
    have I1:Inv X pins σ H { s with heap:=h',toks:=tk }:=I.turned (fun b o hb e=>kk b o (by simpa using hb) e) f0 f1 f3 f4 f5
    refine ⟨_,rfl,go_of (s := { s with heap:=h',toks:=tk }) (n := "range_iterator") st' rfl rfl (by decide) ⟨.int (lo+i),H,I1,⟨t,?_⟩,⟨rfl,rfl⟩,st',fun b hb=>(hf b hb).1⟩⟩
    rw [Int.mul_one]
  done:=by
    intro X hP hw hK hc i pins s σ H E I hf st hg
    subst hP hw hK
    obtain ⟨f0,f1,f2,f3,f4,f5⟩:=hf it (by simp)
    exact wpAny_pyNext_range_end (I.ok.hd hc) st (by have:n≤i:=hg;omega) fun h' eb=>⟨rfl,I.turned (t':=s.toks) (fun b o hb e=>eb b o hb e) f0 f1 f3 f4 f5⟩
  self:=fun _ _ _ _ _ st h=>wpAny_pyIter_rangeiter st h
end L2

namespace L2
open PySem PySem.Spec PyProof.Rows
section
variable {X:Cx} {tg:Expr}
inductive J_iList (K:PySem.W.Frag) (R:It→Hp→Prop) (x:V) (H1:Hp):Prop
  | mk:∀ a,(x = .ref a)→((∃ xs,SqL K H1 a xs))→(R (Itl K a) H1)→J_iList K R x H1
noncomputable def iList (K:PySem.W.Frag) (tl:TE):TI:=fun σ H R=>tl σ H fun x H1=>J_iList K R x H1
inductive J_iTup (K:PySem.W.Frag) (R:It→Hp→Prop) (x:V) (H1:Hp):Prop
  | mk:∀ a,(x = .ref a)→((∃ xs,SqT K H1 a xs))→(R (Itt K a) H1)→J_iTup K R x H1
noncomputable def iTup (K:PySem.W.Frag) (tl:TE):TI:=fun σ H R=>tl σ H fun x H1=>J_iTup K R x H1
theorem pi_list {l:Expr} {tl:TE} (hl:PE X l tl):PI X tg l (iList X.K tl):=by
  intro pins s σ H R I h
  refine thn (hl pins s σ H _ I h) fun v s1 ⟨x,H1,I1,r1,q1⟩ => ?_
  obtain ⟨a,e,⟨xs,hq⟩,q⟩:=q1
  subst e
  cases r1
  obtain ⟨its,rv,p,hz⟩:=I1.list hq
  refine wpAny_pyIter_list p.isList ?_
  refine ⟨s1.heap.objs.size, [s1.heap.objs.size],_,_,H1,rfl,I1.kept (t':=s1.toks) fun b o e=>Heap.get?_push_of_some _ e,turn_list a _,⟨_,Heap.get?_push_size _ rfl,rfl,rfl⟩,fun b hb => ?_,q⟩
  have e:b=s1.heap.objs.size:=by simpa using hb
  subst e
  exact I1.fpOk (Nat.le_refl _) (I1.hok.fresh (Nat.le_refl _))
theorem pi_tup {l:Expr} {tl:TE} (hl:PE X l tl):PI X tg l (iTup X.K tl):=by
  intro pins s σ H R I h
  refine thn (hl pins s σ H _ I h) fun v s1 ⟨x,H1,I1,r1,q1⟩ => ?_
  obtain ⟨a,e,⟨xs,hq⟩,q⟩:=q1
  subst e
  cases r1
  obtain ⟨its,rv,p,hz⟩:=I1.tuple hq
  refine wpAny_pyIter_tuple (show s1.heap.IsTuple a its.toArray from p) ?_
  refine ⟨s1.heap.objs.size, [s1.heap.objs.size],_,_,H1,rfl,I1.kept (t':=s1.toks) fun b o e=>Heap.get?_push_of_some _ e,turn_tuple a _,⟨_,Heap.get?_push_size _ rfl,rfl,rfl⟩,fun b hb => ?_,q⟩
  have e:b=s1.heap.objs.size:=by simpa using hb
  subst e
  exact I1.fpOk (Nat.le_refl _) (I1.hok.fresh (Nat.le_refl _))
theorem range_it {pins:List (Addr × Obj)} {σ : St} {H:Hp} {s:Shared} {R:It→Hp→Prop} {E:Value→Shared→Prop} {lo hi:Int} {t u v:Tok} {tk:Nat} (I:Inv X pins σ H s) (h1 : -(2 ^ 62)≤lo) (h2:lo < 2 ^ 62) (h3 : -(2 ^ 62)≤hi) (h4:hi < 2 ^ 62)
    (q:R (Itr lo (hi - lo).toNat) H):wpAny (model X.prog X.w) X.A (pyIter (.ref s.heap.objs.size)) (PIE X pins σ tg R) E { s with heap:=s.heap.push { cls := .type "range",data := .fields #[.int lo t,.int hi u,.int 1 v] },toks:=tk }:=by
  refine wpAny_pyIter_range (IsRange.new ..) (small_one h1 h2 h3 h4) ?_
  have I1:Inv X pins σ H { s with heap:=s.heap.push { cls := .type "range",data := .fields #[.int lo t,.int hi u,.int 1 v] },toks:=tk }:=I.kept fun b o e=>Heap.get?_push_of_some _ e
  refine ⟨(s.heap.push { cls := .type "range",data := .fields #[.int lo t,.int hi u,.int 1 v] }).objs.size, [(s.heap.push { cls := .type "range",data := .fields #[.int lo t,.int hi u,.int 1 v] }).objs.size],_,_,H,rfl,
    I1.kept (t':=tk) fun b o e=>Heap.get?_push_of_some _ e,turn_range _ lo (hi - lo).toNat,?_,fun b hb => ?_,q⟩
  · have e1:lo+((0:Nat):Int) * 1=lo:=by simp
    have e2:(((hi - lo).toNat:Nat):Int) - ((0:Nat):Int)=Builtin.Range.rangeSize lo hi 1:=by rw [rangeSize_one];split <;> omega
    show IsRangeIter _ _ (lo+((0:Nat):Int) * 1) ((((hi - lo).toNat:Nat):Int) - ((0:Nat):Int)) 1
    rw [e1,e2]
    exact Heap.get?_push_size _ rfl
  · have e:b=(s.heap.push { cls := .type "range",data := .fields #[.int lo t,.int hi u,.int 1 v] }).objs.size:=by simpa using hb
    subst e
    exact I1.fpOk (Nat.le_refl _) (I1.hok.fresh (Nat.le_refl _))
inductive J_iRng1 (R:It→Hp→Prop) (vs:List V) (H1:Hp):Prop
  | mk:∀ (j:Int),(vs = [.int j])→(-(2 ^ 62)≤j)→(j < 2 ^ 62)→(R (Itr 0 j.toNat) H1)→J_iRng1 R vs H1
noncomputable def iRng1 (ta:TA):TI:=fun σ H R=>ta σ H fun vs H1=>J_iRng1 R vs H1
theorem pi_range1 {a:Expr} {ta:TA} {p pos:Pos} (hg:Gl X "range") (hm:X.mg "range" = none) (ha:PA X [a] ta) (hs:starEach [a] X.env = [(false,eval a X.env)]:=by rfl):PI X tg (.Call (.Name "range" p) [a] [] pos) (iRng1 ta):=by
  intro pins s σ H R I h
  refine Call_ (ld_blt I hg hm boot_range (PyProof.Rows.callWith_type1 (thn (ha pos pins s σ H _ I h) fun us s1 ⟨vs,H1,I1,r1,q1⟩ => ?_) hs rfl))
  obtain ⟨j,e,q1,q2,q⟩:=q1
  subst e
  cases r1 with
  | cons r rr =>
    cases rr
    obtain ⟨t,rfl⟩:=r
    exact call_range_1 (range_it I1 (by omega) (by omega) q1 q2 (by simpa using q))

noncomputable def tFor (wi:TI) (g:TG) (tb:TS):TS:=fun D σ H=>wi σ H fun J H1=>∃ W:Nat→Nat→St→Hp→Prop,(∃ m,W 0 m σ H1)∧∀ i m σ H,W i m σ H →
  (J.stop i H∧D.nx σ H)∨(J.go i H∧∃ N:St→Hp→Prop,(∀ σ' H',N σ' H'→∃ m',m' < m∧W (i+1) m' σ' H')∧∀ x H',J.yld i H x H'→g x σ H' fun σ2 H2=>tb { D with nx:=N,ct:=N,bk:=D.nx } σ2 H2)
noncomputable def pinsAt (fp:List Addr) (h:Heap):List (Addr × Obj):=fp.filterMap fun b=>(h.get? b).map fun o=>(b,o)
theorem mem_pinsAt {fp:List Addr} {h:Heap} {b:Addr} {o:Obj} (hb:b∈fp) (e:h.get? b=some o):(b,o)∈pinsAt fp h:=List.mem_filterMap.mpr ⟨b,hb,by rw [e];rfl⟩
theorem of_pinsAt {fp:List Addr} {h:Heap} {p:Addr × Obj} (hp:p∈pinsAt fp h):p.1∈fp∧h.get? p.1=some p.2:=by
  obtain ⟨b,hb,e⟩:=List.mem_filterMap.mp hp
  cases q:h.get? b with
  | none=>rw [q] at e;cases e
  | some o =>
    rw [q] at e
    have e':(b,o)=p:=Option.some.inj e
    subst e'
    exact ⟨hb,q⟩
theorem Inv.pinned {pins:List (Addr × Obj)} {σ : St} {H:Hp} {s:Shared} {fp:List Addr} (I:Inv X pins σ H s) (hf:∀ b∈fp,FpOk X pins H b) (ho:∀ b∈fp,∃ o,s.heap.get? b=some o∧∀ v,o.data ≠ .cell v):Inv X (pins ++ pinsAt fp s.heap) σ H s :=
  I.pins_of fun p hp=>(List.mem_append.mp hp).elim (fun z=>I.pin p (List.mem_append_right _ z)) fun z=>by
    obtain ⟨hb,e⟩:=of_pinsAt z
    obtain ⟨f0,f1,f2,_⟩:=hf p.1 hb
    obtain ⟨o,e',d⟩:=ho p.1 hb
    rw [e] at e';cases e'
    exact ⟨e,f0,f1,f2,d⟩
theorem Inv.unpinned {pins pl:List (Addr × Obj)} {σ : St} {H:Hp} {s:Shared} (I:Inv X (pins ++ pl) σ H s):Inv X pins σ H s:=I.pins_of fun p hp=>I.pin p (List.mem_append_right _ (List.mem_append_left _ hp))
theorem ps_for {iter:Expr} {body:List Stmt} {wi:TI} {g:TG} {tb:TS} {pos:Pos} (hp:PassesOwn (model X.prog X.w) X.A X.env X.xe) (hc:X.calm=true) (hi:PI X tg iter wi) (hg:PG X tg g) (hb:PSs X body tb)
    (hs:∀ x,foldedSetIterable iter X.env x=pure x:=by intro _;rfl):PS X (.For tg iter body [] pos) (tFor wi g tb):=by
  intro pins s σ H D I h
  refine wpAny_For (thn (hi pins s σ H _ I h) fun v s1 h1=>thn h1 fun itv s2 h2 => ?_) hs
  obtain ⟨it,fp,tn,J,H2,e,I2,T,st2,f2,W,⟨m0,w0⟩,turn⟩:=h2
  subst e
  -- what stays true of the iterator's objects through the loop
  have stat:∀ {H':Hp},(∀ b∈fp,H' b=none)→∀ b∈fp,FpOk X pins H' b:=fun hn b hb=>⟨hn b hb,(f2 b hb).2⟩
  refine codeAny_forLoop_any (fun n s'=>∃ i σ' H',Inv X pins σ' H' s'∧tn i s'.heap∧(∀ b∈fp,H' b=none)∧W i n σ' H') ?_ m0 ⟨0, σ,H2,I2,st2,fun b hb=>(f2 b hb).1,w0⟩
  rintro n s3 ⟨i, σ3,H3,I3,st3,fr3,w3⟩
  rcases turn i n σ3 H3 w3 with ⟨stop,qn⟩ | ⟨go,N,hN,step⟩
  · refine wpAny_passesOwn hp (thn (T.done X rfl rfl rfl hc i pins s3 σ3 H3 X.xe I3 (stat fr3) st3 stop) fun r s4 ⟨hr,I4⟩ => ?_)
    subst hr
    exact wpAny_execs_nil ⟨σ3,H3,I4,qn⟩
  · refine wpAny_passesOwn hp (thn (T.item X rfl rfl rfl hc i pins s3 σ3 H3 X.xe I3 (stat fr3) st3 go) fun r s4 ⟨u,hr,h4⟩ => ?_)
    subst hr
    refine wpAny_passesOwn hp (thn h4 fun _ s5 ⟨x,H5,I5,r5,y5,st5,fr5⟩ => ?_)
    have I5':=I5.pinned (stat fr5) (T.obj _ _ st5)
    refine wpAny_passesOwn hp (thn (hg _ s5 σ3 H5 x u _ I5' r5 (step x H5 y5)) fun _ s6 ⟨σ6,H6,I6,q6⟩ => ?_)
    refine wpAny_passesOwn hp (thn (hb _ s6 σ6 H6 _ I6 q6) fun f s7 q7 => ?_)
    have again:∀ {σ7:St} {H7:Hp},Inv X (pins ++ pinsAt fp s5.heap) σ7 H7 s7→N σ7 H7→∃ m,m < n∧∃ i σ' H',Inv X pins σ' H' s7∧tn i s7.heap∧(∀ b∈fp,H' b=none)∧W i m σ' H':=fun {σ7 H7} I7 n7=>by
      obtain ⟨m',hm,w7⟩:=hN σ7 H7 n7
      refine ⟨m',hm,i+1, σ7,H7,I7.unpinned,T.keep _ _ _ st5 fun b hb o e=>(I7.pin (b,o) (List.mem_append_right _ (List.mem_append_right _ (mem_pinsAt hb e)))).1,fun b hb => ?_,w7⟩
      obtain ⟨o,e,d⟩:=T.obj _ _ st5 b hb
      exact (I7.pin (b,o) (List.mem_append_right _ (List.mem_append_right _ (mem_pinsAt hb e)))).2.1
    cases f with
    | next=>obtain ⟨σ7,H7,I7,n7⟩:=q7;exact again I7 n7
    | cont=>obtain ⟨σ7,H7,I7,n7⟩:=q7;exact again I7 n7
    | brk=>obtain ⟨σ7,H7,I7,q7⟩:=q7;exact ⟨σ7,H7,I7.unpinned,q7⟩
    | ret v=>obtain ⟨x7, σ7,H7,I7,r7,q7⟩:=q7;exact ⟨x7, σ7,H7,I7.unpinned,r7,q7⟩
end

theorem for_tup {K:PySem.W.Frag} {a:Addr} {xs:List V} {g:TG} {tb:TS} {D:Ends} {σ : St} {H:Hp} (Pv:Nat→St→Hp→Prop) (h0:Pv 0 σ H) (hl:∀ i σ H,i≤xs.length→Pv i σ H→SqT K H a xs)
    (hs:∀ i x σ H,xs[i]? = some x→Pv i σ H→g x σ H fun σ2 H2=>tb { D with nx:=Pv (i+1),ct:=Pv (i+1),bk:=D.nx } σ2 H2) (hd:∀ σ H,Pv xs.length σ H→D.nx σ H) :
    ∃ W:Nat→Nat→St→Hp→Prop,(∃ m,W 0 m σ H)∧∀ i m σ H,W i m σ H →
      ((Itt K a).stop i H∧D.nx σ H)∨((Itt K a).go i H∧∃ N:St→Hp→Prop,(∀ σ' H',N σ' H'→∃ m',m' < m∧W (i+1) m' σ' H')∧∀ x H',(Itt K a).yld i H x H'→g x σ H' fun σ2 H2=>tb { D with nx:=N,ct:=N,bk:=D.nx } σ2 H2):=by
  refine ⟨fun i m σ H=>m=xs.length - i∧i≤xs.length∧Pv i σ H,⟨xs.length,by simp,Nat.zero_le _,h0⟩,?_⟩
  rintro i m σ H ⟨rfl,hi,p⟩
  have q:=hl i σ H hi p
  by_cases hlt:i < xs.length
  · refine .inr ⟨⟨xs,xs[i],q,by simp [hlt]⟩,Pv (i+1),fun σ' H' p'=>⟨xs.length - (i+1),by omega,rfl,hlt,p'⟩,fun x H' y => ?_⟩
    obtain ⟨e,y⟩:=y
    subst e
    exact hs i x σ _ (y xs q) p
  · have e:i=xs.length:=by omega
    subst e
    exact .inl ⟨⟨xs,q,Nat.le_refl _⟩,hd σ H p⟩
theorem for_range {lo:Int} {n:Nat} {g:TG} {tb:TS} {D:Ends} {σ : St} {H:Hp} (Pv:Nat→St→Hp→Prop) (h0:Pv 0 σ H)
    (hs:∀ i σ H,i < n→Pv i σ H→g (.int (lo+i)) σ H fun σ2 H2=>tb { D with nx:=Pv (i+1),ct:=Pv (i+1),bk:=D.nx } σ2 H2) (hd:∀ σ H,Pv n σ H→D.nx σ H) :
    ∃ W:Nat→Nat→St→Hp→Prop,(∃ m,W 0 m σ H)∧∀ i m σ H,W i m σ H →
      ((Itr lo n).stop i H∧D.nx σ H)∨((Itr lo n).go i H∧∃ N:St→Hp→Prop,(∀ σ' H',N σ' H'→∃ m',m' < m∧W (i+1) m' σ' H')∧∀ x H',(Itr lo n).yld i H x H'→g x σ H' fun σ2 H2=>tb { D with nx:=N,ct:=N,bk:=D.nx } σ2 H2):=by
  refine ⟨fun i m σ H=>m=n - i∧i≤n∧Pv i σ H,⟨n,by simp,Nat.zero_le _,h0⟩,?_⟩
  rintro i m σ H ⟨rfl,hi,p⟩
  by_cases hlt:i < n
  · refine .inr ⟨hlt,Pv (i+1),fun σ' H' p'=>⟨n - (i+1),by omega,rfl,hlt,p'⟩,fun x H' y => ?_⟩
    obtain ⟨e,y⟩:=y
    subst e y
    exact hs i σ _ hlt p
  · have e:i=n:=by omega
    subst e
    exact .inl ⟨Nat.le_refl _,hd σ H p⟩
end L2

namespace L2
open PySem PySem.Spec PyProof.Rows

noncomputable abbrev R2:=V→V→Hp→VK→Prop
noncomputable def OpR (X:Cx) (f:Value→Value→Sem Value) (r:R2):Prop :=
  ∀ (pins:List (Addr × Obj)) (s:Shared) (σ : St) (H:Hp) (x y:V) (v u:Value) (Q:VK),Inv X pins σ H s→RelV x v→RelV y u→r x y H Q →
    wpAny (model X.prog X.w) X.A (f v u) (EP X pins σ Q) X.xe s
noncomputable def UnR (X:Cx) (f:Value→Sem Value) (r:V→Hp→VK→Prop):Prop :=
  ∀ (pins:List (Addr × Obj)) (s:Shared) (σ : St) (H:Hp) (x:V) (v:Value) (Q:VK),Inv X pins σ H s→RelV x v→r x H Q →
    wpAny (model X.prog X.w) X.A (f v) (EP X pins σ Q) X.xe s
noncomputable def CallR (X:Cx) (f:Value) (r:List V→Hp→VK→Prop):Prop :=
  ∀ (pins:List (Addr × Obj)) (s:Shared) (σ : St) (H:Hp) (xs:List V) (us:List Value) (Q:VK),Inv X pins σ H s→Vals xs us→r xs H Q →
    wpAny (model X.prog X.w) X.A (call f us) (EP X pins σ Q) X.xe s

noncomputable def tOp (r:R2) (ta tb:TE):TE:=fun σ H Q=>ta σ H fun x H1=>tb σ H1 fun y H2=>r x y H2 Q
noncomputable def tUn (r:V→Hp→VK→Prop) (ta:TE):TE:=fun σ H Q=>ta σ H fun x H1=>r x H1 Q
inductive RI (C:Int→Int→Prop) (g:Int→Int→V) (x y:V) (H:Hp) (Q:VK):Prop
  | mk (i j:Int) (hx:x = .int i) (hy:y = .int j) (hc:C i j) (q:Q (g i j) H):RI C g x y H Q
noncomputable def rI (C:Int→Int→Prop) (g:Int→Int→V):R2:=fun x y H Q=>RI C g x y H Q
inductive RI0 (g:Int→Int→V) (x y:V) (H:Hp) (Q:VK):Prop
  | mk (i j:Int) (hx:x = .int i) (hy:y = .int j) (q:Q (g i j) H):RI0 g x y H Q
noncomputable def rI0 (g:Int→Int→V):R2:=fun x y H Q=>RI0 g x y H Q
inductive RU (g:Int→V) (x:V) (H:Hp) (Q:VK):Prop
  | mk (i:Int) (hx:x = .int i) (q:Q (g i) H):RU g x H Q
noncomputable def rU (g:Int→V):V→Hp→VK→Prop:=fun x H Q=>RU g x H Q

section
variable {X:Cx} {a b c:Expr} {ta tb tc:TE} {pos:Pos}

theorem binT (ha:PE X a ta) (hb:PE X b tb) {pins:List (Addr × Obj)} {s:Shared} {σ : St} {H:Hp} {R:V→V→Hp→Prop} (I:Inv X pins σ H s)
    (h:ta σ H fun x H1=>tb σ H1 fun y H2=>R x y H2) {Q:Value→Shared→Prop} {f:Value→Value→Sem Value}
    (hf:∀ v u s2 x y H2,Inv X pins σ H2 s2→RelV x v→RelV y u→R x y H2→wpAny (model X.prog X.w) X.A (f v u) Q X.xe s2) :
    wpAny (model X.prog X.w) X.A (eval a X.env) (fun v s₁ => wpAny (model X.prog X.w) X.A (eval b X.env) (fun u s₂ => wpAny (model X.prog X.w) X.A (f v u) Q X.xe s₂) X.xe s₁) X.xe s:=by
  refine thn (ha pins s σ H _ I h) fun v s1 ⟨x,H1,I1,r1,q1⟩ => ?_
  refine thn (hb pins s1 σ H1 _ I1 q1) fun u s2 ⟨y,H2,I2,r2,q2⟩ => ?_
  exact hf v u s2 x y H2 I2 r1 r2 q2

theorem pe_op {op:Operator} {r:R2} (ho:OpR X (binaryOp op) r) (ha:PE X a ta) (hb:PE X b tb):PE X (.BinOp a op b pos) (tOp r ta tb):=by
  intro pins s σ H Q I h
  exact wpAny_BinOp (binT ha hb I h fun v u s2 x y H2 I2 rx ry q=>ho pins s2 σ H2 x y v u Q I2 rx ry q)
theorem pe_un {op:UnaryOp} {r:V→Hp→VK→Prop} (ho:UnR X (unaryOp op) r) (ha:PE X a ta):PE X (.UnaryOp op a pos) (tUn r ta):=by
  intro pins s σ H Q I h
  exact UnaryOp_ (thn (ha pins s σ H _ I h) fun v s1 ⟨x,H1,I1,r1,q1⟩=>ho pins s1 σ H1 x v Q I1 r1 q1)

theorem opI {f:Value→Value→Sem Value} {C:Int→Int→Prop} {g:Int→Int→Int}
    (rule:∀ (i j:Int) (t u:Tok) (s:Shared) (Q:Value→Shared→Prop) (E:Value→Shared→Prop),C i j→Q (.int (g i j) s.toks) { s with toks:=s.toks+1 }→wpAny (model X.prog X.w) X.A (f (.int i t) (.int j u)) Q E s) :
    OpR X f (rI C fun i j => .int (g i j)):=by
  intro pins s σ H x y v u Q I rx ry h
  obtain ⟨i,j,rfl,rfl,hc,q⟩:=h
  obtain ⟨t,rfl⟩:=rx
  obtain ⟨t',rfl⟩:=ry
  exact rule i j t t' s _ _ hc ⟨.int (g i j),H,I.tok _,⟨_,rfl⟩,q⟩
theorem opI0 {f:Value→Value→Sem Value} {g:Int→Int→Int}
    (rule:∀ (i j:Int) (t u:Tok) (s:Shared) (Q:Value→Shared→Prop) (E:Value→Shared→Prop),Q (.int (g i j) s.toks) { s with toks:=s.toks+1 }→wpAny (model X.prog X.w) X.A (f (.int i t) (.int j u)) Q E s) :
    OpR X f (rI0 fun i j => .int (g i j)):=by
  intro pins s σ H x y v u Q I rx ry h
  obtain ⟨i,j,rfl,rfl,q⟩:=h
  obtain ⟨t,rfl⟩:=rx
  obtain ⟨t',rfl⟩:=ry
  exact rule i j t t' s _ _ ⟨.int (g i j),H,I.tok _,⟨_,rfl⟩,q⟩
theorem opB0 {f:Value→Value→Sem Value} {g:Int→Int→Bool}
    (rule:∀ (i j:Int) (t u:Tok) (s:Shared) (Q:Value→Shared→Prop) (E:Value→Shared→Prop),Q (.bool (g i j)) s→wpAny (model X.prog X.w) X.A (f (.int i t) (.int j u)) Q E s) :
    OpR X f (rI0 fun i j => .bl (g i j)):=by
  intro pins s σ H x y v u Q I rx ry h
  obtain ⟨i,j,rfl,rfl,q⟩:=h
  obtain ⟨t,rfl⟩:=rx
  obtain ⟨t',rfl⟩:=ry
  exact rule i j t t' s _ _ ⟨.bl (g i j),H,I,rfl,q⟩

noncomputable def CDiv (i j:Int):Prop:=0 < j∧j < 1073741824
noncomputable def CMul (i j:Int):Prop:=(-(2 ^ 64) < i∧i < 2 ^ 64)∨(-(2 ^ 64) < j∧j < 2 ^ 64)
theorem CMul.ok {i j:Int} (h:CMul i j):IntMulOk i j:=by
  rcases h with ⟨h1,h2⟩ | ⟨h1,h2⟩
  · exact .of_left (intBits_le_64 h1 h2)
  · exact .of_right (intBits_le_64 h1 h2)

theorem op_add:OpR X (binaryOp .Add) (rI0 fun i j => .int (i+j)):=opI0 fun _ _ _ _ _ _ _ q=>add_int q
theorem op_mul:OpR X (binaryOp .Mult) (rI CMul fun i j => .int (i * j)):=opI fun _ _ _ _ _ _ _ hc q=>mul_int q hc.ok
theorem op_fdiv:OpR X (binaryOp .FloorDiv) (rI CDiv fun i j => .int (i / j)):=opI fun i j _ _ _ _ _ hc q=>by
  have h1:(0:Int) < j:=hc.1
  have h2:j < 1073741824:=hc.2
  exact floordiv_int (by omega) (by rw [Int.fdiv_eq_ediv_of_nonneg i (by omega)];exact q) (.inl (PyProof.noPylong_small (by omega)))
theorem op_mod:OpR X (binaryOp .Mod) (rI (fun _ j=>0 < j) fun i j => .int (i % j)):=opI fun i j _ _ _ _ _ hc q=>by
  have h1:(0:Int) < j:=hc
  exact mod_int' (by omega) (by rw [Int.fmod_eq_emod_of_nonneg i (by omega)];exact q)


theorem unI {f:Value→Sem Value} {g:Int→Int}
    (rule:∀ (i:Int) (t:Tok) (s:Shared) (Q:Value→Shared→Prop) (E:Value→Shared→Prop),Q (.int (g i) s.toks) { s with toks:=s.toks+1 }→wpAny (model X.prog X.w) X.A (f (.int i t)) Q E s) :
    UnR X f (rU fun i => .int (g i)):=by
  intro pins s σ H x v Q I rx h
  obtain ⟨i,rfl,q⟩:=h
  obtain ⟨t,rfl⟩:=rx
  exact rule i t s _ _ ⟨.int (g i),H,I.tok _,⟨_,rfl⟩,q⟩
theorem un_neg:UnR X (unaryOp .USub) (rU fun i => .int (-i)):=unI fun _ _ _ _ _ q=>neg_int q

end

noncomputable def scal:V→V→Bool
  | .non,.non=>true | .non,.int _=>true | .int _,.non=>true | .non,.bl _=>true | .bl _,.non=>true | .non,.str _=>true | .str _,.non=>true
  | .int _,.int _=>true | .bl _,.bl _=>true | .str _,.str _=>true | .byt _,.byt _=>true
  | .int _,.str _=>true | .str _,.int _=>true | .bl _,.str _=>true | .str _,.bl _=>true
  | _,_=>false
noncomputable def rEq:R2:=fun x y H Q=>scal x y=true∧Q (.bl (decide (x=y))) H
noncomputable def rNe:R2:=fun x y H Q=>scal x y=true∧Q (.bl (!decide (x=y))) H

theorem dec_int {i j:Int}:decide (V.int i=V.int j)=(i == j):=by
  rw [Bool.eq_iff_iff]
  simp
theorem dec_bl {i j:Bool}:decide (V.bl i=V.bl j)=(i == j):=by
  rw [Bool.eq_iff_iff]
  simp
theorem dec_str {i j:Str}:decide (V.str i=V.str j)=(i == j):=by
  rw [Bool.eq_iff_iff]
  simp
theorem dec_byt {i j:Array UInt8}:decide (V.byt i=V.byt j)=(i.toList == j.toList):=by
  rw [Bool.eq_iff_iff]
  cases i
  cases j
  simp

section
variable {X:Cx} {a b c:Expr} {ta tb tc:TE} {pos:Pos}
theorem fin_bl {pins:List (Addr × Obj)} {σ : St} {H:Hp} {s:Shared} {Q:VK} {k k':Bool} (I:Inv X pins σ H s) (q:Q (.bl k) H) (e:k=k'):EP X pins σ Q (.bool k') s:=by
  subst e
  exact ⟨.bl k,H,I,rfl,q⟩
theorem op_eq:OpR X (compareOp .Eq) rEq:=by
  intro pins s σ H x y v u Q I rx ry h
  obtain ⟨hs,q⟩:=h
  cases x with
  | non =>
    cases rx
    cases y with
    | non=>cases ry;exact PySem.EqNone.eq_none_none (fin_bl I q (by simp))
    | bl j=>cases ry;exact PySem.EqNone.eq_none_bool (fin_bl I q (by simp))
    | int j=>obtain ⟨t',rfl⟩:=ry;exact PySem.EqNone.eq_none_int (fin_bl I q (by simp))
    | str j=>obtain ⟨t',rfl⟩:=ry;exact PySem.EqNone.eq_none_str (fin_bl I q (by simp))
    | _=>exact absurd (show false=true from hs) Bool.false_ne_true
  | bl i =>
    cases rx
    cases y with
    | non=>cases ry;exact PySem.EqNone.eq_bool_none (fin_bl I q (by simp))
    | bl j=>cases ry;exact eq_bool (fin_bl I q dec_bl)
    | str j=>obtain ⟨t',rfl⟩:=ry;exact PySem.EqMixed.eq_bool_str (fin_bl I q (by simp))
    | _=>exact absurd (show false=true from hs) Bool.false_ne_true
  | int i =>
    obtain ⟨t,rfl⟩:=rx
    cases y with
    | non=>cases ry;exact PySem.EqNone.eq_int_none (fin_bl I q (by simp))
    | int j=>obtain ⟨t',rfl⟩:=ry;exact eq_int (fin_bl I q dec_int)
    | str j=>obtain ⟨t',rfl⟩:=ry;exact PySem.EqMixed.eq_int_str (fin_bl I q (by simp))
    | _=>exact absurd (show false=true from hs) Bool.false_ne_true
  | str i =>
    obtain ⟨t,rfl⟩:=rx
    cases y with
    | non=>cases ry;exact PySem.EqNone.eq_str_none (fin_bl I q (by simp))
    | bl j=>cases ry;exact PySem.EqMixed.eq_str_bool (fin_bl I q (by simp))
    | int j=>obtain ⟨t',rfl⟩:=ry;exact PySem.EqMixed.eq_str_int (fin_bl I q (by simp))
    | str j=>obtain ⟨t',rfl⟩:=ry;exact eq_str (fin_bl I q dec_str)
    | _=>exact absurd (show false=true from hs) Bool.false_ne_true
  | byt i =>
    obtain ⟨t,rfl⟩:=rx
    cases y with
    | byt j=>obtain ⟨t',rfl⟩:=ry;exact PySem.W.eq_bytes (fin_bl I q dec_byt)
    | _=>exact absurd (show false=true from hs) Bool.false_ne_true
  | _=>cases y <;> exact absurd (show false=true from hs) Bool.false_ne_true
theorem op_ne:OpR X (compareOp .NotEq) rNe:=by
  intro pins s σ H x y v u Q I rx ry h
  obtain ⟨hs,q⟩:=h
  cases x with
  | non =>
    cases rx
    cases y with
    | non=>cases ry;exact PySem.EqNone.ne_none_none (fin_bl I q (by simp))
    | bl j=>cases ry;exact PySem.EqNone.ne_none_bool (fin_bl I q (by simp))
    | int j=>obtain ⟨t',rfl⟩:=ry;exact PySem.EqNone.ne_none_int (fin_bl I q (by simp))
    | str j=>obtain ⟨t',rfl⟩:=ry;exact PySem.EqNone.ne_none_str (fin_bl I q (by simp))
    | _=>exact absurd (show false=true from hs) Bool.false_ne_true
  | bl i =>
    cases rx
    cases y with
    | non=>cases ry;exact PySem.EqNone.ne_bool_none (fin_bl I q (by simp))
    | bl j=>cases ry;exact ne_bool (fin_bl I q (congrArg not dec_bl))
    | str j=>obtain ⟨t',rfl⟩:=ry;exact PySem.EqMixed.ne_bool_str (fin_bl I q (by simp))
    | _=>exact absurd (show false=true from hs) Bool.false_ne_true
  | int i =>
    obtain ⟨t,rfl⟩:=rx
    cases y with
    | non=>cases ry;exact PySem.EqNone.ne_int_none (fin_bl I q (by simp))
    | int j=>obtain ⟨t',rfl⟩:=ry;exact ne_int (fin_bl I q (congrArg not dec_int))
    | str j=>obtain ⟨t',rfl⟩:=ry;exact PySem.EqMixed.ne_int_str (fin_bl I q (by simp))
    | _=>exact absurd (show false=true from hs) Bool.false_ne_true
  | str i =>
    obtain ⟨t,rfl⟩:=rx
    cases y with
    | non=>cases ry;exact PySem.EqNone.ne_str_none (fin_bl I q (by simp))
    | bl j=>cases ry;exact PySem.EqMixed.ne_str_bool (fin_bl I q (by simp))
    | int j=>obtain ⟨t',rfl⟩:=ry;exact PySem.EqMixed.ne_str_int (fin_bl I q (by simp))
    | str j=>obtain ⟨t',rfl⟩:=ry;exact ne_str (fin_bl I q (congrArg not dec_str))
    | _=>exact absurd (show false=true from hs) Bool.false_ne_true
  | byt i =>
    obtain ⟨t,rfl⟩:=rx
    cases y with
    | byt j=>obtain ⟨t',rfl⟩:=ry;exact PySem.W.ne_bytes (fin_bl I q (congrArg not dec_byt))
    | _=>exact absurd (show false=true from hs) Bool.false_ne_true
  | _=>cases y <;> exact absurd (show false=true from hs) Bool.false_ne_true

theorem op_lt:OpR X (compareOp .Lt) (rI0 fun i j => .bl (decide (i < j))):=opB0 fun _ _ _ _ _ _ _ q=>lt_int q
theorem op_le:OpR X (compareOp .LtE) (rI0 fun i j => .bl (decide (i≤j))):=opB0 fun _ _ _ _ _ _ _ q=>le_int q
theorem op_gt:OpR X (compareOp .Gt) (rI0 fun i j => .bl (decide (j < i))):=opB0 fun _ _ _ _ _ _ _ q=>gt_int q
inductive J_op_in_str (x:V) (y:V) (H:Hp) (Q:VK):Prop
  | mk:∀ i j,(x = .str i)→(y = .str j)→(Q (.bl (!(Builtin.Str.occurrences j i 0 j.length 1).isEmpty)) H)→J_op_in_str x y H Q
theorem op_in_str:OpR X (compareOp .In) (fun x y H Q=>J_op_in_str x y H Q):=by
  intro pins s σ H x y v u Q I rx ry h
  obtain ⟨i,j,rfl,rfl,q⟩:=h
  obtain ⟨t,rfl⟩:=rx
  obtain ⟨t',rfl⟩:=ry
  exact in_str (fin_bl I q rfl)

theorem op_notN:OpR X (compareOp .IsNot) (fun x y H Q=>y = .non∧Q (.bl (!decide (x = .non))) H):=by
  intro pins s σ H x y v u Q I rx ry h
  obtain ⟨rfl,q⟩:=h
  cases ry
  refine isnot_none_gen (fin_bl I q ?_)
  cases x <;> first
    | (cases rx;rfl)
    | (obtain ⟨t,rfl⟩:=rx;rfl)



theorem nomark (b:Expr) {op:CmpOp} (h:op ≠ .In:=by decide) (h2:op ≠ .NotIn:=by decide):behindInMarks op b=false:=by
  have e1:(op == CmpOp.In)=false:=by cases op <;> first | rfl | exact absurd rfl h
  have e2:(op == CmpOp.NotIn)=false:=by cases op <;> first | rfl | exact absurd rfl h2
  cases b <;> simp [behindInMarks,e1,e2]
theorem pe_cmpR {op:CmpOp} {r:R2} (ho:OpR X (compareOp op) r) (ha:PE X a ta) (hb:PE X b tb) (hm:behindInMarks op b=false):PE X (.Compare a [op] [b] pos) (tOp r ta tb):=by
  intro pins s σ H Q I h
  exact wpAny_Compare1 (binT ha hb I h fun v u s2 x y H2 I2 rx ry q=>ho pins s2 σ H2 x y v u Q I2 rx ry q) hm
inductive RTest (x:V) (H:Hp) (Q:Bool→Hp→Prop):Prop
  | mk (k:Bool) (hx:x = .bl k) (q:Q k H):RTest x H Q
noncomputable def tTest (t:TE):TT:=fun σ H Q=>t σ H fun x H'=>RTest x H' Q
theorem pt_cmpR {op:CmpOp} {r:R2} (ho:OpR X (compareOp op) r) (ha:PE X a ta) (hb:PE X b tb) (hm:behindInMarks op b=false):PT X (.Compare a [op] [b] pos) (tTest (tOp r ta tb)):=by
  intro pins s σ H Q I h
  refine wpAny_isTrue_Compare1 (thn (ha pins s σ H _ I h) fun v s1 ⟨x,H1,I1,r1,q1⟩=>thn (hb pins s1 σ H1 _ I1 q1) fun u s2 ⟨y,H2,I2,r2,q2⟩ =>
    thn (ho pins s2 σ H2 x y v u _ I2 r1 r2 q2) fun c s3 ⟨z,H3,I3,r3,k,e,q3⟩ => ?_) hm
  subst e
  cases r3
  exact wpAny_truthy_bool ⟨H3,I3,q3⟩
noncomputable def tChain (r r':R2) (ta tb tc:TE):TE:=fun σ H Q=>ta σ H fun x H1=>tb σ H1 fun y H2=>r x y H2 fun z H3=>∃ k,z = .bl k ∧
  (if k=true then tc σ H3 fun w' H4=>r' y w' H4 Q else Q (.bl false) H3)
theorem pe_chain {op op':CmpOp} {r r':R2} (ho:OpR X (compareOp op) r) (ho':OpR X (compareOp op') r') (ha:PE X a ta) (hb:PE X b tb) (hc:PE X c tc)
    (hm:lastMarks [op,op'] [b,c]=false:=by with_unfolding_all rfl):PE X (.Compare a [op,op'] [b,c] pos) (tChain r r' ta tb tc):=by
  intro pins s σ H Q I h
  refine Compare_chain (thn (ha pins s σ H _ I h) fun v s1 ⟨x,H1,I1,r1,q1⟩=>chain_link (thn (hb pins s1 σ H1 _ I1 q1) fun u s2 ⟨y,H2,I2,r2,q2⟩ =>
    thn (ho pins s2 σ H2 x y v u _ I2 r1 r2 q2) fun d s3 ⟨z,H3,I3,r3,k,e,q3⟩ => ?_)) hm
  subst e
  cases r3
  refine wpAny_truthy_bool ?_
  cases k with
  | false=>exact ite_ff ⟨.bl false,H3,I3,rfl,q3⟩
  | true=>exact ite_tt (chain_last (thn (hc pins s3 σ H3 _ I3 q3) fun w' s4 ⟨z',H4,I4,r4,q4⟩=>ho' pins s4 σ H4 y z' u w' Q I4 r2 r4 q4))

theorem line63:(sizeLine:Nat) < 2 ^ 63:=by rw [sizeLine_eq];decide

inductive J_op_add_str (x:V) (y:V) (H:Hp) (Q:VK):Prop
  | mk:∀ i j,(x = .str i)→(y = .str j)→(i.length+j.length≤sizeLine)→(Q (.str (i ++ j)) H)→J_op_add_str x y H Q
theorem op_add_str:OpR X (binaryOp .Add) (fun x y H Q=>J_op_add_str x y H Q):=by
  intro pins s σ H x y v u Q I rx ry h
  obtain ⟨i,j,rfl,rfl,hz,q⟩:=h
  obtain ⟨t,rfl⟩:=rx
  obtain ⟨t',rfl⟩:=ry
  exact add_str (fun t' tk=>⟨.str (i ++ j),H,I.tok _,⟨_,rfl⟩,q⟩) hz


theorem vals1 {x:V} {us:List Value} (r:Vals [x] us):∃ u,us = [u]∧RelV x u:=by
  cases r with
  | cons r1 r2=>cases r2;exact ⟨_,rfl,r1⟩
theorem vals2 {x y:V} {us:List Value} (r:Vals [x,y] us):∃ u w',us = [u,w']∧RelV x u∧RelV y w':=by
  cases r with
  | cons r1 r2 =>
    cases r2 with
    | cons r3 r4=>cases r4;exact ⟨_,_,rfl,r1,r3⟩
end
end L2

namespace L2
open PySem PySem.Spec PyProof.Rows

structure ObjM (h:Heap) (x dx C:Addr) (mA:Str→Option Value):Prop where
  obj:h.get? x=some (PySem.W.instObj C dx)
  ns:h.Ns1 dx mA
  ne:dx≠x

theorem lookIn_ns {h:Heap} {dx:Addr} {mA:Str→Option Value} (n:h.Ns1 dx mA):∃ od,h.get? dx=some od∧∀ name,PySem.W.lookIn name od=some (mA name):=by
  obtain ⟨o,es,ep,ho,hd,hk,_,hm⟩:=n
  refine ⟨o,ho,fun name => ?_⟩
  have e:=hm name
  unfold nsFind findBy at e
  rw [← Array.find?_toList] at e
  unfold PySem.W.lookIn
  rw [hd]
  dsimp only
  split
  · rename_i y q
    rw [q] at e
    exact congrArg some e
  · rename_i q
    rw [q] at e
    have a:es.toList.any (·.refKey)=false:=by
      rw [List.any_eq_false]
      intro y hy
      obtain ⟨z,t,hkey⟩:=hk y (Array.mem_toList_iff.mp hy)
      simp [DictEntry.refKey,hkey]
    have a':¬ es.toList.any (·.refKey)=true:=by rw [a];exact Bool.false_ne_true
    rw [if_neg a']
    exact congrArg some e

theorem ObjM.look {h:Heap} {x dx C:Addr} {mA:Str→Option Value} (I:ObjM h x dx C mA):∃ od,PySem.W.InstAt h x (PySem.W.instObj C dx) C (some od)∧∀ name,PySem.W.lookIn name od=some (mA name) :=
  let ⟨od,ho,hl⟩:=lookIn_ns I.ns
  ⟨od,⟨I.obj,rfl,rfl,ho⟩,hl⟩

section
variable {prog:Program} {w:World} {A:Around} {E:Value→Shared→Prop} {s:Shared} {K:PySem.W.Frag} {x dx C f:Addr} {mA:Str→Option Value} {name:Str} {v:Value}

theorem get_map {expr:Bool} {Q:Value→Shared→Prop} (X:K.In s.heap) (I:ObjM s.heap x dx C mA) (hg:PySem.W.plainGet K C name=true) (hh:PySem.W.hasDictIn K C=true)
    (ha:PySem.W.findIn K (.ref C) name=some none) (hv:mA name=some v) (hv':PySem.W.handedIn v=true) (h:Q v { s with toks:=s.toks+1 }) :
    wpAny (model prog w) A (getAttr (.ref x) name expr) Q E s:=by
  obtain ⟨od,J,hl⟩:=I.look
  exact PySem.W.get_value X J (PySem.W.plainGet_of hg).1 (PySem.W.findObj_own hh ha rfl (by rw [hl,hv])) hv' h


theorem get_meth {pl:Sem Bool} {Q:Value × List Value→Shared→Prop} (X:K.In s.heap) (I:ObjM s.heap x dx C mA) (hg:PySem.W.plainGet K C name=true)
    (hf:PySem.W.findIn K (.ref C) name=some (some (.ref f))) (ht:PySem.W.isFn K (.ref f)=true) (hv:mA name=none) (h:Q (.ref f, [.ref x]) s) :
    wpAny (model prog w) A (getMethod (.ref x) name pl) Q E s:=by
  obtain ⟨od,J,hl⟩:=I.look
  exact PySem.W.method_fn X J (PySem.W.plainGet_of hg).1 (PySem.W.plainGet_of hg).2 hf (beq_iff_eq.mp ht) (by show (PySem.W.lookIn name od).map (·.isSome)=some false;rw [hl,hv];rfl) h

theorem set_map {ns:List Str} {Q:Unit→Shared→Prop} (X:K.In s.heap) (I:ObjM s.heap x dx C mA)
    (hs:PySem.W.findIn K (.ref C) "__setattr__" = some (some (.builtin "object.__setattr__"))) (hp:PySem.W.plainOver K C=true) (ht:PySem.W.takerIn K C name=some none) (hh:PySem.W.hasDictIn K C=true)
    (hw:PySem.Within mA ns) (hsz:ns.length≤sizeLine)
    (h:∀ h',ObjM h' x dx C (fun y=>if y=name then some v else mA y)→Heap.SameBut dx s.heap h'→Q () { s with heap:=h',toks:=s.toks+2 }) :
    wpAny (model prog w) A (setAttr (.ref x) name v) Q E s:=by
  obtain ⟨od,J,hl⟩:=I.look
  refine PySem.W.set_plain X J hs (PySem.W.osa_open (s := { s with toks:=s.toks+1 }) (r:=none) X J hp ht fun b => ?_)
  obtain ⟨cd,hc,hd'⟩:=PySem.W.any_some hh
  have hx:s.heap.get? x=some ⟨.ref C,some dx,.plain, #[]⟩:=I.obj
  refine wpAny_bind (wpAny_pure (wpAny_bind (wpAny_bind (wpAny_loadPart hx (wpAny_bind (PySem.W.Looks.here (s := { s with toks:=s.toks+1 }) (PySem.W.looks_clsIn X hc) ?_))))))
  rw [hd']
  refine wpAny_pure (a:=some dx) (wpAny_bind (wpAny_pure (wpAny_bind ?_)))
  refine wpAny_nsSet1 (s := { s with toks:=s.toks+1 }) I.ns fun h' hn2 hs2 => ?_
  obtain ⟨oD,esD,epD,hoD,hdD,hcD⟩:=hn2.count (PySem.Within.cons name v hw)
  refine wpAny_bind (wpAny_lookBehind hoD (by rw [hdD];exact pastItsLine_dict (Nat.le_trans hcD (by rw [List.length_cons];omega))) ?_)
  exact wpAny_pure (h _ ⟨(hs2.2 _ (Ne.symm I.ne)).trans I.obj,hn2,I.ne⟩ hs2)

theorem make_map {R:Result→Shared→Prop} {vs:List Value} {kw:List (Str × Value)} (X:K.In s.heap) (hm:PySem.W.makesIn K C=true)
    (hi:PySem.W.findIn K (.ref C) "__init__" = some (some (.ref f))) (hf:PySem.W.typeIn K (.ref f)=some (.type "function"))
    (h:codeAny (model prog w) (A.under (.builtin "type.__call__" ⟨.ref C :: vs,kw⟩)) (.call (.ref f) ⟨.ref (s.heap.objs.size+1) :: vs,kw⟩) (PySem.W.InitBack (s.heap.objs.size+1) R)
      { s with heap:=(s.heap.push PySem.W.emptyDict).push (PySem.W.instObj C s.heap.objs.size) }) :
    codeAny (model prog w) A (.call (.ref C) ⟨vs,kw⟩) R s:=by
  obtain ⟨hh,g,d,t,os⟩:=s
  exact PySem.W.make_core (PySem.W.makes_of X hm) (PySem.W.looks_findIn X hi) (fun self=>PySem.W.bind_fn X self hf) (.inl rfl) h
end

noncomputable def putF (f:Str) (v:V):List (Str × V)→List (Str × V)
  | [] => [(f,v)]
  | (g,x) :: r=>if g=f then (g,v) :: r else (g,x) :: putF f v r
theorem lookup_putF (f g:Str) (v:V):∀ fs:List (Str × V),(putF f v fs).lookup g=if g=f then some v else fs.lookup g
  | []=>by
    show List.lookup g [(f,v)]=_
    by_cases h:g=f
    · have hb:(g == f)=true:=beq_iff_eq.mpr h
      simp only [List.lookup,hb,if_pos h]
    · have hb:(g == f)=false:=beq_eq_false_iff_ne.mpr h
      simp only [List.lookup,hb,if_neg h]
  | (k,x) :: r=>by
    have ih:=lookup_putF f g v r
    rw [show putF f v ((k,x) :: r)=(if k=f then (k,v) :: r else (k,x) :: putF f v r) from rfl]
    by_cases hk:k=f
    · rw [if_pos hk]
      by_cases h:g=k
      · have hb:(g == k)=true:=beq_iff_eq.mpr h
        simp only [List.lookup,hb,if_pos (h.trans hk)]
      · have hb:(g == k)=false:=beq_eq_false_iff_ne.mpr h
        simp only [List.lookup,hb,if_neg (fun e:g=f=>h (e.trans hk.symm))]
    · rw [if_neg hk]
      by_cases h:g=k
      · have hb:(g == k)=true:=beq_iff_eq.mpr h
        simp only [List.lookup,hb,if_neg (fun e:g=f=>hk (h.symm.trans e))]
      · have hb:(g == k)=false:=beq_eq_false_iff_ne.mpr h
        simp only [List.lookup,hb]
        exact ih
theorem keys_putF (f:Str) (v:V):∀ fs:List (Str × V),f∈(putF f v fs).map (·.1)∧∀ g,g∈fs.map (·.1)→g∈(putF f v fs).map (·.1)
  | []=>⟨by simp [putF],fun g h=>by simp at h⟩
  | (k,x) :: r=>by
    obtain ⟨i1,i2⟩:=keys_putF f v r
    rw [show putF f v ((k,x) :: r)=(if k=f then (k,v) :: r else (k,x) :: putF f v r) from rfl]
    by_cases hk:k=f
    · rw [if_pos hk]
      subst hk
      exact ⟨by simp,fun g h=>by simpa using h⟩
    · rw [if_neg hk]
      refine ⟨?_,fun g h => ?_⟩
      · rw [List.map_cons]
        exact List.mem_cons_of_mem _ i1
      · rw [List.map_cons] at h ⊢
        rcases List.mem_cons.mp h with e | e
        · exact List.mem_cons.mpr (.inl e)
        · exact List.mem_cons_of_mem _ (i2 g e)
theorem length_putF (f:Str) (v:V):∀ fs:List (Str × V),(putF f v fs).length≤fs.length+1
  | []=>by simp [putF]
  | (k,x) :: r=>by
    have ih:=length_putF f v r
    rw [show putF f v ((k,x) :: r)=(if k=f then (k,v) :: r else (k,x) :: putF f v r) from rfl]
    by_cases hk:k=f
    · rw [if_pos hk,List.length_cons,List.length_cons];omega
    · rw [if_neg hk,List.length_cons,List.length_cons];omega

theorem RelO.some_of {v:V} {o:Option Value} (r:RelO (some v) o):∃ u,o=some u∧RelV v u:=by
  cases o with
  | none=>exact (show False from r).elim
  | some u=>exact ⟨u,rfl,r⟩
theorem RelO.none_of {o:Option Value} (r:RelO none o):o=none:=by
  cases o with
  | none=>rfl
  | some u=>exact (show False from r).elim
theorem handed_of {v:V} {u:Value} (r:RelV v u):PySem.W.handedIn u=true:=by
  cases v with
  | non=>cases (show u=Value.none from r);rfl
  | bl b=>cases (show u=Value.bool b from r);rfl
  | int i=>obtain ⟨t,e⟩:=(show ∃ t,u=Value.int i t from r);cases e;rfl
  | str x=>obtain ⟨t,e⟩:=(show ∃ t,u=Value.str x t from r);cases e;rfl
  | byt b=>obtain ⟨t,e⟩:=(show ∃ t,u=Value.bytes b t from r);cases e;rfl
  | flt b=>obtain ⟨t,e⟩:=(show ∃ t,u=Value.float b t from r);cases e;rfl
  | ref a=>cases (show u=Value.ref a from r);rfl
  | ty n=>cases (show u=Value.type n from r);rfl

section
variable {P:Program} {w:World} {H H':Hp} {h h':Heap} {a C dx:Addr} {fs fs':List (Str × V)}
theorem ins_get (hok:HOk P w H h) (e:H a=some (.ins C dx fs)):∃ mA,ObjM h a dx C mA∧(∀ f,RelO (fs.lookup f) (mA f))∧PySem.Within mA (fs.map (·.1))∧fs.length≤1000∧H dx=some (.own a):=by
  obtain ⟨d,z,ne,ob,mA,n,r,q⟩:=(show ObjOk P w H h a (.ins C dx fs) from hok a _ e)
  exact ⟨mA,⟨ob,n,ne⟩,r,q,z,d⟩
end

structure Cls (K:PySem.W.Frag) (C:Addr):Prop where
  pg:PySem.W.plainGet K C Str.empty=true
  hd:PySem.W.hasDictIn K C=true
  po:PySem.W.plainOver K C=true
  sa:PySem.W.findIn K (.ref C) "__setattr__" = some (some (.builtin "object.__setattr__"))
theorem Cls.get {K:PySem.W.Frag} {C:Addr} (c:Cls K C) (f:Str):PySem.W.plainGet K C f=true:=c.pg
noncomputable def NoAttr (K:PySem.W.Frag) (C:Addr) (f:Str):Prop:=PySem.W.findIn K (.ref C) f=some none
theorem NoAttr.taker {K:PySem.W.Frag} {C:Addr} {f:Str} (n:NoAttr K C f):PySem.W.takerIn K C f=some none:=by
  unfold PySem.W.takerIn
  rw [show PySem.W.findIn K (.ref C) f=some none from n]
  rfl
structure Meth (K:PySem.W.Frag) (C:Addr) (m:Str) (f:Addr):Prop where
  at_:PySem.W.findIn K (.ref C) m=some (some (.ref f))
  fn:PySem.W.isFn K (.ref f)=true
  kp:PySem.W.keepIn K (.ref f)=true

section
variable {X:Cx} {pins:List (Addr × Obj)} {σ : St} {H:Hp} {s:Shared} {a C dx:Addr} {fs:List (Str × V)} {f:Str} {v:V} {A:Around} {E:Value→Shared→Prop}

theorem getattr_ok {b:Bool} {Q:Value→Shared→Prop} (I:Inv X pins σ H s) (e:H a=some (.ins C dx fs)) (c:Cls X.K C) (n:NoAttr X.K C f) (l:fs.lookup f=some v)
    (h:∀ u s',Inv X pins σ H s'→RelV v u→Q u s'):wpAny (model X.prog X.w) A (getAttr (.ref a) f b) Q E s:=by
  obtain ⟨mA,O,r,_,_,_⟩:=ins_get I.hok e
  obtain ⟨u,hu,ru⟩:=RelO.some_of (v:=v) (o:=mA f) (by rw [← l];exact r f)
  exact get_map I.kIn O (c.get f) c.hd n hu (handed_of ru) (h u _ (I.tok _) ru)


theorem getmeth_ok {m:Str} {g:Addr} {pl:Sem Bool} {Q:Value × List Value→Shared→Prop} (I:Inv X pins σ H s) (e:H a=some (.ins C dx fs)) (c:Cls X.K C) (k:Meth X.K C m g) (l:fs.lookup m=none)
    (h:Q (.ref g, [.ref a]) s):wpAny (model X.prog X.w) A (getMethod (.ref a) m pl) Q E s:=by
  obtain ⟨mA,O,r,_,_,_⟩:=ins_get I.hok e
  have hn:mA m=none:=RelO.none_of (by rw [← l];exact r m)
  exact get_meth I.kIn O (c.get m) k.at_ k.fn hn h

theorem setattr_ok {y:V} {u:Value} {Q:Unit→Shared→Prop} (I:Inv X pins σ H s) (e:H a=some (.ins C dx fs)) (c:Cls X.K C) (n:NoAttr X.K C f) (hl:fs.length < 1000) (ry:RelV y u)
    (h:∀ s',Inv X pins σ (upd H a (.ins C dx (putF f y fs))) s'→Q () s'):wpAny (model X.prog X.w) A (setAttr (.ref a) f u) Q E s:=by
  obtain ⟨mA,O,r,wi,_,ho⟩:=ins_get I.hok e
  have hz:(fs.map (·.1)).length≤sizeLine:=by rw [List.length_map,sizeLine_eq];omega
  refine set_map I.kIn O c.sa c.po n.taker c.hd wi hz fun h' O' sb=>h _ ?_
  have hd:∃ o,h'.get? dx=some o:=let ⟨o,_,_,e',_⟩:=O'.ns; ⟨o,e'⟩
  refine I.write (x:=a) (e:=dx) (by rw [e];exact True.intro) (.inr ho) (fun b q hb z=>(sb.2 b hb).trans z) hd ?_
  refine ⟨by rw [upd_ne O.ne];exact ho,?_,O.ne,O'.obj,_,O'.ns,fun g => ?_,fun g hg => ?_⟩
  · have:=length_putF f y fs;omega
  · show RelO ((putF f y fs).lookup g) (if g=f then some u else mA g)
    rw [lookup_putF]
    by_cases q:g=f
    · rw [if_pos q,if_pos q];exact ry
    · rw [if_neg q,if_neg q];exact r g
  · by_cases q:g=f
    · rw [q];exact (keys_putF f y fs).1
    · refine (keys_putF f y fs).2 g (wi g fun z=>hg ?_)
      show (if g=f then some u else mA g)=none
      rw [if_neg q];exact z

theorem Inv.made (I:Inv X pins σ H s):Inv X pins σ (upd (upd H s.heap.objs.size (.own (s.heap.objs.size+1))) (s.heap.objs.size+1) (.ins C s.heap.objs.size []))
    { s with heap:=(s.heap.push PySem.W.emptyDict).push (PySem.W.instObj C s.heap.objs.size) }:=by
  have e1:(s.heap.push PySem.W.emptyDict).get? s.heap.objs.size=some PySem.W.emptyDict:=Heap.get?_push_size s.heap rfl
  have e2:((s.heap.push PySem.W.emptyDict).push (PySem.W.instObj C s.heap.objs.size)).get? (s.heap.objs.size+1)=some (PySem.W.instObj C s.heap.objs.size):=by
    have:=Heap.get?_push_size (s.heap.push PySem.W.emptyDict) (o:=PySem.W.instObj C s.heap.objs.size) rfl
    rwa [Heap.size_push] at this
  have e3:(s.heap.push PySem.W.emptyDict).Ns s.heap.objs.size (fun _=>none):=⟨PySem.W.emptyDict, #[],_,e1,rfl,(fun e he=>absurd he (by simp)),fun _=>rfl⟩
  have I1:=I.laid (a:=s.heap.objs.size) (o := .own (s.heap.objs.size+1)) (h':=s.heap.push PySem.W.emptyDict) (t':=s.toks) (fun b u q=>Heap.get?_push_of_some _ q) (Nat.le_refl _) ⟨_,e1⟩
  refine I1.laid (a:=s.heap.objs.size+1) (o := .ins C s.heap.objs.size []) (t':=s.toks) (fun b u q=>Heap.get?_push_of_some _ q) (Nat.le_of_eq (Heap.size_push _ _)) ?_
  have ne:s.heap.objs.size≠s.heap.objs.size+1:=Nat.ne_of_lt (Nat.lt_succ_self _)
  refine ⟨by rw [upd_ne ne,upd_same],Nat.zero_le _,ne,e2,fun _=>none,(Heap.Ns1.of_empty e3).at fun o q=>Heap.get?_push_of_some _ q,fun _=>True.intro,fun y hy=>absurd rfl hy⟩

theorem attr_of {prog:Program} {w:World} {env:Env} {e:Expr} {f:Str} {pos:Pos} {s:Shared} {Q:Value→Shared→Prop} (hb:attributeBase e f env (eval e env)=eval e env)
    (h:wpAny (model prog w) A (eval e env) (fun o s₁ => wpAny (model prog w) A (getAttr o f true) Q E s₁) E s):wpAny (model prog w) A (eval (.Attribute e f pos) env) Q E s :=
  Attribute_any_ h (by rw [arm_eval_Attribute,hb])
end

inductive RFld (K:PySem.W.Frag) (f:Str) (x:V) (H:Hp) (Q:VK):Prop
  | mk (a C dx:Addr) (fs:List (Str × V)) (v:V) (hx:x = .ref a) (h:H a=some (.ins C dx fs)) (c:Cls K C) (n:NoAttr K C f) (l:fs.lookup f=some v) (q:Q v H):RFld K f x H Q
noncomputable def tFld (K:PySem.W.Frag) (ta:TE) (f:Str):TE:=fun σ H Q=>ta σ H fun x H1=>RFld K f x H1 Q
inductive J_sFld (K:PySem.W.Frag) (f:Str) (D:Ends) (σ : St) (y:V) (x:V) (H2:Hp):Prop
  | mk:∀ a C dx fs,(x = .ref a)→(H2 a=some (.ins C dx fs))→(Cls K C)→(NoAttr K C f)→(fs.length < 1000)→(D.nx σ (upd H2 a (.ins C dx (putF f y fs))))→J_sFld K f D σ y x H2
noncomputable def sFld (K:PySem.W.Frag) (ta tv:TE) (f:Str):TS:=fun D σ H=>tv σ H fun y H1=>ta σ H1 fun x H2=>J_sFld K f D σ y x H2
noncomputable def InOp (X:Cx) (op:Operator) (rd:V→V→Hp→VK→Prop):Prop :=
  ∀ (pins:List (Addr × Obj)) (s:Shared) (σ : St) (H:Hp) (x y:V) (u v:Value) (Q:VK),Inv X pins σ H s→RelV x u→RelV y v→rd x y H Q→wpAny (model X.prog X.w) X.A (inplaceOp op u v) (EP X pins σ Q) X.xe s
noncomputable def sFldAug (K:PySem.W.Frag) (ta tv:TE) (rd:V→V→Hp→VK→Prop) (f:Str):TS:=fun D σ H=>ta σ H fun x H1=>∃ a C dx fs v,x = .ref a∧H1 a=some (.ins C dx fs)∧Cls K C∧NoAttr K C f∧fs.lookup f=some v ∧
  tv σ H1 fun y H2=>rd v y H2 fun z H3=>∃ dx' fs',H3 a=some (.ins C dx' fs')∧fs'.length < 1000∧D.nx σ (upd H3 a (.ins C dx' (putF f z fs')))

section
variable {X:Cx} {o e value:Expr} {f:Str} {pos pos' tpos:Pos} {ta tv:TE}
theorem pe_fld (he:PE X e ta) (hb:attributeBase e f X.env (eval e X.env)=eval e X.env):PE X (.Attribute e f pos) (tFld X.K ta f):=by
  intro pins s σ H Q I h
  refine attr_of hb (thn (he pins s σ H _ I h) fun u s1 ⟨x,H1,I1,rx,a,C,dx,fs,v,ex,ea,c,n,l,q⟩ => ?_)
  subst ex
  obtain rfl:u=Value.ref a:=rx
  exact getattr_ok I1 ea c n l fun u' s2 I2 ru=>⟨v,H1,I2,ru,q⟩
theorem ps_fld (ha:PE X o ta) (hv:PE X value tv) (hs:swapsWith value (some (.Attribute o f pos')) pos.line X.env=pure false):PS X (.Assign [.Attribute o f pos'] value pos) (sFld X.K ta tv f):=by
  intro pins s σ H D I h
  refine plainObj_wpAny_Assign_Attribute (thn (hv pins s σ H _ I h) fun u s1 ⟨y,H1,I1,ry,q⟩=>thn (ha pins s1 σ H1 _ I1 q) fun ov s2 ⟨x,H2,I2,rx,a,C,dx,fs,ex,ea,c,n,l,q2⟩ => ?_) hs
  subst ex
  obtain rfl:ov=Value.ref a:=rx
  exact setattr_ok I2 ea c n l ry fun s3 I3=>⟨σ,_,I3,q2⟩
theorem ps_fldaug {op:Operator} {rd:V→V→Hp→VK→Prop} (ha:PE X o ta) (hv:PE X value tv) (hop:InOp X op rd):PS X (.AugAssign (.Attribute o f tpos) op value pos) (sFldAug X.K ta tv rd f):=by
  intro pins s σ H D I h
  refine wpAny_AugAssign_AttributeAny (thn (ha pins s σ H _ I h) fun ov s1 hh => ?_)
  obtain ⟨x,H1,I1,rx,a,C,dx,fs,v,ex,ea,c,n,l,q⟩:=hh
  subst ex
  obtain rfl:ov=Value.ref a:=rx
  refine getattr_ok I1 ea c n l fun u s2 I2 ru=>thn (hv pins s2 σ H1 _ I2 q) fun w3 s3 ⟨y,H2,I3,ry,q3⟩=>thn (hop pins s3 σ H2 v y u w3 _ I3 ru ry q3) fun w4 s4 hh => ?_
  obtain ⟨z,H3,I4,rz,dx',fs',ea',l',q4⟩:=hh
  exact setattr_ok I4 ea' c n l' rz fun s5 I5=>⟨σ,_,I5,q4⟩
inductive J_rAdd (x:V) (y:V) (H:Hp) (Q:VK):Prop
  | mk:∀ i j,(x = .int i)→(y = .int j)→(Q (.int (i+j)) H)→J_rAdd x y H Q
noncomputable def rAdd:V→V→Hp→VK→Prop:=fun x y H Q=>J_rAdd x y H Q
theorem in_add:InOp X .Add rAdd:=by
  rintro pins s σ H x y u v Q I rx ry ⟨i,j,rfl,rfl,q⟩
  obtain ⟨t,rfl⟩:=(show ∃ t,u=Value.int i t from rx)
  obtain ⟨t',rfl⟩:=(show ∃ t',v=Value.int j t' from ry)
  exact PyProof.Rows.iadd_int ⟨.int (i+j),H,I.tok _,⟨_,rfl⟩,q⟩

end

section
variable {X:Cx} {pins:List (Addr × Obj)} {σ : St} {H:Hp} {s:Shared} {A:Around} {E:Value→Shared→Prop} {Q:Value→Shared→Prop} {c:Value} {b:Bool}
inductive TyOf (K:PySem.W.Frag) (H:Hp):V→Value→Prop where
  | non:TyOf K H .non (.type "NoneType")
  | bl (x:Bool):TyOf K H (.bl x) (.type "bool")
  | int (i:Int):TyOf K H (.int i) (.type "int")
  | str (x:Str):TyOf K H (.str x) (.type "str")
  | flt (x:UInt64):TyOf K H (.flt x) (.type "float")
  | lst {a:Addr} {xs:List V} (e:H a=some (.lst xs)):TyOf K H (.ref a) (.type "list")
  | frz {a:Addr} {o:Obj} {xs:List V} (e:H a=some (.frz o (.lst xs))):TyOf K H (.ref a) (.type "list")
  | tup {a:Addr} {xs:List V} (e:H a=some (.tup xs)):TyOf K H (.ref a) (.type "tuple")
  | dK {a:Addr} {kvs:List (Key × V)} (e:H a=some (.dK kvs)):TyOf K H (.ref a) (.type "dict")
  | dT {a:Addr} {kvs:List (List Key × V)} (e:H a=some (.dT kvs)):TyOf K H (.ref a) (.type "dict")
  | ins {a C dx:Addr} {fs:List (Str × V)} (e:H a=some (.ins C dx fs)) (cl:Cls K C) (ha:PySem.W.findIn K (.ref C) "__class__" = some (some (.builtin "object.__class__")))
      (hn:PySem.W.specialIn K (.builtin "object.__class__") "__get__" = some (some (.builtin "getset_descriptor.__get__"))) (htk:PySem.W.takesIn K (.builtin "object.__class__")=some true)
      (hm:PySem.W.mroIn K C (.type "object")=some true):TyOf K H (.ref a) (.ref C)
theorem isinst_ok {x:V} {u t:Value} (I:Inv X pins σ H s) (rx:RelV x u) (ty:TyOf X.K H x t) (e:PySem.W.kitOne X.K t c=some b) (h:∀ tk,Q (.bool b) { s with toks:=tk }) :
    wpAny (model X.prog X.w) A (call (.builtin "isinstance") [u,c]) Q E s:=by
  cases ty with
  | non=>cases (show u=Value.none from rx);exact PySem.W.kia_one PySem.W.kitx_none I.kIn True.intro e (fun z=>nomatch z) h
  | bl y=>cases (show u=Value.bool y from rx);exact PySem.W.kia_one PySem.W.kitx_bool I.kIn True.intro e (fun z=>nomatch z) h
  | int i=>obtain ⟨t,q⟩:=(show ∃ t,u=Value.int i t from rx);cases q;exact PySem.W.kia_one PySem.W.kitx_int I.kIn True.intro e (fun z=>nomatch z) h
  | str y=>obtain ⟨t,q⟩:=(show ∃ t,u=Value.str y t from rx);cases q;exact PySem.W.kia_one PySem.W.kitx_str I.kIn True.intro e (fun z=>nomatch z) h
  | flt y=>obtain ⟨t,q⟩:=(show ∃ t,u=Value.float y t from rx);cases q;exact PySem.W.kia_one PySem.W.kitx_float I.kIn True.intro e (fun z=>nomatch z) h
  | @lst a xs ea =>
    cases (show u=Value.ref a from rx)
    obtain ⟨_,_,n,_,h1⟩:=(show ObjOk X.prog X.w H s.heap a (.lst xs) from I.hok a _ ea)
    exact PySem.W.kia_one PySem.W.kitx_list I.kIn ⟨_,h1,rfl⟩ e (fun z=>nomatch z) h
  | @frz a ob xs ea =>
    cases (show u=Value.ref a from rx)
    obtain ⟨_,_,_,n,_,h1⟩:=(show ObjOk X.prog X.w H s.heap a (.frz ob (.lst xs)) from I.hok a _ ea)
    exact PySem.W.kia_one PySem.W.kitx_list I.kIn ⟨_,h1,rfl⟩ e (fun z=>nomatch z) h
  | @tup a xs ea =>
    cases (show u=Value.ref a from rx)
    obtain ⟨_,_,_,p⟩:=(show ObjOk X.prog X.w H s.heap a (.tup xs) from I.hok a _ ea)
    obtain ⟨o,h1,h2,_⟩:=p
    exact PySem.W.kia_one PySem.W.kitx_tuple I.kIn ⟨o,h1,h2⟩ e (fun z=>nomatch z) h
  | @dK a kvs ea =>
    cases (show u=Value.ref a from rx)
    obtain ⟨_,_,vs,_,p⟩:=(show ObjOk X.prog X.w H s.heap a (.dK kvs) from I.hok a _ ea)
    obtain ⟨o,es,ep,h1,h2,_⟩:=p
    exact PySem.W.kia_one PySem.W.kitx_dict I.kIn ⟨o,h1,h2.1⟩ e (fun z=>nomatch z) h
  | @dT a kvs ea =>
    cases (show u=Value.ref a from rx)
    obtain ⟨_,_,xs,_,o,es,ep,h1,h2,_⟩:=(show ObjOk X.prog X.w H s.heap a (.dT kvs) from I.hok a _ ea)
    exact PySem.W.kia_one PySem.W.kitx_dict I.kIn ⟨o,h1,h2.1⟩ e (fun z=>nomatch z) h
  | @ins a C dx fs ea cl ha hn htk hm =>
    cases (show u=Value.ref a from rx)
    obtain ⟨mA,O,_⟩:=ins_get I.hok ea
    obtain ⟨od,J,_⟩:=O.look
    exact PySem.W.kia_one (PySem.W.kitx_own (cl.get _) cl.hd ha hn htk hm) I.kIn J e (fun z=>nomatch z) h
end
end L2

namespace L2
open PySem PySem.Spec PyProof.Rows

structure Room (k:Nat) (A:Around):Prop where
  hd:A.handled=none
  dp:A.depth+3 * k+5 < recursionLimit
  un:A.units+16 * k+200 < cLine
theorem Room.mono {j k:Nat} {A:Around} (r:Room k A) (h:j≤k):Room j A:=⟨r.hd,by have:=r.dp;omega,by have:=r.un;omega⟩
theorem Room.deeper {k:Nat} {A:Around} (r:Room (k+1) A) (env:Env):Room k (A.deeper env) :=
  ⟨r.hd,by have:=r.dp;show A.depth+1+3 * k+5 < _;omega,by have:=r.un;show A.units+3+16 * k+200 < _;omega⟩
theorem make_depth {A:Around} {C:Addr} {us:List Value} {kw:List (Str × Value)}:(A.under (.builtin "type.__call__" ⟨.ref C :: us,kw⟩)).depth=A.depth+1:=by
  first | rfl | simp [Around.under,Code.weight,Code.isCreation,Code.isGuard,Code.isCaller,Code.frames,Code.isFrame,guardIds]
theorem make_units {A:Around} {C:Addr} {us:List Value} {kw:List (Str × Value)}:(A.under (.builtin "type.__call__" ⟨.ref C :: us,kw⟩)).units=A.units+1:=by
  first | rfl | simp [Around.under,Code.cUnits,Code.frames,Code.isFrame]
theorem Room.make {k:Nat} {A:Around} (r:Room (k+1) A) (C:Addr) (us:List Value) (kw:List (Str × Value)):Room k (A.under (.builtin "type.__call__" ⟨.ref C :: us,kw⟩)) :=
  ⟨r.hd,by have:=r.dp;rw [make_depth];omega,by have:=r.un;rw [make_units];omega⟩
theorem Room.depth {k:Nat} {A:Around} (r:Room k A):A.depth < recursionLimit:=by have:=r.dp;omega
theorem Room.units0 {k:Nat} {A:Around} (r:Room k A):A.units < cLine:=by have:=r.un;omega

noncomputable def tNil:TA:=fun _ H Q=>Q [] H
noncomputable def tCons (ta:TE) (tr:TA):TA:=fun σ H Q=>ta σ H fun x H1=>tr σ H1 fun xs H2=>Q (x :: xs) H2
section
variable {X:Cx} {e:Expr} {es:List Expr} {te:TE} {t:TA} {pos:Pos}
theorem pa_nil:PA X [] tNil:=fun _ _ _ _ H Q I h=>Calls.spliced_nil ⟨[],H,I,.nil,h⟩
theorem pa_cons (ha:PE X e te) (hr:PA X es t) (hs:starEach (e :: es) X.env=(false,eval e X.env) :: starEach es X.env:=by rfl):PA X (e :: es) (tCons te t):=by
  intro pos pins s σ H Q I h
  rw [hs]
  show wpAny _ _ (spliced ((false,eval e X.env) :: backTo pos (starEach es X.env))) _ _ s
  refine Calls.spliced_cons (thn (ha pins s σ H _ I h) fun u s1 ⟨x,H1,I1,r1,q1⟩ => ?_)
  exact thn (hr pos pins s1 σ H1 _ I1 q1) fun us s2 ⟨xs,H2,I2,r2,q2⟩=>⟨x :: xs,H2,I2,.cons r1 r2,q2⟩

noncomputable def tTup (t:TA):TE:=fun σ H Q=>t σ H fun xs H1=>xs.length≤sizeLine∧∀ p,H1 p=none→Q (.ref p) (upd H1 p (.tup xs))
noncomputable def tLst (t:TA):TE:=fun σ H Q=>t σ H fun xs H1=>xs.length≤sizeLine∧∀ p,H1 p=none→Q (.ref p) (upd H1 p (.lst xs))
theorem pe_tup {x1} (h:PA X es t):PE X (.Tuple es x1 pos) (tTup t):=by
  intro pins s σ H Q I hq
  refine wpAny_Tuple_spliced (thn (h pos pins s σ H _ I hq) fun us s1 ⟨xs,H1,I1,r,z,q⟩=>⟨by rw [← r.length];exact z,?_⟩)
  have hf:H1 s1.heap.objs.size=none:=I1.hok.fresh (Nat.le_refl _)
  refine ⟨.ref s1.heap.objs.size,upd H1 s1.heap.objs.size (.tup xs),I1.laid (t':=s1.toks) (fun b u e=>Heap.get?_push_of_some _ e) (Nat.le_refl _) ?_,rfl,q _ hf⟩
  exact ⟨z,us,r,⟨_,Heap.get?_push_size _ rfl,rfl,_,rfl,rfl⟩⟩
theorem pe_lst (h:PA X es t):PE X (.List es pos) (tLst t):=by
  intro pins s σ H Q I hq
  refine wpAny_List_spliced (thn (h pos pins s σ H _ I hq) fun us s1 ⟨xs,H1,I1,r,z,q⟩=>⟨by rw [← r.length];exact z,?_⟩)
  have hf:H1 s1.heap.objs.size=none:=I1.hok.fresh (Nat.le_refl _)
  refine ⟨.ref s1.heap.objs.size,upd H1 s1.heap.objs.size (.lst xs),I1.laid (t':=s1.toks) (fun b u e=>Heap.get?_push_of_some _ e) (Nat.le_refl _) ?_,rfl,q _ hf⟩
  exact ⟨z,us,0,r,Heap.get?_push_size _ rfl⟩
end

noncomputable abbrev Sp:=List V→Hp→VK→XK→Prop
noncomputable abbrev CXT:=List Env→Hp→Shared→XK→Value→Shared→Prop

structure Env0 (P:Program) (w:World) (K:PySem.W.Frag) (mg:Str→Option Value) (base:Heap) (A:Around) (outer:List Env) (s:Shared) (H:Hp):Prop where
  frames:A.frames=some outer
  mod:Mod K mg base
  bs:∀ b o,base.get? b=some o→s.heap.get? b=some o∧H b=none
  bsz:base.objs.size≤s.heap.objs.size
  funs:s.heap.FunFrames base outer
  frf:∀ b∈frs outer,H b=none
  hok:HOk P w H s.heap
  bare:AllBare s.gens
noncomputable def CE (outer:List Env) (P:Program) (w:World) (H:Hp) (s:Shared) (Q:VK) (u:Value) (s':Shared):Prop :=
  ∃ v H',s'.os=s.os∧AllBare s'.gens∧Un (frs outer) [] H H' s.heap s'.heap∧HOk P w H' s'.heap∧RelV v u∧Q v H'
noncomputable def CR (CX:CXT) (outer:List Env) (P:Program) (w:World) (H:Hp) (s:Shared) (Q:VK) (E:XK) (r:Result) (s':Shared):Prop :=
  match r with
  | .ok (.ret u)=>CE outer P w H s Q u s'
  | .ok _=>False
  | .error e=>CX outer H s E e s'
structure FnOk (P:Program) (w:World) (K:PySem.W.Frag) (mg:Str→Option Value) (base:Heap) (CX:CXT) (k:Nat) (f:Addr) (fd:FuncData) (ps:List Str) (sp:Sp):Prop where
  len:∀ vs H Q E,sp vs H Q E→vs.length=ps.length
  run:∀ (A:Around) (outer:List Env) (s:Shared) (H:Hp) (args:Args) (us:List Value) (vs:List V) (Q:VK) (E:XK),Room k A→Env0 P w K mg base A outer s H→BindsTo s fd args (ps.zip us)→Vals vs us→sp vs H Q E →
    codeAny (model P w) A (.call (.ref f) args) (CR CX outer P w H s Q E) s

theorem Env0.make {P:Program} {w:World} {K:PySem.W.Frag} {mg:Str→Option Value} {base:Heap} {A:Around} {outer:List Env} {s:Shared} {H:Hp} (e:Env0 P w K mg base A outer s H) (C:Addr) (us:List Value) (kw:List (Str × Value)) :
    Env0 P w K mg base (A.under (.builtin "type.__call__" ⟨.ref C :: us,kw⟩)) outer s H:=⟨by first | exact e.frames | (simpa [Around.under,Code.envs,Code.isFrame,pushEnvs] using e.frames),e.mod,e.bs,e.bsz,e.funs,e.frf,e.hok,e.bare⟩

section
variable {X:Cx} {pins:List (Addr × Obj)} {σ : St} {H:Hp} {s s':Shared}
theorem Inv.env0 (I:Inv X pins σ H s):Env0 X.prog X.w X.K X.mg X.base X.A X.stack s H :=
  ⟨I.ok.frames,I.ok.mod,I.bs,Nat.le_trans I.ok.bsz I.sz,I.stack,I.stkFree,I.hok,I.bare⟩
theorem Inv.after {Q:VK} {u:Value} (I:Inv X pins σ H s) (h:CE X.stack X.prog X.w H s Q u s'):EP X pins σ Q u s':=by
  obtain ⟨v,H',os,bare,un,hok,r,q⟩:=h
  obtain ⟨hh,g,d,t,os'⟩:=s'
  obtain rfl:os'=s.os:=os
  exact ⟨v,H',I.call (h':=hh) (g':=g) (d':=d) (t':=t) (ch := []) un hok bare (fun b z=>absurd z (by simp)),r,q⟩
end

noncomputable def tCall (sp:Sp) (dvs:List V) (E:XK) (t:TA):TE:=fun σ H Q=>t σ H fun vs H1=>sp (vs ++ dvs) H1 Q E
inductive J_tMeth (C:Addr) (m:Str) (sp:Sp) (dvs:List V) (E:XK) (t:TA) (σ : St) (Q:VK) (x:V) (H1:Hp):Prop
  | mk:∀ a dx fs,(x = .ref a)→(H1 a=some (.ins C dx fs))→(fs.lookup m=none)→(t σ H1 fun vs H2=>sp (x :: (vs ++ dvs)) H2 Q E)→J_tMeth C m sp dvs E t σ Q x H1
noncomputable def tMeth (C:Addr) (m:Str) (sp:Sp) (dvs:List V) (E:XK) (ta:TE) (t:TA):TE:=fun σ H Q=>ta σ H fun x H1=>J_tMeth C m sp dvs E t σ Q x H1
noncomputable def tMake (C:Addr) (sp:Sp) (dvs:List V) (E:XK) (t:TA):TE:=fun σ H Q=>t σ H fun vs H1=>∀ x dx,H1 x=none→H1 dx=none→dx≠x →
  sp (.ref x :: (vs ++ dvs)) (upd (upd H1 dx (.own x)) x (.ins C dx [])) (fun v H2=>v = .non∧Q (.ref x) H2) E

noncomputable def Binds (K:PySem.W.Frag) (fd:FuncData) (ps:List Str) (ds:List Value):Prop :=
  ∀ (s:Shared) (us:List Value),K.In s.heap→(us ++ ds).length=ps.length→BindsTo s fd ⟨us, []⟩ (ps.zip (us ++ ds))
theorem Binds.all {K:PySem.W.Frag} {fd:FuncData} {ps:List Str} (h:∀ us:List Value,us.length=ps.length→bindArgs fd ⟨us, []⟩=pure (ps.zip us)):Binds K fd ps []:=fun s us _ hl=>by
  rw [List.append_nil] at hl ⊢
  exact .of_eq (h us hl)

noncomputable def Passes (CX:CXT) (X:Cx) (E:XK):Prop := ∀ (pins:List (Addr × Obj)) (σ : St) (H:Hp) (s:Shared) (e:Value) (s':Shared),Inv X pins σ H s→CX X.stack H s E e s'→X.xe e s'

section
variable {X:Cx} {CX:CXT} {k:Nat} {f C:Addr} {fd:FuncData} {ps:List Str} {sp:Sp} {dvs:List V} {ds:List Value} {E:XK} {x m:Str} {p pos apos:Pos} {e o:Expr} {es:List Expr} {ta:TE} {t:TA}

theorem run_fn {pins:List (Addr × Obj)} {σ : St} {H:Hp} {s:Shared} {Q:VK} {us:List Value} {vs:List V} (F:FnOk X.prog X.w X.K X.mg X.base CX k f fd ps sp) (hr:Room k X.A) (hb:Binds X.K fd ps ds) (hd:Vals dvs ds) (hx:Passes CX X E)
    (I:Inv X pins σ H s) (r:Vals vs us) (h:sp (vs ++ dvs) H Q E):wpAny (model X.prog X.w) X.A (call (.ref f) us) (EP X pins σ Q) X.xe s:=by
  have r2:Vals (vs ++ dvs) (us ++ ds):=r.append hd
  have hl:(us ++ ds).length=ps.length:=by rw [← r2.length];exact F.len _ _ _ _ h
  refine wpAny_call (codeAny_mono (F.run X.A X.stack s H ⟨us, []⟩ (us ++ ds) (vs ++ dvs) Q E hr I.env0 (hb s us I.kIn hl) r2 h) fun r s' hq => ?_)
  cases r with
  | error e=>exact hx pins σ H s e s' I hq
  | ok fl =>
    cases fl with
    | ret u=>exact I.after hq
    | next=>exact False.elim hq
    | brk=>exact False.elim hq
    | cont=>exact False.elim hq

theorem pe_call (F:FnOk X.prog X.w X.K X.mg X.base CX k f fd ps sp) (hr:Room k X.A) (hg:Gl X x) (hm:X.mg x=some (.ref f)) (hk:PySem.W.keepIn X.K (.ref f)=true) (hb:Binds X.K fd ps ds) (hd:Vals dvs ds) (hx:Passes CX X E)
    (ha:PA X (e :: es) t) (hdb:(x == ("__debug__" : Str))=false:=by decide) (he:starEach (e :: es) X.env=(false,eval e X.env) :: starEach es X.env:=by rfl) (hpl:(backTo pos (starEach es X.env)).any (·.1)=false:=by rfl) :
    PE X (.Call (.Name x p) (e :: es) [] pos) (tCall sp dvs E t):=by
  intro pins s σ H Q I h
  refine wpAny_Call_Name_kw (ld_glob I hg hm ?_ hdb)
  refine PySem.W.callWith_K (h₀ := X.base) I.ok.mod.kin hk (thn (ha pos pins s σ H _ I h) fun us s1 ⟨vs,H1,I1,r,q⟩=>⟨I1.kIn,?_⟩) he hpl
  exact run_fn F hr hb hd hx I1 r q

theorem pe_meth {pl:Sem Bool} (he:PE X o ta) (c:Cls X.K C) (hm:Meth X.K C m f) (F:FnOk X.prog X.w X.K X.mg X.base CX k f fd ps sp) (hr:Room k X.A) (hb:Binds X.K fd ps ds) (hd:Vals dvs ds) (hx:Passes CX X E) (ha:PA X (e :: es) t)
    (hst:starEach (e :: es) X.env=(false,eval e X.env) :: starEach es X.env:=by rfl) (hpl:(backTo pos (starEach es X.env)).any (·.1)=false:=by rfl)
    (ht:eval (.Call (.Attribute o m apos) (e :: es) [] pos) X.env=(do
      let ov ← eval o X.env
      standAt apos.atName
      let (f,first) ← holding [ov] (getMethod ov m pl)
      callWith pos f first (backTo pos (starEach (e :: es) X.env)) (backToKw pos (keywordEach [] X.env))):=by rfl) :
    PE X (.Call (.Attribute o m apos) (e :: es) [] pos) (tMeth C m sp dvs E ta t):=by
  intro pins s σ H Q I h
  refine PySem.W.methodCall_KW (pl:=pl) (thn (he pins s σ H _ I h) fun u s1 ⟨x,H1,I1,rx,a,dx,fs,ex,ea,l,q⟩ => ?_) ht
  subst ex
  obtain rfl:u=Value.ref a:=rx
  refine getmeth_ok I1 ea c hm l ?_
  refine PySem.W.callWith_K (first := [.ref a]) (h₀ := X.base) I.ok.mod.kin hm.kp (thn (ha pos pins s1 σ H1 _ I1 q) fun us s2 ⟨vs,H2,I2,r,q2⟩=>⟨I2.kIn,?_⟩) hst hpl
  exact run_fn (us := .ref a :: us) (vs := .ref a :: vs) F hr hb hd hx I2 (.cons rfl r) q2
theorem pe_meth0 {pl:Sem Bool} (he:PE X o ta) (c:Cls X.K C) (hm:Meth X.K C m f) (F:FnOk X.prog X.w X.K X.mg X.base CX k f fd ps sp) (hr:Room k X.A) (hb:Binds X.K fd ps ds) (hd:Vals dvs ds) (hx:Passes CX X E)
    (ht:eval (.Call (.Attribute o m apos) [] [] pos) X.env=(do
      let ov ← eval o X.env
      standAt apos.atName
      let (f,first) ← holding [ov] (getMethod ov m pl)
      callWith pos f first (backTo pos (starEach [] X.env)) (backToKw pos (keywordEach [] X.env))):=by rfl) :
    PE X (.Call (.Attribute o m apos) [] [] pos) (tMeth C m sp dvs E ta tNil):=by
  intro pins s σ H Q I h
  refine PySem.W.methodCall_KW (pl:=pl) (thn (he pins s σ H _ I h) fun u s1 ⟨x,H1,I1,rx,a,dx,fs,ex,ea,l,q⟩ => ?_) ht
  subst ex
  obtain rfl:u=Value.ref a:=rx
  refine getmeth_ok I1 ea c hm l ?_
  exact PySem.W.callWith_K0 (first := [.ref a]) I1.kIn hm.kp (run_fn (us := [.ref a]) (vs := [.ref a]) F hr hb hd hx I1 (.cons rfl .nil) q)

structure Mk (K:PySem.W.Frag) (C f:Addr):Prop where
  makes:PySem.W.makesIn K C=true
  init:PySem.W.findIn K (.ref C) "__init__" = some (some (.ref f))
  fn:PySem.W.isFn K (.ref f)=true
  kp:PySem.W.keepIn K (.ref C)=true

theorem run_make {pins:List (Addr × Obj)} {σ : St} {H:Hp} {s:Shared} {Q:VK} {us:List Value} {vs:List V} (M:Mk X.K C f) (F:FnOk X.prog X.w X.K X.mg X.base CX k f fd ps sp) (hr:Room (k+1) X.A) (hb:Binds X.K fd ps ds) (hd:Vals dvs ds)
    (hx:Passes CX X E) (I:Inv X pins σ H s) (r:Vals vs us)
    (h:∀ x dx,H x=none→H dx=none→dx≠x→sp (.ref x :: (vs ++ dvs)) (upd (upd H dx (.own x)) x (.ins C dx [])) (fun v H2=>v = .non∧Q (.ref x) H2) E) :
    wpAny (model X.prog X.w) X.A (call (.ref C) us) (EP X pins σ Q) X.xe s:=by
  have hq:=h (s.heap.objs.size+1) s.heap.objs.size (I.hok.fresh (Nat.le_succ _)) (I.hok.fresh (Nat.le_refl _)) (Nat.ne_of_lt (Nat.lt_succ_self _))
  have I2:=Inv.made (C:=C) I
  have r2:Vals (V.ref (s.heap.objs.size+1) :: (vs ++ dvs)) (Value.ref (s.heap.objs.size+1) :: (us ++ ds)) := .cons rfl (r.append hd)
  have hl:(Value.ref (s.heap.objs.size+1) :: us ++ ds).length=ps.length:=by
    have e:=r2.length
    rw [F.len _ _ _ _ hq] at e
    exact e.symm
  refine wpAny_call (make_map (f:=f) I.kIn M.makes M.init (beq_iff_eq.mp M.fn) (codeAny_mono (F.run _ X.stack _ _ ⟨Value.ref (s.heap.objs.size+1) :: us, []⟩ (Value.ref (s.heap.objs.size+1) :: (us ++ ds)) _ _ E (hr.make C us [])
    (I2.env0.make C us []) (hb _ (Value.ref (s.heap.objs.size+1) :: us) I2.kIn hl) r2 hq) fun r s' hq' => ?_))
  cases r with
  | error e=>exact hx pins σ _ _ e s' I2 hq'
  | ok fl =>
    cases fl with
    | ret u =>
      obtain ⟨v,H',I3,rv,ev,q3⟩:=I2.after hq'
      subst ev
      exact ⟨rv,⟨V.ref (s.heap.objs.size+1),H',I3,rfl,q3⟩⟩
    | next=>exact False.elim hq'
    | brk=>exact False.elim hq'
    | cont=>exact False.elim hq'
theorem pe_make (M:Mk X.K C f) (F:FnOk X.prog X.w X.K X.mg X.base CX k f fd ps sp) (hr:Room (k+1) X.A) (hg:Gl X x) (hm:X.mg x=some (.ref C)) (hb:Binds X.K fd ps ds) (hd:Vals dvs ds) (hx:Passes CX X E)
    (ha:PA X (e :: es) t) (hdb:(x == ("__debug__" : Str))=false:=by decide) (he:starEach (e :: es) X.env=(false,eval e X.env) :: starEach es X.env:=by rfl) (hpl:(backTo pos (starEach es X.env)).any (·.1)=false:=by rfl) :
    PE X (.Call (.Name x p) (e :: es) [] pos) (tMake C sp dvs E t):=by
  intro pins s σ H Q I h
  refine wpAny_Call_Name_kw (ld_glob I hg hm ?_ hdb)
  refine PySem.W.callWith_K (h₀ := X.base) I.ok.mod.kin M.kp (thn (ha pos pins s σ H _ I h) fun us s1 ⟨vs,H1,I1,r,q⟩=>⟨I1.kIn,?_⟩) he hpl
  exact run_make M F hr hb hd hx I1 r q
end

section
variable {X:Cx} {CX:CXT} {k:Nat} {f C:Addr} {fd:FuncData} {ps ks:List Str} {sp:Sp} {E:XK} {x m:Str} {p pos apos kpos:Pos} {e o:Expr} {es:List Expr} {kws:List Keyword} {te ta:TE} {t tk:TA} {nm:Option Str}

variable {g:List Value→List Value→List Value} {gV:List V→List V→List V}
end

structure FnScope (N P:List Str) (sc:Scope):Prop where
  kind:sc.kind = .function
  co:sc.isCoroutine=false
  gen:sc.isGenerator=false
  nd:N.Nodup
  pre:N.take P.length=P
  par:∀ x∈P,sc.names.lookup x=some .local∨sc.names.lookup x=some .cell
  nofree:∀ y∈sc.names,y.2 ≠ .free

theorem bindL_out {kindOf:Str→Option NameKind} {x:Str}:∀ {binds:List (Str × Value)} {m:Str→Option Value},(∀ v,(x,v) ∉ binds)→bindL kindOf binds m x=m x
  | [],_,_=>rfl
  | (n,v) :: r,m,h=>by
    unfold bindL
    rw [bindL_out fun w hw=>h w (List.mem_cons_of_mem _ hw)]
    split
    · have:x≠n:=by rintro rfl;exact h v List.mem_cons_self
      simp [this]
    · rfl
theorem bindC_out {kindOf:Str→Option NameKind} {x:Str}:∀ {binds:List (Str × Value)} {m:Str→Option Value},(∀ v,(x,v) ∉ binds)→bindC kindOf binds m x=m x
  | [],_,_=>rfl
  | (n,v) :: r,m,h=>by
    unfold bindC
    rw [bindC_out fun w hw=>h w (List.mem_cons_of_mem _ hw)]
    split
    · rfl
    · have:x≠n:=by rintro rfl;exact h v List.mem_cons_self
      simp [this]
theorem bindL_get {kindOf:Str→Option NameKind} {x:Str} {v:Value}:∀ {P:List Str} {vs:List Value} {i:Nat} {m:Str→Option Value},P.Nodup→P[i]? = some x→vs[i]? = some v→kindOf x=some .local →
    bindL kindOf (P.zip vs) m x=some v
  | [],_,_,_,_,h,_,_=>by simp at h
  | _ :: _, [],_,_,_,_,h,_=>by simp at h
  | p :: P,w :: vs,0,m,nd,h1,h2,hk=>by
    simp at h1 h2;subst h1;subst h2
    show bindL kindOf ((p,w) :: P.zip vs) m p=_
    unfold bindL
    rw [bindL_out fun v hv=>(List.nodup_cons.mp nd).1 (List.of_mem_zip hv).1,if_pos hk]
    simp
  | p :: P,w :: vs,i+1,m,nd,h1,h2,hk=>by
    show bindL kindOf ((p,w) :: P.zip vs) m x=_
    unfold bindL
    exact bindL_get (i:=i) (List.nodup_cons.mp nd).2 (by simpa using h1) (by simpa using h2) hk
theorem bindC_get {kindOf:Str→Option NameKind} {x:Str} {v:Value}:∀ {P:List Str} {vs:List Value} {i:Nat} {m:Str→Option Value},P.Nodup→P[i]? = some x→vs[i]? = some v→kindOf x≠some .local →
    bindC kindOf (P.zip vs) m x=some v
  | [],_,_,_,_,h,_,_=>by simp at h
  | _ :: _, [],_,_,_,_,h,_=>by simp at h
  | p :: P,w :: vs,0,m,nd,h1,h2,hk=>by
    simp at h1 h2;subst h1;subst h2
    show bindC kindOf ((p,w) :: P.zip vs) m p=_
    unfold bindC
    rw [bindC_out fun v hv=>(List.nodup_cons.mp nd).1 (List.of_mem_zip hv).1,if_neg hk]
    simp
  | p :: P,w :: vs,i+1,m,nd,h1,h2,hk=>by
    show bindC kindOf ((p,w) :: P.zip vs) m x=_
    unfold bindC
    exact bindC_get (i:=i) (List.nodup_cons.mp nd).2 (by simpa using h1) (by simpa using h2) hk

noncomputable def start (N:List Str) (vs:List V):St:=vs.map some ++ List.replicate (N.length - vs.length) none

noncomputable def cxOf (CX:CXT) (P:Program) (w:World) (K:PySem.W.Frag) (mg:Str→Option Value) (base:Heap) (N:List Str) (qual:Str) (scope:Scope) (f:Addr) (cd:Value) (A:Around) (outer:List Env) (s:Shared) (H:Hp) (E:XK):Cx where
  prog:=P
  w:=w
  K:=K
  mg:=mg
  base:=base
  A:=A.deeper (envOfC qual scope s.heap.objs.size f cd)
  N:=N
  s₀ := s
  H₀ := H
  env:=envOfC qual scope s.heap.objs.size f cd
  outer:=outer
  stack:=envOfC qual scope s.heap.objs.size f cd :: outer
  ex := []
  calm:=true
  fn:=fun _=>true
  pn := []
  xe:=fun e s'=>wpAny (model P w) (A.deeper (envOfC qual scope s.heap.objs.size f cd)) (leaving (envOfC qual scope s.heap.objs.size f cd) e) (fun _ s''=>CX outer H s E e s'') (fun e' s''=>CX outer H s E e' s'') s'

theorem cell_has {sc:Scope} {n:Nat} {x:Str} (h:sc.names.lookup x=some .cell):∃ c,(cellsFrom n sc.names []).lookup x=some c:=by
  have q:=PySem.W.cellsFrom_some sc.names n [] (.inl h)
  exact Option.isSome_iff_exists.mp q

theorem inv_start {CX:CXT} {P:Program} {w:World} {K:PySem.W.Frag} {mg:Str→Option Value} {base:Heap} {N ps:List Str} {qual:Str} {scope:Scope} {f:Addr} {cd:Value} {A:Around} {outer:List Env} {s s1:Shared} {H:Hp} {E:XK} {us:List Value} {vs:List V}
    (S:FnScope N ps scope) (hd:A.handled=none) (e0:Env0 P w K mg base A outer s H) (hl:vs.length=ps.length) (r:Vals vs us)
    (x:InCallC s s.heap.objs.size (bindL (envOfC qual scope s.heap.objs.size f cd).kindOf (ps.zip us) fun _=>none) (cellsFrom (s.heap.objs.size+1) scope.names []) (bindC (envOfC qual scope s.heap.objs.size f cd).kindOf (ps.zip us) fun _=>none) s1) :
    Inv (cxOf CX P w K mg base N qual scope f cd A outer s H E) [] (start N vs) H s1:=by
  have hpl:ps.length≤N.length:=by have:=congrArg List.length S.pre;rw [List.length_take] at this;omega
  obtain ⟨h1,tk,rfl,hk⟩:=x.done
  have noA:∀ b:Addr,b ∉ (cxOf CX P w K mg base N qual scope f cd A outer s H E).ex:=fun b z=>absurd (show b∈([]:List Addr) from z) (by simp)
  refine ⟨⟨e0.mod,S.kind,rfl,rfl,Nat.le_refl _,fun y z c h1 h2 => ?_,fun y hy => ?_,fun y c _ h => ?_,fun _=>hd,Around.frames_deeper e0.frames,.inr ⟨rfl,rfl⟩,fun b z=>absurd z (noA b),e0.bs,e0.bsz,fun b _ _=>noA b,fun b z=>absurd z (noA b),e0.funs,e0.frf⟩,
    rfl,e0.bare,Un.kept hk,⟨_,x.toInCall.ns,fun i y v h1 h2 h3 => ?_⟩,fun y c h=>⟨_,x.cell y c h⟩,e0.hok.fresh (Nat.le_refl _),fun y c h => ?_,fun p hp=>absurd (show p∈([]:List (Addr × Obj)) from hp) (by simp),e0.hok.kept hk,?_⟩
  · exact name_of_addr x.apart (PySem.mem_of_lookup h1) (PySem.mem_of_lookup h2)
  · have hy:scope.names.lookup y=some .cell∨scope.names.lookup y=some .free:=hy
    rcases hy with hy | hy
    · exact cell_has hy
    · exact absurd rfl (S.nofree _ (PySem.mem_of_lookup hy))
  · exact Nat.le_of_lt (x.above y c (PySem.mem_of_lookup h))
  · have hi:i < vs.length:=by
      unfold start at h2
      by_cases hi:i < vs.length
      · exact hi
      · rw [List.getElem?_append_right (by simpa using hi)] at h2
        rw [List.getElem?_replicate] at h2
        split at h2 <;> cases h2
    have ha:vs[i]? = some v:=by
      unfold start at h2
      rw [List.getElem?_append_left (by simpa using hi),List.getElem?_map] at h2
      cases e:vs[i]? with
      | none=>rw [e] at h2;cases h2
      | some a=>rw [e] at h2;cases h2;rfl
    obtain ⟨u,hu,rv⟩:=r.get ha
    have hp:ps[i]? = some y:=by
      rw [← S.pre,List.getElem?_take_of_lt (by omega)];exact h1
    have ndP:ps.Nodup:=by rw [← S.pre];exact S.nd.sublist (List.take_sublist _ _)
    refine ⟨u,rv,?_⟩
    rcases S.par y (List.mem_of_getElem? hp) with k | k
    · exact .inl ⟨k,bindL_get ndP hp hu k⟩
    · obtain ⟨c,e⟩:=cell_has (n:=s.heap.objs.size+1) k
      refine .inr ⟨.inl k,c,e,?_⟩
      have q:=x.cell y c e
      rw [bindC_get ndP hp hu (by show scope.names.lookup y≠_;rw [k];decide)] at q
      exact q
  · exact e0.hok.fresh (Nat.le_of_lt (x.above y c (PySem.mem_of_lookup h)))
  · unfold start
    show _=N.length
    rw [List.length_append,List.length_map,List.length_replicate]
    omega

theorem fn_of {CX:CXT} {P:Program} {w:World} {K:PySem.W.Frag} {mg:Str→Option Value} {base:Heap} {k:Nat} {f:Addr} {name qual:Str} {params:Arguments} {body:List Stmt} {scope:Scope} {dV kV doc pm cdv ct oc:Value} {an od:Option Addr}
    {osl:Array (Option Value)} {N ps:List Str} {sp:Sp} (lk:K.lookup f=some ⟨oc,od,.func (PySem.W.fnOf name qual params body scope dV kV doc pm an cdv ct),osl⟩) (hcd:PySem.W.codeIn K cdv qual=true) (S:FnScope N ps scope)
    (len:∀ vs H Q E,sp vs H Q E→vs.length=ps.length)
    (hbody:∀ (A:Around) (outer:List Env) (s:Shared) (H:Hp) (vs:List V) (Q:VK) (E:XK),Room k (A.deeper (envOfC qual scope s.heap.objs.size f cdv))→sp vs H Q E →
      ∃ t,PSs (cxOf CX P w K mg base N qual scope f cdv A outer s H E) body t∧t { nx:=fun _ H'=>Q .non H',rt:=Q } (start N vs) H) :
    FnOk P w K mg base CX (k+1) f (PySem.W.fnOf name qual params body scope dV kV doc pm an cdv ct) ps sp:=by
  refine ⟨len,fun A outer s H args us vs Q E hr e0 hb r hsp => ?_⟩
  have hl:=len _ _ _ _ hsp
  have KX:K.In s.heap:=e0.mod.kin.keeps fun b o e=>(e0.bs b o e).1
  have lim:s.heap.NoLimit:=e0.mod.nolimit.keeps fun b o e=>(e0.bs b o e).1
  have hkind:∀ y∈ps.zip us,scope.names.lookup y.1=some .local∨(scope.names.lookup y.1=some .cell∧((cellsFrom (s.heap.objs.size+1) scope.names []).lookup y.1).isSome=true):=fun ⟨n,v⟩ hy=>by
    rcases S.par n (List.of_mem_zip hy).1 with q | q
    · exact .inl q
    · exact .inr ⟨q,PySem.W.cellsFrom_some _ _ _ (.inl q)⟩
  refine codeAny_call_function hr.depth (KX _ _ lk) rfl S.co S.gen rfl (PySem.W.codeRec_of KX hcd) (hb _ _ _ _ ?_)
  refine wpAny_newFunctionEnv_cells S.kind hkind fun env he s1 x => ?_
  subst he
  refine ⟨lim.keeps x.toInCall.keep,codeAny_func ?_⟩
  obtain ⟨t,ht,hq⟩:=hbody A outer s H vs Q E (hr.deeper _) hsp
  have I:Inv (cxOf CX P w K mg base N qual scope f cdv A outer s H E) [] (start N vs) H s1:=inv_start S hr.hd e0 hl r x
  refine wpAny_mono (ht [] s1 (start N vs) H _ I hq) (fun fl s' hs => ?_) fun e s' hs=>hs
  have fin:∀ {σ':St} {H':Hp} {v:V} {u:Value},Inv (cxOf CX P w K mg base N qual scope f cdv A outer s H E) [] σ' H' s'→RelV v u→Q v H'→CE outer P w H s Q u s' :=
    fun {σ' H' v u} J rv q=>⟨v,H',J.os,J.bare,J.base,J.hok,rv,q⟩
  cases fl with
  | ret u =>
    obtain ⟨v, σ',H',J,rv,q⟩:=hs
    exact fin J rv q
  | next =>
    obtain ⟨σ',H',J,q⟩:=hs
    exact fin (v:=V.non) (u:=Value.none) J rfl q
  | brk =>
    obtain ⟨_,_,_,q⟩:=hs
    exact False.elim q
  | cont =>
    obtain ⟨_,_,_,q⟩:=hs
    exact False.elim q
end L2

namespace L2
open PySem PySem.Spec PyProof.Rows
section
variable {X:Cx} {x:Str} {p pos:Pos} {e:Expr} {es:List Expr} {t:TA} {id T:String} {r:List V→Hp→VK→Prop}

noncomputable def tCB (r:List V→Hp→VK→Prop) (t:TA):TE:=fun σ H Q=>t σ H fun vs H1=>r vs H1 Q
theorem pe_callB (hc:CallR X (.builtin id) r) (hg:Gl X x) (hm:X.mg x=none) (hv:bootBuiltins x=some (.builtin id)) (ha:PA X (e :: es) t) (hn:x ≠ "__name__" := by decide) (hdb:(x == ("__debug__" : Str))=false:=by decide)
    (he:starEach (e :: es) X.env=(false,eval e X.env) :: starEach es X.env:=by rfl) (hpl:(backTo pos (starEach es X.env)).any (·.1)=false:=by rfl):PE X (.Call (.Name x p) (e :: es) [] pos) (tCB r t):=by
  intro pins s σ H Q I h
  refine wpAny_Call_Name_kw (ld_blt I hg hm hv ?_ hn hdb)
  exact PyProof.Rows.callWith_builtin1 (thn (ha pos pins s σ H _ I h) fun us s1 ⟨vs,H1,I1,r1,q1⟩=>hc pins s1 σ H1 vs us Q I1 r1 q1) he hpl
theorem pe_callTy (hc:CallR X (.type T) r) (hg:Gl X x) (hm:X.mg x=none) (hv:bootBuiltins x=some (.type T)) (ha:PA X (e :: es) t) (hn:x ≠ "__name__" := by decide) (hdb:(x == ("__debug__" : Str))=false:=by decide)
    (he:starEach (e :: es) X.env=(false,eval e X.env) :: starEach es X.env:=by rfl) (hpl:(backTo pos (starEach es X.env)).any (·.1)=false:=by rfl):PE X (.Call (.Name x p) (e :: es) [] pos) (tCB r t):=by
  intro pins s σ H Q I h
  refine wpAny_Call_Name_kw (ld_blt I hg hm hv ?_ hn hdb)
  exact PyProof.Rows.callWith_type1 (thn (ha pos pins s σ H _ I h) fun us s1 ⟨vs,H1,I1,r1,q1⟩=>hc pins s1 σ H1 vs us Q I1 r1 q1) he hpl
end
end L2

namespace HT
open PySem PyProof.Rows



section
open PySem.SeqAt
open PySem.AutoSeq1 (wpAny_loadPart')
open PySem.MeetsSeq PySem.MeetsSeq2 PySem.MeetsSeq3

end

section
variable {prog:Program} {w:World} {A:Around} {E:Value→Shared→Prop} {s:Shared}



noncomputable def sIx (n d:Nat):Option Int→Nat
  | none=>d
  | some v=>if v < 0 then (v+(n:Int)).toNat else min v.toNat n
theorem sIx_none (n d:Nat):sIx n d none=d:=rfl
theorem sIx_nat (n d k:Nat):sIx n d (some (k:Int))=min k n:=by
  show (if (k:Int) < 0 then ((k:Int)+(n:Int)).toNat else min (k:Int).toNat n)=min k n
  rw [if_neg (by omega),Int.toNat_natCast]
theorem sIx_le (n d:Nat) (hd:d≤n) (o:Option Int):sIx n d o≤n:=by
  cases o with
  | none=>exact hd
  | some v =>
    show (if v < 0 then (v+(n:Int)).toNat else min v.toNat n)≤n
    by_cases hv:v < 0
    · rw [if_pos hv];omega
    · rw [if_neg hv];exact Nat.min_le_right _ _

end
end HT

namespace L2
open PySem PySem.Spec PyProof.Rows

noncomputable abbrev TO:=St→Hp→(Option Int→Hp→Prop)→Prop
noncomputable def PO (X:Cx) (e:Option Expr) (t:TO):Prop :=
  ∀ (pins:List (Addr × Obj)) (s:Shared) (σ : St) (H:Hp) (Q:Option Int→Hp→Prop),Inv X pins σ H s→t σ H Q →
    wpAny (model X.prog X.w) X.A (evalPart e X.env) (fun u s'=>∃ o H',Inv X pins σ H' s'∧IsPart u o∧Q o H') X.xe s
noncomputable def tNoPart:TO:=fun _ H Q=>Q none H
inductive J_tPart (Q:Option Int→Hp→Prop) (x:V) (H1:Hp):Prop
  | mk:∀ i,(x = .int i)→(Q (some i) H1)→J_tPart Q x H1
noncomputable def tPart (t:TE):TO:=fun σ H Q=>t σ H fun x H1=>J_tPart Q x H1

theorem intsAre_of {ns:List Int}:∀ {us:List Value},Vals (ns.map V.int) us→IntsAre us ns:=by
  induction ns with
  | nil=>intro us r;rw [List.map_nil] at r;cases r;exact .nil
  | cons n ns ih =>
    intro us r
    rw [List.map_cons] at r
    cases r with
    | cons r1 r2 =>
      obtain ⟨t,e⟩:=r1
      subst e
      exact .cons n t (ih r2)

section
variable {X:Cx} {e:Expr} {te:TE} {lo hi:Option Expr} {tl th:TO} {pos p2:Pos}

theorem po_none:PO X none tNoPart:=by
  intro pins s σ H Q I h
  rw [evalPart_none]
  exact wpAny_pure ⟨none,H,I,.none,h⟩
theorem po_some (h:PE X e te):PO X (some e) (tPart te):=by
  intro pins s σ H Q I hw
  rw [evalPart_some]
  refine thn (h pins s σ H _ I hw) fun u s1 ⟨x,H1,I1,r1,q1⟩ => ?_
  obtain ⟨i,rfl,q⟩:=q1
  obtain ⟨t,rfl⟩:=r1
  exact ⟨some i,H1,I1,.int i t,q⟩

noncomputable def SlR (X:Cx) (r:V→Option Int→Option Int→Hp→VK→Prop):Prop :=
  ∀ (pins:List (Addr × Obj)) (s:Shared) (σ : St) (H:Hp) (x:V) (v vl vu:Value) (lo hi:Option Int) (sl:Addr) (Q:VK),Inv X pins σ H s→RelV x v→s.heap.IsSliceOf sl vl vu .none→IsPart vl lo→IsPart vu hi→r x lo hi H Q →
    ∃ T id,typeLookup (.type T) "__getitem__" = pure (some (.builtin id))∧s.TypeIs v T∧wpAny (model X.prog X.w) X.A (getItem v (.ref sl)) (EP X pins σ Q) X.xe s
noncomputable def tSl (r:V→Option Int→Option Int→Hp→VK→Prop) (te:TE) (tl th:TO):TE:=fun σ H Q=>te σ H fun x H1=>tl σ H1 fun l H2=>th σ H2 fun u H3=>r x l u H3 Q
theorem pe_slice {r:V→Option Int→Option Int→Hp→VK→Prop} (hr:SlR X r) (he:PE X e te) (hl:PO X lo tl) (hu:PO X hi th):PE X (.Subscript e (.Slice lo hi none p2) pos) (tSl r te tl th):=by
  intro pins s σ H Q I h
  refine Subscript_ (thn (he pins s σ H _ I h) fun v s1 ⟨x,H1,I1,r1,q1⟩ => ?_)
  refine wpAny_Slice (thn (hl pins s1 σ H1 _ I1 q1) fun vl s2 ⟨l,H2,I2,pl,q2⟩=>thn (hu pins s2 σ H2 _ I2 q2) fun vu s3 ⟨u,H3,I3,pu,q3⟩ => ?_)
  rw [evalPart_none]
  refine wpAny_pure ?_
  have I4:Inv X pins σ H3 { s3 with heap:=s3.heap.push { cls := .type "slice",data := .fields #[vl,vu,.none] } }:=I3.kept (t':=s3.toks) fun b ob q=>Heap.get?_push_of_some _ q
  obtain ⟨T,id,hT,ht,hg⟩:=hr pins { s3 with heap:=s3.heap.push { cls := .type "slice",data := .fields #[vl,vu,.none] } } σ H3 x v vl vu l u s3.heap.objs.size Q I4 r1 (Heap.IsSliceOf.new ..) pl pu q3
  show wpAny (model X.prog X.w) X.A (subscriptTail e (.Slice lo hi none p2) v (.ref s3.heap.objs.size)) (EP X pins σ Q) X.xe { s3 with heap:=s3.heap.push { cls := .type "slice",data := .fields #[vl,vu,.none] } }
  exact tail_any (ops := [.ref s3.heap.objs.size,v]) ht hT hg (by with_unfolding_all rfl)

noncomputable def cutV (xs:List V) (lo hi:Option Int):List V:=(xs.drop (HT.sIx xs.length 0 lo)).take (HT.sIx xs.length xs.length hi - HT.sIx xs.length 0 lo)
theorem cutV_length (xs:List V) (lo hi:Option Int):(cutV xs lo hi).length≤xs.length:=by
  unfold cutV
  rw [List.length_take,List.length_drop]
  omega

end
end L2

namespace L2
open PySem PySem.Spec PyProof.Rows

noncomputable def ixN (n:Nat) (i:Int):Option Nat:=if 0≤i then (if i < n then some i.toNat else none) else if -(n:Int)≤i then some (i+n).toNat else none
noncomputable def atI {α : Type} (xs:List α) (i:Int):Option α := (ixN xs.length i).bind fun j=>xs[j]?
theorem ixN_seq {n:Nat} {i:Int} {j:Nat} (h:ixN n i=some j):seqIndex? i n=some j∧j < n ∧ -(n:Int)≤i∧i < n:=by
  unfold ixN at h
  by_cases h0:0≤i
  · rw [if_pos h0] at h
    by_cases h1:i < n
    · rw [if_pos h1] at h
      have e:i.toNat=j:=Option.some.inj h
      exact ⟨by rw [seqIndex_of h0 h1,e],by omega,by omega,h1⟩
    · rw [if_neg h1] at h;cases h
  · rw [if_neg h0] at h
    by_cases h1 : -(n:Int)≤i
    · rw [if_pos h1] at h
      have e:(i+n).toNat=j:=Option.some.inj h
      exact ⟨by rw [seqIndex_neg (by omega) h1,e],by omega,h1,by omega⟩
    · rw [if_neg h1] at h;cases h
theorem atI_get {α : Type} {xs:List α} {i:Int} {v : α} (h:atI xs i=some v):∃ j,seqIndex? i xs.length=some j∧xs[j]? = some v∧j < xs.length ∧ -(xs.length:Int)≤i∧i < xs.length:=by
  unfold atI at h
  cases e:ixN xs.length i with
  | none=>rw [e] at h;cases h
  | some j =>
    rw [e] at h
    obtain ⟨h1,h2,h3,h4⟩:=ixN_seq e
    exact ⟨j,h1,h,h2,h3,h4⟩
theorem atI_nat {α : Type} {xs:List α} {j:Nat} {v : α} (h:xs[j]? = some v):atI xs (j:Int)=some v:=by
  have hj:j < xs.length:=(List.getElem?_eq_some_iff.mp h).1
  have e:ixN xs.length (j:Int)=some j:=by
    unfold ixN
    rw [if_pos (by omega),if_pos (by omega)];simp
  unfold atI;rw [e];exact h

noncomputable def PlainIx (b:Expr):Prop := ∀ o i,subscripted b false o i=operate [o,i] (getItem o i)
noncomputable def IxR (X:Cx) (r:R2):Prop :=
  ∀ (value slice:Expr) (pins:List (Addr × Obj)) (s:Shared) (σ : St) (H:Hp) (x y:V) (v u:Value) (Q:VK),Inv X pins σ H s→RelV x v→RelV y u→r x y H Q →
    subscripted slice false v u=operate [v,u] (getItem v u)→wpAny (model X.prog X.w) X.A (subscriptTail value slice v u) (EP X pins σ Q) X.xe s
noncomputable def MtR (X:Cx) (id:String) (r:V→List V→Hp→VK→Prop):Prop :=
  ∀ (pins:List (Addr × Obj)) (s:Shared) (σ : St) (H:Hp) (x:V) (xs:List V) (v:Value) (us:List Value) (Q:VK),Inv X pins σ H s→RelV x v→Vals xs us→r x xs H Q →
    wpAny (model X.prog X.w) X.A (call (.builtin id) (v :: us)) (EP X pins σ Q) X.xe s
section
variable {X:Cx} {a b:Expr} {ta tb:TE} {pos:Pos}
theorem pe_ix {r:R2} (hr:IxR X r) (ha:PE X a ta) (hb:PE X b tb) (hs:PlainIx b):PE X (.Subscript a b pos) (tOp r ta tb):=by
  intro pins s σ H Q I h
  exact Subscript_ (binT ha hb I h fun v u s2 x y H2 I2 rx ry q=>hr a b pins s2 σ H2 x y v u Q I2 rx ry q (hs _ _))

inductive RIxL (K:PySem.W.Frag) (x y:V) (H:Hp) (Q:VK):Prop
  | mk (p:Addr) (xs:List V) (i:Int) (v:V) (hx:x = .ref p) (hy:y = .int i) (hS:SqL K H p xs) (he:atI xs i=some v) (q:Q v H):RIxL K x y H Q
noncomputable def rIxL (K:PySem.W.Frag):R2:=fun x y H Q=>RIxL K x y H Q
inductive RIxT (K:PySem.W.Frag) (x y:V) (H:Hp) (Q:VK):Prop
  | mk (p:Addr) (xs:List V) (i:Int) (v:V) (hx:x = .ref p) (hy:y = .int i) (hS:SqT K H p xs) (he:atI xs i=some v) (q:Q v H):RIxT K x y H Q
noncomputable def rIxT (K:PySem.W.Frag):R2:=fun x y H Q=>RIxT K x y H Q
inductive J_rIxS (x:V) (y:V) (H:Hp) (Q:VK):Prop
  | mk:∀ z i c,(x = .str z)→(y = .int i)→(z.length≤sizeLine)→(atI z.cps.toList i=some c)→(Q (.str ⟨#[c]⟩) H)→J_rIxS x y H Q
noncomputable def rIxS:R2:=fun x y H Q=>J_rIxS x y H Q
theorem ix_list:IxR X (rIxL X.K):=by
  intro value slice pins s σ H x y v u Q I rx ry h hs
  obtain ⟨p,xs,i,z,rfl,rfl,hq,he,q⟩:=h
  cases rx
  obtain ⟨t,rfl⟩:=ry
  obtain ⟨its,r,pl,hz⟩:=I.list hq
  obtain ⟨j,h1,h2,h3,h4,h5⟩:=atI_get he
  obtain ⟨w,ew,rw'⟩:=r.get h2
  have hl:=r.length
  have hn:=line63
  have fin:EP X pins σ Q w s:=⟨z,H,I,rw',q⟩
  by_cases h0:0≤i
  · have hj:i.toNat=j:=by
      rw [seqIndex_of h0 h5] at h1
      exact Option.some.inj h1
    exact item_listR pl.isList h0 (by omega) (by rw [hj];simpa using ew) fin hs
  · have hj:(i+(its.toArray.size:Int)).toNat=j:=by
      rw [seqIndex_neg (by omega) h4] at h1
      rw [List.size_toArray, ← hl]
      exact Option.some.inj h1
    exact subscriptTail_builtinR (x:=w) pl.isList.typeIs slot_list_getitem.lookup
      (wpAny_getItem_list_neg (Q:=fun r s'=>r=w∧EP X pins σ Q r s') pl.isList (by omega) (by rw [List.size_toArray] <;> omega) (by omega) (by rw [hj];simpa using ew) ⟨rfl,fin⟩) hs
theorem ix_tup:IxR X (rIxT X.K):=by
  intro value slice pins s σ H x y v u Q I rx ry h hs
  obtain ⟨p,xs,i,z,rfl,rfl,hq,he,q⟩:=h
  cases rx
  obtain ⟨t,rfl⟩:=ry
  obtain ⟨its,r,pl,hz⟩:=I.tuple hq
  obtain ⟨j,h1,h2,h3,h4,h5⟩:=atI_get he
  obtain ⟨w,ew,rw'⟩:=r.get h2
  have hl:=r.length
  have hn:=line63
  have fin:EP X pins σ Q w s:=⟨z,H,I,rw',q⟩
  exact subscriptTail_builtinR (x:=w) pl.typeIs slot_tuple_getitem.lookup
    (getItem_tuple (j:=j) (Q:=fun r s'=>r=w∧EP X pins σ Q r s') pl (by omega) (by omega) (by rw [List.size_toArray, ← hl];exact h1) (by simpa using ew) ⟨rfl,fin⟩) hs
theorem ix_str:IxR X rIxS:=by
  intro value slice pins s σ H x y v u Q I rx ry h hs
  obtain ⟨z,i,c,rfl,rfl,hz,he,q⟩:=h
  obtain ⟨t,rfl⟩:=rx
  obtain ⟨t',rfl⟩:=ry
  obtain ⟨j,h1,h2,h3,h4,h5⟩:=atI_get he
  have hl:z.cps.toList.length=z.length:=by simp [Str.length]
  rw [hl] at h1 h4 h5
  have hn:=line63
  exact tail_any (typeIs_str s z t) slot_str_getitem.lookup (getItem_str (c:=c) (by
    have e1:decide (i < -(2 ^ 63:Int))=false:=decide_eq_false (by omega)
    have e2:decide (i ≥ 2 ^ 63)=false:=decide_eq_false (by omega)
    rw [e1,e2,Bool.or_false]) (by rw [h1];simpa using h2) ⟨.str ⟨#[c]⟩,H,I.tok _,⟨_,rfl⟩,q⟩) hs


theorem slice_bounds (lo hi:Option Int) (n:Nat):(sliceBounds lo hi none n).1=((HT.sIx n 0 lo:Nat):Int)∧(sliceBounds lo hi none n).2.1=((HT.sIx n n hi:Nat):Int)∧(sliceBounds lo hi none n).2.2=1:=by
  refine ⟨?_,?_,rfl⟩
  · cases lo with
    | none=>simp [sliceBounds,HT.sIx]
    | some i =>
      simp only [sliceBounds,HT.sIx,Option.getD_none,show (1:Int) > 0 by decide,if_true]
      by_cases h:i < 0
      · simp only [h,if_true] <;> omega
      · simp only [h,if_false] <;> omega
  · cases hi with
    | none=>simp [sliceBounds,HT.sIx]
    | some i =>
      simp only [sliceBounds,HT.sIx,Option.getD_none,show (1:Int) > 0 by decide,if_true]
      by_cases h:i < 0
      · simp only [h,if_true] <;> omega
      · simp only [h,if_false] <;> omega
theorem slicePick_cut (its:List Value) (lo hi:Option Int):slicePick its.toArray lo hi none=((its.drop (HT.sIx its.length 0 lo)).take (HT.sIx its.length its.length hi - HT.sIx its.length 0 lo)).toArray:=by
  obtain ⟨h1,h2,h3⟩:=slice_bounds lo hi its.toArray.size
  unfold slicePick
  rw [h1,h2,h3]
  simp only [sliceRange_one,pick_run,List.size_toArray] <;> rfl
inductive J_rSlL (K:PySem.W.Frag) (x:V) (lo:Option Int) (hi:Option Int) (H:Hp) (Q:VK):Prop
  | mk:∀ a xs,(x = .ref a)→(SqL K H a xs)→(∀ p,H p=none→Q (.ref p) (upd H p (.lst (cutV xs lo hi))))→J_rSlL K x lo hi H Q
noncomputable def rSlL (K:PySem.W.Frag):V→Option Int→Option Int→Hp→VK→Prop:=fun x lo hi H Q=>J_rSlL K x lo hi H Q
theorem sl_list:SlR X (rSlL X.K):=by
  intro pins s σ H x v vl vu lo hi sl Q I rx hs pl pu h
  obtain ⟨a,xs,rfl,hx,q⟩:=h
  cases rx
  obtain ⟨its,r,ht,hz⟩:=I.list hx
  have hlen:=r.length
  refine ⟨"list",_,slot_list_getitem.lookup,ht.isList.typeIs,?_⟩
  refine wpAny_getItem_list_slice ht.isList hs pl pu .none (by simp) ?_ (by rw [List.size_toArray] <;> omega)
  rw [slicePick_cut, ← hlen]
  refine ⟨.ref s.heap.objs.size,_,I.laid (t':=s.toks) (o := .lst (cutV xs lo hi)) (fun b ob q=>Heap.get?_push_of_some _ q) (Nat.le_refl _) ?_,rfl,q _ (I.hok.fresh (Nat.le_refl _))⟩
  exact ⟨Nat.le_trans (cutV_length xs lo hi) hz,_,0,(r.drop (HT.sIx xs.length 0 lo)).take (HT.sIx xs.length xs.length hi - HT.sIx xs.length 0 lo),Heap.get?_push_size _ rfl⟩

noncomputable def flatV:V→Bool
  | .non=>true
  | .bl _=>true
  | .int _=>true
  | .str _=>true
  | _=>false
noncomputable def eqV:V→V→Bool
  | .non,.non=>true
  | .bl a,.bl b=>a == b
  | .bl a,.int b=>(if a then 1 else 0) == b
  | .int a,.bl b=>a == (if b then 1 else 0)
  | .int a,.int b=>a == b
  | .str a,.str b=>a == b
  | _,_=>false
theorem eqAt_V {A:Around} {s:Shared} {y x:V} {u v:Value} (ry:RelV y u) (rx:RelV x v) (fy:flatV y=true) (fx:flatV x=true):SeqAt.EqAt A s u v (eqV y x):=by
  cases y with
  | non =>
    cases ry
    cases x with
    | non=>cases rx;exact SeqAt.EqAt.same _
    | bl b=>cases rx;exact SeqAt.EqAt.none_bool b
    | int b=>obtain ⟨t,rfl⟩:=rx;exact SeqAt.EqAt.none_int b t
    | str b=>obtain ⟨t,rfl⟩:=rx;exact SeqAt.EqAt.none_str b t
    | _=>exact absurd (show false=true from fx) Bool.false_ne_true
  | bl a =>
    cases ry
    cases x with
    | non=>cases rx;exact SeqAt.EqAt.bool_none a
    | bl b=>cases rx;exact SeqAt.EqAt.bool_bool a b
    | int b=>obtain ⟨t,rfl⟩:=rx;exact SeqAt.EqAt.bool_int a b t
    | str b=>obtain ⟨t,rfl⟩:=rx;exact SeqAt.EqAt.bool_str a b t
    | _=>exact absurd (show false=true from fx) Bool.false_ne_true
  | int a =>
    obtain ⟨t',rfl⟩:=ry
    cases x with
    | non=>cases rx;exact SeqAt.EqAt.int_none a t'
    | bl b=>cases rx;exact SeqAt.EqAt.int_bool a t' b
    | int b=>obtain ⟨t,rfl⟩:=rx;exact SeqAt.EqAt.int_int a t' b t
    | str b=>obtain ⟨t,rfl⟩:=rx;exact SeqAt.EqAt.int_str a t' b t
    | _=>exact absurd (show false=true from fx) Bool.false_ne_true
  | str a =>
    obtain ⟨t',rfl⟩:=ry
    cases x with
    | non=>cases rx;exact SeqAt.EqAt.str_none a t'
    | bl b=>cases rx;exact SeqAt.EqAt.str_bool a t' b
    | int b=>obtain ⟨t,rfl⟩:=rx;exact SeqAt.EqAt.str_int a t' b t
    | str b=>obtain ⟨t,rfl⟩:=rx;exact SeqAt.EqAt.str_str a t' b t
    | _=>exact absurd (show false=true from fx) Bool.false_ne_true
  | _=>exact absurd (show false=true from fy) Bool.false_ne_true
inductive J_op_notIn_str (x:V) (y:V) (H:Hp) (Q:VK):Prop
  | mk:∀ i j,(x = .str i)→(y = .str j)→(Q (.bl (!(!(Builtin.Str.occurrences j i 0 j.length 1).isEmpty))) H)→J_op_notIn_str x y H Q
theorem op_notIn_str:OpR X (compareOp .NotIn) (fun x y H Q=>J_op_notIn_str x y H Q):=by
  intro pins s σ H x y v u Q I rx ry h
  obtain ⟨i,j,rfl,rfl,q⟩:=h
  obtain ⟨t,rfl⟩:=rx
  obtain ⟨t',rfl⟩:=ry
  exact notIn_str ⟨.bl _,H,I,rfl,q⟩

inductive J_len (K:PySem.W.Frag) (xs:List V) (H:Hp) (Q:VK):Prop
  | mk:∀ p ys,(xs = [.ref p])→(SqL K H p ys∨SqT K H p ys)→(Q (.int ys.length) H)→J_len K xs H Q
theorem call_len_seq:CallR X (.builtin "len") (fun xs H Q=>J_len X.K xs H Q):=by
  intro pins s σ H xs us Q I r h
  obtain ⟨p,ys,rfl,hq,q⟩:=h
  obtain ⟨u,rfl,rx⟩:=vals1 r
  cases rx
  have hn:=line63
  rcases hq with hq | hq
  · obtain ⟨its,r',pl,hz⟩:=I.list hq
    have hlen:=r'.length
    exact Calls.call_len_list pl.isList (by simp only [List.size_toArray] <;> omega) ⟨.int ys.length,H,I.tok _,⟨s.toks+1,by rw [List.size_toArray,hlen]⟩,q⟩
  · obtain ⟨its,r',pl,hz⟩:=I.tuple hq
    have hlen:=r'.length
    exact len_tuple pl (by simp only [List.size_toArray] <;> omega) ⟨.int ys.length,H,I.tok _,⟨s.toks+1,by rw [List.size_toArray,hlen]⟩,q⟩
inductive J_call_len_str (xs:List V) (H:Hp) (Q:VK):Prop
  | mk:∀ z,(xs = [.str z])→(z.length≤sizeLine)→(Q (.int z.length) H)→J_call_len_str xs H Q
theorem call_len_str:CallR X (.builtin "len") (fun xs H Q=>J_call_len_str xs H Q):=by
  intro pins s σ H xs us Q I r h
  obtain ⟨z,rfl,hz,q⟩:=h
  obtain ⟨u,rfl,t,rfl⟩:=vals1 r
  have hn:=line63
  exact len_str (by omega) ⟨.int z.length,H,I.tok _,⟨_,rfl⟩,q⟩
inductive J_call_tuple_of (kK:PySem.W.Frag) (xs:List V) (H:Hp) (Q:VK):Prop
  | mk:∀ p ys,(xs = [.ref p])→(((SqL kK H p ys∧∀ l,H l=none→Q (.ref l) (upd H l (.tup ys)))∨(SqT kK H p ys∧Q (.ref p) H)))→J_call_tuple_of kK xs H Q
theorem call_tuple_of:CallR X (.type "tuple") (fun xs H Q=>J_call_tuple_of X.K xs H Q):=by
  intro pins s σ H xs us Q I r h
  obtain ⟨p,ys,rfl,h⟩:=h
  obtain ⟨u,rfl,rx⟩:=vals1 r
  cases rx
  rcases h with ⟨hq,q⟩ | ⟨hq,q⟩
  · obtain ⟨its,r',pl,hz⟩:=I.list hq
    have hlen:=r'.length
    refine call_tuple_list pl.isList (fun h' kp => ?_) (by simp only [List.size_toArray] <;> omega)
    have I1:Inv X pins σ H { s with heap:=h' }:=I.kept (t':=s.toks) kp
    have I2:Inv X pins σ (upd H h'.objs.size (.tup ys)) { s with heap:=h'.push { cls := .type "tuple",data := .seq its.toArray } } :=
      I1.laid (t':=s.toks) (fun b o e=>Heap.get?_push_of_some _ e) (Nat.le_refl _) (show ObjOk X.prog X.w _ _ _ (.tup ys) from ⟨hz,its,r',IsTupN.new _ _⟩)
    exact ⟨.ref h'.objs.size,_,I2,rfl,q _ (I1.hok.fresh (Nat.le_refl _))⟩
  · obtain ⟨its,r',pl,hz⟩:=I.tuple hq
    exact call_tuple_same pl ⟨.ref p,H,I,rfl,q⟩

noncomputable def tyV (K:PySem.W.Frag) (T:String) (x:V) (H:Hp):Prop:=match x with
  | .str _=>T = "str"
  | .int _=>T = "int"
  | .ref p=>(T = "list" ∧ ∃ xs,SqL K H p xs)∨(T = "tuple" ∧ ((∃ o,K.lookup p=some o∧o.cls = .type "tuple" ∧ o.dict=none)∨∃ xs,H p=some (.tup xs))) ∨
      (T = "dict" ∧ ((∃ kvs,H p=some (.dK kvs))∨∃ kvs,H p=some (.dT kvs)))∨(T = "set" ∧ ∃ S n,H p=some (.set S n))
  | _=>False
theorem tyV_is {pins:List (Addr × Obj)} {σ : St} {H:Hp} {s:Shared} {T:String} {x:V} {v:Value} (I:Inv X pins σ H s) (r:RelV x v) (ty:tyV X.K T x H) :
    s.TypeIs v T∧∀ a,v = .ref a→∃ ob,s.heap.get? a=some ob∧ob.dict=none:=by
  cases x with
  | str z =>
    obtain ⟨t,rfl⟩:=r
    cases (show T = "str" from ty)
    exact ⟨typeIs_str s z t,fun _ e=>nomatch e⟩
  | int i =>
    obtain ⟨t,rfl⟩:=r
    cases (show T = "int" from ty)
    exact ⟨typeIs_int s i t,fun _ e=>nomatch e⟩
  | ref p =>
    cases r
    rcases ty with ⟨rfl,xs,hq⟩ | ⟨rfl,⟨o,hk,hc,hd⟩ | ⟨xs,hk⟩⟩ | ⟨rfl,hk⟩ | ⟨rfl,S,n,hk⟩
    · obtain ⟨its,_,pl,_⟩:=I.list hq
      refine ⟨pl.isList.typeIs,fun a e => ?_⟩
      cases e
      obtain ⟨o,n,e,c,hd,_⟩:=pl
      exact ⟨o,e,hd⟩
    · refine ⟨⟨o,I.kIn p o hk,hc⟩,fun a e => ?_⟩
      cases e
      exact ⟨o,I.kIn _ o hk,hd⟩
    · obtain ⟨_,_,_,o,e,c,n,d,hd⟩:=I.hok p _ hk
      refine ⟨⟨o,e,c⟩,fun a e2 => ?_⟩
      cases e2
      exact ⟨o,e,hd⟩
    · have z:∃ o,s.heap.get? p=some o∧o.ExactDict:=by
        rcases hk with ⟨kvs,hk⟩ | ⟨kvs,hk⟩
        · obtain ⟨_,_,_,_,o,_,_,e,ex,_⟩:=I.hok p _ hk
          exact ⟨o,e,ex⟩
        · obtain ⟨_,_,_,_,o,_,_,e,ex,_⟩:=I.hok p _ hk
          exact ⟨o,e,ex⟩
      obtain ⟨o,e,ex⟩:=z
      refine ⟨⟨o,e,ex.1⟩,fun a e2 => ?_⟩
      cases e2
      exact ⟨o,e,ex.2.1⟩
    · obtain ⟨o,_,_,_,e,ex,_⟩:=I.hok p _ hk
      refine ⟨⟨o,e,ex.1⟩,fun a e2 => ?_⟩
      cases e2
      exact ⟨o,e,ex.2.1⟩
  | _=>exact False.elim ty
noncomputable def tBM (K:PySem.W.Frag) (T:String) (r:V→List V→Hp→VK→Prop) (to:TE) (t:TA):TE:=fun σ H Q=>to σ H fun x H1=>tyV K T x H1∧t σ H1 fun xs H2=>r x xs H2 Q
variable {o e:Expr} {es:List Expr} {to:TE} {t:TA} {name:Str} {apos cpos:Pos} {T id:String} {r:V→List V→Hp→VK→Prop}
theorem pe_bm (pa:PlainAttrs T) (slot:Slot T name id) (hty:typeOf (.builtin id)=pure (.type "method_descriptor")) (hm:MtR X id r) (ho:PE X o to) (ha:PA X (e :: es) t)
    (hbase:attributeBase o name X.env (eval o X.env)=eval o X.env:=by rfl)
    (hfew:((backTo cpos (starEach (e :: es) X.env)).all (fun x => !x.1) && (backToKw cpos (keywordEach [] X.env)).all (fun x=>x.1.isSome)
      && decide ((e :: es).length+([]:List Keyword).length+(if ([]:List Keyword).isEmpty then 0 else 1) < 30))=true:=by rfl)
    (hline:(apos.endLine == cpos.line)=true:=by rfl) (hs:starEach (e :: es) X.env=(false,eval e X.env) :: starEach es X.env:=by rfl) (hplain:(backTo cpos (starEach es X.env)).any (·.1)=false:=by rfl) :
    PE X (.Call (.Attribute o name apos) (e :: es) [] cpos) (tBM X.K T r to t):=by
  intro pins s σ H Q I h
  refine wpAny_Call_method_late hbase hfew hline rfl (thn (ho pins s σ H _ I h) fun v s1 ⟨x,H1,I1,r1,ty,q1⟩ => ?_)
  obtain ⟨h1,h2⟩:=tyV_is I1 r1 ty
  refine ⟨T,id,pa,slot,hty,h1,h2,?_⟩
  have hA:=ha cpos pins s1 σ H1 _ I1 q1
  rw [hs] at hA ⊢
  refine Calls.callWith_builtin (by show (false || (backTo cpos (starEach es X.env)).any (·.1))=false;rw [hplain] <;> rfl) (Calls.evalArgs_plain ?_)
  exact thn hA fun us s2 ⟨vs,H2,I2,r2,q2⟩=>hm pins s2 σ H2 x vs v us Q I2 r1 r2 q2
/- xs.append(e),list.index on a module's tuple .. are MtR facts of 06m -/
end
end L2

namespace L2
open PySem PySem.Spec PyProof.Rows

noncomputable def MtM (X:Cx) (id:String) (r:V→List V→Hp→VK→Prop):Prop :=
  ∀ (pins:List (Addr × Obj)) (s:Shared) (σ : St) (H:Hp) (x:V) (xs:List V) (v:Value) (us:List Value) (Q:VK),Inv X pins σ H s→RelV x v→Vals xs us→r x xs H Q →
    wpAny (model X.prog X.w) X.A (call (.builtin id) (v :: us)) (EP X pins σ Q) X.xe s

theorem Vals.one:∀ {x:V} {us:List Value},Vals [x] us→∃ u,us = [u]∧RelV x u
  | _,_,.cons r .nil=>⟨_,rfl,r⟩

section
variable {X:Cx} {pins:List (Addr × Obj)} {σ : St} {H:Hp} {s:Shared} {l b:Addr} {xs ys zs:List V}

theorem Inv.lset {its its':List Value} {n:Nat} {f:Array Value→Array Value} {t':Nat} (I:Inv X pins σ H s) (hH:H l=some (.lst xs))
    (e:s.heap.get? l=some { cls := .type "list",data := .seq its.toArray n }) (hf:f its.toArray=its'.toArray) (hv:Vals ys its') (hz:ys.length≤sizeLine) :
    Inv X pins σ (upd H l (.lst ys)) { s with heap:=s.heap.update l (Obj.mapSeq f),toks:=t' }:=by
  have q:=PySem.IsL.update e f
  rw [hf] at q
  refine I.write (x:=l) (e:=l) (by rw [hH];exact trivial) (.inl rfl) (fun b' u hb hu=>(Heap.get?_update_other s.heap (Obj.mapSeq f) (Ne.symm hb)).trans hu) ⟨_,q⟩ ?_
  exact ⟨hz,its',_,hv,q⟩
theorem Inv.lnew {its:List Value} {t':Nat} (I:Inv X pins σ H s) (hv:Vals ys its) (hz:ys.length≤sizeLine) :
    Inv X pins σ (upd H s.heap.objs.size (.lst ys)) { s with heap:=s.heap.push { cls := .type "list",data := .seq its.toArray },toks:=t' } :=
  I.laid (fun _ _ q=>Heap.get?_push_of_some _ q) (Nat.le_refl _) ⟨hz,its,0,hv,Heap.get?_push_size _ rfl⟩
theorem Inv.lstM (I:Inv X pins σ H s) (hH:H l=some (.lst xs)):xs.length≤sizeLine∧∃ (its:List Value) (n:Nat),Vals xs its∧xs.length=its.length∧s.heap.get? l=some { cls := .type "list",data := .seq its.toArray n }:=by
  obtain ⟨z,its,n,r,e⟩:=I.hok l _ hH
  exact ⟨z,its,n,r,r.length,e⟩

end

section
variable {X:Cx}

inductive J_rAppend (x:V) (vs:List V) (H:Hp) (Q:VK):Prop
  | mk:∀ l xs y,(x = .ref l)→(vs = [y])→(H l=some (.lst xs))→(xs.length < sizeLine)→(Q .non (upd H l (.lst (xs ++ [y]))))→J_rAppend x vs H Q
noncomputable def rAppend:V→List V→Hp→VK→Prop:=fun x vs H Q=>J_rAppend x vs H Q
theorem mt_append:MtM X "list.append" rAppend:=by
  intro pins s σ H x vs v us Q I rx rv h
  obtain ⟨l,xs,y,rfl,rfl,hH,hz,q⟩:=h
  cases rx
  obtain ⟨u,rfl,ru⟩:=rv.one
  obtain ⟨z,its,n,r,hl,e⟩:=I.lstM hH
  refine call_meets F.slot_list_append ⟨_,e,rfl⟩ F.entry_list_append (F.args_list_append_2 _ _) (PySem.list_append l its.toArray n u (by rw [List.size_toArray];omega)) ⟨e,?_⟩
  refine ⟨.non,_,I.lset (its':=its ++ [u]) hH e (by simp) (r.append (.cons ru .nil)) ?_,rfl,q⟩
  rw [List.length_append,List.length_singleton]
  omega







end

section
variable {prog:Program} {w:World} {A:Around} {E:Value→Shared→Prop} {s:Shared}
end

section
variable {X:Cx}
end
end L2

namespace Att
open PySem PySem.W PySem.Calls PyProof.Rows

theorem ints_of_wellAll {P:Params} {h:Heap}:∀ (ns:List Int) (vs:List Value),WellAll P h vs (ns.map WData.int)→IntsAre vs ns:=by
  intro ns
  induction ns with
  | nil =>
    intro vs w
    rw [List.map_nil] at w
    cases w
    exact .nil
  | cons n ns ih =>
    intro vs w
    rw [List.map_cons] at w
    cases w with
    | cons a b =>
      cases a
      exact .cons _ _ (ih _ b)

theorem script_of {l:OpenLaw} {n:Nat} (hn:l.most=some n) {P:Params} {h:Heap} {args:List WData} {vals:List Value}
    (hpre:l.row.toRowW.claim.pre args=true) (hwl:WellAll P h vals args) :
    ∃ a vs ns,vals = [Value.ref a]∧args = [WData.list (ns.map WData.int)]∧h.get? a=some { cls := .type "list",data := .seq vs.toArray }∧IntsAre vs ns∧ns.length≤n:=by
  have hsh:WShape.hasAll [] args [.list .int]=true:=(pre_splitW hpre).1
  have hc:l.pre.holds [] { args:=args }=true:=(pre_splitW hpre).2
  obtain ⟨d,r,rfl,h1,h2⟩:=hasAllW_cons hsh
  obtain rfl:=hasAllW_nil h2
  obtain ⟨xs,rfl,h3⟩:=hasW_list h1
  obtain ⟨ns,rfl⟩:=items_int h3
  have hlen:ns.length≤n:=by
    unfold OpenLaw.pre at hc
    have h4:(WTm.not (.lt (.lit (.int (n:Int))) (.len (.arg 0)))).holds [] { args := [.list (ns.map .int)] }=true:=by
      have h4:=(holds_andW hc).1
      rw [hn] at h4
      exact h4
    have h5:=condW_of h4 (w_not (w_lt w_lit (w_len_list (w_arg rfl))))
    rw [List.length_map] at h5
    refine Nat.le_of_not_lt fun q => ?_
    have q':(n:Int) < ((ns.length:Nat):Int):=by omega
    first
      | (rw [decide_eq_true q'] at h5;exact absurd h5 (by decide))
      | (simp at h5;omega)
  cases hwl with
  | cons w1 w2 =>
    cases w2
    cases w1 with
    | list ho hall=>exact ⟨_,_,ns,rfl,rfl,ho,ints_of_wellAll ns _ hall,hlen⟩

theorem post_true (l:OpenLaw) (args:List WData):l.row.toRowW.claim.post args (.bool true) args=true :=
  postW_of (r:=l.row.toRowW) (X:=(true == true))
    (show WShape.has [] (.bool true) .bool=true by first | rfl | decide | simp [WShape.has,WShape.arms,WShape.armsAll])
    (show (WTm.eq .res (.lit (.bool true))).value [] { args:=args,res:=some (.bool true),after:=args }=some (.bool (true == true)) from w_eq_bool (w_res rfl) w_lit) rfl


theorem attach_call {l:OpenLaw} {n:Nat} {q:Program} {loose:List Str} {XP:(Str→Option Value)→Heap→Prop} {YP:World→Heap→Prop} {d:DefRec}
    (hn:l.most=some n) (hdf:d.params.defaults = [])
    (call:∀ (w:World) (s₀ s₁ : Shared) (mg mb:Str→Option Value) (fa:Addr) (o:Obj) (pm cd doc:Value) (a:Addr) (vs:List Value) (ns:List Int),
      Ground q loose [] XP w s₀ mg mb s₁.heap→YP w s₁.heap →
      s₁.heap.get? fa=some o→o.data = .func (docDef d.name d.params d.body d.scope pm cd doc)→s₁.heap.CodeRec cd d.name→mg d.name=some (.ref fa) →
      s₁.heap.get? a=some { cls := .type "list",data := .seq vs.toArray }→IntsAre vs ns→ns.length≤n→s₁.gens = #[] →
      codeAny (model l.prog w) callerA (.call (.ref fa) ⟨[.ref a], []⟩) (fun r s'=>r = .ok (.ret (.bool true))∧OldK s₁.heap s'.heap∧s'.os=s₁.os∧AllBare s'.gens) s₁) :
    WalkO q loose XP YP l.row.toRowW d [] (fun f vs=>PySem.call f vs):=by
  intro w s₀ s₁ mg mb G Y fa o pm cd doc dV kV ho hd hcd hD hmg hg args vals as hpre hlay hrd hwl hlo
  obtain rfl:dV = .none:=Dflts.none hD hdf
  obtain rfl:kV = .none:=Dflts.noKw hD
  obtain ⟨a,vs,ns,rfl,rfl,hobj,hints,hlen⟩:=script_of hn hpre hwl
  refine enter_call (codeAny_mono (call w s₀ s₁ mg mb fa o pm cd doc a vs ns G Y ho (fd_plain hd) hcd hmg hobj hints hlen hg) fun r s' hq => ?_)
  obtain ⟨rfl,h2,h3,h4⟩:=hq
  exact ⟨.inl ⟨.bool true,.bool true, [],rfl,fun _=>rfl,.bool true,post_true l _,fun _=>⟨List.Pairwise.nil,fun _ hm=>(nomatch hm)⟩⟩,h2,h3,h4⟩


section
variable {prog:Program} {w:World} {A:Around} {E:Value→Shared→Prop} {s:Shared} {K:Frag}






end
end Att

namespace L2
open PySem PySem.Spec PyProof.Rows

theorem vals_ints:∀ {vs:List Value} {ns:List Int},IntsAre vs ns→Vals (ns.map V.int) vs
  | _,_,.nil => .nil
  | _,_,.cons n t h => .cons ⟨t,rfl⟩ (vals_ints h)

noncomputable def Only (H:Hp):Prop := ∀ b,H b=none∨∃ o xs,H b=some (.frz o (.lst xs))

theorem law_call {P:Program} {w:World} {K:PySem.W.Frag} {mg mb:Str→Option Value} {CX:CXT} {k:Nat} {fa a:Addr} {fd:FuncData} {x:Str} {sp:Sp} {s₁ : Shared} {vs:List Value} {ns:List Int}
    (KX:K.In s₁.heap) (hns:s₁.heap.Ns mainGlobals mg) (hb:s₁.heap.Ns builtinsNs mb) (hbb:∀ x:Str,x ≠ "__name__" → mb x=bootBuiltins x) (hlim:s₁.heap.NoLimit) (hg:s₁.gens = #[])
    (ha:s₁.heap.get? a=some { cls := .type "list",data := .seq vs.toArray }) (hi:IntsAre vs ns) (hl:ns.length≤sizeLine) (hr:Room k callerA)
    (F:∀ base:Heap,K.In base→base.Ns mainGlobals mg→FnOk P w K mg base CX k fa fd [x] sp) (hbind:∀ (s:Shared) (u:Value),BindsTo s fd ⟨[u], []⟩ [(x,u)])
    (hsp:∀ H:Hp,Only H→SqL K H a (ns.map V.int)→sp [.ref a] H (fun v _=>v = .bl true) fun _ _ _=>False)
    (hCX:∀ H e s',CX [] H s₁ (fun _ _ _=>False) e s'→False) :
    codeAny (model P w) callerA (.call (.ref fa) ⟨[.ref a], []⟩) (fun r s'=>r = .ok (.ret (.bool true))∧OldK s₁.heap s'.heap∧s'.os=s₁.os∧AllBare s'.gens) s₁ := by
  have rv:=vals_ints hi
  have lenV:=hi.length
  -- from an abstract heap in which nothing but the script may be tracked
  have core:∀ H:Hp,Only H→SqL K H a (ns.map V.int)→HOk P w H s₁.heap→(∀ b,H b≠none→b=a)→(H a≠none→K.lookup a=none) →
      codeAny (model P w) callerA (.call (.ref fa) ⟨[.ref a], []⟩) (fun r s'=>r = .ok (.ret (.bool true))∧OldK s₁.heap s'.heap∧s'.os=s₁.os∧AllBare s'.gens) s₁ := by
    intro H hO hS hok hA hK
    have base_of:∀ {b:Addr} {o:Obj},s₁.heap.get? b=some o→H b=none→(hidT s₁.heap H).get? b=some o:=fun e n=>hidT_get e n
    have noA:∀ {b:Addr} {o:Obj} {es:Array DictEntry} {ep:Nat},s₁.heap.get? b=some o→o.data = .dict es ep→H b=none:=fun {b o es ep} e d=>by
      cases q:H b with
      | none=>rfl
      | some u =>
        have e':b=a:=hA b (by rw [q];simp)
        subst e'
        rw [ha] at e;cases e
        have d':Data.seq vs.toArray _=Data.dict es ep:=d
        cases d'
    have nsK:∀ {b:Addr} {m:Str→Option Value},s₁.heap.Ns b m→(hidT s₁.heap H).Ns b m:=fun {b m} ⟨o,es,ep,e,d,r⟩=>⟨o,es,ep,base_of e (noA e d),d,r⟩
    have hKb:K.In (hidT s₁.heap H):=fun b o e=>base_of (KX b o e) (by
      cases q:H b with
      | none=>rfl
      | some u =>
        have e':b=a:=hA b (by rw [q];simp)
        subst e'
        rw [hK (by rw [q];simp)] at e;cases e)
    have hM:Mod K mg (hidT s₁.heap H):=⟨hKb,nsK hns,⟨mb,nsK hb,hbb⟩,let ⟨mc,h1,h2⟩:=hlim; ⟨mc,nsK h1,h2⟩⟩
    have e0:Env0 P w K mg (hidT s₁.heap H) callerA [] s₁ H:=⟨rfl,hM,fun b o e=>of_hidT e,Nat.le_of_eq (hidT_size _ _),trivial,fun b hb=>absurd (show b∈([]:List Addr) from hb) (by simp),hok,.of_eq hg⟩
    refine codeAny_mono ((F _ hKb (nsK hns)).run callerA [] s₁ H ⟨[.ref a], []⟩ [.ref a] [.ref a] _ _ hr e0 (hbind s₁ (.ref a)) (.cons rfl .nil) (hsp H hO hS)) fun r s' h => ?_
    cases r with
    | error e=>exact (hCX H e s' h).elim
    | ok fl =>
      cases fl with
      | next=>exact False.elim h
      | brk=>exact False.elim h
      | cont=>exact False.elim h
      | ret u =>
        obtain ⟨v,H',os,bare,un,hok',r',q⟩:=h
        have q':v = .bl true:=q
        subst q'
        obtain rfl:u=Value.bool true:=r'
        refine ⟨rfl,OldK.of_keep fun b o e => ?_,os,bare⟩
        cases q:H b with
        | none=>exact un.keep b o e q (by intro z;exact absurd (show b∈([]:List Addr) from z) (by simp)) (by simp)
        | some u =>
          rcases hO b with z | ⟨ob,xs,z⟩
          · rw [q] at z;cases z
          · have z2:=un.frzs b ob _ z
            obtain ⟨e1,_⟩:=hok b _ z
            obtain ⟨e2,_⟩:=hok' b _ z2
            rw [e] at e1;cases e1
            exact e2
  cases hk:K.lookup a with
  | some o =>
    -- the script is one of the module's own objects
    have e:=KX a o hk
    rw [ha] at e
    cases e
    refine core (fun _=>none) (fun _ => .inl rfl) (.inr ⟨_,vs.toArray,_,hk,rfl,rfl,rfl,by rw [List.size_toArray,lenV];exact hl,by simpa using rv⟩) (fun b u z=>by have z':(none:Option HO)=some u:=z;cases z') (fun b z=>absurd rfl z) fun z=>absurd rfl z
  | none =>
    refine core (fun b=>if b=a then some (.frz { cls := .type "list",data := .seq vs.toArray } (.lst (ns.map V.int))) else none) (fun b => ?_) (.inl (.inr ⟨{ cls := .type "list",data := .seq vs.toArray },if_pos rfl⟩)) (fun b u z => ?_) (fun b z => ?_) fun _=>hk
    · by_cases hb:b=a
      · exact .inr ⟨_,_,if_pos hb⟩
      · exact .inl (if_neg hb)
    · by_cases hb:b=a
      · have z':=(if_pos hb).symm.trans z
        cases z'
        subst hb
        exact ⟨ha,by rw [List.length_map];exact hl,vs,_,rv,ha⟩
      · have z':=(if_neg hb).symm.trans z
        cases z'
    · by_cases hb:b=a
      · exact hb
      · exact absurd (if_neg hb) z
end L2

namespace L2
open PySem PySem.Spec PyProof.Rows


theorem walk_of {l:PySem.W.OpenLaw} {n k:Nat} {q:Program} {loose:List Str} {XP:(Str→Option Value)→Heap→Prop} {YP:World→Heap→Prop} {d:DefRec} {K:Params→PySem.W.Frag} {CX:World→CXT} {sp:World→Sp} {x:Str}
    (hn:l.most=some n) (hn2:n≤sizeLine) (hdf:d.params.defaults = []) (hr:Room k callerA)
    (hY:∀ (w:World) (h:Heap),YP w h→(K w.params).In h)
    (F:∀ (w:World) (mg:Str→Option Value) (fa:Addr) (h:Heap),(K w.params).In h→h.Ns mainGlobals mg→mg d.name=some (.ref fa) →
      ∃ fd:FuncData,(∀ (s:Shared) (u:Value),BindsTo s fd ⟨[u], []⟩ [(x,u)]) ∧
        ∀ base:Heap,(K w.params).In base→base.Ns mainGlobals mg→FnOk l.prog w (K w.params) mg base (CX w) k fa fd [x] (sp w))
    (hsp:∀ (w:World) (H:Hp) (a:Addr) (ns:List Int),ns.length≤n→Only H→SqL (K w.params) H a (ns.map V.int)→sp w [.ref a] H (fun v _=>v = .bl true) fun _ _ _=>False)
    (hCX:∀ (w:World) (H:Hp) (s:Shared) (e:Value) (s':Shared),CX w [] H s (fun _ _ _=>False) e s'→False) :
    PySem.W.WalkO q loose XP YP l.row.toRowW d [] (fun f vs=>PySem.call f vs):=by
  refine Att.attach_call hn hdf fun w s₀ s₁ mg mb fa o pm cd doc a vs ns G Y ho hd hcd hmg hobj hints hlen hg => ?_
  have KX:=hY w _ Y
  obtain ⟨fd,hb,hF⟩:=F w mg fa _ KX G.T.g hmg
  exact law_call KX G.T.g G.T.b G.T.builtins G.T.nolimit hg hobj hints (Nat.le_trans hlen hn2) hr hF hb (fun H hO hS=>hsp w H a ns hlen hO hS) fun H e s'=>hCX w H s₁ e s'
end L2



namespace L2
open PySem PySem.Spec PyProof.Rows

noncomputable def inClass (s:Stmt) (j:Nat):Stmt:=match s with
  | .ClassDef _ _ _ body _ _ _ _ _ _ _=>body.getD j (.Pass ⟨0,0,0,0⟩)
  | _ => .Pass ⟨0,0,0,0⟩
noncomputable def defArgs (s:Stmt):Arguments:=match s with
  | .FunctionDef _ a _ _ _ _ _ _ _ _=>a
  | _=>{ posonlyargs := [],args := [],vararg:=none,kwonlyargs := [],kw_defaults := [],kwarg:=none,defaults := [] }
noncomputable def defBody (s:Stmt):List Stmt:=match s with
  | .FunctionDef _ _ b _ _ _ _ _ _ _=>b
  | _ => []
noncomputable def defScope (s:Stmt):Scope:=match s with
  | .FunctionDef _ _ _ _ _ _ sc _ _ _=>sc
  | _=>{ kind := .function,names := [],isGenerator:=false,isCoroutine:=false }

noncomputable abbrev CX0:CXT:=fun _ _ _ _ _ _=>False
noncomputable abbrev E0:XK:=fun _ _ _=>False
theorem pass0 {X:Cx}:Passes CX0 X E0:=fun _ _ _ _ _ _ _ h=>h.elim

structure Fun (K:PySem.W.Frag) (x qual:Str) (st:Stmt) (f:Addr) (fd:FuncData):Prop where
  ex:∃ (oc:Value) (od:Option Addr) (kV doc pm:Value) (an:Option Addr) (cdv ct:Value) (osl:Array (Option Value)),
    fd=PySem.W.fnOf x qual (defArgs st) (defBody st) (defScope st) .none kV doc pm an cdv ct∧K.lookup f=some ⟨oc,od,.func fd,osl⟩∧PySem.W.codeIn K cdv qual=true
  kp:PySem.W.keepIn K (.ref f)=true
section
variable {P:Program} {w:World} {K:PySem.W.Frag} {mg:Str→Option Value} {base:Heap}
theorem Fun.ok {x qual:Str} {st:Stmt} {f:Addr} {fd:FuncData} {N ps:List Str} {k:Nat} {sp:Sp} (F:Fun K x qual st f fd) (S:FnScope N ps (defScope st)) (len:∀ vs H Q E,sp vs H Q E→vs.length=ps.length)
    (hbody:∀ (cdv:Value) (A:Around) (outer:List Env) (s:Shared) (H:Hp) (vs:List V) (Q:VK) (E:XK),Room k (A.deeper (envOfC qual (defScope st) s.heap.objs.size f cdv))→sp vs H Q E →
      ∃ t,PSs (cxOf CX0 P w K mg base N qual (defScope st) f cdv A outer s H E).nox (defBody st) t∧t { nx:=fun _ H'=>Q .non H',rt:=Q } (start N vs) H):FnOk P w K mg base CX0 (k+1) f fd ps sp:=by
  obtain ⟨oc,od,kV,doc,pm,an,cdv,ct,osl,rfl,lk,hcd⟩:=F.ex
  refine fn_of lk hcd S len fun A outer s H vs Q E hr hsp => ?_
  obtain ⟨t,h,q⟩:=hbody cdv A outer s H vs Q E hr hsp
  exact ⟨t,h.nox,q⟩
theorem Fun.binds {x qual:Str} {st:Stmt} {f:Addr} {fd:FuncData} {ps:List Str} (F:Fun K x qual st f fd)
    (h:∀ (kV doc pm:Value) (an:Option Addr) (cdv ct:Value) (us:List Value),us.length=ps.length→bindArgs (PySem.W.fnOf x qual (defArgs st) (defBody st) (defScope st) .none kV doc pm an cdv ct) ⟨us, []⟩=pure (ps.zip us)):Binds K fd ps []:=by
  obtain ⟨oc,od,kV,doc,pm,an,cdv,ct,osl,rfl,lk,hcd⟩:=F.ex
  exact .all (h kV doc pm an cdv ct)
theorem fun_mk {x qual:Str} {st:Stmt} {f:Addr} {oc:Value} {od an:Option Addr} {osl:Array (Option Value)} {kV doc pm cdv ct:Value} (l:K.lookup f=some ⟨oc,od,.func (PySem.W.fnOf x qual (defArgs st) (defBody st) (defScope st) .none kV doc pm an cdv ct),osl⟩)
    (c:PySem.W.codeIn K cdv qual=true) (k:PySem.W.keepIn K (.ref f)=true):Fun K x qual st f (PySem.W.fnOf x qual (defArgs st) (defBody st) (defScope st) .none kV doc pm an cdv ct):=⟨⟨oc,od,kV,doc,pm,an,cdv,ct,osl,rfl,l,c⟩,k⟩
end
theorem small1000 {n:Nat} (h:n≤1000):n < sizeLine:=Nat.lt_of_le_of_lt h (by decide)

section
variable {X:Cx}
theorem pv (i:Nat) {x:Str} {pos:Pos} (hN:X.N[i]? = some x:=by rfl) (hv:Vis X.env.scope x:=by first | exact Or.inl rfl | exact Or.inr (Or.inl rfl) | exact Or.inr (Or.inr rfl)) (hd:(x == ("__debug__" : Str))=false:=by decide)
    (hcd:(x == ("__classdict__" : Str))=false:=by decide):PE X (.Name x pos) (tVar i):=pe_var hN hv hd hcd
end

theorem iteF {A B:Prop} (h:B):if false=true then A else B:=by
  rw [if_neg Bool.false_ne_true]
  exact h
theorem iteT {A B:Prop} (h:A):if true=true then A else B:=by
  rw [if_pos rfl]
  exact h

noncomputable def Same (H H':Hp):Prop := ∀ b o,H b=some o→H' b=some o
theorem Same.refl (H:Hp):Same H H:=fun _ _ h=>h
theorem Same.trans {H H1 H2:Hp} (a:Same H H1) (b:Same H1 H2):Same H H2:=fun c o h=>b c o (a c o h)
theorem Same.seq {K:PySem.W.Frag} {H H':Hp} {a:Addr} {xs:List V} (e:Same H H') (h:SqL K H a xs):SqL K H' a xs:=by
  rcases h with (h | ⟨o,h⟩) | h
  · exact .inl (.inl (e _ _ h))
  · exact .inl (.inr ⟨o,e _ _ h⟩)
  · exact .inr h

end L2
namespace L2
open PySem PySem.Spec PyProof.Rows

section
variable {X:Cx} {pins:List (Addr × Obj)} {σ : St} {H:Hp} {s:Shared} {h':Heap}
end

section
variable {X:Cx}

noncomputable def Itr3 (lo c:Int) (n:Nat):It:=⟨fun i _=>i < n,fun i H x H'=>H'=H∧x = .int (lo+(i:Int) * c),fun i _=>i=n⟩
theorem turn_range3 {P:Program} {w:World} {K:PySem.W.Frag} {tg:Expr} (it:Addr) (lo c:Int) (n:Nat):Turn P w K tg (Itr3 lo c n) [it] it (fun i h=>IsRangeIter h it (lo+(i:Nat) * c) ((n:Int) - (i:Nat)) c) where
  mem:=by simp
  obj:=fun i h st b hb=>by
    have e:b=it:=by simpa using hb
    subst e
    exact ⟨_,st,fun v z=>by
      have z':Data.fields _=Data.cell v:=z
      cases z'⟩
  keep:=fun i h h' st k=>k it (by simp) _ st
  item:=by
    intro X hP hw hK hc i pins s σ H E I hf st hg
    subst hP hw hK
    obtain ⟨f0,f1,f2,f3,f4,f5⟩:=hf it (by simp)
    have W:=Walks.range (prog:=X.prog) (w:=X.w) (I.ok.hd hc) it lo c n
    refine W.item i s _ _ hg st fun v h' tk hv st' kk => ?_
    obtain ⟨t,rfl⟩:=hv
    have I1:Inv X pins σ H { s with heap:=h',toks:=tk }:=I.turned (fun b o hb e=>kk b o (by simpa using hb) e) f0 f1 f3 f4 f5
    exact ⟨_,rfl,go_of (s := { s with heap:=h',toks:=tk }) (n := "range_iterator") st' rfl rfl (by decide) ⟨.int (lo+(i:Int) * c),H,I1,⟨t,rfl⟩,⟨rfl,rfl⟩,st',fun b hb=>(hf b hb).1⟩⟩
  done:=by
    intro X hP hw hK hc i pins s σ H E I hf st hg
    subst hP hw hK
    obtain ⟨f0,f1,f2,f3,f4,f5⟩:=hf it (by simp)
    exact wpAny_pyNext_range_end (I.ok.hd hc) st (by have:i=n:=hg;omega) fun h' eb=>⟨rfl,I.turned (t':=s.toks) (fun b o hb e=>eb b o hb e) f0 f1 f3 f4 f5⟩
  self:=fun _ _ _ _ _ st h=>wpAny_pyIter_rangeiter st h
noncomputable def many3 (lo hi c:Int):Nat:=(Builtin.Range.rangeSize lo hi c).toNat
theorem size3 {lo hi c:Int} (hc:0 < c):0≤Builtin.Range.rangeSize lo hi c∧(Builtin.Range.rangeSize lo hi c=0∨Builtin.Range.rangeSize lo hi c≤hi - lo):=by
  unfold Builtin.Range.rangeSize
  rw [if_pos hc]
  by_cases h:lo < hi
  · rw [if_pos h]
    have h1:0≤(hi - lo - 1) / c:=Int.ediv_nonneg (by omega) (by omega)
    have h2:(hi - lo - 1) / c≤hi - lo - 1:=Int.ediv_le_self _ (by omega)
    omega
  · rw [if_neg h];omega
theorem small3 {a b c:Int} (hc:0 < c) (hc':c < 2 ^ 30) (ha : -(2 ^ 61)≤a) (ha':a < 2 ^ 61) (hb : -(2 ^ 61)≤b) (hb':b < 2 ^ 61):Builtin.Range.small a b c=true:=by
  have h:=size3 (lo:=a) (hi:=b) hc
  unfold Builtin.Range.small
  generalize Builtin.Range.rangeSize a b c=z at h
  simp only [Builtin.Range.rangeFitsLong,Bool.and_eq_true,Bool.or_eq_true,decide_eq_true_eq,beq_iff_eq,gt_iff_lt,hc,if_true]
  omega
inductive J_iRng3 (R:It→Hp→Prop) (vs:List V) (H1:Hp):Prop
  | mk:∀ (i j c:Int),(vs = [.int i,.int j,.int c])→((0 < c∧c < 2 ^ 30 ∧ -(2 ^ 61)≤i∧i < 2 ^ 61 ∧ -(2 ^ 61)≤j∧j < 2 ^ 61))→(R (Itr3 i c (many3 i j c)) H1)→J_iRng3 R vs H1
noncomputable def iRng3 (ta:TA):TI:=fun σ H R=>ta σ H fun vs H1=>J_iRng3 R vs H1
theorem vals3 {x y z:V} {us:List Value} (r:Vals [x,y,z] us):∃ u v w',us = [u,v,w']∧RelV x u∧RelV y v∧RelV z w':=by
  cases r with
  | cons r1 r2 =>
    obtain ⟨v,w',rfl,h1,h2⟩:=vals2 r2
    exact ⟨_,_,_,rfl,r1,h1,h2⟩
theorem pi_range3 {a b c:Expr} {ta:TA} {tg:Expr} {p pos:Pos} (hg:Gl X "range") (hm:X.mg "range" = none) (ha:PA X [a,b,c] ta)
    (he:starEach (a :: [b,c]) X.env=(false,eval a X.env) :: starEach [b,c] X.env:=by rfl) (hpl:(backTo pos (starEach [b,c] X.env)).any (·.1)=false:=by rfl) :
    PI X tg (.Call (.Name "range" p) [a,b,c] [] pos) (iRng3 ta):=by
  intro pins s σ H R I h
  refine Call_ (ld_blt I hg hm boot_range (PyProof.Rows.callWith_type1 (thn (ha pos pins s σ H _ I h) fun us s1 ⟨vs,H1,I1,r1,q1⟩ => ?_) he hpl))
  obtain ⟨i,j,c,e,⟨c1,c2,q1,q2,q3,q4⟩,q⟩:=q1
  subst e
  obtain ⟨u,v,w',rfl,⟨t,rfl⟩,⟨t',rfl⟩,⟨t'',rfl⟩⟩:=vals3 r1
  refine call_range_3 (by omega) ?_ (.inl (PyProof.noPylong_small (by omega)))
  refine wpAny_pyIter_range (IsRange.new ..) (small3 c1 c2 q1 q2 q3 q4) ?_
  have I2:Inv X pins σ H1 { s1 with heap:=s1.heap.push { cls := .type "range",data := .fields #[.int i t,.int j t',.int c t''] } }:=I1.kept (t':=s1.toks) fun b o e=>Heap.get?_push_of_some _ e
  refine ⟨(s1.heap.push { cls := .type "range",data := .fields #[.int i t,.int j t',.int c t''] }).objs.size, [(s1.heap.push { cls := .type "range",data := .fields #[.int i t,.int j t',.int c t''] }).objs.size],_,_,H1,rfl,
    I2.kept (t':=s1.toks) fun b o e=>Heap.get?_push_of_some _ e,turn_range3 _ i c (many3 i j c),?_,fun b hb => ?_,q⟩
  · have z:=(size3 (lo:=i) (hi:=j) c1).1
    have e1:i+((0:Nat):Int) * c=i:=by simp
    have e2:((many3 i j c:Nat):Int) - ((0:Nat):Int)=Builtin.Range.rangeSize i j c:=by unfold many3;omega
    show IsRangeIter _ _ (i+((0:Nat):Int) * c) (((many3 i j c:Nat):Int) - ((0:Nat):Int)) c
    rw [e1,e2]
    exact Heap.get?_push_size _ rfl
  · have e:b=(s1.heap.push { cls := .type "range",data := .fields #[.int i t,.int j t',.int c t''] }).objs.size:=by simpa using hb
    subst e
    exact I2.fpOk (Nat.le_refl _) (I2.hok.fresh (Nat.le_refl _))
end

theorem for_range3 {lo c:Int} {n:Nat} {g:TG} {tb:TS} {D:Ends} {σ : St} {H:Hp} (Pv:Nat→St→Hp→Prop) (h0:Pv 0 σ H)
    (hs:∀ i σ H,i < n→Pv i σ H→g (.int (lo+(i:Int) * c)) σ H fun σ2 H2=>tb { D with nx:=Pv (i+1),ct:=Pv (i+1),bk:=D.nx } σ2 H2) (hd:∀ σ H,Pv n σ H→D.nx σ H) :
    ∃ W:Nat→Nat→St→Hp→Prop,(∃ m,W 0 m σ H)∧∀ i m σ H,W i m σ H →
      ((Itr3 lo c n).stop i H∧D.nx σ H)∨((Itr3 lo c n).go i H∧∃ N:St→Hp→Prop,(∀ σ' H',N σ' H'→∃ m',m' < m∧W (i+1) m' σ' H')∧∀ x H',(Itr3 lo c n).yld i H x H'→g x σ H' fun σ2 H2=>tb { D with nx:=N,ct:=N,bk:=D.nx } σ2 H2):=by
  refine ⟨fun i m σ H=>m=n - i∧i≤n∧Pv i σ H,⟨n,by simp,Nat.zero_le _,h0⟩,?_⟩
  rintro i m σ H ⟨rfl,hi,p⟩
  by_cases hlt:i < n
  · refine .inr ⟨hlt,Pv (i+1),fun σ' H' p'=>⟨n - (i+1),by omega,rfl,hlt,p'⟩,fun x H' y => ?_⟩
    obtain ⟨e,y⟩:=y
    subst e y
    exact hs i σ _ hlt p
  · have e:i=n:=by omega
    subst e
    exact .inl ⟨rfl,hd σ H p⟩

section
variable {X:Cx}
theorem foldl_cps (a:Array Nat):∀ (k:Nat) (acc:Array Nat),((List.replicate k a).foldl (· ++ ·) acc).toList=acc.toList ++ (List.replicate k a.toList).flatten
  | 0,acc=>by simp
  | k+1,acc=>by
    rw [List.replicate_succ,List.foldl_cons,foldl_cps a k,List.replicate_succ,List.flatten_cons,Array.toList_append,List.append_assoc]
noncomputable def timesS (z:Str) (n:Nat):Str:=⟨(List.replicate n z.cps.toList).flatten.toArray⟩
theorem timesS_len (z:Str) (n:Nat):(timesS z n).length=n * z.length:=by
  unfold timesS Str.length
  simp [List.length_flatten]
inductive J_op_mul_str (x:V) (y:V) (H:Hp) (Q:VK):Prop
  | mk:∀ z n,(x = .str z)→(y = .int n)→(1≤n)→(n≤1000)→(z.length≤1000)→(Q (.str (timesS z n.toNat)) H)→J_op_mul_str x y H Q
theorem op_mul_str:OpR X (binaryOp .Mult) (fun x y H Q=>J_op_mul_str x y H Q):=by
  intro pins s σ H x y v u Q I rx ry h
  obtain ⟨z,n,rfl,rfl,h1,h2,h3,q⟩:=h
  obtain ⟨t,rfl⟩:=rx
  obtain ⟨t',rfl⟩:=ry
  have e0:(⟨(List.replicate n.toNat z.cps).foldl (· ++ ·) #[]⟩:Str)=timesS z n.toNat:=by
    unfold timesS
    congr 1
    apply Array.toList_inj.mp
    rw [foldl_cps]
    simp
  have hlen:(timesS z n.toNat).length≤sizeLine:=by
    rw [timesS_len]
    have:n.toNat≤1000:=by omega
    have:=Nat.mul_le_mul this h3
    exact Nat.le_trans this (by decide)
  have e1:(n == 1 || z.length == 0)=true→timesS z n.toNat=z:=fun hc=>by
    unfold timesS
    rcases Bool.or_eq_true_iff.mp hc with hc | hc
    · have:n=1:=by simpa using hc
      subst this
      simp
    · have hz:z.length=0:=by simpa using hc
      have hz':z.cps = #[]:=Array.eq_empty_of_size_eq_zero hz
      cases z with
      | mk c =>
        simp only at hz'
        subst hz'
        simp
  refine PySem.P.mul_str (by
      have h1':¬ n < -(2 ^ 63:Int):=by omega
      have h2':¬ n ≥ 2 ^ 63:=by omega
      rw [decide_eq_false h1',decide_eq_false h2'];rfl) (fun _ _ => ?_) (fun _ _ => ?_) ?_
  · have e:((2:Int) ^ 63 - 1)=9223372036854775807:=by decide
    rw [e]
    have h4:(1000:Int)≤(9223372036854775807:Int) / n:=by
      refine (Int.le_ediv_iff_mul_le (by omega)).mpr ?_
      omega
    omega
  · unfold Builtin.Str.tooLong
    rw [timesS_len] at hlen
    exact decide_eq_false (by rw [Nat.mul_comm];omega)
  · rw [if_neg (by omega)]
    by_cases hc:(n == 1 || z.length == 0)=true
    · rw [if_pos hc]
      exact ⟨.str z,H,I,⟨_,rfl⟩,by rw [e1 hc] at q;exact q⟩
    · rw [if_neg hc]
      exact ⟨by rw [e0];exact hlen,⟨.str _,H,I.tok _,⟨_,rfl⟩,by rw [e0];exact q⟩⟩
inductive J_rSlS (x:V) (lo:Option Int) (hi:Option Int) (H:Hp) (Q:VK):Prop
  | mk:∀ z,(x = .str z)→(z.length≤sizeLine)→(Q (.str (Txt.slice z lo hi)) H)→J_rSlS x lo hi H Q
noncomputable def rSlS:V→Option Int→Option Int→Hp→VK→Prop:=fun x lo hi H Q=>J_rSlS x lo hi H Q
theorem sl_str:SlR X rSlS:=by
  intro pins s σ H x v vl vu lo hi sl Q I rx hs pl pu h
  obtain ⟨z,rfl,hz,q⟩:=h
  obtain ⟨t,rfl⟩:=rx
  refine ⟨"str",_,F.slot_str_getitem.lookup,typeIs_str _ _ _,?_⟩
  obtain ⟨o,ho,hc,hd⟩:=hs
  have fin:∀ t' k,EP X pins σ Q (.str (Txt.slice z lo hi) t') { s with toks:=k }:=fun t' k=>⟨.str _,H,I.tok _,⟨_,rfl⟩,q⟩
  cases pl with
  | none =>
    cases pu with
    | none=>exact wpAny_getItem_str_slice (l:=none) (u:=none) (st:=none) ⟨o,ho,hc,hd⟩ rfl (post_val_or_str ⟨Nat.le_trans (Txt.slice_le z _ _) hz,fin⟩)
    | int j uj=>exact wpAny_getItem_str_slice (l:=none) (u:=some (j,uj)) (st:=none) ⟨o,ho,hc,hd⟩ rfl (post_val_or_str ⟨Nat.le_trans (Txt.slice_le z _ _) hz,fin⟩)
  | int i ui =>
    cases pu with
    | none=>exact wpAny_getItem_str_slice (l:=some (i,ui)) (u:=none) (st:=none) ⟨o,ho,hc,hd⟩ rfl (post_val_or_str ⟨Nat.le_trans (Txt.slice_le z _ _) hz,fin⟩)
    | int j uj=>exact wpAny_getItem_str_slice (l:=some (i,ui)) (u:=some (j,uj)) (st:=none) ⟨o,ho,hc,hd⟩ rfl (post_val_or_str ⟨Nat.le_trans (Txt.slice_le z _ _) hz,fin⟩)
inductive J_call_maxL (kK:PySem.W.Frag) (xs:List V) (H:Hp) (Q:VK):Prop
  | mk:∀ (p:Addr) (ns:List Int),(xs = [.ref p])→(SqL kK H p (ns.map V.int))→(0 < ns.length)→(∀ M,M∈ns→(∀ a∈ns,a≤M)→Q (.int M) H)→J_call_maxL kK xs H Q
theorem call_maxL (hc:X.calm=true):CallR X (.builtin "max") (fun xs H Q=>J_call_maxL X.K xs H Q):=by
  intro pins s σ H xs us Q I r h
  obtain ⟨p,ns,rfl,hq,hne,q⟩:=h
  obtain ⟨u,rfl,ru⟩:=vals1 r
  cases ru
  obtain ⟨its,rv,pl,hz⟩:=I.list hq
  have hi:IntsAre its ns:=intsAre_of rv
  obtain ⟨ys,e⟩:=hi.allInts.items
  have hns:ns=ys.toList.map (·.1):=by
    rw [← hi.numsOf, ← nums_intItems, ← e]
  have hsz:0 < ys.size:=by
    have h3:=hne;rw [hns,List.length_map,Array.length_toList] at h3;exact h3
  have hl':s.heap.IsList p (intItems ys):=e ▸ pl.isList
  refine max_intList (I.ok.hd hc) hl' hsz fun v h' tk hv hk => ?_
  obtain ⟨t,rfl⟩:=intItems_at hv
  obtain ⟨h1,h2⟩:=argBest_gt (numAt ys) (ys.size - 1)
  refine ⟨.int _,H,I.kept hk,⟨t,rfl⟩,q _ ?_ fun a ha => ?_⟩
  · rw [hns,numAt_eq];exact getD_mem (by rw [List.length_map,Array.length_toList];omega)
  · rw [hns] at ha
    obtain ⟨j,hj,rfl⟩:=mem_getD ha
    rw [List.length_map,Array.length_toList] at hj
    rw [← numAt_eq];exact h2 j (by omega)
inductive J_call_isT (kK:PySem.W.Frag) (xs:List V) (H:Hp) (Q:VK):Prop
  | mk:∀ x T t b,(xs = [x,.ty T])→(TyOf kK H x t)→(PySem.W.kitOne kK t (.type T)=some b)→(Q (.bl b) H)→J_call_isT kK xs H Q
theorem call_isT:CallR X (.builtin "isinstance") (fun xs H Q=>J_call_isT X.K xs H Q):=by
  intro pins s σ H xs us Q I r h
  obtain ⟨x,T,t,b,rfl,ty,e,q⟩:=h
  obtain ⟨u,w',rfl,rx,ry⟩:=vals2 r
  cases ry
  exact isinst_ok I rx ty e fun tk=>⟨.bl b,H,I.tok _,rfl,q⟩
theorem strsAre_of {ys:List Str}:∀ {us:List Value},Vals (ys.map V.str) us→StrsAre us ys:=by
  induction ys with
  | nil=>intro us r;rw [List.map_nil] at r;cases r;exact .nil
  | cons y ys ih =>
    intro us r
    rw [List.map_cons] at r
    cases r with
    | cons r1 r2 =>
      obtain ⟨t,e⟩:=r1
      subst e
      exact .cons y t (ih r2)
inductive J_rJoin (K:PySem.W.Frag) (x:V) (vs:List V) (H:Hp) (Q:VK):Prop
  | mk:∀ (z:Str) (l:Addr) (ys:List Str),(x = .str z)→(vs = [.ref l])→(SqL K H l (ys.map V.str))→((ys.map (·.length)).sum+ys.length * z.length≤16777216)→(Q (.str (Txt.join z ys)) H)→J_rJoin K x vs H Q
noncomputable def rJoin (K:PySem.W.Frag):V→List V→Hp→VK→Prop:=fun x vs H Q=>J_rJoin K x vs H Q
theorem mt_join:MtR X "str.join" (rJoin X.K):=by
  intro pins s σ H x vs v us Q I rx rv h
  obtain ⟨z,l,ys,rfl,rfl,hq,hb,q⟩:=h
  obtain ⟨t,rfl⟩:=rx
  obtain ⟨u,rfl,ru⟩:=vals1 rv
  cases ru
  obtain ⟨its,rv,pl,hz⟩:=I.list hq
  exact join_list pl.isList (strsAre_of rv) hb fun t' k=>⟨.str _,H,I.tok _,⟨_,rfl⟩,q⟩
end
end L2
namespace L2
open PySem PySem.Spec PyProof.Rows

noncomputable def capsOf (cells:List (Str × Addr)):List (Str × NameKind)→List (Str × Addr)→List (Str × Addr)
  | [],acc=>acc
  | (n,k) :: r,acc=>if k == .free then (match cells.lookup n with | some c=>capsOf cells r ((n,c) :: acc) | none=>capsOf cells r acc) else capsOf cells r acc
theorem capsOf_cells {cells:List (Str × Addr)}:∀ {names:List (Str × NameKind)} {acc:List (Str × Addr)} {x:Str} {c:Addr},(∀ x c,acc.lookup x=some c→cells.lookup x=some c)→(capsOf cells names acc).lookup x=some c→cells.lookup x=some c
  | [],_,x,c,ha,h=>ha x c h
  | (n,k) :: r,acc,x,c,ha,h=>by
    unfold capsOf at h
    by_cases hk:(k == NameKind.free)=true
    · rw [if_pos hk] at h
      cases e:cells.lookup n with
      | none =>
        rw [e] at h
        exact capsOf_cells ha h
      | some d =>
        rw [e] at h
        refine capsOf_cells (fun y z hy => ?_) h
        rw [List.lookup_cons] at hy
        cases q:y == n with
        | true =>
          rw [q] at hy
          have:y=n:=by simpa using q
          rw [this,e];exact hy
        | false =>
          rw [q] at hy
          exact ha y z hy
    · rw [if_neg hk] at h
      exact capsOf_cells ha h
theorem capsOf_acc {cells:List (Str × Addr)}:∀ {names:List (Str × NameKind)} {acc:List (Str × Addr)} {x:Str},(acc.lookup x).isSome=true→((capsOf cells names acc).lookup x).isSome=true
  | [],_,_,h=>h
  | (n,k) :: r,acc,x,h=>by
    unfold capsOf
    by_cases hk:(k == NameKind.free)=true
    · rw [if_pos hk]
      cases e:cells.lookup n with
      | none=>exact capsOf_acc h
      | some d =>
        refine capsOf_acc ?_
        rw [List.lookup_cons]
        cases q:x == n with
        | true=>rfl
        | false=>exact h
    · rw [if_neg hk];exact capsOf_acc h
theorem capsOf_has {cells:List (Str × Addr)}:∀ {names:List (Str × NameKind)} {acc:List (Str × Addr)} {x:Str},(x,NameKind.free)∈names→(cells.lookup x).isSome=true→((capsOf cells names acc).lookup x).isSome=true
  | [],_,_,h,_=>nomatch h
  | (n,k) :: r,acc,x,h,hc=>by
    unfold capsOf
    rcases List.mem_cons.mp h with e | h
    · cases e
      rw [if_pos (show (NameKind.free == NameKind.free)=true from rfl)]
      cases e:cells.lookup n with
      | none=>rw [e] at hc;cases hc
      | some d =>
        refine capsOf_acc ?_
        rw [List.lookup_cons]
        simp
    · by_cases hk:(k == NameKind.free)=true
      · rw [if_pos hk]
        cases e:cells.lookup n with
        | none=>exact capsOf_has h hc
        | some d=>exact capsOf_has h hc
      · rw [if_neg hk];exact capsOf_has h hc
theorem caps_cells {cells:List (Str × Addr)} {names:List (Str × NameKind)} {x:Str} {c:Addr} (h:(capsOf cells names []).lookup x=some c):cells.lookup x=some c :=
  capsOf_cells (fun _ _ z=>by simp at z) h
theorem forIn_caps {env:Env}:∀ (names:List (Str × NameKind)) (acc:List (Str × Addr)),(∀ y∈names,y.2 = .free→∃ c,env.cells.lookup y.1=some c) →
    (forIn names acc fun x r=>match x with
      | (name,kind)=>if (kind == NameKind.free)=true then (do let c ← cellOf env name;pure (ForInStep.yield ((name,c) :: r))) else pure (ForInStep.yield r):Sem (List (Str × Addr)))=pure (capsOf env.cells names acc)
  | [],acc,_=>rfl
  | (n,k) :: r,acc,h=>by
    have hr:∀ y∈r,y.2 = .free→∃ c,env.cells.lookup y.1=some c:=fun y hy=>h y (List.mem_cons_of_mem _ hy)
    rw [List.forIn_cons]
    by_cases hk:(k == NameKind.free)=true
    · have ek:k = .free:=by simpa using hk
      obtain ⟨c,hc⟩:=h (n,k) List.mem_cons_self ek
      have e1:cellOf env n=pure c:=by
        have hc':env.cells.lookup n=some c:=hc
        unfold cellOf
        rw [hc']
      unfold capsOf
      rw [if_pos hk]
      have hc':env.cells.lookup n=some c:=hc
      rw [hc']
      simp only [hk,if_true,e1]
      exact forIn_caps r ((n,c) :: acc) hr
    · unfold capsOf
      rw [if_neg hk]
      simp only [hk]
      exact forIn_caps r acc hr
theorem closure_caps {scope:Scope} {env:Env} (h:∀ y∈scope.names,y.2 = .free→∃ c,env.cells.lookup y.1=some c):closureFor scope env=pure (capsOf env.cells scope.names []):=by
  have e:=forIn_caps scope.names [] h
  unfold closureFor
  show (Bind.bind (forIn scope.names [] fun x r=>match x with
      | (name,kind)=>if (kind == NameKind.free)=true then (do let c ← cellOf env name;pure (ForInStep.yield ((name,c) :: r))) else pure (ForInStep.yield r):Sem (List (Str × Addr))) fun r=>pure r)=_
  rw [e]
  rfl

theorem relabel_free {scope:Scope} {env:Env} {x:Str} (hc:∀ y∈scope.names,y.2 ≠ .cell) (h:(relabel scope env).names.lookup x=some .cell∨(relabel scope env).names.lookup x=some .free):(x,NameKind.free)∈scope.names:=by
  unfold relabel at h
  simp only at h
  generalize scope.names=names at h hc
  induction names with
  | nil=>rcases h with h | h <;> cases h
  | cons y r ih =>
    obtain ⟨n,k⟩:=y
    have hr:∀ y∈r,y.2≠NameKind.cell:=fun y hy=>hc y (List.mem_cons_of_mem _ hy)
    rw [List.map_cons] at h
    by_cases hk:(k == NameKind.free && env.scope.kind == .function && env.kindOf n == some .cell)=true
    · simp only [hk,if_true,List.lookup_cons] at h
      cases q:x == n with
      | true =>
        have e:x=n:=by simpa using q
        have ek:k = .free:=by
          have:=(Bool.and_eq_true_iff.mp (Bool.and_eq_true_iff.mp hk).1).1
          simpa using this
        rw [e,ek];exact List.mem_cons_self
      | false =>
        rw [q] at h
        exact List.mem_cons_of_mem _ (ih h hr)
    · simp only [hk,Bool.false_eq_true,if_false,List.lookup_cons] at h
      cases q:x == n with
      | true =>
        rw [q] at h
        have e:x=n:=by simpa using q
        have hk0:k ≠ .cell:=hc (n,k) List.mem_cons_self
        rcases h with h | h
        · exact absurd (Option.some.inj h) hk0
        · rw [e,Option.some.inj h];exact List.mem_cons_self
      | false =>
        rw [q] at h
        exact List.mem_cons_of_mem _ (ih h hr)

theorem relabel_of_free {scope:Scope} {env:Env} {x:Str} (h:scope.names.lookup x=some .free):(relabel scope env).names.lookup x=some .cell∨(relabel scope env).names.lookup x=some .free:=by
  unfold relabel
  simp only
  generalize scope.names=names at h
  induction names with
  | nil=>cases h
  | cons y r ih =>
    obtain ⟨n,k⟩:=y
    rw [List.map_cons]
    rw [List.lookup_cons] at h
    by_cases hk:(k == NameKind.free && env.scope.kind == .function && env.kindOf n == some .cell)=true
    · simp only [hk,if_true,List.lookup_cons]
      cases q:x == n with
      | true=>exact .inl rfl
      | false=>rw [q] at h;exact ih h
    · simp only [hk,Bool.false_eq_true,if_false,List.lookup_cons]
      cases q:x == n with
      | true=>rw [q] at h;exact .inr h
      | false=>rw [q] at h;exact ih h

noncomputable def cxComp (X:Cx) (scope:Scope) (N:List Str) (fp:List Addr) (s:Shared) (H:Hp):Cx :=
  { X with N:=N,s₀ := s,H₀ := H,env:=compEnvC scope (capsOf X.env.cells scope.names []) s.heap.objs.size X.env,outer:=X.stack,ex:=fp,fn:=fun _=>false,pn := [],xe:=fun _ _=>False }

structure CompScope (X:Cx) (scope:Scope) (own:List Str) (caps:List (Str × Nat)):Prop where
  kind:scope.kind = .function
  nocell:∀ y∈scope.names,y.2 ≠ .cell
  locs:∀ y∈scope.names,y.2 = .local→scope.names.lookup y.1=some .local
  frees:∀ y∈scope.names,y.2 = .free→X.env.kindOf y.1=some .cell
  own:∀ x∈own,scope.names.lookup x=some .local
  caps:∀ p∈caps,X.N[p.2]? = some p.1∧X.env.kindOf p.1=some .cell∧scope.names.lookup p.1=some .free

noncomputable def capt (σ : St) (caps:List (Str × Nat)):St:=caps.map fun p=>(σ[p.2]?).join
section
variable {X:Cx} {scope:Scope} {own:List Str} {caps:List (Str × Nat)} {pins:List (Addr × Obj)} {σ : St} {H:Hp} {s:Shared} {fp:List Addr}
theorem comp_ok (S:CompScope X scope own caps) (I:Inv X pins σ H s) (hf:∀ b∈fp,FpOk X pins H b) (hl:∀ b∈fp,b < s.heap.objs.size):(cxComp X scope (own ++ caps.map (·.1)) fp s H).Ok where
  mod:=I.ok.mod
  kind:=S.kind
  glob:=I.ok.glob
  blt:=I.ok.blt
  above:=Nat.le_refl _
  inj:=fun x y c h1 h2=>I.ok.inj x y c (caps_cells h1) (caps_cells h2)
  has:=fun x h=>by
    have hm:=relabel_free S.nocell h
    obtain ⟨c,hc⟩:=I.ok.has x (.inl (S.frees _ hm rfl))
    exact Option.isSome_iff_exists.mp (capsOf_has hm (by rw [hc];rfl))
  cab:=fun x c h _=>nomatch h
  hd:=I.ok.hd
  frames:=I.ok.frames
  stk := .inl rfl
  exf:=fun b hb=>⟨Nat.ne_of_lt (hl b hb),fun x c h=>(hf b hb).2.2.2.2.1 x c (caps_cells h)⟩
  bs:=I.bs
  bsz:=Nat.le_trans I.ok.bsz I.sz
  noex:=fun b o e hb=>by
    rcases (hf b hb).2.2.2.1 with z | z
    · exact I.ok.noex b o e z
    · exact absurd (Nat.lt_of_lt_of_le (Nat.lt_of_lt_of_le (Heap.lt_size e) I.ok.bsz) z) (Nat.lt_irrefl _)
  exfs:=fun b hb z=>by
    rcases List.mem_cons.mp (I.stkSub b z) with e | e
    · exact (hf b hb).2.1 e
    · exact (hf b hb).2.2.1 e
  funs:=I.stack
  frf:=I.stkFree
theorem comp_start (S:CompScope X scope own caps) (I:Inv X pins σ H s) (hf:∀ b∈fp,FpOk X pins H b) (hl:∀ b∈fp,b < s.heap.objs.size) {h1:Heap} {m:Str→Option Value} {t:Nat} (hn:h1.Ns s.heap.objs.size m)
    (hk:∀ b o,s.heap.get? b=some o→h1.get? b=some o):Inv (cxComp X scope (own ++ caps.map (·.1)) fp s H) [] (List.replicate own.length none ++ capt σ caps) H { s with heap:=h1,toks:=t }:=by
  refine ⟨comp_ok S I hf hl,rfl,I.bare,Un.kept hk,⟨m,hn,fun i y v e1 e2 e3 => ?_⟩,fun x c e => ?_,I.hok.fresh (Nat.le_refl _),fun x c e=>I.freeC x c (caps_cells e),(fun p hp=>by cases hp),I.hok.kept hk,?_⟩
  · have hi:own.length≤i:=by
      by_cases hi:i < own.length
      · rw [List.getElem?_append_left (by simpa using hi),List.getElem?_replicate,if_pos hi] at e2
        cases e2
      · omega
    rw [List.getElem?_append_right (by simpa using hi),List.length_replicate] at e2
    unfold capt at e2
    rw [List.getElem?_map] at e2
    have e1':(own ++ caps.map (·.1))[i]? = some y:=e1
    rw [List.getElem?_append_right hi,List.getElem?_map] at e1'
    cases q:caps[i - own.length]? with
    | none=>rw [q] at e2;cases e2
    | some p =>
      rw [q] at e1' e2
      have ey:p.1=y:=Option.some.inj e1'
      have ev:(σ[p.2]?).join=some v:=Option.some.inj e2
      have eσ : σ[p.2]? = some (some v):=by
        cases z : σ[p.2]? with
        | none=>rw [z] at ev;cases ev
        | some w'=>rw [z] at ev;rw [show w'=some v from ev]
      obtain ⟨hN,hkind,hfree⟩:=S.caps p (List.mem_of_getElem? q)
      rw [ey] at hN hkind hfree
      obtain ⟨mX,hnX,hlX⟩:=I.loc
      obtain ⟨u,ru,lk⟩:=hlX p.2 y v hN eσ (.inr (.inl hkind))
      refine ⟨u,ru,?_⟩
      rcases lk with ⟨k1,_⟩ | ⟨_,c,hc,hcell⟩
      · rw [hkind] at k1;cases k1
      · have hm:=relabel_free S.nocell (relabel_of_free (env:=X.env) hfree)
        obtain ⟨c',hc'⟩:=Option.isSome_iff_exists.mp (capsOf_has (acc := []) hm (by rw [hc];rfl))
        have:=caps_cells hc'
        rw [hc] at this;cases this
        obtain ⟨o,ho,hd⟩:=hcell
        exact .inr ⟨relabel_of_free (env:=X.env) hfree,c,hc',⟨o,hk _ _ ho,hd⟩⟩
  · obtain ⟨v,o,ho,hd⟩:=I.cell x c (caps_cells e)
    exact ⟨v,o,hk _ _ ho,hd⟩
  · show _=(own ++ caps.map (·.1)).length
    simp [capt]
theorem comp_back {N:List Str} {τ : St} {H':Hp} {s':Shared} (I:Inv X pins σ H s) (J:Inv (cxComp X scope N fp s H) [] τ H' s') (hf:∀ b∈fp,FpOk X pins H b):Inv X pins σ H' s' :=
  I.call' (ch:=fp) J.os J.base J.hok J.bare fun b hb=>by
    obtain ⟨_,f1,_,f3,f4,f5⟩:=hf b hb
    exact ⟨f3,f1,f4,f5⟩
theorem comp_go {prog:Program} {w:World} {A:Around} {R:Result→Shared→Prop} {elt target iter:Expr} {pos:Pos} {it acc:Value} {env:Env} (Iv:Nat→Shared→Prop)
    (turn:∀ n s,Iv n s→wpAny (model prog w) A (pyNext it) (fun r s₁ => match r with
      | none=>R (.ok .next) s₁
      | some v=>wpAny (model prog w) A (letOwnedTupleGo target it v) (fun _ s₂ => wpAny (model prog w) A (assign target env v) (fun _ s₃ => wpAny (model prog w) A (eval elt env) (fun x s₄ =>
              wpAny (model prog w) A (call (.builtin "list.append") [acc,x]) (fun _ s₅ => ∃ m,m < n∧Iv m s₅) (fun _ _=>False) s₄) (fun _ _=>False) s₃) (fun _ _=>False) s₂) (fun _ _=>False) s₁) (fun _ _=>False) s)
    (n:Nat) (h:Iv n s):codeAny (model prog w) A (.compLoop (.ListComp elt [⟨target,iter, [],0⟩] scope pos) 0 it acc env) R s:=by
  refine codeAny_loop rfl Iv (fun n s hI => ?_) n h
  show wpAny _ A ((compTurn (.ListComp elt [⟨target,iter, [],0⟩] scope pos) 0 it acc env).onRaise (fun x=>do noteFrame x env;theTreesLotGoes x)) _ _ s
  refine wpAny_noted ?_
  rw [compTurn_list]
  refine wpAny_bind (wpAny_standAt (wpAny_bind (wpAny_mono (turn n s hI) (fun r s₁ h₁ => ?_) fun _ _ z=>z.elim)))
  cases r with
  | none=>exact wpAny_pure h₁
  | some v =>
    refine wpAny_bind (wpAny_mono h₁ (fun _ s₂ h₂ => wpAny_bind (wpAny_mono h₂ (fun _ s₃ h₃ => wpAny_bind (wpAny_tests_nil ?_)) fun _ _ z=>z.elim)) fun _ _ z=>z.elim)
    exact wpAny_bind (wpAny_bind (wpAny_mono h₃ (fun x s₄ h₄ => wpAny_bind (wpAny_mono h₄ (fun _ s₅ h₅ => wpAny_pure (wpAny_pure ⟨rfl,h₅⟩)) fun _ _ z=>z.elim)) fun _ _ z=>z.elim))

noncomputable def CompBody (J:It) (g:TG) (te:TE) (τ0:St) (H1:Hp) (Q:VK):Prop := ∀ D,H1 D=none→∃ W:Nat→Nat→St→List V→Hp→Prop,
  (∃ m,W 0 m τ0 [] (upd H1 D (.lst []))) ∧
  ∀ i m τ ys H,W i m τ ys H→H D=some (.lst ys)∧((J.stop i H∧Q (.ref D) H)∨(J.go i H∧ys.length < sizeLine∧∀ x H',J.yld i H x H'→g x τ H' fun τ2 H2=>te τ2 H2 fun y H3 =>
    H3 D=some (.lst ys)∧∃ m',m' < m∧W (i+1) m' τ2 (ys ++ [y]) (upd H3 D (.lst (ys ++ [y])))))
noncomputable def tComp (wi:TI) (g:TG) (te:TE) (k:Nat) (caps:List (Str × Nat)):TE:=fun σ H Q=>wi σ H fun J H1=>CompBody J g te (List.replicate k none ++ capt σ caps) H1 Q

theorem comp_core {tg elt iter:Expr} {wi:TI} {g:TG} {te:TE} {pos p2:Pos} {use:Option (Value→Sem Unit)} {Q:VK} {Q':Value→Shared→Prop} (S:CompScope X scope own caps) (hi:PI X tg iter wi) (hc:X.calm=true)
    (hg:∀ fp s H,PG (cxComp X scope (own ++ caps.map (·.1)) fp s H) tg g) (he:∀ fp s H,PE (cxComp X scope (own ++ caps.map (·.1)) fp s H) elt te)
    (I:Inv X pins σ H s) (h:tComp wi g te own.length caps σ H Q)
    (fin:∀ D C H5 s5,Inv X pins σ H5 s5→Q (.ref D) H5→(∃ m,s5.heap.Ns C m)→H5 C=none→C≠X.env.locals→X.s₀.heap.objs.size≤C→(∀ x c,X.env.cells.lookup x=some c→c≠C)→(∀ p∈X.pn ++ pins,p.1≠C) →
      compPost (model X.prog X.w) X.A X.xe use Q' (.ref D) C (.ok .next) s5)
    (hs:∀ x,foldedSetIterable iter X.env x=pure x:=by intro _;rfl) :
    wpAny (model X.prog X.w) X.A (comprehension (.ListComp elt [⟨tg,iter, [],0⟩] scope pos) scope X.env p2 (newList []) false (eval iter X.env) use) Q' X.xe s:=by
  have hclos:closureFor scope X.env=pure (capsOf X.env.cells scope.names []):=closure_caps fun y hy hk=>I.ok.has y.1 (.inl (S.frees y hy hk))
  refine wpAny_comprehension_free (g:=⟨tg,iter, [],0⟩) (gs := []) rfl hs hclos S.kind S.locs (thn (hi pins s σ H _ I h) fun v s1 h1=>thn h1 fun itv s2 h2 => ?_)
  obtain ⟨it,fp,tn,J,H2,e,I2,T,st2,f2,R⟩:=h2
  subst e
  refine wpAny_newObj_type (wpAny_newFunctionEnv S.nocell (by intro y hy;simp at hy) (fun h₁ hns₁ hsb₁ => ?_) S.kind)
  have fr2:H2 s2.heap.objs.size=none:=I2.hok.fresh (Nat.le_refl _)
  obtain ⟨W,⟨m0,w0⟩,turn⟩:=R s2.heap.objs.size fr2
  have I3:Inv X pins σ (upd H2 s2.heap.objs.size (.lst [])) { s2 with heap:=s2.heap.push { cls := .type "list",dict:=none,data := .seq ([]:List Value).toArray } }:=I2.lnew (its := []) (t':=s2.toks) .nil (Nat.zero_le _)
  have lt2:∀ b∈fp,b < s2.heap.objs.size:=fun b hb=>by
    obtain ⟨o,ho,_⟩:=T.obj _ _ st2 b hb
    exact Heap.lt_size ho
  have f3:∀ b∈fp,FpOk X pins (upd H2 s2.heap.objs.size (.lst [])) b:=fun b hb=>⟨by rw [upd_ne (Nat.ne_of_lt (lt2 b hb))];exact (f2 b hb).1,(f2 b hb).2⟩
  generalize hs3:({ s2 with heap:=s2.heap.push { cls := .type "list",dict:=none,data := .seq ([]:List Value).toArray } }:Shared)=s3 at I3
  have hz3:s3.heap.objs.size=s2.heap.objs.size+1:=by rw [← hs3];exact Heap.size_push _ _
  have kp23:∀ b o,s2.heap.get? b=some o→s3.heap.get? b=some o:=fun b o e=>by rw [← hs3];exact Heap.get?_push_of_some _ e
  have lt3:∀ b∈fp,b < s3.heap.objs.size:=fun b hb=>by rw [hz3];exact Nat.lt_succ_of_lt (lt2 b hb)
  have hns₁':h₁.Ns s3.heap.objs.size (fun x=>([]:List (Str × Value)).reverse.lookup x):=by rw [← hs3];exact hns₁
  have kp31:∀ b o,s3.heap.get? b=some o→h₁.get? b=some o:=fun b o e=>by
    have hb:b≠s3.heap.objs.size:=Nat.ne_of_lt (Heap.lt_size e)
    rw [← hs3] at e hb
    exact hsb₁.extBut b o hb (Heap.get?_push_of_some _ e)
  have J1:=comp_start S I3 f3 lt3 (t:=s2.toks+([]:List (Str × Value)).length) hns₁' kp31
  have st1:tn 0 h₁ := T.keep _ _ _ st2 fun b hb o e=>kp31 b o (kp23 b o e)
  -- the loop
  have loop:∀ s₃ : Shared,s₃ = { s3 with heap:=h₁,toks:=s2.toks+([]:List (Str × Value)).length } →
      codeAny (model X.prog X.w) X.A (.compLoop (.ListComp elt [⟨tg,iter, [],0⟩] scope pos) 0 (.ref it) (.ref s2.heap.objs.size) (cxComp X scope (own ++ caps.map (·.1)) fp s3 (upd H2 s2.heap.objs.size (.lst []))).env)
        (compPost (model X.prog X.w) X.A X.xe use Q' (.ref s2.heap.objs.size) s3.heap.objs.size) s₃ := by
    rintro s₃ rfl
    refine comp_go (fun n s'=>∃ i τ ys H',Inv (cxComp X scope (own ++ caps.map (·.1)) fp s3 (upd H2 s2.heap.objs.size (.lst []))) [] τ H' s'∧tn i s'.heap∧(∀ b∈fp,H' b=none)∧W i n τ ys H') ?_ m0
      ⟨0,_, [],_,J1,st1,fun b hb=>(f3 b hb).1,w0⟩
    rintro n s' ⟨i, τ,ys,H',J',st',fr',w'⟩
    have fY:∀ {H'':Hp},(∀ b∈fp,H'' b=none)→∀ b∈fp,FpOk (cxComp X scope (own ++ caps.map (·.1)) fp s3 (upd H2 s2.heap.objs.size (.lst []))) [] H'' b:=fun hn b hb =>
      ⟨hn b hb,Nat.ne_of_lt (lt3 b hb),fun z=>by
          rcases List.mem_cons.mp (I3.stkSub b z) with e | e
          · exact (f3 b hb).2.1 e
          · exact (f3 b hb).2.2.1 e,.inl hb,fun x c e=>(f3 b hb).2.2.2.2.1 x c (caps_cells e),(fun p hp=>by cases hp)⟩
    obtain ⟨hD,tt⟩:=turn i n τ ys H' w'
    rcases tt with ⟨stop,qn⟩ | ⟨go,hlen,step⟩
    · refine thn (T.done (cxComp X scope (own ++ caps.map (·.1)) fp s3 (upd H2 s2.heap.objs.size (.lst []))) rfl rfl rfl hc i [] s' τ H' (fun _ _=>False) J' (fY fr') st' stop) fun r s4 ⟨hr,J4⟩ => ?_
      subst hr
      obtain ⟨m4,hn4,_⟩:=J4.loc
      have I5:=comp_back I3 J4 f3
      refine fin _ _ _ s4 I5 qn ⟨m4,hn4⟩ J4.free ?_ ?_ (fun x c e z => ?_) fun p hp z => ?_
      · exact Nat.ne_of_gt I3.lt
      · exact I3.sz
      · obtain ⟨v,q⟩:=I3.cell x c e
        rw [z] at q
        exact absurd q.lt (Nat.lt_irrefl _)
      · have q:=(I3.pin p hp).1
        rw [z] at q
        exact absurd (Heap.lt_size q) (Nat.lt_irrefl _)
    · refine thn (T.item (cxComp X scope (own ++ caps.map (·.1)) fp s3 (upd H2 s2.heap.objs.size (.lst []))) rfl rfl rfl hc i [] s' τ H' (fun _ _=>False) J' (fY fr') st' go) fun r s4 ⟨u,hr,h4⟩ => ?_
      subst hr
      refine thn h4 fun _ s5 ⟨x,H5,J5,r5,y5,st5,fr5⟩ => ?_
      have J5':=J5.pinned (fY fr5) (T.obj _ _ st5)
      refine thn (hg fp s3 _ _ s5 τ H5 x u _ J5' r5 (step x H5 y5)) fun _ s6 ⟨τ6,H6,J6,q6⟩ => ?_
      refine thn (he fp s3 _ _ s6 τ6 H6 _ J6 q6) fun yv s7 ⟨y,H7,J7,r7,hD7,m',hm',w7⟩ => ?_
      refine thn (mt_append (X:=cxComp X scope (own ++ caps.map (·.1)) fp s3 (upd H2 s2.heap.objs.size (.lst []))) _ s7 τ6 H7 (.ref s2.heap.objs.size) [y] _ [yv] (fun _ H8=>H8=upd H7 s2.heap.objs.size (.lst (ys ++ [y]))) J7 rfl (.cons r7 .nil) ⟨_,ys,y,rfl,rfl,hD7,hlen,rfl⟩) fun _ s8 ⟨_,H8,J8,_,e8⟩ => ?_
      subst e8
      refine ⟨m',hm',i+1, τ6,ys ++ [y],_,J8.unpinned,T.keep _ _ _ st5 fun b hb o e=>(J8.pin (b,o) (List.mem_append_right _ (List.mem_append_right _ (mem_pinsAt hb e)))).1,fun b hb => ?_,w7⟩
      obtain ⟨o,e,d⟩:=T.obj _ _ st5 b hb
      exact (J8.pin (b,o) (List.mem_append_right _ (List.mem_append_right _ (mem_pinsAt hb e)))).2.1
  have hloop:=loop _ rfl
  subst hs3
  exact codeAny_compStart_list hloop (T.self _ 0 _ _ _ st1 hloop)
theorem pe_comp {tg elt iter:Expr} {wi:TI} {g:TG} {te:TE} {pos:Pos} (S:CompScope X scope own caps) (hi:PI X tg iter wi) (hc:X.calm=true)
    (hg:∀ fp s H,PG (cxComp X scope (own ++ caps.map (·.1)) fp s H) tg g) (he:∀ fp s H,PE (cxComp X scope (own ++ caps.map (·.1)) fp s H) elt te)
    (hs:∀ x,foldedSetIterable iter X.env x=pure x:=by intro _;rfl):PE X (.ListComp elt [⟨tg,iter, [],0⟩] scope pos) (tComp wi g te own.length caps):=by
  intro pins s σ H Q I h
  rw [eval_ListComp]
  refine comp_core (use:=none) (Q:=Q) S hi hc hg he I h (fun D C H5 s5 I5 q ⟨m,hn⟩ hC hL hz hcell hpin => ?_) hs
  refine ⟨m,hn,fun h' hs' => ?_⟩
  exact ⟨.ref D,H5,I5.turned (t':=s5.toks) (fun b o hb e=>(hs'.2 b hb).trans e) hC hL (.inr hz) hcell hpin,rfl,q⟩
theorem ps_setComp {i:Nat} {y:Str} {tg elt iter:Expr} {wi:TI} {g:TG} {te:TE} {pos spos py:Pos} (hN:X.N.Nodup) (hiN:X.N[i]? = some y) (hy:X.env.scope.names.lookup y=some .local) (S:CompScope X scope own caps) (hi:PI X tg iter wi) (hc:X.calm=true)
    (hg:∀ fp s H,PG (cxComp X scope (own ++ caps.map (·.1)) fp s H) tg g) (he:∀ fp s H,PE (cxComp X scope (own ++ caps.map (·.1)) fp s H) elt te)
    (hsw:swapsWith (.ListComp elt [⟨tg,iter, [],0⟩] scope pos) (some (.Name y py)) spos.line X.env=pure true)
    (hs:∀ x,foldedSetIterable iter X.env x=pure x:=by intro _;rfl):PS X (.Assign [.Name y py] (.ListComp elt [⟨tg,iter, [],0⟩] scope pos) spos) (tAsg (tComp wi g te own.length caps) (gName i)):=by
  intro pins s σ H D I h
  rw [exec_Assign_Name_used _ _ _ _ hsw]
  refine wpAny_bind (wpAny_standAt (wpAny_bind ?_))
  show wpAny _ X.A (do let _ ← comprehension (.ListComp elt [⟨tg,iter, [],0⟩] scope pos) scope X.env _ (newList []) false (eval iter X.env) (some (assign (.Name y py) X.env))) _ _ s
  refine wpAny_bind (wpAny_mono (comp_core (use:=some (assign (.Name y py) X.env)) (Q:=fun x H1=>D.nx (σ.set i (some x)) H1) (Q':=fun _ s'=>SP X pins D .next s') S hi hc hg he I h (fun A C H5 s5 I5 q ⟨m,hn⟩ hC hL hz hcell hpin => ?_) hs)
    (fun _ s' hq=>wpAny_pure (wpAny_pure hq)) fun _ _ e=>e)
  show wpAny _ X.A (assign (.Name y py) X.env (.ref A)) _ _ _
  refine wpAny_assign_Name (store_ok2 I5 hN hiN (.inl hy) (v := .ref A) rfl (fun s6 I6 ⟨a,hsb,ha⟩ => ?_) (.inr hy))
  have haC:C≠a:=by
    rcases ha with ha | ha
    · rw [ha];exact hL
    · exact fun z=>hcell y a ha z.symm
  refine ⟨m,hn.sameBut hsb haC,fun h' hs' => ?_⟩
  exact ⟨_,H5,I6.turned (t':=s6.toks) (fun b o hb e=>(hs'.2 b hb).trans e) hC hL (.inr hz) hcell hpin,q⟩
end
end L2
namespace L2
open PySem PySem.Spec PyProof.Rows

structure Has (P:Program) (w:World) (K:PySem.W.Frag) (mg:Str→Option Value) (base:Heap) (k:Nat) (x:Str) (ps:List Str) (sp:Sp):Prop where
  ex:∃ f fd,FnOk P w K mg base CX0 k f fd ps sp∧mg x=some (.ref f)∧PySem.W.keepIn K (.ref f)=true∧Binds K fd ps []
section
variable {X:Cx} {k k':Nat} {x:Str} {ps:List Str} {sp:Sp} {p pos:Pos} {e:Expr} {es:List Expr} {t:TA}
theorem pe_callH (h:Has X.prog X.w X.K X.mg X.base k x ps sp) (hr:Room k' X.A) (hk:k≤k') (hg:Gl X x) (ha:PA X (e :: es) t) (hdb:(x == ("__debug__" : Str))=false:=by decide)
    (he:starEach (e :: es) X.env=(false,eval e X.env) :: starEach es X.env:=by rfl) (hpl:(backTo pos (starEach es X.env)).any (·.1)=false:=by rfl) :
    PE X (.Call (.Name x p) (e :: es) [] pos) (tCall sp [] E0 t):=by
  obtain ⟨f,fd,F,hm,hkp,hb⟩:=h.ex
  exact pe_call F (hr.mono hk) hg hm hkp hb .nil pass0 ha hdb he hpl
end
structure Def (K:PySem.W.Frag) (mg:Str→Option Value) (x:Str) (st:Stmt) (ps:List Str):Prop where
  ex:∃ f fd,Fun K x x st f fd∧mg x=some (.ref f)∧Binds K fd ps []
theorem Def.has {P:Program} {w:World} {K:PySem.W.Frag} {mg:Str→Option Value} {base:Heap} {x:Str} {st:Stmt} {N ps:List Str} {k:Nat} {sp:Sp} (D:Def K mg x st ps) (S:FnScope N ps (defScope st)) (len:∀ vs H Q E,sp vs H Q E→vs.length=ps.length)
    (hbody:∀ (f:Addr) (cdv:Value) (A:Around) (outer:List Env) (s:Shared) (H:Hp) (vs:List V) (Q:VK) (E:XK),Room k (A.deeper (envOfC x (defScope st) s.heap.objs.size f cdv))→sp vs H Q E →
      ∃ t,PSs (cxOf CX0 P w K mg base N x (defScope st) f cdv A outer s H E).nox (defBody st) t∧t { nx:=fun _ H'=>Q .non H',rt:=Q } (start N vs) H):Has P w K mg base (k+1) x ps sp:=by
  obtain ⟨f,fd,F,hm,hb⟩:=D.ex
  exact ⟨f,fd,F.ok S len (hbody f),hm,F.kp,hb⟩

theorem same_new {H:Hp} {p:Addr} (h:H p=none) (o:HO):Same H (upd H p o):=fun b u q=>by rw [upd_ne (ne_of_none q h)];exact q
theorem Same.put {H0 H:Hp} {p:Addr} {o:HO} (e:Same H0 H) (h:H0 p=none):Same H0 (upd H p o):=fun b u q=>by rw [upd_ne (ne_of_none q h)];exact e b u q

theorem comp_list {K:PySem.W.Frag} {a:Addr} {xs:List V} {te:TE} {σ : St} {caps:List (Str × Nat)} {H:Hp} {Q:VK} (f:V→V) (hS:SqL K H a xs) (hz:xs.length≤1000)
    (hel:∀ x∈xs,∀ H',Same H H'→∀ Q':VK,Q' (f x) H'→te (some x :: capt σ caps) H' Q') (hq:∀ D,H D=none→Q (.ref D) (upd H D (.lst (xs.map f)))) :
    CompBody (Itl K a) (gName 0) te (List.replicate 1 none ++ capt σ caps) H Q:=by
  intro D hD
  refine ⟨fun i m τ ys H'=>m=xs.length - i∧i≤xs.length∧(∃ o, τ = o :: capt σ caps)∧ys=(xs.take i).map f∧H'=upd H D (.lst ys),⟨xs.length,by simp,Nat.zero_le _,⟨none,rfl⟩,by simp,rfl⟩,?_⟩
  rintro i m τ ys H' ⟨rfl,hi,⟨o,rfl⟩,rfl,rfl⟩
  have sm:Same H (upd H D (.lst ((xs.take i).map f))):=same_new hD _
  refine ⟨upd_same,?_⟩
  by_cases hlt:i < xs.length
  · refine .inr ⟨⟨xs,xs[i],sm.seq hS,by simp [hlt]⟩,?_,fun x H'' y => ?_⟩
    · rw [List.length_map,List.length_take]
      exact small1000 (by omega)
    obtain ⟨e,y⟩:=y
    subst e
    have hx:=y xs (sm.seq hS)
    show te (some x :: capt σ caps) _ _
    refine hel x (List.mem_of_getElem? hx) _ sm _ ?_
    refine ⟨upd_same,xs.length - (i+1),by omega,rfl,hlt,⟨_,rfl⟩,?_,?_⟩
    · rw [List.take_add_one,hx,List.map_append];rfl
    · rw [upd_upd]
  · have e:i=xs.length:=by omega
    subst e
    refine .inl ⟨⟨xs,sm.seq hS,Nat.le_refl _⟩,?_⟩
    rw [List.take_length]
    exact hq D hD
noncomputable def checkComp (xsc:Scope) (xN:List Str) (scope:Scope) (own:List Str) (caps:List (Str × Nat)):Bool :=
  scope.names.all (fun y=>y.2 != .cell) && scope.names.all (fun y=>y.2 != .local || scope.names.lookup y.1 == some .local) && scope.names.all (fun y=>y.2 != .free || xsc.names.lookup y.1 == some .cell)
    && own.all (fun x=>scope.names.lookup x == some .local) && caps.all (fun p=>xN[p.2]? == some p.1 && xsc.names.lookup p.1 == some .cell && scope.names.lookup p.1 == some .free)
theorem comp_scope {X:Cx} {scope:Scope} {own:List Str} {caps:List (Str × Nat)} (xsc:Scope) (xN:List Str) (hx:X.env.scope=xsc) (hN:X.N=xN) (hk:scope.kind = .function) (c:checkComp xsc xN scope own caps=true):CompScope X scope own caps:=by
  unfold checkComp at c
  simp only [Bool.and_eq_true,List.all_eq_true,Bool.or_eq_true,bne_iff_ne,beq_iff_eq,ne_eq] at c
  obtain ⟨⟨⟨⟨c1,c2⟩,c3⟩,c4⟩,c5⟩:=c
  refine ⟨hk,c1,fun y hy e => ?_,fun y hy e => ?_,c4,fun p hp => ?_⟩
  · rcases c2 y hy with z | z
    · exact absurd e z
    · exact z
  · rcases c3 y hy with z | z
    · exact absurd e z
    · show X.env.scope.names.lookup y.1=_
      rw [hx];exact z
  · obtain ⟨⟨z1,z2⟩,z3⟩:=c5 p hp
    refine ⟨by rw [hN];exact z1,?_,z3⟩
    show X.env.scope.names.lookup p.1=_
    rw [hx];exact z2
structure Blt (mg:Str→Option Value):Prop where
  len_:mg "len" = none
  min_:mg "min" = none
  max_:mg "max" = none
  sum_:mg "sum" = none
  range_:mg "range" = none
  enumerate_:mg "enumerate" = none
  isinstance_:mg "isinstance" = none
  tuple_:mg "tuple" = none
  int_:mg "int" = none
  bool_:mg "bool" = none
  str_:mg "str" = none
  list_:mg "list" = none
theorem boot_max_:bootBuiltins "max" = some (.builtin "max"):=by decide +kernel
theorem boot_isinstance_:bootBuiltins "isinstance" = some (.builtin "isinstance"):=by decide +kernel
theorem boot_tuple_:bootBuiltins "tuple" = some (.type "tuple"):=by decide +kernel
theorem boot_int_:bootBuiltins "int" = some (.type "int"):=by decide +kernel
theorem boot_bool_:bootBuiltins "bool" = some (.type "bool"):=by decide +kernel
theorem boot_str_:bootBuiltins "str" = some (.type "str"):=by decide +kernel
theorem pos' {j:Int} (h:decide (0 < j)=true:=by decide):0 < j:=of_decide_eq_true h
theorem div' {i j:Int} (h:(decide (0 < j) && decide (j < 1073741824))=true:=by decide):CDiv i j :=
  ⟨of_decide_eq_true (Bool.and_eq_true_iff.mp h).1,of_decide_eq_true (Bool.and_eq_true_iff.mp h).2⟩
theorem iteD {c A B:Prop} [Decidable c] (h1:c→A) (h2:¬ c→B):if decide c=true then A else B:=by
  by_cases h:c
  · rw [decide_eq_true h];exact iteT (h1 h)
  · rw [decide_eq_false h];exact iteF (h2 h)
theorem iteDN {c A B:Prop} [Decidable c] (h1:¬ c→A) (h2:c→B):if (!decide c)=true then A else B:=by
  by_cases h:c
  · rw [decide_eq_true h];exact iteF (h2 h)
  · rw [decide_eq_false h];exact iteT (h1 h)
end L2
namespace L2
open PySem PySem.Spec PyProof.Rows

noncomputable def F2 (h:Heap) (e:Addr) (x:Value):Prop := ∃ o vs,h.get? e=some o∧o.data = .fields vs∧vs[2]? = some x
noncomputable def Ctx0 (h:Heap) (e:Addr):Prop:=F2 h e .none
theorem F2.other {h:Heap} {e b:Addr} {x:Value} {f:Obj→Obj} (c:F2 h e x) (n:b≠e):F2 (h.update b f) e x:=by
  obtain ⟨o,vs,a,d,i⟩:=c
  exact ⟨o,vs,(Heap.get?_update_other _ _ n).trans a,d,i⟩
section
variable {M:Model} {A:Around} {E:Value→Shared→Prop} {s:Shared}
inductive Entered (l:List Env) (e:Addr) (oe:Obj) (L:Addr) (h h':Heap):Prop
  | mk (T:Addr) (oT:Obj) (ts:Array Value) (old:∀ b o,b≠e→b ∉ l.filterMap (·.frame)→h.get? b=some o→h'.get? b=some o) (slots:∀ b o,b≠e→h.get? b=some o→∃ sl,h'.get? b=some { o with slots:=sl })
    (own:h'.get? e=some (oe.mapFields (·.setIfInBounds 1 (.ref T)))) (new:h.get? T=none) (ne:T≠e) (size:h.objs.size≤T) (there:h'.get? T=some oT) (data:oT.data = .fields ts) (fl:ts[3]? = some (rawInt L)):Entered l e oe L h h'
theorem entry_on {base:Heap} {env:Env} {outer:List Env} {L e:Addr} {oe:Obj} {vs:Array Value} {hd:Value} {nx:Bool} {Q:Unit→Shared→Prop}
    (af:A.frames=some (env :: outer)) (ff:s.heap.FunFrames base (env :: outer)) (fL:env.frame=some L) (ge:s.heap.get? e=some oe) (gd:oe.data = .fields vs) (gz:1 < vs.size)
    (k:∀ h',Entered (env :: outer) e oe L s.heap h'→Q () { s with heap:=h' }) :
    wpAny M A (do let a ← frameOf env;let pl ← entryPlaceOf L nx;let b ← EntryCells.newEntry hd a .none (rawInt L) .none pl;setField (.ref e) 1 b) Q E s:=by
  have hne:e ∉ (env :: outer).filterMap (·.frame):=fun m=>by
    obtain ⟨_,o,q,nf⟩:=ff.mem m
    rw [ge] at q
    cases q
    exact nf vs gd
  refine wpAny_bind (wpAny_frameOf_fun af ff fL fun h1 sl => ?_)
  refine wpAny_bind (wpAny_entryPlaceOf fun pl hp => ?_)
  unfold EntryCells.newEntry newFields
  refine wpAny_bind (wpAny_newObj_type ?_ (hp.sizeOk5 _ _ _ _ _))
  have g1:h1.get? e=some oe:=(sl.2.1 e hne).trans ge
  generalize hO:({ cls := .type "traceback",dict:=none,data := .fields ([hd,.ref L,.none,rawInt L,.none] ++ (if pl.isEmpty then List.replicate 6 Value.none else pl)).toArray }:Obj)=oT
  have g2:=Heap.get?_push_of_some (h:=h1) oT g1
  refine wpAny_setField g2 gd gz (k _ ?_)
  have nT:h1.objs.size≠e:=Nat.ne_of_gt (Heap.lt_size g1)
  have dd:=Obj.data_mapFields gd (·.setIfInBounds 1 (Value.ref h1.objs.size))
  have up:∀ b o,b≠e→h1.get? b=some o→((h1.push oT).update e (Obj.mapFields (·.setIfInBounds 1 (Value.ref h1.objs.size)))).get? b=some o:=fun b o n q=>by
    rw [Heap.get?_update_other _ _ (Ne.symm n)]
    exact Heap.get?_push_of_some _ q
  refine ⟨h1.objs.size,oT,_,fun b o n m q=>up b o n ((sl.2.1 b m).trans q),fun b o n q => ?_,Heap.get?_update_self _ g2 (Obj.isFreed_of_fields dd),Heap.get?_none_of_le (Nat.le_of_eq sl.1.symm),nT,Nat.le_of_eq sl.1.symm,?_,(by rw [← hO]),?_⟩
  · obtain ⟨x,q'⟩:=sl.2.2 b o q
    exact ⟨x,up b _ n q'⟩
  · rw [Heap.get?_update_other _ _ (Ne.symm nT)]
    exact Heap.get?_push_size h1 (by rw [← hO];rfl)
  · first
      | (simp;done)
      | (rcases hp with rfl | ⟨_,_,_,_,_,_,_,rfl⟩ <;> simp)
theorem Entered.noted {base:Heap} {l:List Env} {e L:Addr} {oe:Obj} {vs:Array Value} {a0:Value} {h h':Heap} (x:Entered l e oe L h h') (kb:base.StaysIn h) (be:base.get? e=none) (ff:h.FunFrames base l) (gd:oe.data = .fields vs) (gz:1 < vs.size) (g0:vs[0]? = some a0) (ge:h.get? e=some oe) :
    Heap.NotedW base l e oe.cls a0 (rawInt L) h h':=by
  obtain ⟨T,oT,ts,old,slots,own,new,ne,size,there,data,fl⟩:=x
  have nr:∀ b o,h.get? b=some o→(∀ ws,o.data ≠ .fields ws)→b≠e:=fun b o q nf z=>by
    rw [z,ge] at q
    cases q
    exact nf vs gd
  refine ⟨fun b o q=>old b o (fun z=>by rw [z,be] at q;cases q) (fun m=>by rw [(ff.mem m).1] at q;cases q) (kb b o q),ff.of_keeps fun b o q nf => ?_,?_,fun b o q nf=>slots b o (nr b o q nf) q⟩
  · obtain ⟨sl,q'⟩:=slots b o (nr b o q nf) q
    exact ⟨_,q',rfl⟩
  · refine ⟨_,_,T,oT,ts,own,⟨Obj.cls_mapFields _ _,?_⟩,Obj.data_mapFields gd _,by simp [gz],?_,ne,there,data,fl⟩
    · rw [Array.getElem?_setIfInBounds_ne (by decide)];exact g0
    · cases q:base.get? T with
      | none=>rfl
      | some o=>have:=kb _ _ q;rw [new] at this;cases this
theorem Entered.ctx {l:List Env} {e L:Addr} {oe:Obj} {vs:Array Value} {h h':Heap} {y:Value} (x:Entered l e oe L h h') (gd:oe.data = .fields vs) (ge:h.get? e=some oe) (c:F2 h e y):F2 h' e y:=by
  obtain ⟨T,oT,ts,old,slots,own,new,ne,size,there,data,fl⟩:=x
  obtain ⟨o,ws,q1,q2,q3⟩:=c
  rw [ge] at q1
  cases q1
  rw [gd] at q2
  cases q2
  exact ⟨_,_,own,Obj.data_mapFields gd _,by rw [Array.getElem?_setIfInBounds_ne (by decide)];exact q3⟩
theorem note_new {base:Heap} {env:Env} {outer:List Env} {L e:Addr} {oe:Obj} {vs:Array Value} {a0:Value} {Q:Unit→Shared→Prop} (af:A.frames=some (env :: outer)) (ff:s.heap.FunFrames base (env :: outer)) (fL:env.frame=some L)
    (ge:s.heap.get? e=some oe) (kb:base.StaysIn s.heap) (be:base.get? e=none) (gd:oe.data = .fields vs) (g1:vs[1]? = some .none) (g0:vs[0]? = some a0)
    (k:∀ h',Heap.HeldW base (env :: outer) e oe.cls a0 L h'→s.heap.UpToSlots h'→(∀ y,F2 s.heap e y→F2 h' e y)→Q () { s with heap:=h' }):wpAny M A (noteFrame (.ref e) env) Q E s:=by
  have gz:=(Array.getElem?_eq_some_iff.mp g1).1
  unfold noteFrame
  simp only [fL]
  refine wpAny_bind (wpAny_field ge gd g1 ?_)
  rw [if_neg (by decide)]
  refine entry_on af ff fL ge gd gz fun h' x => ?_
  obtain ⟨n1,n2,n3,n4⟩:=x.noted kb be ff gd gz g0 ge
  exact k h' ⟨n1,be,n2,n3⟩ n4 fun y c=>x.ctx gd ge c
theorem note_on {base:Heap} {env:Env} {outer:List Env} {L e:Addr} {cls a0:Value} {Q:Unit→Shared→Prop} (af:A.frames=some (env :: outer)) (fL:env.frame=some L) (fl:Heap.FlyingW base (env :: outer) e cls a0 s.heap)
    (k:∀ h',Heap.HeldW base (env :: outer) e cls a0 L h'→s.heap.UpToSlots h'→(∀ y,F2 s.heap e y→F2 h' e y)→Q () { s with heap:=h' }):wpAny M A (noteFrame (.ref e) env) Q E s:=by
  obtain ⟨kb,be,ff,oe,vs,Tr,oT,ts,ge,⟨gc,g0⟩,gd,g1,bT,nTe,gT,dT,g3⟩:=fl
  subst gc
  have gz:=(Array.getElem?_eq_some_iff.mp g1).1
  unfold noteFrame
  simp only [fL]
  refine wpAny_bind (wpAny_field ge gd g1 ?_)
  rw [if_pos (show (Value.ref Tr != Value.none)=true by simp)]
  refine wpAny_bind (wpAny_field gT dT g3 ?_)
  rw [if_neg (show ¬ ((Value.none == rawInt L)=true) by simp [rawInt])]
  refine wpAny_bind (wpAny_setField gT dT (Array.getElem?_eq_some_iff.mp g3).1 ?_)
  have ot:∀ b,b≠Tr→(s.heap.update Tr (Obj.mapFields (·.setIfInBounds 3 Value.none))).get? b=s.heap.get? b:=fun b n=>Heap.get?_update_other _ _ (Ne.symm n)
  have nr:∀ b o,s.heap.get? b=some o→(∀ ws,o.data ≠ .fields ws)→b≠Tr:=fun b o q nf z=>by
    rw [z,gT] at q
    cases q
    exact nf ts dT
  have ff1:=ff.of_keeps (h':=s.heap.update Tr (Obj.mapFields (·.setIfInBounds 3 Value.none))) fun b o q nf=>⟨o,(ot b (nr b o q nf)).trans q,rfl⟩
  have kb1:base.StaysIn (s.heap.update Tr (Obj.mapFields (·.setIfInBounds 3 Value.none))):=fun b o q=>(ot b fun z=>by rw [z,bT] at q;cases q).trans (kb b o q)
  have ge1:=(ot e (Ne.symm nTe)).trans ge
  refine entry_on (s := { s with heap:=_ }) af ff1 fL ge1 gd gz fun h' x => ?_
  obtain ⟨n1,n2,n3,n4⟩:=x.noted kb1 be ff1 gd gz g0 ge1
  exact k h' ⟨n1,be,n2,n3⟩ (fun b o q nf=>n4 b o ((ot b (nr b o q nf)).trans q) nf) fun y c=>x.ctx gd ge1 (c.other nTe)
theorem flight_off {base:Heap} {l:List Env} {e:Addr} {cls a0 m:Value} {Q:Unit→Shared→Prop} (kb:base.StaysIn s.heap) (be:base.get? e=none) (ff:s.heap.FunFrames base l) (tr:s.heap.TracedAtW base e cls a0 m)
    (k:∀ h',Heap.FlyingW base l e cls a0 h'→s.heap.UpToSlots h'→(∀ y,F2 s.heap e y→F2 h' e y)→Q () { s with heap:=h' }):wpAny M A (setFlight (.ref e) none) Q E s:=by
  obtain ⟨oe,vs,Tr,oT,ts,ge,gc,gd,g1,bT,nTe,gT,dT,g3⟩:=tr
  have z3:=(Array.getElem?_eq_some_iff.mp g3).1
  have ot:∀ b,b≠Tr→(s.heap.update Tr (Obj.mapFields (·.setIfInBounds 3 ((none:Option Addr).elim Value.none fun f=>rawInt f)))).get? b=s.heap.get? b:=fun b n=>Heap.get?_update_other _ _ (Ne.symm n)
  have nr:∀ b o,s.heap.get? b=some o→(∀ ws,o.data ≠ .fields ws)→b≠Tr:=fun b o q nf z=>by
    rw [z,gT] at q
    cases q
    exact nf ts dT
  unfold setFlight
  refine wpAny_bind (wpAny_field ge gd g1 ?_)
  rw [if_pos (show (Value.ref Tr != Value.none)=true by simp)]
  refine wpAny_setField gT dT z3 (k _ ⟨fun b o q=>(ot b fun z=>by rw [z,bT] at q;cases q).trans (kb b o q),be,ff.of_keeps fun b o q nf=>⟨o,(ot b (nr b o q nf)).trans q,rfl⟩,?_⟩ (fun b o q nf=>⟨o.slots,(ot b (nr b o q nf)).trans q⟩) fun y c=>c.other nTe)
  exact ⟨oe,vs,Tr,_,_,(ot e (Ne.symm nTe)).trans ge,gc,gd,g1,bT,nTe,Heap.get?_update_self _ gT (Obj.isFreed_of_fields (Obj.data_mapFields dT _)),Obj.data_mapFields dT _,by simp [z3]⟩
theorem leave_on {base:Heap} {env:Env} {outer:List Env} {L e:Addr} {cls a0:Value} {Q:Unit→Shared→Prop} (af:A.frames=some (env :: outer)) (fL:env.frame=some L) (fl:Heap.FlyingW base (env :: outer) e cls a0 s.heap)
    (k:∀ h',Heap.FlyingW base outer e cls a0 h'→s.heap.UpToSlots h'→(∀ y,F2 s.heap e y→F2 h' e y)→Q () { s with heap:=h' }):wpAny M A (leaving env (.ref e)) Q E s:=by
  unfold leaving
  refine wpAny_bind (note_on af fL fl fun h1 hh sl c1 => ?_)
  obtain ⟨n1,n2,n3,n4⟩:=hh
  refine flight_off (s := { s with heap:=h1 }) n1 n2 n3 n4 fun h2 f2 sl2 c2 => ?_
  obtain ⟨m1,m2,⟨_,_,m3⟩,m4⟩:=f2
  exact k h2 ⟨m1,m2,m3,m4⟩ (sl.trans sl2) fun y c=>c2 y (c1 y c)
theorem leave_new {base:Heap} {env:Env} {outer:List Env} {L e:Addr} {oe:Obj} {vs:Array Value} {a0:Value} {Q:Unit→Shared→Prop} (af:A.frames=some (env :: outer)) (ff:s.heap.FunFrames base (env :: outer)) (fL:env.frame=some L)
    (ge:s.heap.get? e=some oe) (kb:base.StaysIn s.heap) (be:base.get? e=none) (gd:oe.data = .fields vs) (g1:vs[1]? = some .none) (g0:vs[0]? = some a0)
    (k:∀ h',Heap.FlyingW base outer e oe.cls a0 h'→s.heap.UpToSlots h'→(∀ y,F2 s.heap e y→F2 h' e y)→Q () { s with heap:=h' }):wpAny M A (leaving env (.ref e)) Q E s:=by
  unfold leaving
  refine wpAny_bind (note_new af ff fL ge kb be gd g1 g0 fun h1 hh sl c1 => ?_)
  obtain ⟨n1,n2,n3,n4⟩:=hh
  refine flight_off (s := { s with heap:=h1 }) n1 n2 n3 n4 fun h2 f2 sl2 c2 => ?_
  obtain ⟨m1,m2,⟨_,_,m3⟩,m4⟩:=f2
  exact k h2 ⟨m1,m2,m3,m4⟩ (sl.trans sl2) fun y c=>c2 y (c1 y c)
end
end L2
namespace L2
open PySem PySem.Spec PyProof.Rows

section
variable {P:Program} {w:World} {H H':Hp} {h h':Heap} {a:Addr} {o:HO}
theorem ObjOk.there (x:ObjOk P w H h a o):∃ ob,h.get? a=some ob:=by
  cases o with
  | lst xs=>obtain ⟨_,_,_,_,e⟩:=x;exact ⟨_,e⟩
  | tup xs=>obtain ⟨_,_,_,_,e,_⟩:=x;exact ⟨_,e⟩
  | dK kvs=>obtain ⟨_,_,_,_,o,_,_,e,_⟩:=x;exact ⟨_,e⟩
  | dT kvs=>obtain ⟨_,_,_,_,o,_,_,e,_⟩:=x;exact ⟨_,e⟩
  | set S n=>obtain ⟨o,_,_,_,e,_⟩:=x;exact ⟨_,e⟩
  | ins C dx fs=>obtain ⟨_,_,_,e,_⟩:=x;exact ⟨_,e⟩
  | own y=>exact x
  | xd fs=>obtain ⟨_,⟨_,_,_,e,_⟩,_⟩:=x;exact ⟨_,e⟩
  | rng lo hi=>obtain ⟨_,_,_,e⟩:=x;exact ⟨_,e⟩
  | frz ob u=>obtain ⟨e,_⟩:=x;exact ⟨_,e⟩
  | tbl ps=>exact ⟨_,(show h.get? a=some _ from x)⟩
  | met f y=>exact ⟨_,(show h.get? a=some _ from x)⟩
  | ext φ => obtain ⟨_,e,_⟩:=x;exact e
theorem HOk.notThere (x:HOk P w H h) (e:h.get? a=none):H a=none:=by
  cases q:H a with
  | none=>rfl
  | some u=>obtain ⟨ob,z⟩:=(x a u q).there;rw [e] at z;cases z
theorem HOk.part (x:HOk P w H h) (k:∀ b u v,H b=some u→h.get? b=some v→h'.get? b=some v):HOk P w H h':=fun a o e =>
  (x a o e).stay (fun b u hb q=>by
    rcases hb with z | z
    · subst z;exact k _ _ _ e q
    · exact k _ _ _ z q) (fun _ q=>q) fun _ _ q=>q
end
theorem Un.fly {fs:List Addr} {L:Addr} {H₀ H H':Hp} {h0 h h1 h2 B:Heap} (U1:Un fs [] H₀ H h0 h) (U2:Un (L :: fs) [] H H' h h1) (hL:h0.get? L=none)
    (cov:∀ b o,h.get? b=some o→b ∉ L :: fs→∃ o',B.get? b=some o') (k1:∀ b o,B.get? b=some o→h1.get? b=some o) (k2:∀ b o,B.get? b=some o→h2.get? b=some o)
    (sl:h1.UpToSlots h2) (nf:∀ b∈fs,∃ o,h1.get? b=some o∧∀ vs,o.data ≠ .fields vs):Un fs [] H₀ H' h0 h2:=by
  have nL:∀ b o,h0.get? b=some o→b ∉ fs→b ∉ L :: fs:=fun b o q hb z=>by
    rcases List.mem_cons.mp z with z | z
    · rw [z,hL] at q;cases q
    · exact hb z
  refine ⟨fun b o q n hb hx => ?_,fun b o q n hb hx => ?_,fun b o q n hx => ?_,fun b o q hx => ?_,fun b xs q=>U2.tups _ _ (U1.tups _ _ q),fun b o u q=>U2.frzs _ _ _ (U1.frzs _ _ _ q),fun b ps q => ?_⟩
  · have q1:=U1.keep b o q n hb hx
    have q2:=U2.keep b o q1 (U1.free b o q n hx) (nL b o q hb) hx
    obtain ⟨o',e⟩:=cov b o q1 (nL b o q hb)
    have e1:=k1 _ _ e
    rw [q2] at e1
    cases e1
    exact k2 _ _ e
  · obtain ⟨s1,q1⟩:=U1.slot b o q n hb hx
    obtain ⟨s2,q2⟩:=U2.slot b _ q1 (U1.free b o q n hx) (List.mem_cons_of_mem _ hb) hx
    obtain ⟨ob,q3,d⟩:=nf b hb
    rw [q2] at q3
    cases q3
    obtain ⟨s4,q4⟩:=sl b _ q2 d
    exact ⟨s4,q4⟩
  · obtain ⟨o1,q1⟩:=U1.there b o q hx
    exact U2.free b o1 q1 (U1.free b o q n hx) hx
  · by_cases hb:b∈fs
    · obtain ⟨ob,q3,d⟩:=nf b hb
      obtain ⟨s4,q4⟩:=sl b _ q3 d
      exact ⟨_,q4⟩
    · obtain ⟨o1,q1⟩:=U1.there b o q hx
      obtain ⟨o',e⟩:=cov b o1 q1 (nL b o q hb)
      exact ⟨_,k2 _ _ e⟩
  · obtain ⟨m1,e1⟩:=U1.tbls b ps q
    obtain ⟨m2,e2⟩:=U2.tbls b _ e1
    exact ⟨m1 ++ m2,by rw [e2,Array.append_assoc]⟩

noncomputable def CXE (P:Program) (w:World):CXT:=fun outer H s E e s'=>∃ (ea C:Addr) (a0:Value) (B:Heap) (H':Hp),e = .ref ea∧Heap.FlyingW B outer ea (.ref C) a0 s'.heap∧s'.os=s.os∧AllBare s'.gens ∧
  HOk P w H' B∧Un (frs outer) [] H H' s.heap s'.heap∧(∀ b o,s.heap.get? b=some o→b ∉ frs outer→∃ o',B.get? b=some o')∧∃ m:Option Addr,(m=none→Ctx0 s'.heap ea)∧E (.ref C) m H'

section
variable {P:Program} {w:World} {K:PySem.W.Frag} {mg:Str→Option Value} {base:Heap} {N:List Str} {qual:Str} {scope:Scope} {f:Addr} {cdv:Value} {A:Around} {outer:List Env} {s0 s:Shared} {H0 H:Hp} {E E':XK}
  {pins:List (Addr × Obj)} {σ : St} {CX:CXT}
theorem stack_frs {e:Env} {L:Addr} {l:List Env} (h:e.frame=some L):frs (e :: l)=L :: frs l:=by
  unfold frs
  rw [List.filterMap_cons,h]
theorem flies {h':Heap} {e C:Addr} {args:List Value} (I:Inv (cxOf (CXE P w) P w K mg base N qual scope f cdv A outer s0 H0 E) pins σ H s) (hx:Heap.MadeExcOf s.heap h' e (.ref C) args) (q:E (.ref C) none H) :
    (cxOf (CXE P w) P w K mg base N qual scope f cdv A outer s0 H0 E).xe (.ref e) { s with heap:=h' }:=by
  have fr:s.heap.FunFrames base (envOfC qual scope s0.heap.objs.size f cdv :: outer):=I.stack
  have sf:∀ b∈frs (envOfC qual scope s0.heap.objs.size f cdv :: outer),H b=none:=I.stkFree
  have hin:∀ env∈(envOfC qual scope s0.heap.objs.size f cdv :: outer),∀ b,env.frame=some b→b∈frs (envOfC qual scope s0.heap.objs.size f cdv :: outer):=fun env he b hb=>List.mem_filterMap.mpr ⟨env,he,hb⟩
  have es:frs (envOfC qual scope s0.heap.objs.size f cdv :: outer)=s0.heap.objs.size :: frs outer:=stack_frs rfl
  show wpAny _ _ (leaving _ _) _ _ _
  obtain ⟨t,gt,_,_⟩:=hx.there
  have ff:=(PySem.W.funFrames_hide fr hin).of_keeps (h':=h') fun b o z _=>⟨o,hx.keeps b o z,rfl⟩
  have kb:(PySem.W.hideAll s.heap (frs (envOfC qual scope s0.heap.objs.size f cdv :: outer))).StaysIn h':=fun b o z=>hx.keeps b o (PySem.W.of_hideAll _ z)
  have be:(PySem.W.hideAll s.heap (frs (envOfC qual scope s0.heap.objs.size f cdv :: outer))).get? e=none:=by
    cases z:(PySem.W.hideAll s.heap (frs (envOfC qual scope s0.heap.objs.size f cdv :: outer))).get? e with
    | none=>rfl
    | some o=>have:=PySem.W.of_hideAll _ z;rw [hx.new] at this;cases this
  refine leave_new (s := { s with heap:=h' }) (a0 := .ref t) I.ok.frames ff rfl gt kb be rfl rfl rfl ?_
  intro h'' x1 x4 x5
  have cov:∀ b o,s.heap.get? b=some o→b ∉ s0.heap.objs.size :: frs outer→(PySem.W.hideAll s.heap (frs (envOfC qual scope s0.heap.objs.size f cdv :: outer))).get? b=some o:=fun b o z hb=>PySem.W.hideAll_get _ z (by rw [es];exact hb)
  have Ib:Un (frs outer) [] H0 H s0.heap s.heap:=I.base
  refine ⟨e,C,.ref t,_,H,rfl,x1,I.os,I.bare,HOk.part I.hok fun b u v z1 z2=>PySem.W.hideAll_get _ z2 fun hm => ?_,?_,?_,none,fun _=>x5 _ ⟨_,_,gt,rfl,rfl⟩,q⟩
  · rw [sf b hm] at z1;cases z1
  · refine Un.fly (h:=s.heap) (h1:=h') (L:=s0.heap.objs.size) Ib (Un.kept hx.keeps) (Heap.get?_none_of_le (Nat.le_refl _)) (fun b o z hb=>⟨o,cov b o z hb⟩) (fun b o z=>hx.keeps _ _ (PySem.W.of_hideAll _ z)) x1.1 x4 fun b hb => ?_
    obtain ⟨_,o,z,d⟩:=fr.mem (b:=b) (by show b∈frs _;rw [es];exact List.mem_cons_of_mem _ hb)
    exact ⟨o,hx.keeps _ _ z,d⟩
  · intro b o z hb
    obtain ⟨o1,z1⟩:=Ib.there b o z (by simp)
    refine ⟨o1,cov b o1 z1 fun hm => ?_⟩
    rcases List.mem_cons.mp hm with y | y
    · rw [y,Heap.get?_none_of_le (Nat.le_refl _)] at z;cases z
    · exact hb y
theorem passE (hE:∀ c m H',E' c m H'→E c m H'):Passes (CXE P w) (cxOf (CXE P w) P w K mg base N qual scope f cdv A outer s0 H0 E) E':=by
  intro pins σ H s e s' I h
  obtain ⟨ea,C,a0,B,H',rfl,fl,os,bare,hok,un,cov,m,hm,q⟩:=h
  have es:frs (envOfC qual scope s0.heap.objs.size f cdv :: outer)=s0.heap.objs.size :: frs outer:=stack_frs rfl
  have Ib:Un (frs outer) [] H0 H s0.heap s.heap:=I.base
  have un':Un (s0.heap.objs.size :: frs outer) [] H H' s.heap s'.heap:=by rw [← es];exact un
  have cov':∀ b o,s.heap.get? b=some o→b ∉ s0.heap.objs.size :: frs outer→∃ o',B.get? b=some o':=fun b o z hb=>cov b o z (by show b ∉ frs (envOfC qual scope s0.heap.objs.size f cdv :: outer);rw [es];exact hb)
  show wpAny _ _ (leaving _ _) _ _ _
  refine leave_on I.ok.frames rfl fl fun h'' x1 x2 x3 => ?_
  refine ⟨ea,C,a0,B,H',rfl,x1,os.trans I.os,bare,hok,?_,?_,m,fun z=>x3 _ (hm z),hE _ _ _ q⟩
  · refine Un.fly Ib un' (Heap.get?_none_of_le (Nat.le_refl _)) cov' fl.1 x1.1 x2 fun b hb => ?_
    obtain ⟨_,o,z,d⟩:=fl.2.2.1.mem (b:=b) (by show b∈frs (envOfC qual scope s0.heap.objs.size f cdv :: outer);rw [es];exact List.mem_cons_of_mem _ hb)
    exact ⟨o,z,d⟩
  · intro b o z hb
    obtain ⟨o1,z1⟩:=Ib.there b o z (by simp)
    refine cov' b o1 z1 fun hm => ?_
    rcases List.mem_cons.mp hm with y | y
    · rw [y,Heap.get?_none_of_le (Nat.le_refl _)] at z;cases z
    · exact hb y
end

structure Exc (K:PySem.W.Frag) (mg:Str→Option Value) (x:Str) (C:Addr):Prop where
  glob:mg x=some (.ref C)
  here:PySem.W.excIn K C [.type "ValueError",.type "Exception",.type "BaseException",.type "object"] "ValueError.__new__" = true
theorem Exc.own {K:PySem.W.Frag} {mg:Str→Option Value} {x:Str} {C:Addr} {h:Heap} (e:Exc K mg x C) (X:K.In h):OwnCls x C [.type "ValueError",.type "Exception",.type "BaseException",.type "object"] "ValueError.__new__" mg h:=by
  refine ⟨e.glob,?_⟩
  have q:=e.here
  unfold PySem.W.excIn at q
  split at q
  · rename_i dd cd sl ho
    split at q
    · rename_i C' bm k0 k1 k2 k3 n k5 hm hs
      simp only [Bool.and_eq_true,beq_iff_eq,Bool.not_eq_true'] at q
      obtain ⟨⟨⟨⟨⟨rfl,rfl⟩,hdel⟩,ht⟩,hok⟩,hni⟩:=q
      obtain ⟨nm,bs,mro,ns,qn,hd,sn,sub,ab,col,del⟩:=cd
      dsimp only at hm hdel hok hni
      subst hm hdel
      have hsl:sl = #[k0,k1,k2,k3,some (.builtin "ValueError.__new__"),k5]:=by
        obtain ⟨l⟩:=sl
        simp only at hs
        rw [hs]
      subst hsl
      exact ⟨bm,ns,nm,qn,bs,hd,sn,sub,ab,col,dd,k0,k1,k2,k3,k5,_,X _ _ ho,.of_isNs (PySem.W.isNs_of_in X hok),PySem.W.nsMap_none_of_in X hok hni,PySem.W.tail_of_in X ht⟩
    · cases q
  · cases q
noncomputable def Flies (X:Cx) (C:Addr) (E:XK):Prop := ∀ (pins:List (Addr × Obj)) (σ : St) (H:Hp) (s:Shared) (h':Heap) (e:Addr) (args:List Value),Inv X pins σ H s→Heap.MadeExcOf s.heap h' e (.ref C) args→E (.ref C) none H→X.xe (.ref e) { s with heap:=h' }
noncomputable def tRaise (C:Addr) (E:XK) (t:TA):TS:=fun _ σ H=>t σ H fun vs H1=>vs.length≤sizeLine∧E (.ref C) none H1
theorem ps_raise {X:Cx} {x:Str} {C:Addr} {E:XK} {e₀ : Expr} {rest:List Expr} {t:TA} {np cpos pos:Pos} (O:Exc X.K X.mg x C) (hc:X.calm=true) (F:Flies X C E) (ha:PA X (e₀ :: rest) t) (hg:Gl X x)
    (he:starEach (e₀ :: rest) X.env=(false,eval e₀ X.env) :: starEach rest X.env:=by rfl) (hplain:(backTo cpos (starEach rest X.env)).any (·.1)=false:=by rfl) (hd:(x == ("__debug__" : Str))=false:=by decide) :
    PS X (.Raise (some (.Call (.Name x np) (e₀ :: rest) [] cpos)) none pos) (tRaise C E t):=by
  intro pins s σ H D I h
  obtain ⟨tl,N,nm,q,bs,hdct,sn,sub,ab,col,dd,k0,k1,k2,k3,k5,mN,hC,hN,hni,T⟩:=(O.own I.ok.mod.kin).obj
  refine wpAny_Raise_call_subT (C:=C) (nm:=nm) (q:=q) (N:=N) (bs:=bs) (bm:=tl) (hdct:=hdct) (sn:=sn) (sub:=sub) (ab:=ab) (col:=col) (dd:=dd) (k0:=k0) (k1:=k1) (k2:=k2) (k3:=k3) (k5:=k5)
    PySem.F.excBase_ValueError (mN:=mN) (T.hasType PySem.F.excBase_ValueError.hasBase) (I.ok.hd hc) (by rw [he];show (false || (backTo cpos (starEach rest X.env)).any (·.1))=false;rw [hplain];rfl) hni (ld_glob I hg O.glob ⟨rfl,?_⟩ hd)
  have h₂ := ha cpos pins s σ H _ I h
  rw [he] at h₂ ⊢
  exact Calls.evalArgs_plain (wpAny_mono h₂ (fun vs s₂ ⟨xs,H1,I1,r,hl,hq⟩=>⟨rfl,by rw [← r.length];exact hl,I1.bk _ _ hC,hN.keeps I1.bk,T.keeps I1.bk,fun h' e hm=>F pins σ H1 s₂ h' e vs I1 hm hq⟩) fun _ _ y=>y)
end L2
namespace L2
open PySem PySem.Spec PyProof.Rows PySem.W

section
variable {prog:Program} {w:World} {A:Around} {E:Value→Shared→Prop} {h:Heap} {g:Array GenState} {d:Drawn} {t:Nat} {os:OsState} {a:Addr} {o:Obj}
  {nm q:Str} {C N:Addr} {bs bm:List Value} {hdct:Bool} {sn:List Str} {sub:List Value} {ab:Bool} {col:Option Bool} {dd:Option Addr} {k0 k1 k2 k3 k5:Option Value} {newId:String}

theorem xc_get {R:Result→Shared→Prop} (hC:h.get? C=some (excClassObj nm q C N bs bm hdct sn sub ab col dd k0 k1 k2 k3 k5 newId)) (hb:bm.contains (.type "object")=true)
    (hx:h.get? a=some o) (hc:o.cls = .ref C) (hq:R (.ok (.ret (.ref C))) ⟨h,g,d,t,os⟩) :
    codeAny (model prog w) A (.call (.builtin "getset_descriptor.__get__") ⟨[.builtin "object.__class__",.ref a,.ref C], []⟩) R ⟨h,g,d,t,os⟩:=by
  have hT5:(⟨h,g,d,t,os⟩:Shared).TypeIs (.builtin "object.__class__") "getset_descriptor" := F.typeOf_object_class
  have hcB:(Value.ref C :: bm).contains (.type (".".intercalate ("object.__class__".cutAt '.').dropLast))=true:=by
    rw [F.owner_object_class,List.contains_cons,hb];rfl
  refine codeAny_call_builtin F.slot_gs_get.plain F.entry_gs_get (F.slot_gs_get.check _ _ _ _ _ _ _ _ hT5 (F.args_gs_get _ _ _) ?_)
  repeat (any_goals (first | assumption | (with_reducible refine wpAny_loadPart_at hx ?_;rw [hc]) | (with_reducible refine wpAny_isSubtype_exc hC ?_;rw [hcB]) | wp_step))
  refine ⟨Code.quiet_builtin _ (by decide +kernel),codeAny_builtin F.entry_object_class ?_⟩
  repeat (any_goals (first | assumption | (with_reducible refine wpAny_loadPart_at hx ?_;rw [hc]) | wp_step))

theorem xc_check {M:Model} {nameV:Value} {Q:Unit→Shared→Prop} (hC:h.get? C=some (excClassObj nm q C N bs bm hdct sn sub ab col dd k0 k1 k2 k3 k5 newId)) (hb:bm.contains (.type "BaseException")=true)
    (hx:h.get? a=some o) (hc:o.cls = .ref C) (hq:Q () ⟨h,g,d,t,os⟩):wpAny M A (checkBuiltinCall "BaseException.__getattribute__" ⟨[.ref a,nameV], []⟩) Q E ⟨h,g,d,t,os⟩:=by
  have hk:builtinKind "BaseException.__getattribute__" = some .slot:=by decide +kernel
  have hsplit:splitId "BaseException.__getattribute__" = some ("BaseException", "__getattribute__"):=by decide +kernel
  have hcB:(Value.ref C :: bm).contains (.type "BaseException")=true:=by rw [List.contains_cons,hb];rfl
  have ha:=F.args_bexc_ga (.ref a) nameV
  simp only [checkBuiltinCall,hk,hsplit]
  refine wpAny_bind ?_
  · unfold isInstance
    repeat (first | (with_reducible refine wpAny_loadPart_at hx ?_;rw [hc]) | (with_reducible refine wpAny_isSubtype_exc hC ?_;rw [hcB]) | wp_step)
    exact hq

theorem xc_entry {tk:Tok} {Q:Fin→Shared→Prop} (hC:h.get? C=some (excClassObj nm q C N bs bm hdct sn sub ab col dd k0 k1 k2 k3 k5 newId)) (hb:bm.contains (.type "object")=true)
    (lk:Looks (model prog w) h (typeLookup (.ref C) "__class__") (some (.builtin "object.__class__"))) (hx:h.get? a=some o) (hc:o.cls = .ref C) (hq:Q (.done (.ret (.ref C))) ⟨h,g,d,t,os⟩) :
    wpAny (model prog w) A (Builtin.«object.__getattribute__» ⟨[.ref a,.str "__class__" tk], []⟩) Q E ⟨h,g,d,t,os⟩:=by
  have hT5:(⟨h,g,d,t,os⟩:Shared).TypeIs (.builtin "object.__class__") "getset_descriptor" := F.typeOf_object_class
  have f5:=F.typeOf_object_class
  have f6:=F.slot_gs_get.lookup
  have f7:=F.slot_gs_set.lookup
  repeat (any_goals (first | assumption | (with_reducible refine wpAny_loadPart_at hx ?_;rw [hc]) | with_reducible refine lk.at ?_ | wp_step))
  refine xc_get hC hb hx hc ?_
  repeat (any_goals (first | assumption | wp_step))

theorem xc_by {tk:Tok} {fill expr:Bool} {Q:Value→Shared→Prop} (hC:h.get? C=some (excClassObj nm q C N bs bm hdct sn sub ab col dd k0 k1 k2 k3 k5 newId)) (hb:bm.contains (.type "object")=true) (hb2:bm.contains (.type "BaseException")=true)
    (lk:Looks (model prog w) h (typeLookup (.ref C) "__class__") (some (.builtin "object.__class__"))) (lg:Looks (model prog w) h (typeLookup (.ref C) "__getattribute__") (some (.builtin "BaseException.__getattribute__")))
    (ln:Looks (model prog w) h (typeLookup (.ref C) "__getattr__") none) (hx:h.get? a=some o) (hc:o.cls = .ref C) (hq:Q (.ref C) ⟨h,g,d,t,os⟩) :
    wpAny (model prog w) A (getAttrBy (.ref a) (.str "__class__" tk) fill expr) Q E ⟨h,g,d,t,os⟩:=by
  have FB:=F.attrBase_ValueError
  have f3:=FB.ga.bind (.ref a)
  have hx0:(expr && onTheHeap (Value.builtin "BaseException.__getattribute__"))=false:=by cases expr <;> rfl
  have hx2:(Value.builtin "BaseException.__getattribute__" == Value.builtin "object.__getattribute__")=false:=by decide +kernel
  have hx1:(onTheHeap (Value.ref C) && Value.builtin "BaseException.__getattribute__" == Value.builtin "object.__getattribute__")=false:=by rw [hx2];rfl
  repeat (any_goals (first | assumption | (with_reducible refine wpAny_loadPart_at hx ?_;rw [hc]) | with_reducible refine lg.at ?_ | with_reducible refine ln.at ?_ | wp_step))
  refine codeAny_call_builtin FB.ga.plain F.entry_bexc_ga (xc_check hC hb2 hx hc (xc_entry hC hb lk hx hc ?_))
  repeat (any_goals (first | assumption | wp_step))

theorem xc_attr {Q:Option Value→Shared→Prop} (hC:h.get? C=some (excClassObj nm q C N bs bm hdct sn sub ab col dd k0 k1 k2 k3 k5 newId)) (hb:bm.contains (.type "object")=true) (hb2:bm.contains (.type "BaseException")=true)
    (lk:Looks (model prog w) h (typeLookup (.ref C) "__class__") (some (.builtin "object.__class__"))) (lg:Looks (model prog w) h (typeLookup (.ref C) "__getattribute__") (some (.builtin "BaseException.__getattribute__")))
    (ln:Looks (model prog w) h (typeLookup (.ref C) "__getattr__") none) (hx:h.get? a=some o) (hc:o.cls = .ref C) (hq:Q (some (.ref C)) ⟨h,g,d,t+1,os⟩) :
    wpAny (model prog w) A (getAttr? (.ref a) "__class__") Q E ⟨h,g,d,t,os⟩:=by
  unfold getAttr? getAttrBy?
  repeat (any_goals (first | assumption | with_reducible apply xc_by hC hb hb2 lk lg ln hx hc | wp_step))
end
end L2
namespace L2
open PySem PySem.Spec PyProof.Rows

noncomputable def XO (ea C:Addr):HO := .ext fun h=>∃ o,h.get? ea=some o∧o.cls = .ref C
noncomputable abbrev Cx.uncalm (X:Cx) (A:Around) (xe:Value→Shared→Prop):Cx := { X with A:=A,calm:=false,xe:=xe }
section
variable {X:Cx} {pins:List (Addr × Obj)} {σ : St} {H:Hp} {s:Shared} {xe:Value→Shared→Prop} {A:Around}
theorem Inv.uncalm (I:Inv X pins σ H s) (hf:A.frames=X.A.frames):Inv (X.uncalm A xe) pins σ H s :=
  ⟨⟨I.ok.mod,I.ok.kind,I.ok.glob,I.ok.blt,I.ok.above,I.ok.inj,I.ok.has,I.ok.cab,(fun h=>absurd (show false=true from h) (by decide)),hf.trans I.ok.frames,I.ok.stk,I.ok.exf,I.ok.bs,I.ok.bsz,I.ok.noex,I.ok.exfs,I.ok.funs,I.ok.frf⟩,
    I.os,I.bare,I.base,I.loc,I.cell,I.free,I.freeC,I.pin,I.hok,I.len⟩
theorem Inv.recalm (I:Inv (X.uncalm A xe) pins σ H s) (hd:X.calm=true→X.A.handled=none) (hf:X.A.frames=A.frames):Inv X pins σ H s :=
  ⟨⟨I.ok.mod,I.ok.kind,I.ok.glob,I.ok.blt,I.ok.above,I.ok.inj,I.ok.has,I.ok.cab,hd,hf.trans I.ok.frames,I.ok.stk,I.ok.exf,I.ok.bs,I.ok.bsz,I.ok.noex,I.ok.exfs,I.ok.funs,I.ok.frf⟩,
    I.os,I.bare,I.base,I.loc,I.cell,I.free,I.freeC,I.pin,I.hok,I.len⟩
end
theorem Un.on {fs:List Addr} {H H':Hp} {h h1 h2 B:Heap} (U:Un fs [] H H' h h1) (cov:∀ b o,h.get? b=some o→b ∉ fs→∃ o',B.get? b=some o') (k1:∀ b o,B.get? b=some o→h1.get? b=some o) (k2:∀ b o,B.get? b=some o→h2.get? b=some o)
    (sl:h1.UpToSlots h2) (nf:∀ b∈fs,∃ o,h1.get? b=some o∧∀ vs,o.data ≠ .fields vs):Un fs [] H H' h h2:=by
  refine ⟨fun b o q n hb hx => ?_,fun b o q n hb hx => ?_,U.free,fun b o q hx => ?_,U.tups,U.frzs,U.tbls⟩
  · have q2:=U.keep b o q n hb hx
    obtain ⟨o',e⟩:=cov b o q hb
    have e1:=k1 _ _ e
    rw [q2] at e1
    cases e1
    exact k2 _ _ e
  · obtain ⟨s1,q1⟩:=U.slot b o q n hb hx
    obtain ⟨ob,q3,d⟩:=nf b hb
    rw [q1] at q3
    cases q3
    obtain ⟨s4,q4⟩:=sl b _ q1 d
    exact ⟨s4,q4⟩
  · by_cases hb:b∈fs
    · obtain ⟨ob,q3,d⟩:=nf b hb
      obtain ⟨s4,q4⟩:=sl b _ q3 d
      exact ⟨_,q4⟩
    · obtain ⟨o',e⟩:=cov b o q hb
      exact ⟨_,k2 _ _ e⟩
theorem Un.more {fs:List Addr} {H H':Hp} {h h2:Heap} {a:Addr} {o:HO} (U:Un fs [] H H' h h2) (hn:h.get? a=none) (hH:H' a=none):Un fs [] H (upd H' a o) h h2:=by
  have ne:∀ b u,h.get? b=some u→b≠a:=fun b u q z=>by rw [z,hn] at q;cases q
  refine ⟨U.keep,U.slot,fun b u q n hx=>by rw [upd_ne (ne b u q)];exact U.free b u q n hx,U.there,fun b xs q => ?_,fun b u xs q => ?_,fun b ps q => ?_⟩
  · have e:=U.tups b xs q
    rw [upd_ne (ne_of_none e hH)];exact e
  · have e:=U.frzs b u xs q
    rw [upd_ne (ne_of_none e hH)];exact e
  · obtain ⟨m,e⟩:=U.tbls b ps q
    exact ⟨m,by rw [upd_ne (ne_of_none e hH)];exact e⟩
section
variable {X:Cx} {pins:List (Addr × Obj)} {σ : St} {H0 H':Hp} {s0 s':Shared} {ea C:Addr} {a0:Value} {B h5:Heap} {env:Env} {outer:List Env}
theorem caught_inv (I:Inv X pins σ H0 s0) (fl:Heap.FlyingW B X.stack ea (.ref C) a0 s'.heap) (os:s'.os=s0.os) (bare:AllBare s'.gens) (hok:HOk X.prog X.w H' B) (un:Un (frs X.stack) [] H0 H' s0.heap s'.heap)
    (cov:∀ b o,s0.heap.get? b=some o→b ∉ frs X.stack→∃ o',B.get? b=some o') (k5:∀ b o,B.get? b=some o→h5.get? b=some o) (sl:s'.heap.UpToSlots h5) (he:∃ o vs,h5.get? ea=some o∧o.cls = .ref C∧o.data = .fields vs) :
    Inv X pins σ (upd H' ea (XO ea C)) { s' with heap:=h5 }∧H' ea=none:=by
  have hn:H' ea=none:=hok.notThere fl.2.1
  have fm:∀ b∈frs X.stack,∃ o,s'.heap.get? b=some o∧∀ vs,o.data ≠ .fields vs:=fun b hb=>(fl.2.2.1.mem hb).2
  obtain ⟨oe,vs,h1,h2,h3⟩:=he
  have new:s0.heap.get? ea=none:=by
    cases q:s0.heap.get? ea with
    | none=>rfl
    | some o =>
      by_cases hb:ea∈frs X.stack
      · obtain ⟨ob,q3,d⟩:=fm ea hb
        obtain ⟨s4,q4⟩:=sl ea _ q3 d
        rw [h1] at q4
        cases q4
        exact absurd h3 (d vs)
      · obtain ⟨o',e⟩:=cov ea o q hb
        rw [fl.2.1] at e;cases e
  refine ⟨Inv.call' (s' := { s' with heap:=h5 }) I os ((un.on cov fl.1 k5 sl fm).more new hn) ?_ bare (fun b z=>absurd z (by simp)),hn⟩
  intro b u e
  have tup:∀ c xs,H' c=some (.tup xs)→upd H' ea (XO ea C) c=some (.tup xs):=fun c xs z=>by rw [upd_ne (ne_of_none z hn)];exact z
  have own:∀ c y,H' c=some (.own y)→upd H' ea (XO ea C) c=some (.own y):=fun c y z=>by rw [upd_ne (ne_of_none z hn)];exact z
  by_cases hb:b=ea
  · subst hb
    rw [upd_same] at e
    cases e
    refine ⟨⟨oe,h1,h2⟩,⟨oe,h1⟩,fun g1 g2 ⟨o,z1,z2⟩ k=>⟨o,k o z1,z2⟩⟩
  · rw [upd_ne hb] at e
    exact (hok b u e).stay (fun c v hc q=>k5 _ _ q) (fun c z=>own c b z) tup
end
theorem gone_ok {X:Cx} {pins:List (Addr × Obj)} {σ : St} {H:Hp} {s:Shared} {M:Model} {A:Around} {E:Value→Shared→Prop} {i:Nat} {n:Str} {pos:Pos} {Q:Unit→Shared→Prop} (I:Inv X pins σ H s) (hN:X.N.Nodup) (hi:X.N[i]? = some n)
    (hk:X.env.scope.names.lookup n=some .local) (h:∀ s',Inv X pins (σ.set i none) H s'→Q () s'):wpAny M A (do bindName X.env n .none;unbindBehindTheSuite X.env n pos) Q E s:=by
  obtain ⟨m,hn,hl⟩:=id I.loc
  have hcls:(X.env.scope.kind == .class || (X.env.scope.kind == .module && X.env.locals != X.env.globals))=false:=by rw [I.ok.kind];rfl
  have hiσ : i < σ.length:=by rw [I.len];exact (List.getElem?_eq_some_iff.mp hi).1
  have cne:=I.cne
  obtain ⟨oL,_,_,hoL,_⟩:=id hn
  refine wpAny_nameGoes_keeps hk hn hcls fun h' v hn' hs => ?_
  refine h _ ⟨I.ok,I.os,I.bare,⟨fun b o e n hb hx => ?_,fun b o e n hb hx => ?_,I.base.free,fun b o e hx => ?_,I.base.tups,I.base.frzs,I.base.tbls⟩,⟨_,hn',fun j y v' e1 e2 e3 => ?_⟩,fun y c e => ?_,I.free,I.freeC,fun p hp => ?_,fun b ob e => ?_,by simpa using I.len⟩
  · exact (hs.2 b (Nat.ne_of_lt (Nat.lt_of_lt_of_le (Heap.lt_size e) I.ok.above))).trans (I.base.keep b o e n hb hx)
  · obtain ⟨sl,e1⟩:=I.base.slot b o e n hb hx
    exact ⟨sl,(hs.2 b (Nat.ne_of_lt (Nat.lt_of_lt_of_le (Heap.lt_size e) I.ok.above))).trans e1⟩
  · obtain ⟨o',e1⟩:=I.base.there b o e hx
    exact ⟨o',(hs.2 b (Nat.ne_of_lt (Nat.lt_of_lt_of_le (Heap.lt_size e) I.ok.above))).trans e1⟩
  · by_cases hj:j=i
    · subst hj
      rw [List.getElem?_set_self hiσ] at e2
      cases e2
    · rw [List.getElem?_set_ne (Ne.symm hj)] at e2
      obtain ⟨u',r',q⟩:=hl j y v' e1 e2 e3
      refine ⟨u',r',?_⟩
      rcases q with ⟨k,e⟩ | ⟨k,c,e,z⟩
      · refine .inl ⟨k,?_⟩
        have:y≠n:=fun e=>hj (nodup_ix hN e1 (e ▸ hi))
        simp [this,e]
      · exact .inr ⟨k,c,e,z.sameBut hs (cne y c e)⟩
  · obtain ⟨w',z⟩:=I.cell y c e
    exact ⟨w',z.sameBut hs (cne y c e)⟩
  · obtain ⟨e,n,ne,nf,d⟩:=I.pin p hp
    exact ⟨(hs.2 p.1 ne).trans e,n,ne,nf,d⟩
  · refine (I.hok b ob e).stay (fun c w' hc q=>(hs.2 c ?_).trans q) (fun _ q=>q) fun _ _ q=>q
    rintro rfl
    rcases hc with rfl | hc
    · rw [I.free] at e;cases e
    · rw [I.free] at hc;cases hc

noncomputable def Wish (X:Cx) (pins:List (Addr × Obj)) (σ : St) (E:XK) (xe:Value→Shared→Prop):Prop := ∀ (H0:Hp) (s0:Shared) (e:Value) (s':Shared),Inv X pins σ H0 s0→CXE X.prog X.w X.stack H0 s0 E e s'→xe e s'
noncomputable def PEt (X:Cx) (e:Expr) (t:XK→TE):Prop := ∀ (E:XK) (pins:List (Addr × Obj)) (s:Shared) (σ : St) (H:Hp) (Q:VK) (xe:Value→Shared→Prop),Wish X pins σ E xe→Inv X pins σ H s→t E σ H Q →
  wpAny (model X.prog X.w) X.A (eval e X.env) (EP X pins σ Q) xe s
noncomputable def PSt (X:Cx) (st:List Stmt) (t:XK→TS):Prop := ∀ (E:XK) (pins:List (Addr × Obj)) (s:Shared) (σ : St) (H:Hp) (D:Ends) (xe:Value→Shared→Prop),Wish X pins σ E xe→Inv X pins σ H s→t E D σ H →
  wpAny (model X.prog X.w) X.A (execs st X.env) (SP X pins D) xe s
section
variable {X:Cx} {k:Nat} {f:Addr} {fd:FuncData} {ps:List Str} {sp:Sp} {dvs:List V} {ds:List Value} {x:Str} {p pos:Pos} {e:Expr} {es:List Expr} {t:TA}
theorem run_fnX {CX:CXT} {E:XK} {xe:Value→Shared→Prop} {pins:List (Addr × Obj)} {σ : St} {H:Hp} {s:Shared} {Q:VK} {us:List Value} {vs:List V} (F:FnOk X.prog X.w X.K X.mg X.base CX k f fd ps sp) (hr:Room k X.A) (hb:Binds X.K fd ps ds) (hd:Vals dvs ds)
    (I:Inv X pins σ H s) (hx:∀ e s',CX X.stack H s E e s'→xe e s') (r:Vals vs us) (h:sp (vs ++ dvs) H Q E):wpAny (model X.prog X.w) X.A (call (.ref f) us) (EP X pins σ Q) xe s:=by
  have r2:Vals (vs ++ dvs) (us ++ ds):=r.append hd
  have hl:(us ++ ds).length=ps.length:=by rw [← r2.length];exact F.len _ _ _ _ h
  refine wpAny_call (codeAny_mono (F.run X.A X.stack s H ⟨us, []⟩ (us ++ ds) (vs ++ dvs) Q E hr I.env0 (hb s us I.kIn hl) r2 h) fun r s' hq => ?_)
  cases r with
  | error e=>exact hx e s' hq
  | ok fl =>
    cases fl with
    | ret u=>exact I.after hq
    | next=>exact False.elim hq
    | brk=>exact False.elim hq
    | cont=>exact False.elim hq
theorem pet_call (F:FnOk X.prog X.w X.K X.mg X.base (CXE X.prog X.w) k f fd ps sp) (hr:Room k X.A) (hg:Gl X x) (hm:X.mg x=some (.ref f)) (hk:PySem.W.keepIn X.K (.ref f)=true) (hb:Binds X.K fd ps ds) (hd:Vals dvs ds)
    (ha:PA X.nox (e :: es) t) (hdb:(x == ("__debug__" : Str))=false:=by decide) (he:starEach (e :: es) X.env=(false,eval e X.env) :: starEach es X.env:=by rfl) (hpl:(backTo pos (starEach es X.env)).any (·.1)=false:=by rfl) :
    PEt X (.Call (.Name x p) (e :: es) [] pos) (fun E=>tCall sp dvs E t):=by
  intro E pins s σ H Q xe W I h
  refine wpAny_Call_Name_kw (ld_glob I hg hm ?_ hdb)
  refine PySem.W.callWith_K (h₀ := X.base) I.ok.mod.kin hk (wpAny_mono (ha pos pins s σ H _ (I.wish _) h) (fun us s1 ⟨vs,H1,I1,r,q⟩=>⟨I1.unwish.kIn,?_⟩) fun _ _ z=>False.elim z) he hpl
  exact run_fnX F hr hb hd I1.unwish (fun e s' hq=>W H1 s1 e s' I1.unwish hq) r q
theorem pst_set {i:Nat} {y:Str} {te:XK→TE} {pos':Pos} (hN:X.N.Nodup) (hi:X.N[i]? = some y) (hx:Loc X.env.scope y) (he:PEt X e te) (hs:swapsWith e (some (.Name y pos')) pos.line X.env=pure false:=by rfl)
    (hf:X.fn y=true∨X.env.scope.names.lookup y=some .local:=by first | exact .inl rfl | exact .inr rfl | assumption):PSt X [.Assign [.Name y pos'] e pos] (fun E=>tAsg (te E) (gName i)):=by
  intro E pins s σ H D xe W I h
  refine wpAny_execs_cons (wpAny_Assign_Name (thn (he E pins s σ H _ xe W I h) fun v s1 ⟨z,H1,I1,r1,q1⟩ => ?_) hs)
  exact store_ok I1 hN hi hx r1 (fun s2 I2=>wpAny_execs_nil ⟨_,H1,I2,q1⟩) hf
theorem pst_if {c:Expr} {a b:List Stmt} {tc:TT} {t u:XK→TS} (hc:PT X.nox c tc) (ha:PSt X a t) (hb:PSt X b u):PSt X [.If c a b pos] (fun E=>tIfS tc (t E) (u E)):=by
  intro E pins s σ H D xe W I h
  refine wpAny_execs_cons (wpAny_If (wpAny_mono (hc pins s σ H _ (I.wish _) h) (fun d s1 ⟨H1,I1,q1⟩ => ?_) fun _ _ z=>False.elim z))
  have I1:=I1.unwish
  cases d with
  | true =>
    refine thn (ha E pins s1 σ H1 D xe W I1 q1) fun f s2 q => ?_
    cases f with
    | next=>exact wpAny_execs_nil q
    | brk=>exact q
    | cont=>exact q
    | ret u=>exact q
  | false =>
    refine thn (hb E pins s1 σ H1 D xe W I1 q1) fun f s2 q => ?_
    cases f with
    | next=>exact wpAny_execs_nil q
    | brk=>exact q
    | cont=>exact q
    | ret u=>exact q
end
noncomputable def tTry (K:PySem.W.Frag) (CH:Addr) (i:Nat) (tb:XK→TS) (th:TS):TS:=fun D σ H =>
  tb (fun cls _ H'=>∃ C,cls = .ref C∧PySem.W.exmOne K (.ref C) (.ref CH)=some true∧∀ ea,H' ea=none →
    th { nx:=fun σ' H''=>D.nx (σ'.set i none) H'',rt:=D.rt,bk:=fun σ' H''=>D.bk (σ'.set i none) H'',ct:=fun σ' H''=>D.ct (σ'.set i none) H'' } (σ.set i (some (.ref ea))) (upd H' ea (XO ea C))) D σ H
theorem ps_try {X:Cx} {body:List Stmt} {tb:XK→TS} {th:TS} {x n:Str} {i:Nat} {CH:Addr} {b₀ : Stmt} {suite:List Stmt} {np hpos pos:Pos} (hst:X.stack=X.env :: X.outer∧X.env.frame=some X.env.locals)
    (hN:X.N.Nodup) (hi:X.N[i]? = some n) (hl:X.env.scope.names.lookup n=some .local) (hg:Gl X x) (hm:X.mg x=some (.ref CH)) (hb:PSt X body tb)
    (hh:∀ ea:Addr,PSs (X.uncalm (X.A.mark (some (.ref ea))) fun _ _=>False) (b₀ :: suite) th) (hd:(x == ("__debug__" : Str))=false:=by decide) :
    PS X (.Try body [.ExceptHandler (some (.Name x np)) (some n) (b₀ :: suite) hpos] [] [] pos) (tTry X.K CH i tb th):=by
  intro pins s σ H D I h
  refine wpAny_Try_except (wpAny_mono (hb _ pins s σ H D _ ?W I h) (fun f s1 q => ?_) fun _ _ z=>z)
  case W =>
    intro H0 s0 e s' I0 hx
    obtain ⟨ea,C,a0,B,H',rfl,fl,os,bare,hok,un,cov,_,_,C',hc,hex,hth⟩:=hx
    cases hc
    have hfr:X.A.frames=some (X.env :: X.outer):=by rw [I0.ok.frames,hst.1]
    have fl0:Heap.FlyingW B (X.env :: X.outer) ea (.ref C) a0 s'.heap:=by rw [← hst.1];exact fl
    refine wpAny_looks_onW hfr hst.2 fl0 fun h₄ held₄ sm₄ => ?_
    refine wpAny_landsW held₄ fun h₅ fl₅ sm₅ => ?_
    obtain ⟨o5,vs5,g1,g2,g3,_⟩:=fl₅.first
    obtain ⟨I5,hea⟩:=caught_inv (h5:=h₅) I0 fl os bare hok un cov fl₅.1 (sm₄.trans sm₅) ⟨o5,vs5,g1,g2,g3⟩
    have J5:Inv (X.uncalm (X.A.mark (some (.ref ea))) fun _ _=>False) pins σ (upd H' ea (XO ea C)) { s' with heap:=h₅ }:=I5.uncalm rfl
    refine wpAny_handleBy_cons (codeAny_handlers_test (ld_glob J5 hg hm ?_ hd)) (by intro q;cases q)
    have LT:PySem.W.Looks (model X.prog X.w) h₅ (typeOf (.ref ea)) (.ref C):=g2 ▸ (PySem.W.Looks.ld g1).andThen .now
    refine (PySem.W.exm_one (M:=model X.prog X.w) I5.kIn LT hex).at ?_
    show codeAny _ _ _ _ _
    refine codeAny_handlers_suite_as ?_
    refine lands_againW fl₅ fun h₆ fl₆ sm₆ => ?_
    obtain ⟨o6,vs6,j1,j2,j3,_⟩:=fl₆.first
    obtain ⟨I6,_⟩:=caught_inv (h5:=h₆) I0 fl os bare hok un cov fl₆.1 ((sm₄.trans sm₅).trans sm₆) ⟨o6,vs6,j1,j2,j3⟩
    refine store_ok I6 hN hi (.inl hl) (v := .ref ea) rfl (fun s7 J7 => ?_) (.inr hl)
    refine wpAny_mono (hh ea pins s7 _ _ _ (J7.uncalm rfl) (hth ea hea)) (fun f s8 q8 => ?_) fun _ _ z=>False.elim z
    have back:∀ {σ' H''} {s9:Shared},Inv (X.uncalm (X.A.mark (some (.ref ea))) fun _ _=>False) pins σ' H'' s9→Inv X pins σ' H'' s9:=fun J=>J.recalm I0.ok.hd rfl
    cases f with
    | next =>
      obtain ⟨σ',H'',J,q⟩:=q8
      exact gone_ok (back J) hN hi hl fun s9 I9=>⟨_,_,I9,q⟩
    | brk =>
      obtain ⟨σ',H'',J,q⟩:=q8
      exact gone_ok (back J) hN hi hl fun s9 I9=>⟨_,_,I9,q⟩
    | cont =>
      obtain ⟨σ',H'',J,q⟩:=q8
      exact gone_ok (back J) hN hi hl fun s9 I9=>⟨_,_,I9,q⟩
    | ret u =>
      obtain ⟨v, σ',H'',J,r,q⟩:=q8
      exact gone_ok (back J) hN hi hl fun s9 I9=>⟨v,_,_,I9,r,q⟩
  cases f with
  | next=>exact wpAny_execs_nil q
  | brk=>exact q
  | cont=>exact q
  | ret u=>exact q

structure RoomN (k:Nat) (A:Around):Prop where
  dp:A.depth+3 * k+5 < recursionLimit
  un:A.units+16 * k+200 < cLine
theorem Room.mark {k:Nat} {A:Around} (r:Room k A) (v:Option Value):RoomN k (A.mark v):=⟨r.dp,r.un⟩
theorem RoomN.mono {j k:Nat} {A:Around} (r:RoomN k A) (h:j≤k):RoomN j A:=⟨by have:=r.dp;omega,by have:=r.un;omega⟩
theorem RoomN.deeper {k:Nat} {A:Around} (r:RoomN (k+1) A) (env:Env):RoomN k (A.deeper env) :=
  ⟨by have:=r.dp;show A.depth+1+3 * k+5 < _;omega,by have:=r.un;show A.units+3+16 * k+200 < _;omega⟩
structure FnN (P:Program) (w:World) (K:PySem.W.Frag) (mg:Str→Option Value) (base:Heap) (k:Nat) (f:Addr) (fd:FuncData) (ps:List Str) (sp:Sp):Prop where
  len:∀ vs H Q E,sp vs H Q E→vs.length=ps.length
  run:∀ (A:Around) (outer:List Env) (s:Shared) (H:Hp) (args:Args) (us:List Value) (vs:List V) (Q:VK),RoomN k A→Env0 P w K mg base A outer s H→BindsTo s fd args (ps.zip us)→Vals vs us→sp vs H Q E0 →
    codeAny (model P w) A (.call (.ref f) args) (CR CX0 outer P w H s Q E0) s
theorem fn_N {P:Program} {w:World} {K:PySem.W.Frag} {mg:Str→Option Value} {base:Heap} {k:Nat} {f:Addr} {x qual:Str} {st:Stmt} {fd:FuncData} {N ps:List Str} {sp:Sp} (F:Fun K x qual st f fd) (S:FnScope N ps (defScope st))
    (len:∀ vs H Q E,sp vs H Q E→vs.length=ps.length)
    (hbody:∀ (cdv:Value) (A:Around) (outer:List Env) (s:Shared) (H:Hp) (vs:List V) (Q:VK),RoomN k (A.deeper (envOfC qual (defScope st) s.heap.objs.size f cdv))→sp vs H Q E0 →
      ∃ t,PSs ((cxOf CX0 P w K mg base N qual (defScope st) f cdv { A with handled:=none } outer s H E0).uncalm (A.deeper (envOfC qual (defScope st) s.heap.objs.size f cdv)) fun _ _=>False) (defBody st) t∧t { nx:=fun _ H'=>Q .non H',rt:=Q } (start N vs) H) :
    FnN P w K mg base (k+1) f fd ps sp:=by
  obtain ⟨oc,od,kV,doc,pm,an,cdv,ct,osl,rfl,lk,hcd⟩:=F.ex
  refine ⟨len,fun A outer s H args us vs Q hr e0 hb r hsp => ?_⟩
  have hl:=len _ _ _ _ hsp
  have KX:K.In s.heap:=e0.mod.kin.keeps fun b o e=>(e0.bs b o e).1
  have lim:s.heap.NoLimit:=e0.mod.nolimit.keeps fun b o e=>(e0.bs b o e).1
  have hkind:∀ y∈ps.zip us,(defScope st).names.lookup y.1=some .local∨((defScope st).names.lookup y.1=some .cell∧((cellsFrom (s.heap.objs.size+1) (defScope st).names []).lookup y.1).isSome=true):=fun ⟨n,v⟩ hy=>by
    rcases S.par n (List.of_mem_zip hy).1 with q | q
    · exact .inl q
    · exact .inr ⟨q,PySem.W.cellsFrom_some _ _ _ (.inl q)⟩
  have hdep:A.depth < recursionLimit:=by have:=hr.dp;omega
  refine codeAny_call_function hdep (KX _ _ lk) rfl S.co S.gen rfl (PySem.W.codeRec_of KX hcd) (hb _ _ _ _ ?_)
  refine wpAny_newFunctionEnv_cells S.kind hkind fun env he s1 x => ?_
  subst he
  refine ⟨lim.keeps x.toInCall.keep,codeAny_func ?_⟩
  obtain ⟨t,ht,hq⟩:=hbody cdv A outer s H vs Q (hr.deeper _) hsp
  have e0':Env0 P w K mg base { A with handled:=none } outer s H:=⟨e0.frames,e0.mod,e0.bs,e0.bsz,e0.funs,e0.frf,e0.hok,e0.bare⟩
  have I0:Inv (cxOf CX0 P w K mg base N qual (defScope st) f cdv { A with handled:=none } outer s H E0) [] (start N vs) H s1:=inv_start S rfl e0' hl r x
  have I:=I0.uncalm (A:=A.deeper (envOfC qual (defScope st) s.heap.objs.size f cdv)) (xe:=fun _ _=>False) rfl
  refine wpAny_mono (ht [] s1 (start N vs) H _ I hq) (fun fl s' hs => ?_) fun e s' hs=>False.elim hs
  have fin:∀ {σ':St} {H':Hp} {v:V} {u:Value},Inv ((cxOf CX0 P w K mg base N qual (defScope st) f cdv { A with handled:=none } outer s H E0).uncalm (A.deeper (envOfC qual (defScope st) s.heap.objs.size f cdv)) fun _ _=>False) [] σ' H' s'→RelV v u→Q v H'→CE outer P w H s Q u s' :=
    fun {σ' H' v u} J rv q=>⟨v,H',J.os,J.bare,J.base,J.hok,rv,q⟩
  cases fl with
  | ret u =>
    obtain ⟨v, σ',H',J,rv,q⟩:=hs
    exact fin J rv q
  | next =>
    obtain ⟨σ',H',J,q⟩:=hs
    exact fin (v:=V.non) (u:=Value.none) J rfl q
  | brk =>
    obtain ⟨_,_,_,q⟩:=hs
    exact False.elim q
  | cont =>
    obtain ⟨_,_,_,q⟩:=hs
    exact False.elim q
theorem pe_callN {X:Cx} {k k':Nat} {f:Addr} {fd:FuncData} {ps:List Str} {sp:Sp} {x:Str} {p pos:Pos} {e:Expr} {es:List Expr} {t:TA} (F:FnN X.prog X.w X.K X.mg X.base k f fd ps sp) (hr:RoomN k' X.A) (hkk:k≤k') (hg:Gl X x) (hm:X.mg x=some (.ref f)) (hk:PySem.W.keepIn X.K (.ref f)=true) (hb:Binds X.K fd ps [])
    (ha:PA X (e :: es) t) (hdb:(x == ("__debug__" : Str))=false:=by decide) (he:starEach (e :: es) X.env=(false,eval e X.env) :: starEach es X.env:=by rfl) (hpl:(backTo pos (starEach es X.env)).any (·.1)=false:=by rfl) :
    PE X (.Call (.Name x p) (e :: es) [] pos) (tCall sp [] E0 t):=by
  intro pins s σ H Q I h
  refine wpAny_Call_Name_kw (ld_glob I hg hm ?_ hdb)
  refine PySem.W.callWith_K (h₀ := X.base) I.ok.mod.kin hk (thn (ha pos pins s σ H _ I h) fun us s1 ⟨vs,H1,I1,r,q⟩=>⟨I1.kIn,?_⟩) he hpl
  have q:sp (vs ++ []) H1 Q E0:=q
  rw [List.append_nil] at q
  have hl:us.length=ps.length:=by rw [← r.length];exact F.len _ _ _ _ q
  have hb':=hb s1 us I1.kIn (by rw [List.append_nil];exact hl)
  rw [List.append_nil] at hb'
  refine wpAny_call (codeAny_mono (F.run X.A X.stack s1 H1 ⟨us, []⟩ us vs Q (hr.mono hkk) I1.env0 hb' r q) fun r s' hq => ?_)
  cases r with
  | error e=>exact False.elim hq
  | ok fl =>
    cases fl with
    | ret u=>exact I1.after hq
    | next=>exact False.elim hq
    | brk=>exact False.elim hq
    | cont=>exact False.elim hq

structure ExcI (K:PySem.W.Frag) (C:Addr):Prop where
  cl:PySem.W.findIn K (.ref C) "__class__" = some (some (.builtin "object.__class__"))
  ga:PySem.W.findIn K (.ref C) "__getattribute__" = some (some (.builtin "BaseException.__getattribute__"))
  gn:PySem.W.findIn K (.ref C) "__getattr__" = some none
theorem call_isX {X:Cx} {x:Str} {C:Addr} (O:Exc X.K X.mg x C) (Z:ExcI X.K C) :
    CallR X (.builtin "isinstance") (fun xs H Q=>∃ ea c cv b,xs = [.ref ea,c]∧H ea=some (XO ea C)∧RelV c cv∧(∀ u v,RelV c u→RelV c v→u=v)∧PySem.W.kitOne X.K (.ref C) cv=some b∧Q (.bl b) H):=by
  intro pins s σ H xs us Q I r h
  obtain ⟨ea,c,cv,b,rfl,hea,rc,hcv,e,q⟩:=h
  obtain ⟨u,w',rfl,rx,ry⟩:=vals2 r
  cases (show u=Value.ref ea from rx)
  obtain ⟨⟨o,h1,h2⟩,_⟩:=(show ObjOk X.prog X.w H s.heap ea (XO ea C) from I.hok ea _ hea)
  have hw:w'=cv:=hcv _ _ ry rc
  subst hw
  obtain ⟨bm,N,nm,qn,bs,hdct,sn,sub,ab,col,dd,k0,k1,k2,k3,k5,mN,hC,hN,hni,TL⟩:=(O.own I.kIn).obj
  have hob:bm.contains (.type "object")=true:=TL.hasType (by decide +kernel)
  have hbb:bm.contains (.type "BaseException")=true:=TL.hasType (by decide +kernel)
  have Zx:PySem.W.KitX X.K (.ref ea) (.ref C) (fun h=>(∃ o,h.get? ea=some o∧o.cls = .ref C)) := {
    ty:=fun M h _ p=>by
      obtain ⟨o,h1,h2⟩:=p
      exact h2 ▸ (PySem.W.Looks.ld h1).andThen .now
    it:=fun M h XX _=>by
      obtain ⟨bm,N,nm,qn,bs,hdct,sn,sub,ab,col,dd,k0,k1,k2,k3,k5,mN,hC,_⟩:=(O.own XX).obj
      intro A' Q' E' s' k q
      unfold isType loadHead
      exact wpAny_bind (wpAny_loadPart (k _ _ hC) (wpAny_pure q))
    ne:=fun h tp dd' its n sl XX htp=>by
      obtain ⟨bm,N,nm,qn,bs,hdct,sn,sub,ab,col,dd,k0,k1,k2,k3,k5,mN,hC,_⟩:=(O.own XX).obj
      refine Bool.eq_false_iff.mpr fun q => ?_
      have e:C=tp:=Value.ref.inj (beq_iff_eq.mp q)
      subst e
      rw [hC] at htp
      have z2:=congrArg Obj.cls (Option.some.inj htp)
      exact absurd (Value.type.inj z2) (by decide)
    ca:=fun {prog w A E Q s} XX p hq=>by
      obtain ⟨bm,N,nm,qn,bs,hdct,sn,sub,ab,col,dd,k0,k1,k2,k3,k5,mN,hC,hN,hni,TL⟩:=(O.own XX).obj
      obtain ⟨o,h1,h2⟩:=p
      obtain ⟨hp,g,d,t,os⟩:=s
      exact xc_attr hC (TL.hasType (by decide +kernel)) (TL.hasType (by decide +kernel)) (PySem.W.looks_findIn XX Z.cl) (PySem.W.looks_findIn XX Z.ga) (PySem.W.looks_findIn XX Z.gn) h1 h2 hq }
  exact PySem.W.kia_one Zx I.kIn ⟨o,h1,h2⟩ e (fun z=>nomatch z) fun tk=>⟨.bl b,H,I.tok _,rfl,q⟩
end L2
namespace L2
open PySem PySem.Spec PyProof.Rows

theorem joins_mono {M:Model} {A:Around} {E:Value→Shared→Prop} {R R':Str→Shared→Prop} (h:∀ z s,R z s→R' z s):∀ {l:List (Sem Value)} {acc:Str} {s:Shared},Joins M A E l acc R s→Joins M A E l acc R' s
  | [],acc,s,q=>h _ _ q
  | x :: r,acc,s,q=>wpAny_mono q (fun v s1 ⟨y,t,e,hz,q1⟩=>⟨y,t,e,hz,joins_mono h q1⟩) fun _ _ z=>z
section
variable {X:Cx}
noncomputable abbrev TJ:=St→Hp→(Hp→Prop)→Prop
noncomputable def PJ (X:Cx) (es:List Expr) (t:TJ):Prop := ∀ (pins:List (Addr × Obj)) (s:Shared) (σ : St) (H:Hp) (acc:Str) (Q:Hp→Prop),Inv X pins σ H s→acc.length+1000 * es.length≤100000 →
  t σ H Q→Joins (model X.prog X.w) X.A X.xe (evalEach es X.env) acc (fun out s1=>out.length≤100000∧∃ H1,Inv X pins σ H1 s1∧Q H1) s
noncomputable def jNil:TJ:=fun _ H Q=>Q H
noncomputable def jCons (te:TE) (t:TJ):TJ:=fun σ H Q=>te σ H fun x H1=>∃ z,x = .str z∧z.length≤1000∧t σ H1 Q
theorem pj_nil:PJ X [] jNil:=fun pins s σ H acc R I hl h=>⟨by simpa using hl,H,I,h⟩
theorem pj_cons {e:Expr} {es:List Expr} {te:TE} {t:TJ} (he:PE X e te) (hr:PJ X es t) (hs:evalEach (e :: es) X.env=eval e X.env :: evalEach es X.env:=by rfl):PJ X (e :: es) (jCons te t):=by
  intro pins s σ H acc R I hl h
  rw [hs]
  rw [List.length_cons] at hl
  refine thn (he pins s σ H _ I h) fun v s1 ⟨x,H1,I1,rx,z,ex,hz,q⟩ => ?_
  subst ex
  obtain ⟨tk,rfl⟩:=rx
  have hlen:(acc ++ z).length=acc.length+z.length:=Str.length_append _ _
  refine ⟨z,tk,rfl,by rw [hlen];exact Nat.le_trans (by omega:_≤100000) (by decide),hr pins s1 σ H1 (acc ++ z) R I1 (by rw [hlen];omega) q⟩
noncomputable def tJoined (n:Nat) (t:TJ):TE:=fun σ H Q=>n≤90∧t σ H fun H1=>∀ z:Str,Q (.str z) H1
theorem pe_joined {a b:Expr} {r:List Expr} {t:TJ} {pos:Pos} (h:PJ X (a :: b :: r) t):PE X (.JoinedStr (a :: b :: r) pos) (tJoined (a :: b :: r).length t):=by
  intro pins s σ H Q I hw
  obtain ⟨hn,hq⟩:=hw
  refine wpAny_JoinedStr (joins_mono (fun z s1 ⟨hz,H1,I1,q⟩=>⟨Nat.le_trans hz (by decide),⟨.str z,H1,I1.tok _,⟨_,rfl⟩,q z⟩⟩) (h pins s σ H Str.empty _ I ?_ hq))
  show 0+_≤_
  omega
noncomputable def tFmtI (tv:TE):TE:=fun σ H Q=>tv σ H fun x H1=>∃ i,x = .int i∧i.natAbs.log2 < 1920∧Q (.str (toString i)) H1
theorem pe_fmtI {v:Expr} {tv:TE} {pos:Pos} (h:PE X v tv):PE X (.FormattedValue v (-1) none pos) (tFmtI tv):=by
  intro pins s σ H Q I hw
  refine FormattedValue_plain (thn (h pins s σ H _ I hw) fun u s1 ⟨x,H1,I1,rx,i,ex,hi,q⟩ => ?_)
  subst ex
  obtain ⟨tk,rfl⟩:=rx
  exact formatField_int_small hi ⟨.str _,H1,I1.tok _,⟨_,rfl⟩,q⟩
noncomputable def tFmtR (tv:TE):TE:=fun σ H Q=>tv σ H fun x H1=>∃ z,x = .str z∧(reprText z).length≤1000∧Q (.str (reprText z)) H1
theorem pe_fmtR {v:Expr} {tv:TE} {pos:Pos} (h:PE X v tv):PE X (.FormattedValue v 114 none pos) (tFmtR tv):=by
  intro pins s σ H Q I hw
  refine wpAny_FormattedValue_repr (thn (h pins s σ H _ I hw) fun u s1 ⟨x,H1,I1,rx,z,ex,hz,q⟩ => ?_)
  subst ex
  obtain ⟨tk,rfl⟩:=rx
  have hz':(reprText z).length≤sizeLine:=Nat.le_trans hz (by decide)
  refine wpAny_pyReprObj_str (hsz:=hz') ?_
  exact formatField_str (fun t' tk'=>⟨.str _,H1,I1.tok _,⟨_,rfl⟩,q⟩) hz'
inductive J_call_int_text (xs:List V) (H:Hp) (Q:VK):Prop
  | mk:∀ z n,(xs = [.str z])→(intText? z=some n)→(z.length≤640)→(Q (.int n) H)→J_call_int_text xs H Q
theorem call_int_text:CallR X (.type "int") (fun xs H Q=>J_call_int_text xs H Q):=by
  intro pins s σ H xs us Q I r h
  obtain ⟨z,n,rfl,hn,hl,q⟩:=h
  obtain ⟨u,rfl,rx⟩:=Vals.one r
  obtain ⟨tk,rfl⟩:=rx
  exact PySem.W.KIN.call_text hn hl ⟨.int n,H,I.tok _,⟨_,rfl⟩,q⟩
theorem pe_globS {x z:Str} {pos:Pos} (h:∃ t,X.mg x=some (.str z t)) (hg:Gl X x) (hd:(x == ("__debug__" : Str))=false:=by decide):PE X (.Name x pos) (tC (.str z)) :=
  let ⟨t,e⟩:=h;pe_glob hg e ⟨t,rfl⟩ hd
theorem pe_globI {x:Str} {i:Int} {pos:Pos} (h:∃ t,X.mg x=some (.int i t)) (hg:Gl X x) (hd:(x == ("__debug__" : Str))=false:=by decide):PE X (.Name x pos) (tC (.int i)) :=
  let ⟨t,e⟩:=h;pe_glob hg e ⟨t,rfl⟩ hd
end

theorem Fun.okE {P:Program} {w:World} {K:PySem.W.Frag} {mg:Str→Option Value} {base:Heap} {x qual:Str} {st:Stmt} {f:Addr} {fd:FuncData} {N ps:List Str} {k:Nat} {sp:Sp} (F:Fun K x qual st f fd) (S:FnScope N ps (defScope st)) (len:∀ vs H Q E,sp vs H Q E→vs.length=ps.length)
    (hbody:∀ (cdv:Value) (A:Around) (outer:List Env) (s:Shared) (H:Hp) (vs:List V) (Q:VK) (E:XK),Room k (A.deeper (envOfC qual (defScope st) s.heap.objs.size f cdv))→sp vs H Q E →
      ∃ t,PSs (cxOf (CXE P w) P w K mg base N qual (defScope st) f cdv A outer s H E) (defBody st) t∧t { nx:=fun _ H'=>Q .non H',rt:=Q } (start N vs) H):FnOk P w K mg base (CXE P w) (k+1) f fd ps sp:=by
  obtain ⟨oc,od,kV,doc,pm,an,cdv,ct,osl,rfl,lk,hcd⟩:=F.ex
  exact fn_of lk hcd S len fun A outer s H vs Q E hr hsp=>hbody cdv A outer s H vs Q E hr hsp
structure HasE (P:Program) (w:World) (K:PySem.W.Frag) (mg:Str→Option Value) (base:Heap) (k:Nat) (x:Str) (ps:List Str) (sp:Sp):Prop where
  ex:∃ f fd,FnOk P w K mg base (CXE P w) k f fd ps sp∧mg x=some (.ref f)∧PySem.W.keepIn K (.ref f)=true∧Binds K fd ps []
structure HasM (P:Program) (w:World) (K:PySem.W.Frag) (mg:Str→Option Value) (base:Heap) (k:Nat) (C:Addr) (m:Str) (ps:List Str) (sp:Sp):Prop where
  ex:∃ f fd,FnOk P w K mg base (CXE P w) k f fd ps sp∧Meth K C m f∧Binds K fd ps []
structure HasC (P:Program) (w:World) (K:PySem.W.Frag) (mg:Str→Option Value) (base:Heap) (k:Nat) (x:Str) (C:Addr) (ps:List Str) (sp:Sp):Prop where
  ex:∃ f fd,FnOk P w K mg base (CXE P w) k f fd ps sp∧mg x=some (.ref C)∧Mk K C f∧Binds K fd ps []
structure DefM (K:PySem.W.Frag) (C:Addr) (m qual:Str) (st:Stmt) (ps:List Str):Prop where
  ex:∃ f fd,Fun K m qual st f fd∧Meth K C m f∧Binds K fd ps []
structure DefC (K:PySem.W.Frag) (mg:Str→Option Value) (x:Str) (C:Addr) (qual:Str) (st:Stmt) (ps:List Str):Prop where
  ex:∃ f fd,Fun K "__init__" qual st f fd∧mg x=some (.ref C)∧Mk K C f∧Binds K fd ps []
section
variable {P:Program} {w:World} {K:PySem.W.Frag} {mg:Str→Option Value} {base:Heap} {x m qual:Str} {C:Addr} {st:Stmt} {N ps:List Str} {k:Nat} {sp:Sp}
theorem Def.hasE (D:Def K mg x st ps) (S:FnScope N ps (defScope st)) (len:∀ vs H Q E,sp vs H Q E→vs.length=ps.length)
    (hbody:∀ (f:Addr) (cdv:Value) (A:Around) (outer:List Env) (s:Shared) (H:Hp) (vs:List V) (Q:VK) (E:XK),Room k (A.deeper (envOfC x (defScope st) s.heap.objs.size f cdv))→sp vs H Q E →
      ∃ t,PSs (cxOf (CXE P w) P w K mg base N x (defScope st) f cdv A outer s H E) (defBody st) t∧t { nx:=fun _ H'=>Q .non H',rt:=Q } (start N vs) H):HasE P w K mg base (k+1) x ps sp:=by
  obtain ⟨f,fd,F,hm,hb⟩:=D.ex
  exact ⟨f,fd,F.okE S len (hbody f),hm,F.kp,hb⟩
theorem DefM.has (D:DefM K C m qual st ps) (S:FnScope N ps (defScope st)) (len:∀ vs H Q E,sp vs H Q E→vs.length=ps.length)
    (hbody:∀ (f:Addr) (cdv:Value) (A:Around) (outer:List Env) (s:Shared) (H:Hp) (vs:List V) (Q:VK) (E:XK),Room k (A.deeper (envOfC qual (defScope st) s.heap.objs.size f cdv))→sp vs H Q E →
      ∃ t,PSs (cxOf (CXE P w) P w K mg base N qual (defScope st) f cdv A outer s H E) (defBody st) t∧t { nx:=fun _ H'=>Q .non H',rt:=Q } (start N vs) H):HasM P w K mg base (k+1) C m ps sp:=by
  obtain ⟨f,fd,F,hm,hb⟩:=D.ex
  exact ⟨f,fd,F.okE S len (hbody f),hm,hb⟩
theorem DefC.has (D:DefC K mg x C qual st ps) (S:FnScope N ps (defScope st)) (len:∀ vs H Q E,sp vs H Q E→vs.length=ps.length)
    (hbody:∀ (f:Addr) (cdv:Value) (A:Around) (outer:List Env) (s:Shared) (H:Hp) (vs:List V) (Q:VK) (E:XK),Room k (A.deeper (envOfC qual (defScope st) s.heap.objs.size f cdv))→sp vs H Q E →
      ∃ t,PSs (cxOf (CXE P w) P w K mg base N qual (defScope st) f cdv A outer s H E) (defBody st) t∧t { nx:=fun _ H'=>Q .non H',rt:=Q } (start N vs) H):HasC P w K mg base (k+1) x C ps sp:=by
  obtain ⟨f,fd,F,hm,hb⟩:=D.ex
  exact ⟨f,fd,F.okE S len (hbody f),hm,hb⟩
end
section
variable {X:Cx} {k k':Nat} {x m:Str} {C:Addr} {ps:List Str} {sp:Sp} {p pos apos:Pos} {e o:Expr} {es:List Expr} {ta:TE} {t:TA} {E:XK}
theorem pe_callE (h:HasE X.prog X.w X.K X.mg X.base k x ps sp) (hr:Room k' X.A) (hk:k≤k') (hx:Passes (CXE X.prog X.w) X E) (hg:Gl X x) (ha:PA X (e :: es) t) (hdb:(x == ("__debug__" : Str))=false:=by decide)
    (he:starEach (e :: es) X.env=(false,eval e X.env) :: starEach es X.env:=by rfl) (hpl:(backTo pos (starEach es X.env)).any (·.1)=false:=by rfl) :
    PE X (.Call (.Name x p) (e :: es) [] pos) (tCall sp [] E t):=by
  obtain ⟨f,fd,F,hm,hkp,hb⟩:=h.ex
  exact pe_call F (hr.mono hk) hg hm hkp hb .nil hx ha hdb he hpl
theorem pet_callE (h:HasE X.prog X.w X.K X.mg X.base k x ps sp) (hr:Room k' X.A) (hk:k≤k') (hg:Gl X x) (ha:PA X.nox (e :: es) t) (hdb:(x == ("__debug__" : Str))=false:=by decide)
    (he:starEach (e :: es) X.env=(false,eval e X.env) :: starEach es X.env:=by rfl) (hpl:(backTo pos (starEach es X.env)).any (·.1)=false:=by rfl) :
    PEt X (.Call (.Name x p) (e :: es) [] pos) (fun E=>tCall sp [] E t):=by
  obtain ⟨f,fd,F,hm,hkp,hb⟩:=h.ex
  exact pet_call F (hr.mono hk) hg hm hkp hb .nil ha hdb he hpl
theorem pe_mE {pl:Sem Bool} (h:HasM X.prog X.w X.K X.mg X.base k C m ps sp) (c:Cls X.K C) (hr:Room k' X.A) (hk:k≤k') (hx:Passes (CXE X.prog X.w) X E) (he:PE X o ta) (ha:PA X (e :: es) t)
    (hst:starEach (e :: es) X.env=(false,eval e X.env) :: starEach es X.env:=by rfl) (hpl:(backTo pos (starEach es X.env)).any (·.1)=false:=by rfl)
    (ht:eval (.Call (.Attribute o m apos) (e :: es) [] pos) X.env=(do
      let ov ← eval o X.env
      standAt apos.atName
      let (f,first) ← holding [ov] (getMethod ov m pl)
      callWith pos f first (backTo pos (starEach (e :: es) X.env)) (backToKw pos (keywordEach [] X.env))):=by rfl) :
    PE X (.Call (.Attribute o m apos) (e :: es) [] pos) (tMeth C m sp [] E ta t):=by
  obtain ⟨f,fd,F,hm,hb⟩:=h.ex
  exact pe_meth he c hm F (hr.mono hk) hb .nil hx ha hst hpl ht
theorem pe_mE0 {pl:Sem Bool} (h:HasM X.prog X.w X.K X.mg X.base k C m ps sp) (c:Cls X.K C) (hr:Room k' X.A) (hk:k≤k') (hx:Passes (CXE X.prog X.w) X E) (he:PE X o ta)
    (ht:eval (.Call (.Attribute o m apos) [] [] pos) X.env=(do
      let ov ← eval o X.env
      standAt apos.atName
      let (f,first) ← holding [ov] (getMethod ov m pl)
      callWith pos f first (backTo pos (starEach [] X.env)) (backToKw pos (keywordEach [] X.env))):=by rfl) :
    PE X (.Call (.Attribute o m apos) [] [] pos) (tMeth C m sp [] E ta tNil):=by
  obtain ⟨f,fd,F,hm,hb⟩:=h.ex
  exact pe_meth0 he c hm F (hr.mono hk) hb .nil hx ht
theorem pe_makeE (h:HasC X.prog X.w X.K X.mg X.base k x C ps sp) (hr:Room k' X.A) (hk:k+1≤k') (hx:Passes (CXE X.prog X.w) X E) (hg:Gl X x) (ha:PA X (e :: es) t) (hdb:(x == ("__debug__" : Str))=false:=by decide)
    (he:starEach (e :: es) X.env=(false,eval e X.env) :: starEach es X.env:=by rfl) (hpl:(backTo pos (starEach es X.env)).any (·.1)=false:=by rfl) :
    PE X (.Call (.Name x p) (e :: es) [] pos) (tMake C sp [] E t):=by
  obtain ⟨f,fd,F,hm,M,hb⟩:=h.ex
  exact pe_make M F (hr.mono hk) hg hm hb .nil hx ha hdb he hpl
end
end L2
namespace L2
open PySem PySem.Spec PyProof.Rows
structure HasN (P:Program) (w:World) (K:PySem.W.Frag) (mg:Str→Option Value) (base:Heap) (k:Nat) (x:Str) (ps:List Str) (sp:Sp):Prop where
  ex:∃ f fd,FnN P w K mg base k f fd ps sp∧mg x=some (.ref f)∧PySem.W.keepIn K (.ref f)=true∧Binds K fd ps []
theorem Def.hasN {P:Program} {w:World} {K:PySem.W.Frag} {mg:Str→Option Value} {base:Heap} {x:Str} {st:Stmt} {N ps:List Str} {k:Nat} {sp:Sp} (D:Def K mg x st ps) (S:FnScope N ps (defScope st)) (len:∀ vs H Q E,sp vs H Q E→vs.length=ps.length)
    (hbody:∀ (f:Addr) (cdv:Value) (A:Around) (outer:List Env) (s:Shared) (H:Hp) (vs:List V) (Q:VK),RoomN k (A.deeper (envOfC x (defScope st) s.heap.objs.size f cdv))→sp vs H Q E0 →
      ∃ t,PSs ((cxOf CX0 P w K mg base N x (defScope st) f cdv { A with handled:=none } outer s H E0).uncalm (A.deeper (envOfC x (defScope st) s.heap.objs.size f cdv)) fun _ _=>False) (defBody st) t∧t { nx:=fun _ H'=>Q .non H',rt:=Q } (start N vs) H):HasN P w K mg base (k+1) x ps sp:=by
  obtain ⟨f,fd,F,hm,hb⟩:=D.ex
  exact ⟨f,fd,fn_N F S len (hbody f),hm,F.kp,hb⟩
theorem pe_callHN {X:Cx} {k k':Nat} {x:Str} {ps:List Str} {sp:Sp} {p pos:Pos} {e:Expr} {es:List Expr} {t:TA} (h:HasN X.prog X.w X.K X.mg X.base k x ps sp) (hr:RoomN k' X.A) (hk:k≤k') (hg:Gl X x) (ha:PA X (e :: es) t) (hdb:(x == ("__debug__" : Str))=false:=by decide)
    (he:starEach (e :: es) X.env=(false,eval e X.env) :: starEach es X.env:=by rfl) (hpl:(backTo pos (starEach es X.env)).any (·.1)=false:=by rfl) :
    PE X (.Call (.Name x p) (e :: es) [] pos) (tCall sp [] E0 t):=by
  obtain ⟨f,fd,F,hm,hkp,hb⟩:=h.ex
  exact pe_callN F hr hk hg hm hkp hb ha hdb he hpl
theorem boot_ValueError_:bootBuiltins "ValueError" = some (.type "ValueError"):=by rfl
theorem call_isXK {X:Cx} {K:PySem.W.Frag} (hK:X.K=K) {x:Str} {C:Addr} (O:Exc K X.mg x C) (Z:ExcI K C) :
    CallR X (.builtin "isinstance") (fun xs H Q=>∃ ea c cv b,xs = [.ref ea,c]∧H ea=some (XO ea C)∧RelV c cv∧(∀ u v,RelV c u→RelV c v→u=v)∧PySem.W.kitOne K (.ref C) cv=some b∧Q (.bl b) H):=by
  subst hK
  exact call_isX O Z
noncomputable def eqT (xs ys:List V):Bool:=(List.range (min xs.length ys.length)).all (fun j=>eqV (xs.getD j .non) (ys.getD j .non)) && xs.length == ys.length
theorem vals_getD {xs:List V} {us:List Value} (r:Vals xs us) (j:Nat) (h:j < us.length):RelV (xs.getD j .non) us[j]:=by
  have hx:j < xs.length:=by rw [r.length];exact h
  obtain ⟨u,h1,h2⟩:=r.get (List.getElem?_eq_getElem hx)
  rw [List.getElem?_eq_getElem h] at h1
  cases h1
  rw [List.getD_eq_getElem?_getD,List.getElem?_eq_getElem hx]
  exact h2
theorem flat_getD {xs:List V} (f:xs.all flatV=true) (j:Nat) (h:j < xs.length):flatV (xs.getD j .non)=true:=by
  rw [List.getD_eq_getElem?_getD,List.getElem?_eq_getElem h]
  exact List.all_eq_true.mp f _ (List.getElem_mem h)
end L2
namespace L2
open PySem PySem.Spec PyProof.Rows
section
variable {X:Cx}
noncomputable def rNeT (K:PySem.W.Frag):R2:=fun x y H Q=>∃ a b xs ys,x = .ref a∧y = .ref b∧SqT K H a xs∧SqT K H b ys∧xs.all flatV=true∧ys.all flatV=true∧Q (.bl (!eqT xs ys)) H
theorem op_neT (hu:X.A.units < cLine):OpR X (compareOp .NotEq) (rNeT X.K):=by
  intro pins s σ H x y v u Q I rx ry h
  obtain ⟨a,b,xs,ys,rfl,rfl,ha,hb,fx,fy,q⟩:=h
  cases (show v=Value.ref a from rx)
  cases (show u=Value.ref b from ry)
  obtain ⟨its,r1,t1,_⟩:=I.tuple ha
  obtain ⟨its2,r2,t2,_⟩:=I.tuple hb
  have e1:=r1.length
  have e2:=r2.length
  refine SeqAt.RcNeAt.tuples (e:=fun j=>eqV (xs.getD j .non) (ys.getD j .non)) (items:=its.toArray) (items2:=its2.toArray) t1 t2 hu (fun j h1 h2 => ?_) _ _ _ _ ?_
  · have h1':j < its.length:=by simpa using h1
    have h2':j < its2.length:=by simpa using h2
    have z1:=vals_getD r1 j h1'
    have z2:=vals_getD r2 j h2'
    have z:=eqAt_V (A:=X.A.in1) (s:=s) z1 z2 (flat_getD fx j (by omega)) (flat_getD fy j (by omega))
    simpa using z
  · refine ⟨.bl (!eqT xs ys),H,I,?_,q⟩
    show Value.bool _=Value.bool _
    unfold eqT
    simp only [List.size_toArray,e1,e2]
end
end L2
namespace L2
open PySem PySem.Spec PyProof.Rows
end L2
namespace L2
open PySem PySem.Spec PyProof.Rows

section
open SeqAt
variable {A:Around} {s:Shared}
end
section
variable {X:Cx}
end
end L2
namespace L2
open PySem PySem.Spec PyProof.Rows

section
variable {κ : Type} [DecidableEq κ]



end




section
variable {P:Program} {w:World} {H:Hp} {h:Heap} {a:Addr}
end



section
variable {X:Cx} {pins:List (Addr × Obj)} {σ : St} {H:Hp} {s:Shared} {a:Addr} {y v:V} {u r:Value} {o:Option V} {A:Around} {E:Value→Shared→Prop}


end

section
variable {X:Cx} {pins:List (Addr × Obj)} {σ : St} {H:Hp} {s:Shared} {a:Addr} {kvs:List (Key × V)} {k:Key} {u:Value} {A:Around} {E:Value→Shared→Prop}
end





section
variable {X:Cx} {o i e value:Expr} {pos pos' tpos:Pos} {td ty tv:TE}
end


section
variable {X:Cx} {pos:Pos}
end






section
variable {X:Cx} {pins:List (Addr × Obj)} {σ : St} {H:Hp} {s:Shared} {a:Addr} {y d:V} {u r:Value} {o:Option V} {A:Around} {E:Value→Shared→Prop}
end

section
variable {X:Cx} {o e f:Expr} {apos cpos:Pos} {td ty tx:TE}
end

section
variable {X:Cx} {pins:List (Addr × Obj)} {σ : St} {H:Hp} {s:Shared} {a:Addr} {kvs:List (Key × V)} {A:Around} {E:Value→Shared→Prop}
end


section
variable {X:Cx} {pins:List (Addr × Obj)} {σ : St} {H:Hp} {s:Shared} {a:Addr} {y:V} {u:Value} {A:Around} {E:Value→Shared→Prop}
end
end L2
namespace L2
open PySem PySem.Spec PyProof.Rows

section
variable (P:Program) (w:World)
end
section
variable {P:Program} {w:World} {h h':Heap}
end
section
variable {P:Program} {w:World} {A:Around} {E:Value→Shared→Prop} {s:Shared}
end

section
variable {prog:Program} {w:World} {K:Type} [DecidableEq K] {knd:HeapKind prog w K} {A:Around} {E:Value→Shared→Prop} {s:Shared} {d a:Addr} {k:K} {xs:List (K × Addr × Value)}
end
section
variable {prog:Program} {w:World} {K:Type} [DecidableEq K] (knd:HeapKind prog w K) (d a:Addr)
end
end L2
namespace L2
open PySem PySem.Spec PyProof.Rows

section
variable {X:Cx} {scope:Scope} {own:List Str} {caps:List (Str × Nat)} {pins:List (Addr × Obj)} {σ : St} {H:Hp} {s:Shared} {fp:List Addr}


end
end L2
namespace L2
open PySem PySem.Spec PyProof.Rows

section
variable {P:Program} {w:World} {H:Hp} {h:Heap}
end
section
variable {X:Cx} {pins:List (Addr × Obj)} {σ : St} {H:Hp} {s:Shared} {a b:Addr} {kvs kvs':List (NK × V)} {k:NK} {y v:V} {u r:Value} {A:Around} {E:Value→Shared→Prop}
end
section
variable {X:Cx} {o e f:Expr} {apos cpos:Pos} {td ty tx:TE}
end
end L2
namespace Sw
section
variable {S:Type}
end
end Sw
namespace L2
open PySem PySem.Spec PyProof.Rows

section
variable {X:Cx}
end
inductive J_op_mul_str0 (x:V) (y:V) (H:Hp) (Q:VK):Prop
  | mk:∀ z n,(x = .str z)→(y = .int n)→(0≤n)→(n≤1000)→(z.length≤1000)→(Q (.str (timesS z n.toNat)) H)→J_op_mul_str0 x y H Q
theorem op_mul_str0 {X:Cx}:OpR X (binaryOp .Mult) (fun x y H Q=>J_op_mul_str0 x y H Q):=by
  intro pins s σ H x y v u Q I rx ry h
  obtain ⟨z,n,rfl,rfl,h1,h2,h3,q⟩:=h
  by_cases h0:n=0
  · subst h0
    obtain ⟨t,rfl⟩:=rx
    obtain ⟨t',rfl⟩:=ry
    exact PySem.P.mul_str_none (by omega) (by omega) ⟨.str (timesS z 0),H,I.tok _,⟨_,rfl⟩,q⟩
  · exact op_mul_str pins s σ H _ _ v u Q I rx ry ⟨z,n,rfl,rfl,by omega,h2,h3,q⟩
end L2
namespace Sw
open PySem L2
noncomputable abbrev nV (n:Nat):V:=V.int (n:Int)
theorem rd_cut {t rest:TS} {D:Ends} {σ : St} {H:Hp} (R:St→Hp→Prop) (key:∀ σ' H',R σ' H'→rest D σ' H') (h:∀ {N:St→Hp→Prop},(∀ σ' H',R σ' H'→N σ' H')→t { D with nx:=N } σ H):tSeq t rest D σ H:=h key
theorem paired_drop {α β : Type} {R : α → β → Prop}:∀ (n:Nat) {xs:List α} {ys:List β},Paired R xs ys→Paired R (xs.drop n) (ys.drop n)
  | 0,_,_,h=>h
  | _+1,_,_,.nil => .nil
  | n+1,_,_,.cons _ r=>paired_drop n r
theorem paired_take {α β : Type} {R : α → β → Prop}:∀ (n:Nat) {xs:List α} {ys:List β},Paired R xs ys→Paired R (xs.take n) (ys.take n)
  | 0,_,_,_ => .nil
  | _+1,_,_,.nil => .nil
  | n+1,_,_,.cons h r => .cons h (paired_take n r)
theorem paired_app {α β : Type} {R : α → β → Prop}:∀ {xs xs':List α} {ys ys':List β},Paired R xs ys→Paired R xs' ys'→Paired R (xs ++ xs') (ys ++ ys')
  | _,_,_,_,.nil,h=>h
  | _,_,_,_,.cons h r,q => .cons h (paired_app r q)
end Sw
namespace Sw
open PySem L2

theorem str_ext {x y:Str} (h:x.cps.toList=y.cps.toList):x=y:=by
  cases x;cases y;simp only [Str.mk.injEq];exact Array.toList_inj.mp h
theorem slice_cps (x:Str) (lo hi:Option Int):(Txt.slice x lo hi).cps.toList=(x.cps.toList.drop (HT.sIx x.length 0 lo)).take (HT.sIx x.length x.length hi - HT.sIx x.length 0 lo):=by
  have hx:x.cps.toList.length=x.length:=by simp [Str.length]
  obtain ⟨h1,h2,h3⟩:=slice_bounds lo hi x.length
  have ha:HT.sIx x.length 0 lo≤x.length:=HT.sIx_le _ _ (Nat.zero_le _) _
  have hb:HT.sIx x.length x.length hi≤x.length:=HT.sIx_le _ _ (Nat.le_refl _) _
  have e:Builtin.Str.strSliceIndices lo hi 1 x.length=sliceRange ((HT.sIx x.length 0 lo:Nat):Int) ((HT.sIx x.length x.length hi:Nat):Int) 1:=by
    rw [← h1, ← h2]
    unfold Builtin.Str.strSliceIndices sliceBounds
    rfl
  have e2:((sliceRange ((HT.sIx x.length 0 lo:Nat):Int) ((HT.sIx x.length x.length hi:Nat):Int) 1).filterMap (x.cps[·]?))=(x.cps.toList.drop (HT.sIx x.length 0 lo)).take (HT.sIx x.length x.length hi - HT.sIx x.length 0 lo):=by
    rw [sliceRange_one,pick_run]
  unfold Txt.slice
  rw [e]
  split
  · rename_i hc
    have hl:(sliceRange ((HT.sIx x.length 0 lo:Nat):Int) ((HT.sIx x.length x.length hi:Nat):Int) 1).length=x.length:=by simpa using hc
    rw [sliceRange_one,List.length_map,List.length_range] at hl
    have ea:HT.sIx x.length 0 lo=0∨x.length=0:=by omega
    rcases ea with ea | ea
    · rw [ea,Nat.sub_zero] at hl ⊢
      rw [List.drop_zero,hl, ← hx,List.take_length]
    · have:x.cps.toList = []:=List.length_eq_zero_iff.mp (hx.trans ea)
      rw [this];simp
  · show (_:List Nat).toArray.toList=_
    rw [e2]
theorem app_cps (x y:Str):(x ++ y).cps.toList=x.cps.toList ++ y.cps.toList:=by
  rw [Str.cps_append,Array.toList_append]
theorem len_cps (x:Str):x.length=x.cps.toList.length:=by simp [Str.length]

inductive T where
  | num (n:Int)
  | name (w:Str)
  | any (w:Str)
  | of (w:Str) (ts:List T)
noncomputable def IsW (w:Str):Prop:=1≤w.length∧w.length≤8∧∀ c∈w.cps.toList,97≤c∧c≤122
mutual
noncomputable def T.shown:T→Str
  | .num n=>Str.ofString (toString n)
  | .name w=>w
  | .any w => "?" ++ w
  | .of w ts=>w ++ "(" ++ Str.join ", " (T.showns ts) ++ ")"
noncomputable def T.showns:List T→List Str
  | [] => []
  | t :: ts=>t.shown :: T.showns ts
end
mutual
noncomputable def T.parts:T→Nat
  | .num _=>1
  | .name _=>1
  | .any _=>1
  | .of _ ts=>1+T.partss ts
noncomputable def T.partss:List T→Nat
  | []=>0
  | t :: ts=>t.parts+T.partss ts
end
mutual
noncomputable def T.depth:T→Nat
  | .num _=>1
  | .name _=>1
  | .any _=>1
  | .of _ ts=>1+T.deepest ts
noncomputable def T.deepest:List T→Nat
  | []=>0
  | t :: ts=>max t.depth (T.deepest ts)
end
mutual
noncomputable def T.Ok:T→Prop
  | .num n => -(10 ^ 60) < n∧n < 10 ^ 60
  | .name w=>IsW w
  | .any w=>IsW w
  | .of w ts=>IsW w∧1≤ts.length∧ts.length≤4∧T.Oks ts
noncomputable def T.Oks:List T→Prop
  | []=>True
  | t :: ts=>t.Ok∧T.Oks ts
end
theorem showns_map:∀ ts:List T,T.showns ts=ts.map T.shown
  | []=>rfl
  | t :: ts=>by rw [T.showns,showns_map ts];rfl
theorem partss_sum:∀ ts:List T,T.partss ts=(ts.map T.parts).sum
  | []=>rfl
  | t :: ts=>by rw [T.partss,partss_sum ts];rfl
theorem oks_all:∀ {ts:List T},T.Oks ts↔∀ t∈ts,t.Ok
  | []=>by simp [T.Oks]
  | t :: ts=>by
    rw [T.Oks,oks_all (ts:=ts)]
    simp
theorem deepest_le:∀ {ts:List T} {t:T},t∈ts→t.depth≤T.deepest ts
  | t' :: ts,t,h=>by
    rw [T.deepest]
    rcases List.mem_cons.mp h with rfl | h
    · exact Nat.le_max_left _ _
    · exact Nat.le_trans (deepest_le h) (Nat.le_max_right _ _)
theorem deepest_is:∀ {ts:List T} {M:Nat},(∀ t∈ts,t.depth≤M)→T.deepest ts≤M
  | [],_,_=>Nat.zero_le _
  | t :: ts,M,h=>by
    rw [T.deepest]
    exact Nat.max_le.mpr ⟨h t List.mem_cons_self,deepest_is fun t ht=>h t (List.mem_cons_of_mem _ ht)⟩
theorem parts_pos:∀ t:T,1≤t.parts
  | .num _=>by rw [T.parts];exact Nat.le_refl _
  | .name _=>by rw [T.parts];exact Nat.le_refl _
  | .any _=>by rw [T.parts];exact Nat.le_refl _
  | .of _ ts=>by rw [T.parts];omega
theorem depth_pos:∀ t:T,1≤t.depth
  | .num _=>by rw [T.depth];exact Nat.le_refl _
  | .name _=>by rw [T.depth];exact Nat.le_refl _
  | .any _=>by rw [T.depth];exact Nat.le_refl _
  | .of _ ts=>by rw [T.depth];omega
theorem num_len {n:Int} (h1 : -(10 ^ 60) < n) (h2:n < 10 ^ 60):(Str.ofString (toString n)).length≤61:=by
  have hn:n.natAbs < 10 ^ 60:=by omega
  have h:=int_text_length_le10 (a:=n) (k:=60) (by decide) hn
  rw [ofString_length];exact h
mutual
theorem shown_len:∀ t:T,t.Ok→t.shown.length+2≤70 * t.parts
  | .num n,h=>by
    rw [T.Ok] at h
    rw [T.shown,T.parts]
    have:=num_len h.1 h.2
    omega
  | .name w,h=>by
    rw [T.Ok] at h
    rw [T.shown,T.parts]
    have:=h.2.1
    omega
  | .any w,h=>by
    rw [T.Ok] at h
    rw [T.shown,T.parts,Str.length_append]
    have:=h.2.1
    have:("?" : Str).length=1:=rfl
    omega
  | .of w ts,h=>by
    rw [T.Ok] at h
    rw [T.shown,T.parts,Str.length_append,Str.length_append,Str.length_append]
    have h1:=h.1.2.1
    have h2:=showns_len ts h.2.2.2
    have h3:=StrLaws.join_length_le ", " (T.showns ts)
    have e1:("(" : Str).length=1:=rfl
    have e2:(")" : Str).length=1:=rfl
    have e3:(", " : Str).length=2:=rfl
    rw [e3] at h3
    omega
theorem showns_len:∀ ts:List T,T.Oks ts→((T.showns ts).map (·.length)).sum+(T.showns ts).length * 2≤70 * T.partss ts
  | [],_=>by simp [T.showns,T.partss]
  | t :: ts,h=>by
    rw [T.Oks] at h
    have h1:=shown_len t h.1
    have h2:=showns_len ts h.2
    rw [T.showns,T.partss,List.map_cons,List.sum_cons,List.length_cons]
    omega
end

mutual
noncomputable def IsTr (H:Hp):T→V→Prop
  | .num n,v=>∃ a,v = .ref a∧H a=some (.tup [.str "num",.int n])
  | .name w,v=>∃ a,v = .ref a∧H a=some (.tup [.str "name",.str w])
  | .any w,v=>∃ a,v = .ref a∧H a=some (.tup [.str "any",.str w])
  | .of w ts,v=>∃ a b vs,v = .ref a∧H a=some (.tup [.str "of",.str w,.ref b])∧H b=some (.tup vs)∧IsTrs H ts vs
noncomputable def IsTrs (H:Hp):List T→List V→Prop
  | [],vs=>vs = []
  | t :: ts,vs=>∃ v r,vs=v :: r∧IsTr H t v∧IsTrs H ts r
end
mutual
theorem tr_keep {H H':Hp} (k:∀ a xs,H a=some (.tup xs)→H' a=some (.tup xs)):∀ {t:T} {v:V},IsTr H t v→IsTr H' t v
  | .num n,v,h=>by
    rw [IsTr] at h ⊢
    obtain ⟨a,e,h⟩:=h
    exact ⟨a,e,k _ _ h⟩
  | .name n,v,h=>by
    rw [IsTr] at h ⊢
    obtain ⟨a,e,h⟩:=h
    exact ⟨a,e,k _ _ h⟩
  | .any n,v,h=>by
    rw [IsTr] at h ⊢
    obtain ⟨a,e,h⟩:=h
    exact ⟨a,e,k _ _ h⟩
  | .of w ts,v,h=>by
    rw [IsTr] at h ⊢
    obtain ⟨a,b,vs,e,h1,h2,h3⟩:=h
    exact ⟨a,b,vs,e,k _ _ h1,k _ _ h2,trs_keep k h3⟩
theorem trs_keep {H H':Hp} (k:∀ a xs,H a=some (.tup xs)→H' a=some (.tup xs)):∀ {ts:List T} {vs:List V},IsTrs H ts vs→IsTrs H' ts vs
  | [],vs,h=>by rw [IsTrs] at h ⊢;exact h
  | t :: ts,vs,h=>by
    rw [IsTrs] at h ⊢
    obtain ⟨v,r,e,h1,h2⟩:=h
    exact ⟨v,r,e,tr_keep k h1,trs_keep k h2⟩
end
theorem tr_same {H H':Hp} (s:Same H H') {t:T} {v:V} (h:IsTr H t v):IsTr H' t v:=tr_keep (fun a xs e=>s _ _ e) h
theorem trs_same {H H':Hp} (s:Same H H') {ts:List T} {vs:List V} (h:IsTrs H ts vs):IsTrs H' ts vs:=trs_keep (fun a xs e=>s _ _ e) h
noncomputable def notTup:HO→Prop
  | .tup _=>False
  | _=>True
theorem keep_put {H:Hp} {p:Addr} {o o':HO} (hp:H p=some o) (hn:notTup o):∀ a xs,H a=some (.tup xs)→upd H p o' a=some (.tup xs):=fun a xs e=>by
  have:a≠p:=fun z=>by
    rw [z,hp] at e
    cases e
    exact hn
  rw [upd_ne this];exact e
theorem trs_len {H:Hp}:∀ {ts:List T} {vs:List V},IsTrs H ts vs→ts.length=vs.length
  | [],vs,h=>by rw [IsTrs] at h;subst h;rfl
  | t :: ts,vs,h=>by
    rw [IsTrs] at h
    obtain ⟨v,r,rfl,_,h2⟩:=h
    rw [List.length_cons,List.length_cons,trs_len h2]
theorem trs_at {H:Hp}:∀ {ts:List T} {vs:List V} {i:Nat} {v:V},IsTrs H ts vs→vs[i]? = some v→∃ t,ts[i]? = some t∧IsTr H t v
  | [],vs,i,v,h,e=>by rw [IsTrs] at h;subst h;simp at e
  | t :: ts,vs,i,v,h,e=>by
    rw [IsTrs] at h
    obtain ⟨v',r,rfl,h1,h2⟩:=h
    cases i with
    | zero=>simp at e;subst e;exact ⟨t,rfl,h1⟩
    | succ i=>simpa using trs_at (i:=i) h2 (by simpa using e)
theorem trs_of {H:Hp}:∀ {ts:List T} {vs:List V},Paired (fun t v=>IsTr H t v) ts vs→IsTrs H ts vs
  | _,_,.nil=>by rw [IsTrs]
  | _,_,.cons h t=>by rw [IsTrs];exact ⟨_,_,rfl,h,trs_of t⟩

noncomputable def sg (i:Int):Str:=⟨#[97+i.toNat]⟩
theorem sg_len (i:Int):(sg i).length=1:=rfl
theorem abc_at {i:Int} (h0:0≤i) (h1:i < 26):atI ("abcdefghijklmnopqrstuvwxyz" : Str).cps.toList i=some (97+i.toNat):=by
  have e:((i.toNat:Nat):Int)=i:=by omega
  have hj:i.toNat < 26:=by omega
  rw [← e]
  refine atI_nat ?_
  rw [Int.toNat_natCast]
  generalize i.toNat=j at hj
  revert j
  decide +kernel
noncomputable def wordA (m:Int):Str:=timesS (sg (m / 1664 % 26)) (1+m % 8).toNat
noncomputable def wordOf (m:Int):Str:=Txt.slice (wordA m) none (some (m / 8 % (1+m % 8))) ++ sg (m / 64 % 26) ++ Txt.slice (wordA m) (some (m / 8 % (1+m % 8)+1)) none
theorem wordA_cps (m:Int):(wordA m).cps.toList=List.replicate (1+m % 8).toNat (97+(m / 1664 % 26).toNat):=by
  unfold wordA timesS sg
  simp
theorem wordOf_ok (m:Int):IsW (wordOf m):=by
  have a1:0≤m % 8:=Int.emod_nonneg _ (by decide)
  have a2:m % 8 < 8:=Int.emod_lt_of_pos _ (by decide)
  have b1:0≤m / 1664 % 26:=Int.emod_nonneg _ (by decide)
  have b2:m / 1664 % 26 < 26:=Int.emod_lt_of_pos _ (by decide)
  have c1:0≤m / 64 % 26:=Int.emod_nonneg _ (by decide)
  have c2:m / 64 % 26 < 26:=Int.emod_lt_of_pos _ (by decide)
  have d1:0≤m / 8 % (1+m % 8):=Int.emod_nonneg _ (by omega)
  have d2:m / 8 % (1+m % 8) < 1+m % 8:=Int.emod_lt_of_pos _ (by omega)
  have hl:(wordA m).length=(1+m % 8).toNat:=by rw [len_cps,wordA_cps,List.length_replicate]
  have wc:=wordA_cps m
  obtain ⟨S,eS⟩:∃ S:Nat,1+m % 8=(S:Int):=⟨(1+m % 8).toNat,by omega⟩
  obtain ⟨k,ek⟩:∃ k:Nat,m / 8 % (1+m % 8)=(k:Int):=⟨_,(Int.toNat_of_nonneg d1).symm⟩
  have S1:1≤S:=by omega
  have S8:S≤8:=by omega
  have hk:k < S:=by rw [ek,eS] at d2;exact Int.ofNat_lt.mp d2
  rw [eS,Int.toNat_natCast] at hl wc
  have e1:HT.sIx S S (some (k:Int))=k:=by rw [HT.sIx_nat];exact Nat.min_eq_left (Nat.le_of_lt hk)
  have e2:HT.sIx S 0 (some ((k:Int)+1))=k+1:=by
    have e:(k:Int)+1=((k+1:Nat):Int):=rfl
    rw [e,HT.sIx_nat];exact Nat.min_eq_left hk
  have ec:(wordOf m).cps.toList=(List.replicate S (97+(m / 1664 % 26).toNat)).take k ++ [97+(m / 64 % 26).toNat] ++ (List.replicate S (97+(m / 1664 % 26).toNat)).drop (k+1):=by
    unfold wordOf
    rw [app_cps,app_cps,slice_cps,slice_cps,ek,hl,e1,e2,HT.sIx_none,HT.sIx_none,wc,List.drop_zero,Nat.sub_zero]
    congr 1
    refine List.take_of_length_le ?_
    rw [List.length_drop,List.length_replicate]
    exact Nat.le_refl _
  have el:(wordOf m).length=S:=by
    rw [len_cps,ec,List.length_append,List.length_append,List.length_take,List.length_drop,List.length_replicate,Nat.min_eq_left (Nat.le_of_lt hk)]
    show k+1+(S - (k+1))=S
    exact Nat.add_sub_cancel' hk
  clear e1 e2 hl wc hk ek eS d1 d2 a1 a2
  refine ⟨by rw [el];omega,by rw [el];omega,fun c hc => ?_⟩
  rw [ec] at hc
  rcases List.mem_append.mp hc with hc | hc
  · rcases List.mem_append.mp hc with hc | hc
    · have:=(List.mem_replicate.mp (List.mem_of_mem_take hc)).2
      omega
    · have:=List.mem_singleton.mp hc
      omega
  · have:=(List.mem_replicate.mp (List.mem_of_mem_drop hc)).2
    omega
end Sw
namespace Sw
open PySem L2

noncomputable def isLet (c:Nat):Bool:=decide (97≤c∧c≤122)
noncomputable def isFig (c:Nat):Bool:=decide (48≤c∧c≤57)
noncomputable def mkS (l:List Nat):Str:=⟨l.toArray⟩
theorem mkS_cps (l:List Nat):(mkS l).cps.toList=l:=rfl
theorem mkS_len (l:List Nat):(mkS l).length=l.length:=by rw [len_cps,mkS_cps]
noncomputable def pWord (l:List Nat):Option (List Nat × List Nat) :=
  if l.takeWhile isLet = []∨8 < (l.takeWhile isLet).length then none else some (l.takeWhile isLet,l.drop (l.takeWhile isLet).length)
noncomputable def pNum (l:List Nat):Option (Int × List Nat) :=
  let neg:=decide (l.head? = some 45)
  let l1:=if neg then l.tail else l
  let f:=l1.takeWhile isFig
  if f = []∨60 < f.length then none
  else if f.head? = some 48∧¬ (neg=false∧f = [48]) then none
  else some (if neg then -((PySem.NumText.digitsVal f:Nat):Int) else ((PySem.NumText.digitsVal f:Nat):Int),l1.drop f.length)
noncomputable def pMore (tree:List Nat→Option (T × List Nat)):Nat→List Nat→Option (List T × List Nat)
  | 0,_=>none
  | n+1,44 :: 32 :: r=>match tree r with
    | some (t,r2)=>(match pMore tree n r2 with
      | some (ts,r3)=>some (t :: ts,r3)
      | none=>none)
    | none=>none
  | _+1,41 :: r=>some ([],r)
  | _+1,_=>none
noncomputable def pArms (tree:List Nat→Option (T × List Nat)) (l:List Nat):Option (List T × List Nat):=match tree l with
  | some (t,r)=>(match pMore tree (r.length+1) r with
    | some (ts,r2)=>if 4 < ts.length+1 then none else some (t :: ts,r2)
    | none=>none)
  | none=>none
noncomputable def pKnot (arms:List Nat→Option (List T × List Nat)) (x:List Nat):List Nat→Option (T × List Nat)
  | 40 :: l2=>(match arms l2 with
    | some (ts,l')=>some (.of (mkS x) ts,l')
    | none=>none)
  | l1=>some (.name (mkS x),l1)
theorem pk_of {arms:List Nat→Option (List T × List Nat)} {x l2:List Nat}:pKnot arms x (40 :: l2)=(match arms l2 with
    | some (ts,l')=>some (.of (mkS x) ts,l')
    | none=>none):=rfl
theorem pk_name {arms:List Nat→Option (List T × List Nat)} {x l1:List Nat} (h:l1.take 1 ≠ [40]):pKnot arms x l1=some (.name (mkS x),l1):=by
  unfold pKnot
  split
  · simp at h
  · rfl
noncomputable def pTree (b:Bool):Nat→List Nat→Option (T × List Nat)
  | 0,_=>none
  | k+1,l=>match l with
    | []=>none
    | c :: r =>
      if c=45∨isFig c=true then (match pNum (c :: r) with
        | some (n,l')=>some (.num n,l')
        | none=>none)
      else if c=63∧b=true then (match pWord r with
        | some (w,l')=>some (.any (mkS w),l')
        | none=>none)
      else match pWord (c :: r) with
        | none=>none
        | some (w,l1)=>pKnot (pArms (pTree b k)) w l1

theorem pt_cons {b:Bool} {k c:Nat} {r:List Nat}:pTree b (k+1) (c :: r)=(if c=45∨isFig c=true then (match pNum (c :: r) with
        | some (n,l')=>some (T.num n,l')
        | none=>none)
      else if c=63∧b=true then (match pWord r with
        | some (w,l')=>some (T.any (mkS w),l')
        | none=>none)
      else match pWord (c :: r) with
        | none=>none
        | some (w,l1)=>pKnot (pArms (pTree b k)) w l1):=rfl

noncomputable def rdr (CR dx:Addr) (tx:Str) (b:Bool) (p:Nat):HO := .ins CR dx [("text",.str tx),("with_holes",.bl b),("place",.int (p:Int))]
noncomputable def KeepBut (r:Addr) (H H':Hp):Prop := ∀ a o,a≠r→H a=some o→H' a=some o
theorem KeepBut.refl {r:Addr} {H:Hp}:KeepBut r H H:=fun _ _ _ h=>h
theorem KeepBut.trans {r:Addr} {H H1 H2:Hp} (x:KeepBut r H H1) (y:KeepBut r H1 H2):KeepBut r H H2:=fun a o n h=>y a o n (x a o n h)
theorem KeepBut.put {r:Addr} {H:Hp} {o:HO}:KeepBut r H (upd H r o):=fun a u n h=>by rw [upd_ne n];exact h
theorem KeepBut.of {r:Addr} {H H':Hp} (s:Same H H'):KeepBut r H H':=fun a u _ h=>s a u h
theorem KeepBut.new {r p:Addr} {H:Hp} {o:HO} (h:H p=none):KeepBut r H (upd H p o):=KeepBut.of (same_new h o)
theorem KeepBut.tups {r:Addr} {H H':Hp} {o:HO} (k:KeepBut r H H') (hr:H r=some o) (hn:notTup o):∀ a xs,H a=some (.tup xs)→H' a=some (.tup xs):=fun a xs e=>k a _ (fun z=>by rw [z,hr] at e;cases e;exact hn) e
theorem slice_cut (x:Str) {p q:Nat} (hp:p≤x.length):Txt.slice x (some (p:Int)) (some (q:Int))=mkS ((x.cps.toList.drop p).take (q - p)):=by
  refine str_ext ?_
  rw [slice_cps,mkS_cps,HT.sIx_nat,HT.sIx_nat,Nat.min_eq_left hp]
  have hl:x.cps.toList.length=x.length:=(len_cps x).symm
  by_cases h:q≤x.length
  · rw [Nat.min_eq_left h]
  · rw [Nat.min_eq_right (by omega),List.take_of_length_le (by rw [List.length_drop];omega),List.take_of_length_le (by rw [List.length_drop];omega)]
theorem upd_id {H:Hp} {r:Addr} {o:HO} (h:H r=some o):upd H r o=H:=by
  funext a
  by_cases e:a=r
  · subst e;rw [upd_same,h]
  · rw [upd_ne e]
theorem tw_le (pr:Nat→Bool):∀ l:List Nat,(l.takeWhile pr).length≤l.length
  | []=>Nat.le_refl _
  | c :: l=>by
    rw [List.takeWhile_cons]
    split
    · simp only [List.length_cons];have:=tw_le pr l;omega
    · simp
theorem tw_at (pr:Nat→Bool):∀ (l:List Nat) (j:Nat),j < (l.takeWhile pr).length→∃ c,l[j]? = some c∧pr c=true
  | [],j,h=>by simp at h
  | c :: l,j,h=>by
    rw [List.takeWhile_cons] at h
    split at h
    · rename_i hc
      cases j with
      | zero=>exact ⟨c,rfl,hc⟩
      | succ j=>exact tw_at pr l j (by simpa using h)
    · simp at h
theorem tw_end (pr:Nat→Bool):∀ (l:List Nat),(l.takeWhile pr).length < l.length→∃ c,l[(l.takeWhile pr).length]? = some c∧pr c=false
  | [],h=>by simp at h
  | c :: l,h=>by
    rw [List.takeWhile_cons] at h ⊢
    by_cases hc:pr c=true
    · rw [if_pos hc] at h ⊢
      exact tw_end pr l (by simpa using h)
    · rw [if_neg hc] at h ⊢
      exact ⟨c,rfl,by simpa using hc⟩
theorem tw_take (pr:Nat→Bool):∀ l:List Nat,l.take (l.takeWhile pr).length=l.takeWhile pr
  | []=>rfl
  | c :: l=>by
    rw [List.takeWhile_cons]
    split
    · rw [List.length_cons,List.take_succ_cons,tw_take pr l]
    · rfl
theorem lets_are (c:Nat):decide (c∈("abcdefghijklmnopqrstuvwxyz" : Str).cps.toList)=isLet c:=by
  by_cases h:c < 128
  · revert h
    revert c
    decide +kernel
  · have h1:isLet c=false:=by unfold isLet;exact decide_eq_false (by omega)
    rw [h1]
    refine decide_eq_false fun hm=>h ?_
    have:∀ d∈("abcdefghijklmnopqrstuvwxyz" : Str).cps.toList,d < 128:=by decide +kernel
    exact this c hm
theorem figs_are (c:Nat):decide (c∈("0123456789" : Str).cps.toList)=isFig c:=by
  by_cases h:c < 128
  · revert h
    revert c
    decide +kernel
  · have h1:isFig c=false:=by unfold isFig;exact decide_eq_false (by omega)
    rw [h1]
    refine decide_eq_false fun hm=>h ?_
    have:∀ d∈("0123456789" : Str).cps.toList,d < 128:=by decide +kernel
    exact this c hm
theorem mkS_empty {l:List Nat} (h:V.str (mkS l)=V.str ""):l = []:=by
  have:=congrArg (fun z:Str=>z.cps.toList) (V.str.inj h)
  exact this
theorem mkS_ne {l:List Nat} (h:¬ V.str (mkS l)=V.str ""):l ≠ []:=fun z=>h (by rw [z];rfl)
theorem mkS_eq {l:List Nat} {x:Str} (h:l=x.cps.toList):mkS l=x:=str_ext h
theorem tw_all (pr:Nat→Bool):∀ (l:List Nat),∀ c∈l.takeWhile pr,pr c=true
  | [],c,h=>by simp at h
  | d :: l,c,h=>by
    rw [List.takeWhile_cons] at h
    split at h
    · rename_i hd
      rcases List.mem_cons.mp h with rfl | h
      · exact hd
      · exact tw_all pr l c h
    · cases h
theorem pm_comma {tree:List Nat→Option (T × List Nat)} {n:Nat} {r:List Nat}:pMore tree (n+1) (44 :: 32 :: r)=(match tree r with
    | some (t,r2)=>(match pMore tree n r2 with
      | some (ts,r3)=>some (t :: ts,r3)
      | none=>none)
    | none=>none):=rfl
theorem pm_close {tree:List Nat→Option (T × List Nat)} {n:Nat} {r:List Nat}:pMore tree (n+1) (41 :: r)=some ([],r):=rfl
theorem pm_none {tree:List Nat→Option (T × List Nat)} {n:Nat} {l:List Nat} (h1:l.take 2 ≠ [44,32]) (h2:l.take 1 ≠ [41]):pMore tree (n+1) l=none:=by
  unfold pMore
  split
  · rename_i h;cases h
  · simp at h1
  · simp at h2
  · rfl
theorem pw_len {l x r:List Nat} (h:pWord l=some (x,r)):r.length≤l.length:=by
  unfold pWord at h
  split at h
  · cases h
  · cases h
    rw [List.length_drop];omega
theorem pw_is {l x r:List Nat} (h:pWord l=some (x,r)):x=l.takeWhile isLet∧r=l.drop x.length∧x.length≤l.length∧x ≠ []∧x.length≤8:=by
  unfold pWord at h
  split at h
  · cases h
  · rename_i hn
    cases h
    exact ⟨rfl,rfl,tw_le _ _,fun z=>hn (.inl z),Nat.le_of_not_lt fun z=>hn (.inr z)⟩
theorem pn_len {l r:List Nat} {n:Int} (h:pNum l=some (n,r)):r.length≤l.length:=by
  unfold pNum at h
  dsimp only at h
  generalize hd:decide (l.head? = some 45)=neg at h
  have hl1:(if neg=true then l.tail else l).length≤l.length:=by cases neg <;> simp
  generalize (if neg=true then l.tail else l)=l1 at h hl1
  by_cases h1:l1.takeWhile isFig = []∨60 < (l1.takeWhile isFig).length
  · rw [if_pos h1] at h;cases h
  · rw [if_neg h1] at h
    by_cases h2:(l1.takeWhile isFig).head? = some 48∧¬ (neg=false∧l1.takeWhile isFig = [48])
    · rw [if_pos h2] at h;cases h
    · rw [if_neg h2] at h
      have e:=(Prod.mk.inj (Option.some.inj h)).2
      rw [← e,List.length_drop]
      omega
theorem pm_len {tree:List Nat→Option (T × List Nat)} (ht:∀ l t r,tree l=some (t,r)→r.length≤l.length):∀ (n:Nat) (l:List Nat) (ts:List T) (r:List Nat),pMore tree n l=some (ts,r)→r.length≤l.length
  | 0,_,_,_,h=>by cases h
  | n+1,l,ts,r,h=>by
    unfold pMore at h
    split at h
    · rename_i z;cases z
    · split at h
      · rename_i t r2 e
        split at h
        · rename_i ts3 r3 e3
          cases h
          have h1:=ht _ _ _ e
          have h2:=pm_len ht _ _ _ _ e3
          simp only [List.length_cons]
          omega
        · cases h
      · cases h
    · cases h
      simp
    · cases h
theorem pa_len {tree:List Nat→Option (T × List Nat)} (ht:∀ l t r,tree l=some (t,r)→r.length≤l.length) {l:List Nat} {ts:List T} {r:List Nat} (h:pArms tree l=some (ts,r)):r.length≤l.length:=by
  unfold pArms at h
  split at h
  · rename_i t r1 e
    split at h
    · rename_i ts2 r2 e2
      split at h
      · cases h
      · cases h
        exact Nat.le_trans (pm_len ht _ _ _ _ e2) (ht _ _ _ e)
    · cases h
  · cases h
theorem pt_len (b:Bool):∀ (k:Nat) (l:List Nat) (t:T) (r:List Nat),pTree b k l=some (t,r)→r.length≤l.length
  | 0,_,_,_,h=>by cases h
  | k+1,l,t,r,h=>by
    unfold pTree at h
    split at h
    · cases h
    · rename_i c l0
      split at h
      · split at h
        · rename_i n l' e
          cases h
          exact pn_len e
        · cases h
      · split at h
        · split at h
          · rename_i x l' e
            cases h
            have:=pw_len e
            simp only [List.length_cons]
            omega
          · cases h
        · split at h
          · cases h
          · rename_i x l1 e
            have h1:=pw_len e
            unfold pKnot at h
            split at h
            · rename_i l2
              split at h
              · rename_i ts l' e2
                cases h
                have h2:=pa_len (pt_len b k) e2
                simp only [List.length_cons] at h1 ⊢
                omega
              · cases h
            · cases h
              exact h1
theorem take1 {l:List Nat} {c:Nat} (h:l.take 1 = [c]):∃ r,l=c :: r:=by
  cases l with
  | nil=>simp at h
  | cons d r=>simp at h;exact ⟨r,by rw [h]⟩
theorem take2 {l:List Nat} {c d:Nat} (h:l.take 2 = [c,d]):∃ r,l=c :: d :: r:=by
  cases l with
  | nil=>simp at h
  | cons a r =>
    cases r with
    | nil=>simp at h
    | cons e r=>simp at h;exact ⟨r,by rw [h.1,h.2]⟩
theorem trs_snoc {H:Hp} {t:T} {v:V}:∀ {ts:List T} {vs:List V},IsTrs H ts vs→IsTr H t v→IsTrs H (ts ++ [t]) (vs ++ [v])
  | [],vs,h,q=>by
    rw [IsTrs] at h
    subst h
    rw [List.nil_append,List.nil_append,IsTrs]
    exact ⟨v, [],rfl,q,by rw [IsTrs]⟩
  | t' :: ts,vs,h,q=>by
    rw [IsTrs] at h
    obtain ⟨v',r,rfl,h1,h2⟩:=h
    rw [List.cons_append,List.cons_append,IsTrs]
    exact ⟨v',r ++ [v],rfl,h1,trs_snoc h2 q⟩
end Sw
namespace Sw
open PySem L2 PySem.NumText

noncomputable def nt (n:Int):List Nat:=(Str.ofString (toString n)).cps.toList
noncomputable def dg (m:Nat):List Nat:=(Nat.toDigits 10 m).map Char.toNat
theorem nt_pos (m:Nat):nt (m:Int)=dg m:=PySem.W.KIN.signs_num m
theorem nt_neg (m:Nat) (h:1≤m):nt (-(m:Int))=45 :: dg m:=by
  obtain ⟨k,rfl⟩:∃ k,m=k+1:=⟨m - 1,by omega⟩
  have e : -(((k+1:Nat)):Int)=Int.negSucc k:=rfl
  unfold nt dg
  rw [e,PyProof.Rows.signs_ofString]
  show ("-" ++ Nat.repr (k+1)).toList.map Char.toNat=_
  rw [String.toList_append,List.map_append,Nat.toList_repr]
  rfl
theorem dg_digits (m:Nat):AllDigits (dg m):=by
  intro c hc
  obtain ⟨ch,hch,e⟩:=List.mem_map.mp hc
  have r:=PyProof.Rows.digit_range (Nat.isDigit_of_mem_toDigits (by decide) (by decide) hch)
  rw [← e]
  exact r
theorem dg_ne (m:Nat):dg m ≠ []:=by
  unfold dg
  intro e
  have h:=Nat.length_toDigits_pos (b:=10) (n:=m)
  rw [List.map_eq_nil_iff.mp e] at h
  exact absurd h (by decide)
theorem dg_val (m:Nat):digitsVal (dg m)=m:=PySem.W.KIN.val_back m
theorem map_back {cs:List Nat} (h:AllDigits cs):(cs.map Char.ofNat).map Char.toNat=cs:=by
  induction cs with
  | nil=>rfl
  | cons c cs ih =>
    have hc:=h.head
    rw [List.map_cons,List.map_cons,ih h.tail]
    have:(Char.ofNat c).toNat=c:=by
      have:∀ d,d < 128→(Char.ofNat d).toNat=d:=by decide +kernel
      exact this c (by omega)
    rw [this]
theorem dg_of {cs:List Nat} (h:AllDigits cs) (hne:cs ≠ []) (hh:cs.length=1∨∃ c r,cs=c :: r∧49≤c):dg (digitsVal cs)=cs:=by
  unfold dg
  have hl:cs.length=(cs.length - 1)+1:=by
    cases cs with
    | nil=>exact absurd rfl hne
    | cons c r=>simp
  rw [toDigits_digitsVal (cs.length - 1) cs hl h (hh.imp (fun z=>by omega) id),map_back h]
theorem dg_head (m:Nat) (h:(dg m).head? = some 48):dg m = [48]:=by
  have ha:=toDigits_all (dg m) (dg_digits m)
  rw [dg_val] at ha
  have hl:(Nat.toDigits 10 m).length=(dg m).length:=by unfold dg;rw [List.length_map]
  cases e:dg m with
  | nil=>exact absurd e (dg_ne m)
  | cons c r =>
    rw [e] at h ha hl
    cases h
    rw [List.dropWhile_cons] at ha
    simp only [beq_self_eq_true,if_true] at ha
    have hd:=PySem.NumText.len_dropWhile (· == 48) r
    cases e2:r.dropWhile (· == 48) with
    | nil =>
      rw [e2] at ha
      rw [ha] at hl
      simp only [List.length_cons,List.length_nil] at hl
      have:r = []:=List.length_eq_zero_iff.mp (by omega)
      rw [this]
    | cons d r2 =>
      rw [e2] at ha hd
      rw [ha,List.length_map] at hl
      simp only [List.length_cons] at hl hd
      omega
theorem dv_lt:∀ (cs:List Nat) (a:Nat),AllDigits cs→cs.foldl (fun acc c=>acc * 10+(c - 48)) a < (a+1) * 10 ^ cs.length
  | [],a,_=>by simp
  | c :: cs,a,h=>by
    have hc:=h.head
    have ih:=dv_lt cs (a * 10+(c - 48)) h.tail
    show cs.foldl _ (a * 10+(c - 48)) < _
    refine Nat.lt_of_lt_of_le ih ?_
    rw [List.length_cons,Nat.pow_succ,Nat.mul_comm (10 ^ cs.length) 10, ← Nat.mul_assoc]
    exact Nat.mul_le_mul_right _ (by omega)
theorem dg_len {m:Nat} (h:m < 10 ^ 60):(dg m).length≤60:=by
  by_cases h0:m=0
  · subst h0;decide
  · have hl:=num_len (n := -(m:Int)) (by omega) (by omega)
    have e:(Str.ofString (toString (-(m:Int)))).length=(nt (-(m:Int))).length:=len_cps _
    rw [e,nt_neg m (by omega),List.length_cons] at hl
    omega
noncomputable def Stop (r:List Nat):Prop := ∀ c,r.head? = some c→c=44∨c=41
theorem tw_app {pr:Nat→Bool}:∀ {a r:List Nat},(∀ c∈a,pr c=true)→(∀ c,r.head? = some c→pr c=false)→(a ++ r).takeWhile pr=a
  | [],r,_,h=>by
    cases r with
    | nil=>rfl
    | cons c r=>rw [List.nil_append,List.takeWhile_cons,h c rfl];rfl
  | c :: a,r,ha,h=>by
    rw [List.cons_append,List.takeWhile_cons,ha c List.mem_cons_self,if_pos rfl,tw_app (fun d hd=>ha d (List.mem_cons_of_mem _ hd)) h]
theorem fig_of {c:Nat} (h:48≤c∧c≤57):isFig c=true:=decide_eq_true h
theorem stop_fig {r:List Nat} (h:Stop r):∀ c,r.head? = some c→isFig c=false:=fun c hc=>by
  rcases h c hc with rfl | rfl <;> rfl
theorem stop_let {r:List Nat} (h:Stop r):∀ c,r.head? = some c→isLet c=false:=fun c hc=>by
  rcases h c hc with rfl | rfl <;> rfl
theorem pn_done {n:Int} (h1 : -(10 ^ 60) < n) (h2:n < 10 ^ 60) {r:List Nat} (hr:Stop r):pNum (nt n ++ r)=some (n,r):=by
  have key:∀ m:Nat,m < 10 ^ 60→(dg m ++ r).takeWhile isFig=dg m:=fun m hm=>tw_app (fun c hc=>fig_of (dg_digits m c hc)) (stop_fig hr)
  by_cases hn:0≤n
  · obtain ⟨m,rfl⟩:=Int.eq_ofNat_of_zero_le hn
    have hm:m < 10 ^ 60:=by omega
    rw [nt_pos]
    have hh:(dg m ++ r).head? ≠ some 45:=fun z=>by
      cases e:dg m with
      | nil=>exact dg_ne m e
      | cons c l =>
        rw [e] at z
        cases z
        have:=dg_digits m 45 (by rw [e];exact List.mem_cons_self)
        omega
    unfold pNum
    rw [decide_eq_false hh]
    simp only [Bool.false_eq_true,if_false,key m hm]
    rw [if_neg (fun z=>z.elim (dg_ne m) (by have:=dg_len hm;omega)),if_neg (fun z=>z.2 ⟨trivial,dg_head m z.1⟩),dg_val,List.drop_left]
  · obtain ⟨m,rfl,hm1⟩:∃ m:Nat,n = -(m:Int)∧1≤m:=⟨n.natAbs,by omega,by omega⟩
    have hm:m < 10 ^ 60:=by omega
    rw [nt_neg m hm1]
    unfold pNum
    simp only [List.cons_append,List.head?_cons,List.tail_cons,decide_true,if_true,key m hm]
    rw [if_neg (fun z=>z.elim (dg_ne m) (by have:=dg_len hm;omega)),if_neg (fun z => ?_),dg_val,List.drop_left]
    have e:=dg_head m z.1
    have e2:=dg_val m
    rw [e] at e2
    have:digitsVal [48]=0:=rfl
    omega
theorem pn_sound {l r:List Nat} {n:Int} (h:pNum l=some (n,r)):l=nt n ++ r ∧ -(10 ^ 60) < n∧n < 10 ^ 60:=by
  unfold pNum at h
  dsimp only at h
  generalize hd:decide (l.head? = some 45)=neg at h
  generalize hl1:(if neg=true then l.tail else l)=l1 at h
  by_cases h1:l1.takeWhile isFig = []∨60 < (l1.takeWhile isFig).length
  · rw [if_pos h1] at h;cases h
  rw [if_neg h1] at h
  by_cases h2:(l1.takeWhile isFig).head? = some 48∧¬ (neg=false∧l1.takeWhile isFig = [48])
  · rw [if_pos h2] at h;cases h
  rw [if_neg h2] at h
  have hF:AllDigits (l1.takeWhile isFig):=fun c hc=>by
    have:=tw_all _ _ c hc
    unfold isFig at this
    exact of_decide_eq_true this
  have e1:l1=l1.takeWhile isFig ++ l1.drop (l1.takeWhile isFig).length:=by
    have:=List.take_append_drop (l1.takeWhile isFig).length l1
    rw [tw_take] at this
    exact this.symm
  generalize l1.takeWhile isFig=F at h h1 h2 hF e1
  generalize l1.drop F.length=R at h e1
  have hne:F ≠ []:=fun z=>h1 (.inl z)
  have h60:F.length≤60:=Nat.le_of_not_lt fun z=>h1 (.inr z)
  have hlt:digitsVal F < 10 ^ 60:=by
    have:=dv_lt F 0 hF
    have h10:(10:Nat) ^ F.length≤10 ^ 60:=Nat.pow_le_pow_right (by decide) h60
    unfold digitsVal
    omega
  have hdg:dg (digitsVal F)=F:=by
    refine dg_of hF hne ?_
    cases F with
    | nil=>exact absurd rfl hne
    | cons c F' =>
      by_cases hc:c=48
      · subst hc
        have:neg=false∧48 :: F' = [48]:=Classical.byContradiction fun z=>h2 ⟨rfl,z⟩
        exact .inl (by rw [this.2];rfl)
      · have:=hF.head
        exact .inr ⟨c,F',rfl,by omega⟩
  cases neg with
  | false =>
    simp only [Bool.false_eq_true,if_false,Option.some.injEq,Prod.mk.injEq] at h hl1
    obtain ⟨rfl,rfl⟩:=h
    subst hl1
    refine ⟨by rw [nt_pos,hdg];exact e1,by omega,by omega⟩
  | true =>
    simp only [if_true,Option.some.injEq,Prod.mk.injEq] at h hl1
    obtain ⟨rfl,rfl⟩:=h
    have hh:=of_decide_eq_true hd
    have hpos:1≤digitsVal F:=by
      cases F with
      | nil=>exact absurd rfl hne
      | cons c F' =>
        by_cases hc:c=48
        · subst hc
          exact absurd ⟨rfl,fun z=>by cases z.1⟩ h2
        · have:=hF.head
          exact digitsVal_pos (by omega)
    refine ⟨?_,by omega,by omega⟩
    rw [nt_neg _ hpos,hdg,List.cons_append]
    cases l with
    | nil=>cases hh
    | cons c l' =>
      cases hh
      rw [List.tail_cons] at hl1
      rw [hl1, ← e1]
theorem let_of {c:Nat} (h:97≤c∧c≤122):isLet c=true:=decide_eq_true h
theorem mkS_back (x:Str):mkS x.cps.toList=x:=mkS_eq rfl
theorem pw_done {x:Str} (hx:IsW x) {r:List Nat} (hr:∀ c,r.head? = some c→isLet c=false):pWord (x.cps.toList ++ r)=some (x.cps.toList,r):=by
  have e:(x.cps.toList ++ r).takeWhile isLet=x.cps.toList:=tw_app (fun c hc=>let_of (hx.2.2 c hc)) hr
  unfold pWord
  rw [e]
  have hl:=len_cps x
  have h1:=hx.1
  have h2:=hx.2.1
  rw [if_neg (fun z=>z.elim (fun z=>by rw [z] at hl;simp at hl;omega) (by omega)),List.drop_left]
theorem pw_sound {l x r:List Nat} (h:pWord l=some (x,r)):l=x ++ r∧IsW (mkS x):=by
  obtain ⟨h1,h2,h3,h4,h5⟩:=pw_is h
  have e:=List.take_append_drop x.length l
  rw [h1,tw_take, ← h1, ← h2] at e
  refine ⟨e.symm,?_,?_,fun c hc => ?_⟩
  · rw [mkS_len]
    cases x with
    | nil=>exact absurd rfl h4
    | cons c x=>simp
  · rw [mkS_len];exact h5
  · rw [mkS_cps,h1] at hc
    have:=tw_all _ _ c hc
    unfold isLet at this
    exact of_decide_eq_true this
noncomputable def more:List T→List Nat
  | [] => []
  | t :: ts=>44 :: 32 :: (t.shown.cps.toList ++ more ts)
theorem join_cps:∀ (t:T) (ts:List T),(Str.join ", " (T.showns (t :: ts))).cps.toList=t.shown.cps.toList ++ more ts
  | t, []=>by
    rw [T.showns,T.showns,Str.join,more,List.append_nil]
  | t,u :: ts=>by
    have ih:=join_cps u ts
    rw [T.showns] at ih
    rw [T.showns,T.showns,Str.join,app_cps,app_cps,ih,more]
    · show (t.shown.cps.toList ++ [44,32]) ++ _=_
      rw [List.append_assoc]
      rfl
    · intro z;cases z
theorem shown_of (x:Str) (t:T) (ts:List T):(T.of x (t :: ts)).shown.cps.toList=x.cps.toList ++ 40 :: (t.shown.cps.toList ++ (more ts ++ [41])):=by
  rw [T.shown,app_cps,app_cps,app_cps,join_cps]
  show ((x.cps.toList ++ [40]) ++ (t.shown.cps.toList ++ more ts)) ++ [41]=_
  simp
theorem shown_any (x:Str):(T.any x).shown.cps.toList=63 :: x.cps.toList:=by
  rw [T.shown,app_cps];rfl
theorem stop_more {ts:List T} {r:List Nat}:Stop (more ts ++ 41 :: r):=by
  cases ts with
  | nil=>intro c hc;cases hc;exact .inr rfl
  | cons t ts=>intro c hc;cases hc;exact .inl rfl
theorem pm_done {tree:List Nat→Option (T × List Nat)}:∀ (ts:List T) (n:Nat) (r:List Nat),(∀ t∈ts,∀ r,Stop r→tree (t.shown.cps.toList ++ r)=some (t,r))→(more ts ++ 41 :: r).length < n→pMore tree n (more ts ++ 41 :: r)=some (ts,r)
  | [],n,r,_,hn=>by
    obtain ⟨n',rfl⟩:∃ n',n=n'+1:=⟨n - 1,by omega⟩
    rfl
  | t :: ts,n,r,h,hn=>by
    obtain ⟨n',rfl⟩:∃ n',n=n'+1:=⟨n - 1,by omega⟩
    have e:more (t :: ts) ++ 41 :: r=44 :: 32 :: (t.shown.cps.toList ++ (more ts ++ 41 :: r)):=by rw [more];simp
    rw [e] at hn ⊢
    simp only [List.length_cons,List.length_append] at hn
    rw [pm_comma,h t List.mem_cons_self _ stop_more]
    dsimp only
    rw [pm_done ts n' r (fun u hu=>h u (List.mem_cons_of_mem _ hu)) (by simp only [List.length_append,List.length_cons];omega)]
theorem more_mem {t:T} {c:Nat}:∀ {ts:List T},t∈ts→c∈t.shown.cps.toList→c∈more ts
  | u :: ts,h,hc=>by
    rw [more]
    refine List.mem_cons_of_mem _ (List.mem_cons_of_mem _ (List.mem_append.mpr ?_))
    rcases List.mem_cons.mp h with rfl | h
    · exact .inl hc
    · exact .inr (more_mem h hc)
theorem word_head {x:Str} (hx:IsW x):∃ c l,x.cps.toList=c :: l∧97≤c∧c≤122:=by
  cases e:x.cps.toList with
  | nil=>have:=len_cps x;rw [e] at this;have:=hx.1;simp at *;omega
  | cons c l=>exact ⟨c,l,rfl,hx.2.2 c (by rw [e];exact List.mem_cons_self)⟩
theorem pt_done (b:Bool):∀ (k:Nat) (t:T),t.Ok→t.depth≤k→(b=true∨63 ∉ t.shown.cps.toList)→∀ r,Stop r→pTree b k (t.shown.cps.toList ++ r)=some (t,r)
  | 0,t,_,hd,_,_,_=>by have:=depth_pos t;omega
  | k+1,.num n,hok,_,_,r,hr=>by
    rw [T.Ok] at hok
    have e:=pn_done hok.1 hok.2 hr
    rw [T.shown]
    show pTree b (k+1) (nt n ++ r)=_
    have hh:∃ c l,nt n=c :: l∧(c=45∨isFig c=true):=by
      by_cases hn:0≤n
      · obtain ⟨m,rfl⟩:=Int.eq_ofNat_of_zero_le hn
        rw [nt_pos]
        cases e:dg m with
        | nil=>exact absurd e (dg_ne m)
        | cons c l=>exact ⟨c,l,rfl,.inr (fig_of (dg_digits m c (by rw [e];exact List.mem_cons_self)))⟩
      · obtain ⟨m,rfl,hm1⟩:∃ m:Nat,n = -(m:Int)∧1≤m:=⟨n.natAbs,by omega,by omega⟩
        exact ⟨45,_,nt_neg m hm1,.inl rfl⟩
    obtain ⟨c,l,e2,hc⟩:=hh
    rw [e2,List.cons_append] at e ⊢
    rw [pt_cons,if_pos hc,e]
  | k+1,.name x,hok,_,_,r,hr=>by
    rw [T.Ok] at hok
    obtain ⟨c,l,e2,hc⟩:=word_head hok
    have e:=pw_done hok (stop_let hr)
    rw [T.shown]
    rw [e2,List.cons_append] at e ⊢
    have nf:¬ (c=45∨isFig c=true):=fun z=>z.elim (by omega) (fun z=>by unfold isFig at z;have:=of_decide_eq_true z;omega)
    rw [pt_cons,if_neg nf,if_neg (fun z=>by have:=z.1;omega),e]
    dsimp only
    rw [pk_name (fun z => ?_), ← e2,mkS_back]
    obtain ⟨r',e3⟩:=take1 z
    rcases hr 40 (by rw [e3];rfl) with h | h <;> omega
  | k+1,.any x,hok,_,hb,r,hr=>by
    rw [T.Ok] at hok
    rw [shown_any] at hb ⊢
    have hb':b=true:=hb.resolve_right (fun z=>z List.mem_cons_self)
    have e:=pw_done hok (stop_let hr)
    rw [List.cons_append,pt_cons,if_neg (by decide),if_pos ⟨rfl,hb'⟩,e]
    dsimp only
    rw [mkS_back]
  | k+1,.of x [],hok,_,_,_,_=>by
    rw [T.Ok] at hok
    have:=hok.2.1
    simp at this
  | k+1,.of x (t :: ts),hok,hd,hb,r,hr=>by
    rw [T.Ok] at hok
    obtain ⟨hx,_,h4,hoks⟩:=hok
    rw [T.depth] at hd
    rw [shown_of] at hb ⊢
    have hm:∀ u∈t :: ts,∀ r,Stop r→pTree b k (u.shown.cps.toList ++ r)=some (u,r):=fun u hu r hr=>by
      refine pt_done b k u (oks_all.mp hoks u hu) ?_ (hb.imp id fun z hc=>z ?_) r hr
      · have:=deepest_le hu
        omega
      · refine List.mem_append_right _ (List.mem_cons_of_mem _ (List.mem_append.mpr ?_))
        rcases List.mem_cons.mp hu with rfl | hu
        · exact .inl hc
        · exact .inr (List.mem_append_left _ (more_mem hu hc))
    obtain ⟨c,l,e2,hc⟩:=word_head hx
    have ea:x.cps.toList ++ 40 :: (t.shown.cps.toList ++ (more ts ++ [41])) ++ r=x.cps.toList ++ 40 :: (t.shown.cps.toList ++ (more ts ++ 41 :: r)):=by simp
    have e:=pw_done hx (r:=40 :: (t.shown.cps.toList ++ (more ts ++ 41 :: r))) (fun c hc=>by cases hc;rfl)
    rw [ea]
    rw [e2,List.cons_append] at e ⊢
    have nf:¬ (c=45∨isFig c=true):=fun z=>z.elim (by omega) (fun z=>by unfold isFig at z;have:=of_decide_eq_true z;omega)
    rw [pt_cons,if_neg nf,if_neg (fun z=>by have:=z.1;omega),e]
    dsimp only
    rw [pk_of]
    unfold pArms
    rw [hm t List.mem_cons_self _ stop_more]
    dsimp only
    rw [pm_done ts _ r (fun u hu=>hm u (List.mem_cons_of_mem _ hu)) (by omega)]
    dsimp only
    rw [if_neg (by simp only [List.length_cons] at h4;omega), ← e2,mkS_back]
noncomputable def Good (b:Bool) (k:Nat) (t:T):Prop:=t.Ok∧t.depth≤k∧(b=false→63 ∉ t.shown.cps.toList)
theorem pm_sound {tree:List Nat→Option (T × List Nat)} {G:T→Prop} (ht:∀ l t r,tree l=some (t,r)→G t∧l=t.shown.cps.toList ++ r):∀ (n:Nat) (l:List Nat) (ts:List T) (r:List Nat),pMore tree n l=some (ts,r)→l=more ts ++ 41 :: r∧∀ t∈ts,G t
  | 0,_,_,_,h=>by cases h
  | n+1,l,ts,r,h=>by
    unfold pMore at h
    split at h
    · rename_i z;cases z
    · rename_i n' r0 z
      split at h
      · rename_i t r2 e
        split at h
        · rename_i ts3 r3 e3
          cases h
          obtain ⟨g1,e1⟩:=ht _ _ _ e
          obtain ⟨e4,g4⟩:=pm_sound ht _ _ _ _ e3
          refine ⟨?_,fun u hu => ?_⟩
          · rw [e1,e4,more];simp
          · rcases List.mem_cons.mp hu with rfl | hu
            · exact g1
            · exact g4 u hu
        · cases h
      · cases h
    · cases h
      exact ⟨rfl,fun t ht=>by cases ht⟩
    · cases h
theorem more_not {c:Nat} (h1:c≠44) (h2:c≠32):∀ {ts:List T},(∀ t∈ts,c ∉ t.shown.cps.toList)→c ∉ more ts
  | [],_,h=>by cases h
  | t :: ts,h,hc=>by
    rw [more] at hc
    rcases List.mem_cons.mp hc with z | hc
    · exact h1 z
    rcases List.mem_cons.mp hc with z | hc
    · exact h2 z
    rcases List.mem_append.mp hc with hc | hc
    · exact h t List.mem_cons_self hc
    · exact more_not h1 h2 (fun u hu=>h u (List.mem_cons_of_mem _ hu)) hc
theorem word_not {x:Str} (hx:IsW x) {c:Nat} (h:c < 97):c ∉ x.cps.toList:=fun z=>by have:=hx.2.2 c z;omega
theorem pt_sound (b:Bool):∀ (k:Nat) (l:List Nat) (t:T) (r:List Nat),pTree b k l=some (t,r)→Good b k t∧l=t.shown.cps.toList ++ r
  | 0,_,_,_,h=>by cases h
  | k+1, [],t,r,h=>by cases h
  | k+1,c :: l0,t,r,h=>by
    rw [pt_cons] at h
    split at h
    · split at h
      · rename_i n l' e
        cases h
        obtain ⟨e1,n1,n2⟩:=pn_sound e
        refine ⟨⟨by rw [T.Ok];exact ⟨n1,n2⟩,by rw [T.depth];omega,fun _ hc => ?_⟩,by rw [T.shown];exact e1⟩
        rw [T.shown] at hc
        have hc:63∈nt n:=hc
        by_cases hn:0≤n
        · obtain ⟨m,rfl⟩:=Int.eq_ofNat_of_zero_le hn
          rw [nt_pos] at hc
          have:=dg_digits m 63 hc
          omega
        · obtain ⟨m,rfl,hm1⟩:∃ m:Nat,n = -(m:Int)∧1≤m:=⟨n.natAbs,by omega,by omega⟩
          rw [nt_neg m hm1] at hc
          rcases List.mem_cons.mp hc with z | hc
          · omega
          · have:=dg_digits m 63 hc
            omega
      · cases h
    · split at h
      · rename_i hcb
        split at h
        · rename_i x l' e
          cases h
          obtain ⟨e1,hw⟩:=pw_sound e
          refine ⟨⟨by rw [T.Ok];exact hw,by rw [T.depth];omega,fun z=>by rw [hcb.2] at z;cases z⟩,?_⟩
          rw [shown_any,mkS_cps,List.cons_append, ← e1,hcb.1]
        · cases h
      · split at h
        · cases h
        · rename_i x l1 e
          obtain ⟨e1,hw⟩:=pw_sound e
          unfold pKnot at h
          split at h
          · rename_i l2
            split at h
            · rename_i ts l' e2
              cases h
              unfold pArms at e2
              split at e2
              · rename_i t r1 e3
                split at e2
                · rename_i ts2 r2 e4
                  split at e2
                  · cases e2
                  · rename_i h4
                    cases e2
                    obtain ⟨g3,l3⟩:=pt_sound b k _ _ _ e3
                    obtain ⟨l4,g4⟩:=pm_sound (G:=Good b k) (fun l t r h=>pt_sound b k l t r h) _ _ _ _ e4
                    have ga:∀ u∈t :: ts2,Good b k u:=fun u hu=>by
                      rcases List.mem_cons.mp hu with rfl | hu
                      · exact g3
                      · exact g4 u hu
                    refine ⟨⟨?_,?_,fun hb hc => ?_⟩,?_⟩
                    · rw [T.Ok]
                      exact ⟨hw,by simp,by simp only [List.length_cons];omega,oks_all.mpr fun u hu=>(ga u hu).1⟩
                    · rw [T.depth]
                      have:=deepest_is (ts:=t :: ts2) (M:=k) fun u hu=>(ga u hu).2.1
                      omega
                    · rw [shown_of] at hc
                      rcases List.mem_append.mp hc with hc | hc
                      · exact word_not hw (by decide) hc
                      rcases List.mem_cons.mp hc with z | hc
                      · omega
                      rcases List.mem_append.mp hc with hc | hc
                      · exact g3.2.2 hb hc
                      rcases List.mem_append.mp hc with hc | hc
                      · exact more_not (by decide) (by decide) (fun u hu=>(g4 u hu).2.2 hb) hc
                      · rcases List.mem_cons.mp hc with z | hc
                        · omega
                        · cases hc
                    · rw [shown_of,mkS_cps,e1,l3,l4]
                      simp
                · cases e2
              · cases e2
            · cases h
          · cases h
            refine ⟨⟨by rw [T.Ok];exact hw,by rw [T.depth];omega,fun _ hc => ?_⟩,by rw [T.shown,mkS_cps];exact e1⟩
            rw [T.shown] at hc
            exact word_not hw (by decide) hc
end Sw
namespace Sw
open PySem L2 PySem.NumText

theorem pt_one {t t':T} {b:Bool} {k:Nat} (h1:t.Ok) (h:pTree b k t.shown.cps.toList=some (t', [])):t'=t∧t'.depth≤k:=by
  obtain ⟨⟨o,d,_⟩,e⟩:=pt_sound b k _ t' [] h
  have st:Stop []:=fun c hc=>nomatch hc
  have d1:=pt_done true (max t.depth t'.depth) t h1 (Nat.le_max_left _ _) (.inl rfl) [] st
  have d2:=pt_done true (max t.depth t'.depth) t' o (Nat.le_max_right _ _) (.inl rfl) [] st
  rw [List.append_nil] at d1
  rw [← e,d1] at d2
  exact ⟨(congrArg Prod.fst (Option.some.inj d2)).symm,d⟩
structure Rw where
  t:T
  s:Str
  d:Nat
noncomputable def mores:List Str→List Nat
  | [] => []
  | s :: ss=>44 :: 32 :: (s.cps.toList ++ mores ss)
theorem joins_cps:∀ (s:Str) (ss:List Str),(Str.join ", " (s :: ss)).cps.toList=s.cps.toList ++ mores ss
  | s, []=>by rw [Str.join,mores,List.append_nil]
  | s,u :: ss=>by
    have ih:=joins_cps u ss
    rw [Str.join,app_cps,app_cps,ih,mores]
    · show (s.cps.toList ++ [44,32]) ++ _=_
      rw [List.append_assoc]
      rfl
    · intro z;cases z
noncomputable def knotS (x:Str) (ss:List Str):Str:=x ++ "(" ++ Str.join ", " ss ++ ")"
theorem knotS_cps (x s:Str) (ss:List Str):(knotS x (s :: ss)).cps.toList=x.cps.toList ++ 40 :: (s.cps.toList ++ (mores ss ++ [41])):=by
  unfold knotS
  rw [app_cps,app_cps,app_cps,joins_cps]
  show ((x.cps.toList ++ [40]) ++ (s.cps.toList ++ mores ss)) ++ [41]=_
  simp
theorem knotS_nil (x:Str):(knotS x []).cps.toList=x.cps.toList ++ [40,41]:=by
  unfold knotS
  rw [app_cps,app_cps,app_cps]
  show ((x.cps.toList ++ [40]) ++ []) ++ [41]=_
  simp
noncomputable def deepM:List Nat→Nat
  | []=>0
  | d :: ds=>max d (deepM ds)
noncomputable def joinRw (x:Str) (rs:List Rw):Rw:=⟨.of x (rs.map Rw.t),knotS x (rs.map Rw.s),1+deepM (rs.map Rw.d)⟩
structure GoodR (r:Rw):Prop where
  ok:r.t.Ok
  sh:r.s=r.t.shown
  dp:r.d=r.t.depth
theorem good_shows {rs:List Rw} (h:∀ r∈rs,GoodR r):rs.map Rw.s=T.showns (rs.map Rw.t):=by
  rw [showns_map,List.map_map]
  exact List.map_congr_left fun r hr=>(h r hr).sh
theorem good_deeps:∀ {rs:List Rw},(∀ r∈rs,GoodR r)→deepM (rs.map Rw.d)=T.deepest (rs.map Rw.t)
  | [],_=>by rw [List.map_nil,List.map_nil,deepM,T.deepest]
  | r :: rs,h=>by rw [List.map_cons,List.map_cons,deepM,T.deepest,good_deeps (rs:=rs) fun u hu=>h u (List.mem_cons_of_mem _ hu),(h r List.mem_cons_self).dp]
theorem good_join {x:Str} {rs:List Rw} (hx:IsW x) (h1:1≤rs.length) (h4:rs.length≤4) (h:∀ r∈rs,GoodR r):GoodR (joinRw x rs):=by
  refine ⟨?_,?_,?_⟩
  · show (T.of x (rs.map Rw.t)).Ok
    rw [T.Ok,List.length_map,oks_all]
    refine ⟨hx,h1,h4,fun t ht => ?_⟩
    obtain ⟨r,hr,rfl⟩:=List.mem_map.mp ht
    exact (h r hr).ok
  · show knotS x (rs.map Rw.s)=(T.of x (rs.map Rw.t)).shown
    unfold knotS
    rw [T.shown,good_shows h]
  · show 1+deepM (rs.map Rw.d)=(T.of x (rs.map Rw.t)).depth
    rw [T.depth,good_deeps h]
theorem stop_mores {ss:List Str} {r:List Nat}:Stop (mores ss ++ 41 :: r):=by
  cases ss with
  | nil=>intro c hc;cases hc;exact .inr rfl
  | cons t ts=>intro c hc;cases hc;exact .inl rfl
theorem pt_stop {b:Bool} {k:Nat} {r:List Nat} (h:Stop r):pTree b k r=none:=by
  cases k with
  | zero=>rfl
  | succ k =>
    cases r with
    | nil=>rfl
    | cons c r =>
      rw [pt_cons]
      rcases h c rfl with rfl | rfl <;> rfl
theorem pw_bad {x r:List Nat} (hx:∀ c∈x,97≤c∧c≤122) (hr:∀ c,r.head? = some c→isLet c=false) (n:¬ (1≤x.length∧x.length≤8)):pWord (x ++ r)=none:=by
  have e:(x ++ r).takeWhile isLet=x:=tw_app (fun c hc=>let_of (hx c hc)) hr
  unfold pWord
  rw [e]
  refine if_pos ?_
  cases x with
  | nil=>exact .inl rfl
  | cons c x=>refine .inr ?_;simp only [List.length_cons] at n ⊢;omega
theorem pt_word {b:Bool} {k:Nat} {x r:List Nat} (hx:∀ c∈x,97≤c∧c≤122) (hr:∀ c,r.head? = some c→isLet c=false∧isFig c=false∧c≠45∧c≠63) (n:¬ (1≤x.length∧x.length≤8)):pTree b k (x ++ r)=none:=by
  cases k with
  | zero=>rfl
  | succ k =>
    have e:=pw_bad hx (fun c hc=>(hr c hc).1) n
    cases h:x ++ r with
    | nil=>rfl
    | cons c l =>
      rw [h] at e
      have nf:¬ (c=45∨isFig c=true)∧c≠63:=by
        cases x with
        | nil =>
          rw [List.nil_append] at h
          obtain ⟨_,z1,z2,z3⟩:=hr c (by rw [h];rfl)
          exact ⟨fun z=>z.elim z2 (fun z=>by rw [z1] at z;cases z),z3⟩
        | cons d x =>
          rw [List.cons_append] at h
          cases h
          have hc:=hx c List.mem_cons_self
          exact ⟨fun z=>z.elim (by omega) (fun z=>by unfold isFig at z;have:=of_decide_eq_true z;omega),by omega⟩
      rw [pt_cons,if_neg nf.1,if_neg (fun z=>nf.2 z.1),e]
theorem stop_all {r:List Nat} (h:Stop r):∀ c,r.head? = some c→isLet c=false∧isFig c=false∧c≠45∧c≠63:=fun c hc=>by
  rcases h c hc with rfl | rfl <;> exact ⟨rfl,rfl,by decide,by decide⟩
theorem pt_hole {b:Bool} {k:Nat} {x r:List Nat} (hx:∀ c∈x,97≤c∧c≤122) (hr:Stop r) (n:¬ (1≤x.length∧x.length≤8)):pTree b k (63 :: x ++ r)=none:=by
  cases k with
  | zero=>rfl
  | succ k =>
    have e:=pw_bad hx (stop_let hr) n
    rw [List.cons_append,pt_cons,if_neg (by decide)]
    cases b with
    | true=>rw [if_pos ⟨rfl,rfl⟩,e]
    | false=>rw [if_neg (fun z=>nomatch z.2)];rfl
theorem pt_num {b neg:Bool} {k:Nat} {f r:List Nat} (hf:AllDigits f) (hr:Stop r) (h:60 < f.length∨(f.head? = some 48∧f ≠ [48])):pTree b k ((if neg=true then 45 :: f else f) ++ r)=none:=by
  cases k with
  | zero=>rfl
  | succ k =>
    have key:(f ++ r).takeWhile isFig=f:=tw_app (fun c hc=>fig_of (hf c hc)) (stop_fig hr)
    have e:pNum ((if neg=true then 45 :: f else f) ++ r)=none:=by
      cases neg with
      | true =>
        unfold pNum
        simp only [if_true,List.cons_append,List.head?_cons,List.tail_cons,decide_true,key]
        rcases h with h | ⟨h,h'⟩
        · rw [if_pos (.inr h)]
        · by_cases z:f = []∨60 < f.length
          · rw [if_pos z]
          · rw [if_neg z,if_pos ⟨h,fun q=>nomatch q.1⟩]
      | false =>
        have hh:(f ++ r).head? ≠ some 45:=fun z=>by
          cases e:f with
          | nil=>subst e;rcases h with h | ⟨h,_⟩ <;> cases h
          | cons c l =>
            rw [e] at z
            cases z
            have:=hf 45 (by rw [e];exact List.mem_cons_self)
            omega
        unfold pNum
        simp only [Bool.false_eq_true,if_false]
        rw [decide_eq_false hh]
        simp only [Bool.false_eq_true,if_false,key]
        rcases h with h | ⟨h,h'⟩
        · rw [if_pos (.inr h)]
        · by_cases z:f = []∨60 < f.length
          · rw [if_pos z]
          · rw [if_neg z,if_pos ⟨h,fun q=>h' q.2⟩]
    have hh:∃ c l,(if neg=true then 45 :: f else f) ++ r=c :: l∧(c=45∨isFig c=true):=by
      cases neg with
      | true=>exact ⟨45,f ++ r,rfl,.inl rfl⟩
      | false =>
        cases e:f with
        | nil=>subst e;rcases h with h | ⟨h,_⟩ <;> cases h
        | cons c l=>exact ⟨c,l ++ r,rfl,.inr (fig_of (hf c (by rw [e];exact List.mem_cons_self)))⟩
    obtain ⟨c,l,e2,hc⟩:=hh
    rw [e2] at e ⊢
    rw [pt_cons,if_pos hc,e]
theorem pt_knot {b:Bool} {k:Nat} {x:Str} (hx:IsW x) {l:List Nat}:pTree b (k+1) (x.cps.toList ++ 40 :: l)=(match pArms (pTree b k) l with
    | some (ts,l')=>some (.of x ts,l')
    | none=>none):=by
  obtain ⟨c,r,e2,hc⟩:=word_head hx
  have e:=pw_done hx (r:=40 :: l) (fun c hc=>by cases hc;rfl)
  rw [e2,List.cons_append] at e ⊢
  have nf:¬ (c=45∨isFig c=true):=fun z=>z.elim (by omega) (fun z=>by unfold isFig at z;have:=of_decide_eq_true z;omega)
  rw [pt_cons,if_neg nf,if_neg (fun z=>by have:=z.1;omega),e]
  dsimp only
  rw [pk_of, ← e2,mkS_back]
  all_goals (cases pArms (pTree b k) l <;> rfl)
theorem pm_bad {tree:List Nat→Option (T × List Nat)} {s:Str} {ss:List Str} {r:List Nat} (hs:∀ r,Stop r→tree (s.cps.toList ++ r)=none):∀ (pre:List Rw) (n:Nat),(∀ u∈pre,∀ r,Stop r→tree (u.s.cps.toList ++ r)=some (u.t,r))→pMore tree n (mores (pre.map Rw.s ++ s :: ss) ++ 41 :: r)=none
  | _,0,_=>rfl
  | [],n+1,_=>by
    rw [List.map_nil,List.nil_append,mores]
    have e:44 :: 32 :: (s.cps.toList ++ mores ss) ++ 41 :: r=44 :: 32 :: (s.cps.toList ++ (mores ss ++ 41 :: r)):=by simp
    rw [e,pm_comma,hs _ stop_mores]
  | u :: pre,n+1,h=>by
    rw [List.map_cons,List.cons_append,mores]
    have e:44 :: 32 :: (u.s.cps.toList ++ mores (pre.map Rw.s ++ s :: ss)) ++ 41 :: r=44 :: 32 :: (u.s.cps.toList ++ (mores (pre.map Rw.s ++ s :: ss) ++ 41 :: r)):=by simp
    rw [e,pm_comma,h u List.mem_cons_self _ stop_mores]
    dsimp only
    rw [pm_bad hs pre n fun v hv=>h v (List.mem_cons_of_mem _ hv)]
theorem pt_bad {b:Bool} {x s:Str} {ss:List Str} (hx:IsW x) (hs:∀ k r,Stop r→pTree b k (s.cps.toList ++ r)=none) {pre:List Rw} {k:Nat} (h:∀ u∈pre,∀ r,Stop r→pTree b k (u.s.cps.toList ++ r)=some (u.t,r)) (r:List Nat):pTree b (k+1) ((knotS x (pre.map Rw.s ++ s :: ss)).cps.toList ++ r)=none:=by
  cases pre with
  | nil =>
    rw [List.map_nil,List.nil_append,knotS_cps]
    have e:x.cps.toList ++ 40 :: (s.cps.toList ++ (mores ss ++ [41])) ++ r=x.cps.toList ++ 40 :: (s.cps.toList ++ (mores ss ++ 41 :: r)):=by simp
    rw [e,pt_knot hx]
    unfold pArms
    rw [hs k _ stop_mores]
  | cons u pre =>
    rw [List.map_cons,List.cons_append,knotS_cps]
    have e:x.cps.toList ++ 40 :: (u.s.cps.toList ++ (mores (pre.map Rw.s ++ s :: ss) ++ [41])) ++ r=x.cps.toList ++ 40 :: (u.s.cps.toList ++ (mores (pre.map Rw.s ++ s :: ss) ++ 41 :: r)):=by simp
    rw [e,pt_knot hx]
    unfold pArms
    rw [h u List.mem_cons_self _ stop_mores]
    dsimp only
    rw [pm_bad (hs k) pre _ fun v hv=>h v (List.mem_cons_of_mem _ hv)]
theorem pt_arms {b:Bool} {x:Str} (hx:IsW x):∀ (ts:List T),(∀ t∈ts,∃ w,t = .name w∧IsW w)→¬ (1≤ts.length∧ts.length≤4)→∀ (k:Nat) (r:List Nat),pTree b k ((knotS x (ts.map T.shown)).cps.toList ++ r)=none
  | _,_,_,0,_=>rfl
  | [],_,_,k+1,r=>by
    rw [List.map_nil,knotS_nil]
    have e:x.cps.toList ++ [40,41] ++ r=x.cps.toList ++ 40 :: (41 :: r):=by simp
    rw [e,pt_knot hx]
    unfold pArms
    rw [pt_stop (fun c hc=>by cases hc;exact .inr rfl)]
  | t :: ts,ht,n,k+1,r=>by
    rw [← showns_map,show knotS x (T.showns (t :: ts))=(T.of x (t :: ts)).shown by rw [T.shown];rfl,shown_of]
    have e:x.cps.toList ++ 40 :: (t.shown.cps.toList ++ (more ts ++ [41])) ++ r=x.cps.toList ++ 40 :: (t.shown.cps.toList ++ (more ts ++ 41 :: r)):=by simp
    rw [e,pt_knot hx]
    cases k with
    | zero=>rfl
    | succ k =>
      have hm:∀ u∈t :: ts,∀ r,Stop r→pTree b (k+1) (u.shown.cps.toList ++ r)=some (u,r):=fun u hu r hr=>by
        obtain ⟨w,rfl,hw⟩:=ht u hu
        refine pt_done b (k+1) (.name w) (by rw [T.Ok];exact hw) (by rw [T.depth];omega) (.inr ?_) r hr
        rw [T.shown]
        exact word_not hw (by decide)
      unfold pArms
      rw [hm t List.mem_cons_self _ stop_more]
      dsimp only
      rw [pm_done ts _ r (fun u hu=>hm u (List.mem_cons_of_mem _ hu)) (by omega)]
      dsimp only
      rw [if_pos (by simp only [List.length_cons] at n;omega)]
end Sw
namespace L2
open PySem PySem.Spec PyProof.Rows

section
variable {prog:Program} {w:World} {K:Type} [DecidableEq K] {knd:HeapKind prog w K} {A:Around} {E:Value→Shared→Prop} {s:Shared} {d:Addr} {xs:List (K × Addr × Value)}
end
section
variable {X:Cx} {pins:List (Addr × Obj)} {σ : St} {H:Hp} {s:Shared} {a b:Addr} {kvs kvs':List (NK × V)} {k:NK} {y v:V} {u r:Value} {A:Around} {E:Value→Shared→Prop}
end
section
variable {X:Cx} {o i e f value:Expr} {pos pos' apos cpos:Pos} {td ty tv:TE}
end
end L2
namespace L2
open PySem PySem.Spec PyProof.Rows

section
variable {X:Cx}
variable {o:Expr} {apos cpos:Pos} {td:TE}
end
section
variable {X:Cx} {tg l:Expr} {tl:TE}
end
end L2
namespace L2
open PySem PySem.Spec PyProof.Rows

section
variable {X:Cx} {pins:List (Addr × Obj)} {σ : St} {H:Hp} {s:Shared} {a:Addr} {kvs:List (Key × V)} {k:Key} {v:V} {u r:Value} {A:Around} {E:Value→Shared→Prop}
end
section
variable {X:Cx} {o e f:Expr} {apos cpos:Pos} {td ty tx:TE}
end
end L2
namespace PySem
section
variable {prog:Program} {w:World} {A:Around} {E:Value→Shared→Prop} {s:Shared}
end
section
variable {prog:Program} {w:World} {A:Around} {s:Shared} {R:Result→Shared→Prop} {I l:Addr} {items:Array Value}
end
section
variable {prog:Program} {w:World} {A:Around} {E:Value→Shared→Prop} {s:Shared} {I l:Addr} {items:Array Value}
end
end PySem
namespace L2
open PySem PySem.Spec PyProof.Rows
end L2
namespace L2
open PySem PySem.Spec PyProof.Rows
end L2
namespace L2
open PySem PySem.Spec PyProof.Rows
section
variable {X:Cx}
end
theorem rd_if2 {c:TT} {t u:TS} {D:Ends} {σ : St} {H:Hp} (R:Bool→Hp→Prop) (hc:∀ Q:Bool→Hp→Prop,(∀ b H',R b H'→Q b H')→c σ H Q) (h1:∀ H',R true H'→t D σ H') (h2:∀ H',R false H'→u D σ H'):tIfS c t u D σ H:=by
  refine hc _ fun b H' r => ?_
  cases b with
  | true=>exact iteT (h1 _ r)
  | false=>exact iteF (h2 _ r)
section
variable {P:Program} {w:World} {A:Around} {s:Shared}
open SeqAt MeetsSeq MeetsSeq2 MeetsSeq3 SeqRoads2
open AutoSeq1 (wpAny_loadPart')
end
end L2
namespace L2
open PySem PySem.W PySem.Calls PyProof.Rows
end L2
namespace L2
open PySem PySem.Spec PyProof.Rows
section
variable {X:Cx} {k:Nat} {y:Str} {p pos:Pos} {e:Expr} {es:List Expr} {tv:TE} {t:TA}
end
end L2
namespace L2
open PySem PySem.Spec PyProof.Rows
section
variable {prog:Program} {w:World} {A:Around} {R:Result→Shared→Prop} {I:Addr} {fp wr:List Addr} {n:Nat} {P:Nat→Value→Prop} {St:Nat→Heap→Prop} {kw:List (Str × Value)} {G:Heap→Prop}
end
section
variable {X:Cx} {e:Expr} {te:TE} {p pos kp cp:Pos} {j:Nat}
end
end L2
namespace L2
open PySem PySem.Spec PyProof.Rows
section
variable {P:Program} {w:World} {K:PySem.W.Frag} {mg:Str→Option Value} {base:Heap} {x m qual:Str} {st:Stmt} {N ps:List Str} {k:Nat} {sp:Sp}
end
section
variable {X:Cx} {k k':Nat} {x m:Str} {ps:List Str} {sp:Sp} {p pos apos:Pos} {e:Expr} {es:List Expr} {t:TA} {E:XK}
end
end L2
namespace L2
open PySem PySem.Spec PyProof.Rows
end L2
namespace L2
open PySem PySem.Spec PyProof.Rows
section
variable {prog:Program} {w:World} {A:Around} {R:Result→Shared→Prop} {I:Addr} {fp wr:List Addr} {n:Nat} {P:Nat→Value→Prop} {St:Nat→Heap→Prop} {kw:List (Str × Value)} {G:Heap→Prop}
end
section
variable {X:Cx} {e:Expr} {te:TE} {p pos kp cp:Pos} {j:Nat} {d:Int}
end

end L2
namespace HT
open PySem PySem.Spec PyProof.Rows
section
variable {prog:Program} {w:World} {A:Around} {E:Value→Shared→Prop} {s:Shared}
end
end HT
namespace L2
open PySem PySem.Spec PyProof.Rows
section
variable {X:Cx}
end
end L2
namespace L2
open PySem PySem.Spec PyProof.Rows
section
variable {X:Cx}
end
end L2
namespace L2
open PySem PySem.Spec PyProof.Rows
section
variable {X:Cx} {scope:Scope} {y y0:Str} {caps:List (Str × Nat)} {pins:List (Addr × Obj)} {σ : St} {H:Hp} {s:Shared} {fp:List Addr}
end
end L2
namespace L2
open PySem PySem.Spec PyProof.Rows
section
variable {X:Cx}
end
end L2
namespace L2
open PySem PySem.Spec PyProof.Rows

section
variable {prog:Program} {w:World} {A:Around} {E:Value→Shared→Prop} {s:Shared}
end
section
variable {M:Model} {A:Around} {E:Value→Shared→Prop} {qn nm:Str} {N C:Addr} {bm bs:List Value} {hdct ab:Bool} {sn:List Str} {sub:List Value} {col:Option Bool} {dd:Option Addr} {k0 k1 k2 k3 k5:Option Value} {newId:String}
end
section
variable {prog:Program} {w:World} {A:Around} {E:Value→Shared→Prop} {s:Shared} {env:Env} {qn nm:Str} {N C:Addr} {bm bs:List Value} {hdct ab:Bool} {sn:List Str} {sub:List Value} {col:Option Bool} {dd:Option Addr} {k0 k1 k2 k3 k5:Option Value} {newId:String}
end
section
variable {prog:Program} {w:World} {A:Around} {E:Value→Shared→Prop} {s:Shared} {env:Env} {qn nm:Str} {N C:Addr} {bm bs bmB:List Value} {hdct ab:Bool} {sn:List Str} {sub:List Value} {col:Option Bool} {dd:Option Addr} {k0 k1 k2 k3 k5:Option Value} {B newId initId:String}
end
section
variable {M:Model} {A:Around} {E:Value→Shared→Prop} {s:Shared}
end
end L2
namespace L2
open PySem PySem.Spec PyProof.Rows

section
variable {P:Program} {w:World} {K:PySem.W.Frag} {mg:Str→Option Value} {base:Heap} {N:List Str} {qual:Str} {scope:Scope} {f:Addr} {cdv:Value} {A:Around} {outer:List Env} {s0:Shared} {H0:Hp} {E:XK} {ea C:Addr}
end
section
variable {X:Cx} {pins:List (Addr × Obj)} {σ : St} {H0 H':Hp} {s0 s':Shared} {ea C:Addr} {a0:Value} {B h5:Heap}
end
section
variable {X:Cx} {k k':Nat} {m:Str} {C:Addr} {ps:List Str} {dvs:List V} {sp:Sp} {pos apos:Pos} {e o:Expr} {es:List Expr} {ta:TE} {t:TA} {pl:Sem Bool}
end
end L2
namespace L2
open PySem PySem.Spec PyProof.Rows

section
variable {prog:Program} {w:World} {K:Type} [DecidableEq K] {knd:HeapKind prog w K} {A:Around} {E:Value→Shared→Prop} {s:Shared} {d a:Addr} {k:K} {xs:List (K × Addr × Value)}
end
section
variable {prog:Program} {w:World} {K:Type} [DecidableEq K] (knd:HeapKind prog w K) (d a:Addr)
end
section
variable {X:Cx} {pins:List (Addr × Obj)} {σ : St} {H:Hp} {s:Shared} {a b:Addr} {kvs:List (NK × V)} {k:NK} {v:V} {A:Around} {E:Value→Shared→Prop}
end
section
variable {X:Cx} {o e:Expr} {apos cpos:Pos} {td ty:TE}
end
end L2
namespace L2
open PySem PySem.Spec PyProof.Rows
section
variable {X:Cx}
end
end L2
namespace L2
open PySem PySem.Spec PyProof.Rows
section
variable {X:Cx}
inductive J_rInsert (x:V) (vs:List V) (H:Hp) (Q:VK):Prop
  | mk:∀ (l:Addr) (xs:List V) (i:Int) (k:Nat) (y:V),(x = .ref l)→(vs = [.int i,y])→(i=(k:Int))→(H l=some (.lst xs))→(k≤xs.length)→(xs.length < 1000)→(Q .non (upd H l (.lst (xs.take k ++ y :: xs.drop k))))→J_rInsert x vs H Q
noncomputable def rInsert:V→List V→Hp→VK→Prop:=fun x vs H Q=>J_rInsert x vs H Q
theorem mt_insert:MtM X "list.insert" rInsert:=by
  intro pins s σ H x vs v us Q I rx rv h
  obtain ⟨l,xs,i,k,y,rfl,rfl,hik,hH,hk,hz,q⟩:=h
  cases rx
  cases rv with
  | cons r1 rv =>
    cases rv with
    | cons r2 rv =>
      cases rv
      obtain ⟨t,rfl⟩:=r1
      obtain ⟨z,its,n,r,hl,e⟩:=I.lstM hH
      rename_i u2
      have hf:Builtin.List.listFitsIndex i=true:=fitsIndex_both (by omega) (by omega)
      have hs:its.toArray.size≤sizeLine:=by rw [List.size_toArray, ← hl];exact z
      have hff:¬ (!Builtin.List.listFitsIndex i)=true:=by rw [hf];exact fun q=>nomatch q
      refine call_meets F.slot_list_insert ⟨_,e,rfl⟩ F.entry_list_insert (F.args_list_insert_3 (.ref l) (.int i t) u2) (AutoSeq1.list_insert_list_int_val_1 l its.toArray n i t u2 hff hs) ⟨e,?_⟩
      refine ⟨.non,_,I.lset (its':=its.take k ++ u2 :: its.drop k) hH e ?_ ((r.take k).append (.cons r2 (r.drop k))) ?_,rfl,q⟩
      · have hn:¬ (i < 0):=by omega
        have hm:min i.toNat its.length=k:=by omega
        simp [hn,hm]
        exact List.take_of_length_le (by rw [List.length_drop];omega)
      · rw [List.length_append,List.length_take,List.length_cons,List.length_drop]
        have:sizeLine ≥ 1000:=by decide
        omega
end
section
variable {X:Cx} {CX:CXT} {k k':Nat} {f C:Addr} {fd:FuncData} {ps:List Str} {sp:Sp} {dvs:List V} {ds:List Value} {E:XK} {x m:Str} {p pos apos:Pos} {e o:Expr} {es:List Expr} {ta:TE} {t:TA}
end
end L2
namespace K06
open PySem L2 Sw
noncomputable def top (i:Nat):Stmt:=PySem.Challenge.pw_samewise_k06_bounds.main.body.getD i (.Pass ⟨0,0,0,0⟩)
noncomputable abbrev s_parts:Stmt:=top 10
theorem sc_parts:FnScope ["tree", "total", "arm"] ["tree"] (defScope s_parts):=⟨rfl,rfl,rfl,by decide +kernel,rfl,by decide +kernel,by decide +kernel⟩
noncomputable abbrev s_init:Stmt:=inClass (top 22) 0
theorem sc_init:FnScope ["self", "text", "with_holes"] ["self", "text", "with_holes"] (defScope s_init):=⟨rfl,rfl,rfl,by decide +kernel,rfl,by decide +kernel,by decide +kernel⟩
noncomputable abbrev s_ahead:Stmt:=inClass (top 22) 1
theorem sc_ahead:FnScope ["self"] ["self"] (defScope s_ahead):=⟨rfl,rfl,rfl,by decide +kernel,rfl,by decide +kernel,by decide +kernel⟩
noncomputable abbrev s_take:Stmt:=inClass (top 22) 2
theorem sc_take:FnScope ["self", "wanted", "end"] ["self", "wanted"] (defScope s_take):=⟨rfl,rfl,rfl,by decide +kernel,rfl,by decide +kernel,by decide +kernel⟩
noncomputable abbrev s_take_run:Stmt:=inClass (top 22) 3
theorem sc_take_run:FnScope ["self", "signs", "start"] ["self", "signs"] (defScope s_take_run):=⟨rfl,rfl,rfl,by decide +kernel,rfl,by decide +kernel,by decide +kernel⟩
noncomputable abbrev s_take_word:Stmt:=inClass (top 22) 4
theorem sc_take_word:FnScope ["self", "word"] ["self"] (defScope s_take_word):=⟨rfl,rfl,rfl,by decide +kernel,rfl,by decide +kernel,by decide +kernel⟩
noncomputable abbrev s_take_number:Stmt:=inClass (top 22) 5
theorem sc_take_number:FnScope ["self", "start", "figures", "written"] ["self"] (defScope s_take_number):=⟨rfl,rfl,rfl,by decide +kernel,rfl,by decide +kernel,by decide +kernel⟩
noncomputable abbrev s_take_arms:Stmt:=inClass (top 22) 6
theorem sc_take_arms:FnScope ["self", "deep", "arms"] ["self", "deep"] (defScope s_take_arms):=⟨rfl,rfl,rfl,by decide +kernel,rfl,by decide +kernel,by decide +kernel⟩
noncomputable abbrev s_take_tree:Stmt:=inClass (top 22) 7
theorem sc_take_tree:FnScope ["self", "deep", "sign", "word"] ["self", "deep"] (defScope s_take_tree):=⟨rfl,rfl,rfl,by decide +kernel,rfl,by decide +kernel,by decide +kernel⟩
noncomputable abbrev s_read_whole:Stmt:=top 21
theorem sc_read_whole:FnScope ["reader", "tree"] ["reader"] (defScope s_read_whole):=⟨rfl,rfl,rfl,by decide +kernel,rfl,by decide +kernel,by decide +kernel⟩
noncomputable abbrev s_read:Stmt:=top 19
theorem sc_read:FnScope ["text"] ["text"] (defScope s_read):=⟨rfl,rfl,rfl,by decide +kernel,rfl,by decide +kernel,by decide +kernel⟩
noncomputable abbrev s_read_pattern:Stmt:=top 20
theorem sc_read_pattern:FnScope ["text"] ["text"] (defScope s_read_pattern):=⟨rfl,rfl,rfl,by decide +kernel,rfl,by decide +kernel,by decide +kernel⟩
noncomputable abbrev s_cell_at:Stmt:=top 24
theorem sc_cell_at:FnScope ["_law_script", "_law_k"] ["_law_script", "_law_k"] (defScope s_cell_at):=⟨rfl,rfl,rfl,by decide +kernel,rfl,by decide +kernel,by decide +kernel⟩
noncomputable abbrev s_mixed:Stmt:=top 25
theorem sc_mixed:FnScope ["_law_cell", "_law_k", "_law_m"] ["_law_cell", "_law_k"] (defScope s_mixed):=⟨rfl,rfl,rfl,by decide +kernel,rfl,by decide +kernel,by decide +kernel⟩
noncomputable abbrev s_word:Stmt:=top 26
theorem sc_word:FnScope ["_law_m", "_law_signs", "_law_size", "_law_at", "_law_word_here"] ["_law_m"] (defScope s_word):=⟨rfl,rfl,rfl,by decide +kernel,rfl,by decide +kernel,by decide +kernel⟩
noncomputable abbrev s_joined:Stmt:=top 27
theorem sc_joined:FnScope ["_law_word_here", "_law_rows", "_law_tree", "_law_line"] ["_law_word_here", "_law_rows"] (defScope s_joined):=⟨rfl,rfl,rfl,by decide +kernel,rfl,by decide +kernel,by decide +kernel⟩
noncomputable abbrev s_same:Stmt:=top 28
theorem sc_same:FnScope ["_law_found", "_law_due", "_law_number", "_law_k"] ["_law_found", "_law_due"] (defScope s_same):=⟨rfl,rfl,rfl,by decide +kernel,rfl,by decide +kernel,by decide +kernel⟩
noncomputable abbrev s_other:Stmt:=top 30
theorem sc_other:FnScope ["_law_e"] ["_law_e"] (defScope s_other):=⟨rfl,rfl,rfl,by decide +kernel,rfl,by decide +kernel,by decide +kernel⟩
noncomputable abbrev s_asked:Stmt:=top 29
theorem sc_asked:FnScope ["_law_line", "_law_holed", "_law_found", "_law_refused", "_law_e"] ["_law_line", "_law_holed"] (defScope s_asked):=⟨rfl,rfl,rfl,by decide +kernel,rfl,by decide +kernel,by decide +kernel⟩
noncomputable abbrev s_named:Stmt:=top 31
theorem sc_named:FnScope ["_law_word_here"] ["_law_word_here"] (defScope s_named):=⟨rfl,rfl,rfl,by decide +kernel,rfl,by decide +kernel,by decide +kernel⟩
noncomputable abbrev s_deep:Stmt:=top 32
theorem sc_deep:FnScope ["_law_script", "_law_first", "_law_row", "_law_k", "_law_m", "_law_rows"] ["_law_script", "_law_first"] (defScope s_deep):=⟨rfl,rfl,rfl,by decide +kernel,rfl,by decide +kernel,by decide +kernel⟩
noncomputable abbrev s_wide:Stmt:=top 33
theorem sc_wide:FnScope ["_law_script", "_law_first", "_law_pile", "_law_k", "_law_many", "_law_rows", "_law_some", "_law_row"] ["_law_script", "_law_first"] (defScope s_wide):=⟨rfl,rfl,rfl,by decide +kernel,rfl,by decide +kernel,by decide +kernel⟩
noncomputable abbrev s_figures:Stmt:=top 34
theorem sc_figures:FnScope ["_law_script", "_law_first", "_law_line", "_law_k", "_law_number", "_law_good"] ["_law_script", "_law_first"] (defScope s_figures):=⟨rfl,rfl,rfl,by decide +kernel,rfl,by decide +kernel,by decide +kernel⟩
noncomputable abbrev s_letters:Stmt:=top 35
theorem sc_letters:FnScope ["_law_script", "_law_first", "_law_word_here", "_law_k", "_law_good", "_law_rows"] ["_law_script", "_law_first"] (defScope s_letters):=⟨rfl,rfl,rfl,by decide +kernel,rfl,by decide +kernel,by decide +kernel⟩
noncomputable abbrev s_armed:Stmt:=top 36
theorem sc_armed:FnScope ["_law_script", "_law_first", "_law_rows", "_law_k", "_law_word_here", "_law_line"] ["_law_script", "_law_first"] (defScope s_armed):=⟨rfl,rfl,rfl,by decide +kernel,rfl,by decide +kernel,by decide +kernel⟩
noncomputable abbrev s_made:Stmt:=top 37
theorem sc_made:FnScope ["_law_script", "_law_first", "_law_row", "_law_good", "_law_m", "_law_rows"] ["_law_script", "_law_first"] (defScope s_made):=⟨rfl,rfl,rfl,by decide +kernel,rfl,by decide +kernel,by decide +kernel⟩
noncomputable abbrev s_law:Stmt:=top 38
theorem sc_law:FnScope ["_law_script", "_law_row", "_law_good", "_law_holed", "_law_told"] ["_law_script"] (defScope s_law):=⟨rfl,rfl,rfl,by decide +kernel,rfl,by decide +kernel,by decide +kernel⟩
section
variable {P:Program} {w:World} {K:PySem.W.Frag} {mg:Str→Option Value} {base:Heap} {CR CNT:Addr}
structure Top4 (K:PySem.W.Frag) (mg:Str→Option Value) (CR CNT:Addr):Prop where
  cR:Cls K CR
  nText:NoAttr K CR "text"
  nHoles:NoAttr K CR "with_holes"
  nPlace:NoAttr K CR "place"
  g_LETTERS:∃ t,mg "LETTERS" = some (.str "abcdefghijklmnopqrstuvwxyz" t)
  g_FIGURES:∃ t,mg "FIGURES" = some (.str "0123456789" t)
  g_MOST_LETTERS:∃ t,mg "MOST_LETTERS" = some (.int 8 t)
  g_MOST_FIGURES:∃ t,mg "MOST_FIGURES" = some (.int 60 t)
  g_MOST_ARMS:∃ t,mg "MOST_ARMS" = some (.int 4 t)
  g_MOST_PARTS:∃ t,mg "MOST_PARTS" = some (.int 120 t)
  g_MOST_DEEP:∃ t,mg "MOST_DEEP" = some (.int 30 t)
  oNoTree:Exc K mg "NoTree" CNT
inductive SpInit (CR:Addr) (vs:List V) (H:Hp) (Q:VK):Prop
  | mk (r dx:Addr) (tx:Str) (b:Bool) (z0:vs = [.ref r,.str tx,.bl b]) (z1:H r=some (.ins CR dx [])) (z2:Q .non (upd H r (rdr CR dx tx b 0))):SpInit CR vs H Q
noncomputable def spInit (CR:Addr):Sp:=fun vs H Q _=>SpInit CR vs H Q
theorem ok_init (Z:Top4 K mg CR CNT) (D:DefC K mg "Reader" CR "Reader.__init__" s_init ["self", "text", "with_holes"]):HasC P w K mg base 1 "Reader" CR ["self", "text", "with_holes"] (spInit CR):=by
  refine D.has sc_init (fun vs H Q E h => ?_) (fun f cdv A outer s H vs Q E hr h => ?_)
  · obtain ⟨r,dx,tx,b,rfl,_⟩:=h;rfl
  obtain ⟨r,dx,tx,b,rfl,hr1,q⟩:=h
  refine ⟨_,(pss_cons (ps_fld (pv 0) (pv 1) rfl)
    (pss_cons (ps_fld (pv 0) (pv 2) rfl)
    (pss_one (ps_fld (pv 0) pe_int rfl)))),?_⟩
  try dsimp only [cxOf]
  refine ⟨_,rfl,_,rfl,r,CR,dx,_,rfl,hr1,Z.cR,Z.nText,by decide,?_⟩
  refine ⟨_,rfl,_,rfl,r,CR,dx,_,rfl,upd_same,Z.cR,Z.nHoles,(show 1 < 1000 by decide),?_⟩
  refine ⟨_,rfl,r,CR,dx,_,rfl,upd_same,Z.cR,Z.nPlace,(show 2 < 1000 by decide),?_⟩
  rw [upd_upd,upd_upd]
  exact q
noncomputable def RdIn (CR:Addr) (H:Hp) (r dx:Addr) (tx:Str) (b:Bool) (p:Nat):Prop:=H r=some (rdr CR dx tx b p)∧p≤tx.length∧tx.length≤100000
noncomputable def ahd (tx:Str) (p:Nat):List Nat:=tx.cps.toList.drop p
inductive SpAhead (CR:Addr) (vs:List V) (H:Hp) (Q:VK):Prop
  | mk (r dx:Addr) (tx:Str) (b:Bool) (p:Nat) (z0:vs = [.ref r]) (z1:RdIn CR H r dx tx b p) (z2:Q (.str (mkS ((ahd tx p).take 1))) H):SpAhead CR vs H Q
noncomputable def spAhead (CR:Addr):Sp:=fun vs H Q _=>SpAhead CR vs H Q
theorem ok_ahead (Z:Top4 K mg CR CNT) (D:DefM K CR "ahead" "Reader.ahead" s_ahead ["self"]):HasM P w K mg base 1 CR "ahead" ["self"] (spAhead CR):=by
  refine D.has sc_ahead (fun vs H Q E h => ?_) (fun f cdv A outer s H vs Q E hr h => ?_)
  · obtain ⟨r,dx,tx,b,p,rfl,_⟩:=h;rfl
  obtain ⟨r,dx,tx,b,p,rfl,⟨hr1,hp,hz⟩,q⟩:=h
  refine ⟨_,(pss_one (ps_ret (pe_slice sl_str (pe_fld (pv 0) rfl) (po_some (pe_fld (pv 0) rfl)) (po_some (pe_op op_add (pe_fld (pv 0) rfl) pe_int))))),?_⟩
  try dsimp only [cxOf]
  refine ⟨_,rfl,r,CR,dx,_,_,rfl,hr1,Z.cR,Z.nText,rfl,?_⟩
  refine ⟨_,rfl,r,CR,dx,_,_,rfl,hr1,Z.cR,Z.nPlace,rfl,_,rfl,?_⟩
  refine ⟨_,rfl,r,CR,dx,_,_,rfl,hr1,Z.cR,Z.nPlace,rfl,_,_,rfl,rfl,_,rfl,tx,rfl,Nat.le_trans hz (by decide),?_⟩
  have e:((p:Int)+1)=((p+1:Nat):Int):=by omega
  rw [e,slice_cut tx hp,show p+1 - p=1 by omega]
  exact q
inductive SpTake (CR CNT:Addr) (vs:List V) (H:Hp) (Q:VK) (E:XK):Prop
  | mk (r dx:Addr) (tx:Str) (b:Bool) (p:Nat) (x:Str) (z0:vs = [.ref r,.str x]) (z1:RdIn CR H r dx tx b p) (z2:x.length≤10) (z3:(reprText x).length≤1000) (z4:((ahd tx p).take x.length=x.cps.toList→Q .non (upd H r (rdr CR dx tx b (p+x.length))))) (z5:((ahd tx p).take x.length≠x.cps.toList→E (.ref CNT) none H)):SpTake CR CNT vs H Q E
noncomputable def spTake (CR CNT:Addr):Sp:=fun vs H Q E=>SpTake CR CNT vs H Q E
theorem ok_take (B:Blt mg) (Z:Top4 K mg CR CNT) (D:DefM K CR "take" "Reader.take" s_take ["self", "wanted"]):HasM P w K mg base 1 CR "take" ["self", "wanted"] (spTake CR CNT):=by
  have oNoTree:=Z.oNoTree
  refine D.has sc_take (fun vs H Q E h => ?_) (fun f cdv A outer s H vs Q E hr h => ?_)
  · obtain ⟨r,dx,tx,b,p,x,rfl,_⟩:=h;rfl
  obtain ⟨r,dx,tx,b,p,x,rfl,⟨hr1,hp,hz⟩,hx,hrx,q1,q2⟩:=h
  refine ⟨_,(pss_cons (ps_set (i:=2) sc_take.nd rfl (Or.inl rfl) (pe_op op_add (pe_fld (pv 0) rfl) (pe_callB call_len_str rfl B.len_ PySem.boot_len (pa_cons (pv 1) pa_nil))))
    (pss_cons (ps_if (pt_cmpR op_ne (pe_slice sl_str (pe_fld (pv 0) rfl) (po_some (pe_fld (pv 0) rfl)) (po_some (pv 2))) (pv 1) (nomark _)) (pss_one (ps_raise oNoTree rfl (fun _ _ _ _ _ _ _ I hx q=>flies I hx q) (pa_cons (pe_joined (pj_cons (pe_fmtR (pv 1)) (pj_cons pe_str pj_nil))) pa_nil) rfl)) pss_nil)
    (pss_one (ps_fld (pv 0) (pv 2) rfl)))),?_⟩
  try dsimp only [cxOf]
  refine ⟨_,rfl,r,CR,dx,_,_,rfl,hr1,Z.cR,Z.nPlace,rfl,_,rfl,x,rfl,Nat.le_trans hx (by decide),_,_,rfl,rfl,?_⟩
  refine ⟨_,rfl,r,CR,dx,_,_,rfl,hr1,Z.cR,Z.nText,rfl,?_⟩
  refine ⟨_,rfl,r,CR,dx,_,_,rfl,hr1,Z.cR,Z.nPlace,rfl,_,rfl,_,rfl,_,rfl,tx,rfl,Nat.le_trans hz (by decide),_,rfl,?_⟩
  have e:((p:Int)+(x.length:Int))=((p+x.length:Nat):Int):=by omega
  have e2:Txt.slice tx (some (p:Int)) (some ((p:Int)+(x.length:Int)))=mkS ((ahd tx p).take x.length):=by
    rw [e,slice_cut tx hp,show p+x.length - p=x.length by omega];rfl
  refine ⟨rfl,_,rfl,iteDN (fun hne => ?_) (fun heq => ?_)⟩
  · rw [e2] at hne
    refine ⟨by decide,_,rfl,x,rfl,hrx,_,rfl,hrx,_,rfl,by decide,fun z=>⟨(show 1≤sizeLine by decide),q2 fun h=>hne ?_⟩⟩
    rw [h]
    exact congrArg V.str (str_ext rfl)
  · rw [e2] at heq
    have h:(ahd tx p).take x.length=x.cps.toList:=(congrArg (fun z:Str=>z.cps.toList) (V.str.inj heq):_)
    refine ⟨_,rfl,_,rfl,r,CR,dx,_,rfl,hr1,Z.cR,Z.nPlace,(show 3 < 1000 by decide),?_⟩
    have q:=q1 h
    unfold rdr at q
    rw [← e] at q
    exact q
inductive SpRun (CR:Addr) (vs:List V) (H:Hp) (Q:VK):Prop
  | mk (r dx:Addr) (tx:Str) (b:Bool) (p:Nat) (x:Str) (pr:Nat→Bool) (z0:vs = [.ref r,.str x]) (z1:RdIn CR H r dx tx b p) (z2:(∀ c,decide (c∈x.cps.toList)=pr c)) (z3:Q (.str (mkS ((ahd tx p).takeWhile pr))) (upd H r (rdr CR dx tx b (p+((ahd tx p).takeWhile pr).length)))):SpRun CR vs H Q
noncomputable def spRun (CR:Addr):Sp:=fun vs H Q _=>SpRun CR vs H Q
theorem ok_run (B:Blt mg) (Z:Top4 K mg CR CNT) (D:DefM K CR "take_run" "Reader.take_run" s_take_run ["self", "signs"]):HasM P w K mg base 1 CR "take_run" ["self", "signs"] (spRun CR):=by
  refine D.has sc_take_run (fun vs H Q E h => ?_) (fun f cdv A outer s H vs Q E hr h => ?_)
  · obtain ⟨r,dx,tx,b,p,x,pr,rfl,_⟩:=h;rfl
  obtain ⟨r,dx,tx,b,p,x,pr,rfl,⟨hr1,hp,hz⟩,hpr,q⟩:=h
  refine ⟨_,(pss_cons (ps_set (i:=2) sc_take_run.nd rfl (Or.inl rfl) (pe_fld (pv 0) rfl))
    (pss_cons (ps_while PassesOwn.leaving (PW.pt (pw_and (pt_cmpR op_lt (pe_fld (pv 0) rfl) (pe_callB call_len_str rfl B.len_ PySem.boot_len (pa_cons (pe_fld (pv 0) rfl) pa_nil)) (nomark _)) (pw_and1 (pt_cmpR op_in_str (pe_ix ix_str (pe_fld (pv 0) rfl) (pe_fld (pv 0) rfl) (fun _ _=>rfl)) (pv 1) (by with_unfolding_all rfl)))))
    (pss_one (ps_fldaug (pv 0) pe_int in_add)))
    (pss_one (ps_ret (pe_slice sl_str (pe_fld (pv 0) rfl) (po_some (pv 2)) (po_some (pe_fld (pv 0) rfl))))))),?_⟩
  try dsimp only [cxOf]
  refine ⟨_,rfl,r,CR,dx,_,_,rfl,hr1,Z.cR,Z.nPlace,rfl,?_⟩
  have hl:(ahd tx p).length=tx.length - p:=by unfold ahd;rw [List.length_drop,len_cps]
  have hn:=tw_le pr (ahd tx p)
  refine ⟨fun m σ' H'=>∃ j,j≤((ahd tx p).takeWhile pr).length∧m=((ahd tx p).takeWhile pr).length - j ∧ σ' = [some (.ref r),some (.str x),some (.int p)]∧H'=upd H r (rdr CR dx tx b (p+j)),⟨_,0,Nat.zero_le _,rfl,rfl,(upd_id hr1).symm⟩,?_⟩
  rintro m σ' H' ⟨j,hj,rfl,rfl,rfl⟩
  have big:tx.length≤sizeLine:=Nat.le_trans hz (by decide)
  have hat:∀ i,(ahd tx p)[i]? = tx.cps.toList[p+i]? := fun i=>by unfold ahd;rw [List.getElem?_drop]
  refine ⟨_,rfl,r,CR,dx,_,_,rfl,upd_same,Z.cR,Z.nPlace,rfl,_,rfl,r,CR,dx,_,_,rfl,upd_same,Z.cR,Z.nText,rfl,tx,rfl,big,?_⟩
  have fin:∀ Q':VK,j=((ahd tx p).takeWhile pr).length→Q' (.str (mkS ((ahd tx p).takeWhile pr))) (upd H r (rdr CR dx tx b (p+((ahd tx p).takeWhile pr).length))) →
      tSl rSlS (tFld K (tVar 0) "text") (tPart (tVar 2)) (tPart (tFld K (tVar 0) "place")) [some (V.ref r),some (V.str x),some (V.int p)] (upd H r (rdr CR dx tx b (p+j))) Q':=fun Q' hjn q'=>by
    subst hjn
    refine ⟨_,rfl,r,CR,dx,_,_,rfl,upd_same,Z.cR,Z.nText,rfl,_,rfl,_,rfl,_,rfl,r,CR,dx,_,_,rfl,upd_same,Z.cR,Z.nPlace,rfl,_,rfl,tx,rfl,big,?_⟩
    rw [slice_cut tx hp,show p+((ahd tx p).takeWhile pr).length - p=((ahd tx p).takeWhile pr).length by omega]
    have e:=tw_take pr (ahd tx p)
    unfold ahd at e q' ⊢
    rw [e]
    exact q'
  refine ⟨_,_,rfl,rfl,_,rfl,iteD (fun hlt => ?_) (fun hge => ?_)⟩
  · have hlt':p+j < tx.length:=by omega
    have hc:p+j < tx.cps.toList.length:=by rw [← len_cps];exact hlt'
    have hci:atI tx.cps.toList ((p+j:Nat):Int)=some tx.cps.toList[p+j]:=atI_nat (List.getElem?_eq_getElem hc)
    refine ⟨_,rfl,r,CR,dx,_,_,rfl,upd_same,Z.cR,Z.nText,rfl,_,rfl,r,CR,dx,_,_,rfl,upd_same,Z.cR,Z.nPlace,rfl,tx,_,tx.cps.toList[p+j],rfl,rfl,big,hci,_,rfl,_,_,rfl,rfl,_,rfl,?_⟩
    rw [StrLaws.found_one,hpr]
    cases hb:pr tx.cps.toList[p+j] with
    | true =>
      have hjn:j < ((ahd tx p).takeWhile pr).length:=by
        refine Nat.lt_of_not_le fun hle => ?_
        have hje:j=((ahd tx p).takeWhile pr).length:=by omega
        obtain ⟨c,h1,h2⟩:=tw_end pr (ahd tx p) (by rw [hl];omega)
        rw [← hje,hat,List.getElem?_eq_getElem hc] at h1
        cases h1
        rw [hb] at h2;cases h2
      refine iteT ⟨fun σ' H' => σ' = [some (.ref r),some (.str x),some (.int p)]∧H'=upd H r (rdr CR dx tx b (p+(j+1))),?_,?_⟩
      · rintro σ' H' ⟨rfl,rfl⟩
        exact ⟨((ahd tx p).takeWhile pr).length - (j+1),by omega,j+1,hjn,rfl,rfl,rfl⟩
      · refine ⟨_,rfl,r,CR,dx,_,_,rfl,upd_same,Z.cR,Z.nPlace,rfl,_,_,rfl,rfl,dx,_,upd_same,(show 3 < 1000 by decide),rfl,?_⟩
        rw [upd_upd]
        rfl
    | false =>
      refine iteF (fin _ ?_ q)
      refine Nat.le_antisymm hj (Nat.le_of_not_lt fun hjn => ?_)
      obtain ⟨c,h1,h2⟩:=tw_at pr (ahd tx p) j hjn
      rw [hat,List.getElem?_eq_getElem hc] at h1
      cases h1
      rw [hb] at h2;cases h2
  · exact iteF (fin _ (by omega) q)
inductive SpTWord (CR CNT:Addr) (vs:List V) (H:Hp) (Q:VK) (E:XK):Prop
  | mk (r dx:Addr) (tx:Str) (b:Bool) (p:Nat) (z0:vs = [.ref r]) (z1:RdIn CR H r dx tx b p) (z2:(∀ x l',pWord (ahd tx p)=some (x,l')→Q (.str (mkS x)) (upd H r (rdr CR dx tx b (p+x.length))))) (z3:(pWord (ahd tx p)=none→∀ H',KeepBut r H H'→E (.ref CNT) none H')):SpTWord CR CNT vs H Q E
noncomputable def spTWord (CR CNT:Addr):Sp:=fun vs H Q E=>SpTWord CR CNT vs H Q E
theorem ok_tword (B:Blt mg) (Z:Top4 K mg CR CNT) (h_take_run:HasM P w K mg base 1 CR "take_run" ["self", "signs"] (spRun CR)) (D:DefM K CR "take_word" "Reader.take_word" s_take_word ["self"]):HasM P w K mg base 2 CR "take_word" ["self"] (spTWord CR CNT):=by
  have oNoTree:=Z.oNoTree
  have cR:=Z.cR
  have g_LETTERS:=Z.g_LETTERS
  have g_MOST_LETTERS:=Z.g_MOST_LETTERS
  refine D.has sc_take_word (fun vs H Q E h => ?_) (fun f cdv A outer s H vs Q E hr h => ?_)
  · obtain ⟨r,dx,tx,b,p,rfl,_⟩:=h;rfl
  obtain ⟨r,dx,tx,b,p,rfl,⟨hr1,hp,hz⟩,q1,q2⟩:=h
  refine ⟨_,(pss_cons (ps_set (i:=1) sc_take_word.nd rfl (Or.inl rfl) (pe_mE h_take_run cR hr (by omega) (passE fun _ _ _ z=>z) (pv 0) (pa_cons (pe_globS g_LETTERS rfl) pa_nil)))
    (pss_cons (ps_if (PW.pt (pw_or (pt_cmpR op_eq (pv 1) pe_str (nomark _)) (pw_or1 (pt_cmpR op_gt (pe_callB call_len_str rfl B.len_ PySem.boot_len (pa_cons (pv 1) pa_nil)) (pe_globI g_MOST_LETTERS rfl) (nomark _))))) (pss_one (ps_raise oNoTree rfl (fun _ _ _ _ _ _ _ I hx q=>flies I hx q) (pa_cons (pe_joined (pj_cons pe_str (pj_cons (pe_fmtI (pe_globI g_MOST_LETTERS rfl)) (pj_cons pe_str pj_nil)))) pa_nil) rfl)) pss_nil)
    (pss_one (ps_ret (pv 1))))),?_⟩
  try dsimp only [cxOf]
  refine ⟨_,rfl,r,dx,_,rfl,hr1,rfl,r,dx,tx,b,p,_,isLet,rfl,⟨hr1,hp,hz⟩,lets_are,?_⟩
  have hl:(ahd tx p).length=tx.length - p:=by unfold ahd;rw [List.length_drop,len_cps]
  have hn:=tw_le isLet (ahd tx p)
  have bad:((ahd tx p).takeWhile isLet = []∨8 < ((ahd tx p).takeWhile isLet).length)→∀ H',KeepBut r H H'→E (.ref CNT) none H':=fun h=>q2 (by unfold pWord;rw [if_pos h])
  have big:(mkS ((ahd tx p).takeWhile isLet)).length≤sizeLine:=by rw [mkS_len];exact Nat.le_trans (by omega:_≤100000) (by decide)
  refine ⟨_,rfl,rfl,_,rfl,iteD (fun h0 => ?_) (fun h0 => ?_)⟩
  · exact iteT ⟨by decide,_,rfl,by decide,_,rfl,by decide,_,rfl,by decide,_,rfl,by decide,fun z=>⟨(show 1≤sizeLine by decide),bad (.inl (mkS_empty h0)) _ KeepBut.put⟩⟩
  · refine ⟨_,rfl,_,rfl,big,_,_,rfl,rfl,_,rfl,iteD (fun h1 => ?_) (fun h1 => ?_)⟩
    · rw [mkS_len] at h1
      exact ⟨by decide,_,rfl,by decide,_,rfl,by decide,_,rfl,by decide,_,rfl,by decide,fun z=>⟨(show 1≤sizeLine by decide),bad (.inr (by omega)) _ KeepBut.put⟩⟩
    · rw [mkS_len] at h1
      refine ⟨_,rfl,q1 _ ((ahd tx p).drop ((ahd tx p).takeWhile isLet).length) ?_⟩
      unfold pWord
      rw [if_neg fun z=>z.elim (mkS_ne h0) (by omega)]
theorem rdcut {t rest:TS} {D:Ends} {σ : St} {H:Hp} (R:St→Hp→Prop) (key:∀ σ' H',R σ' H'→rest D σ' H') (h:∀ {N:St→Hp→Prop},(∀ σ' H',R σ' H'→N σ' H')→t { D with nx:=N } σ H):tSeq t rest D σ H:=h key
theorem ahd_len {tx:Str} {p:Nat}:(ahd tx p).length=tx.length - p:=by unfold ahd;rw [List.length_drop,len_cps]
theorem ahd_drop {tx:Str} {p n:Nat}:(ahd tx p).drop n=ahd tx (p+n):=by unfold ahd;rw [List.drop_drop]
inductive SpNum (CR CNT:Addr) (vs:List V) (H:Hp) (Q:VK) (E:XK):Prop
  | mk (r dx:Addr) (tx:Str) (b:Bool) (p:Nat) (z0:vs = [.ref r]) (z1:RdIn CR H r dx tx b p) (z2:(∀ n l',pNum (ahd tx p)=some (n,l')→∀ a H' p',KeepBut r H H'→RdIn CR H' r dx tx b p'→ahd tx p'=l'→H' a=some (.tup [.str "num",.int n])→Q (.ref a) H')) (z3:(pNum (ahd tx p)=none→∀ H',KeepBut r H H'→E (.ref CNT) none H')):SpNum CR CNT vs H Q E
noncomputable def spNum (CR CNT:Addr):Sp:=fun vs H Q E=>SpNum CR CNT vs H Q E
theorem ok_number4 (B:Blt mg) (Z:Top4 K mg CR CNT) (h_ahead:HasM P w K mg base 1 CR "ahead" ["self"] (spAhead CR)) (h_take_run:HasM P w K mg base 1 CR "take_run" ["self", "signs"] (spRun CR)) (D:DefM K CR "take_number" "Reader.take_number" s_take_number ["self"]) :
    HasM P w K mg base 2 CR "take_number" ["self"] (spNum CR CNT):=by
  have oNoTree:=Z.oNoTree
  have cR:=Z.cR
  have g_FIGURES:=Z.g_FIGURES
  have g_MOST_FIGURES:=Z.g_MOST_FIGURES
  refine D.has sc_take_number (fun vs H Q E h => ?_) (fun f cdv A outer s H vs Q E hr h => ?_)
  · obtain ⟨r,dx,tx,b,p,rfl,_⟩:=h;rfl
  obtain ⟨r,dx,tx,b,p,rfl,⟨hr1,hp,hz⟩,q1,q2⟩:=h
  refine ⟨_,(pss_cons (ps_set (i:=1) sc_take_number.nd rfl (Or.inl rfl) (pe_fld (pv 0) rfl))
    (pss_cons (ps_if (pt_cmpR op_eq (pe_mE0 h_ahead cR hr (by omega) (passE fun _ _ _ z=>z) (pv 0)) pe_str (nomark _)) (pss_one (ps_fldaug (pv 0) pe_int in_add)) pss_nil)
    (pss_cons (ps_set (i:=2) sc_take_number.nd rfl (Or.inl rfl) (pe_mE h_take_run cR hr (by omega) (passE fun _ _ _ z=>z) (pv 0) (pa_cons (pe_globS g_FIGURES rfl) pa_nil)))
    (pss_cons (ps_if (PW.pt (pw_or (pt_cmpR op_eq (pv 2) pe_str (nomark _)) (pw_or1 (pt_cmpR op_gt (pe_callB call_len_str rfl B.len_ PySem.boot_len (pa_cons (pv 2) pa_nil)) (pe_globI g_MOST_FIGURES rfl) (nomark _))))) (pss_one (ps_raise oNoTree rfl (fun _ _ _ _ _ _ _ I hx q=>flies I hx q) (pa_cons (pe_joined (pj_cons pe_str (pj_cons (pe_fmtI (pe_globI g_MOST_FIGURES rfl)) (pj_cons pe_str pj_nil)))) pa_nil) rfl)) pss_nil)
    (pss_cons (ps_set (i:=3) sc_take_number.nd rfl (Or.inl rfl) (pe_slice sl_str (pe_fld (pv 0) rfl) (po_some (pv 1)) (po_some (pe_fld (pv 0) rfl))))
    (pss_cons (ps_if (PW.pt (pw_and (pt_cmpR op_eq (pe_ix ix_str (pv 2) pe_int (fun _ _=>rfl)) pe_str (nomark _)) (pw_and1 (pt_cmpR op_ne (pv 3) pe_str (nomark _))))) (pss_one (ps_raise oNoTree rfl (fun _ _ _ _ _ _ _ I hx q=>flies I hx q) (pa_cons pe_str pa_nil) rfl)) pss_nil)
    (pss_one (ps_ret (pe_tup (pa_cons pe_str (pa_cons (pe_callTy call_int_text rfl B.int_ boot_int_ (pa_cons (pv 3) pa_nil)) pa_nil))))))))))),?_⟩
  try dsimp only [cxOf]
  refine ⟨_,rfl,r,CR,dx,_,_,rfl,hr1,Z.cR,Z.nPlace,rfl,?_⟩
  dsimp only [gName]
  refine rdcut (fun σ' H'=>∃ (p1:Nat) (pre:List Nat), σ' = [some (.ref r),some (.int p),none,none]∧H'=upd H r (rdr CR dx tx b p1)∧p1=p+pre.length∧p1≤tx.length∧ahd tx p=pre ++ ahd tx p1∧(pre = []∧(ahd tx p).head? ≠ some 45∨pre = [45])) ?_ (fun key => ?_)
  · rintro σ' H' ⟨p1,pre,rfl,rfl,hp1,hp1l,hl,hpre⟩
    refine ⟨_,rfl,r,dx,_,rfl,upd_same,rfl,r,dx,tx,b,p1,_,isFig,rfl,⟨upd_same,hp1l,hz⟩,figs_are,?_⟩
    have hn:=tw_le isFig (ahd tx p1)
    rw [ahd_len] at hn
    generalize hF:(ahd tx p1).takeWhile isFig=F at hn
    have hFd:PySem.NumText.AllDigits F:=fun c hc=>by
      rw [← hF] at hc
      have:=tw_all _ _ c hc
      unfold isFig at this
      exact of_decide_eq_true this
    have hcut:(ahd tx p).take (p1+F.length - p)=pre ++ F:=by
      rw [hl,show p1+F.length - p=pre.length+F.length by omega,List.take_append,List.take_of_length_le (by omega),show pre.length+F.length - pre.length=F.length by omega, ← hF,tw_take]
    rw [upd_upd]
    have hN:pNum (ahd tx p)=if F = []∨60 < F.length then none else if F.head? = some 48∧¬ (pre = []∧F = [48]) then none else some (if pre = [] then ((PySem.NumText.digitsVal F:Nat):Int) else -((PySem.NumText.digitsVal F:Nat):Int),ahd tx (p1+F.length)):=by
      rcases hpre with ⟨rfl,hh⟩ | rfl
      · have e:ahd tx p=ahd tx p1:=hl
        unfold pNum
        rw [decide_eq_false hh]
        simp only [Bool.false_eq_true,if_false,e,hF,true_and,if_true,ahd_drop]
      · have e:ahd tx p=45 :: ahd tx p1:=hl
        unfold pNum
        rw [e]
        simp only [List.head?_cons,List.tail_cons,decide_true,if_true,hF,ahd_drop]
        simp
    have big:(mkS F).length≤sizeLine:=by rw [mkS_len];exact Nat.le_trans (by omega:_≤100000) (by decide)
    have bad:(F = []∨60 < F.length)→∀ H',KeepBut r H H'→E (.ref CNT) none H':=fun h=>q2 (by rw [hN,if_pos h])
    dsimp only [gName]
    refine rdcut (fun σ' H' => σ' = [some (.ref r),some (.int p),some (.str (mkS F)),none]∧H'=upd H r (rdr CR dx tx b (p1+F.length))∧F ≠ []∧F.length≤60) ?_ (fun key => ?_)
    · rintro σ' H' ⟨rfl,rfl,hF0,hF60⟩
      refine ⟨_,rfl,r,CR,dx,_,_,rfl,upd_same,Z.cR,Z.nText,rfl,_,rfl,_,rfl,_,rfl,r,CR,dx,_,_,rfl,upd_same,Z.cR,Z.nPlace,rfl,_,rfl,tx,rfl,Nat.le_trans hz (by decide),?_⟩
      rw [slice_cut tx hp]
      have hcut':(tx.cps.toList.drop p).take (p1+F.length - p)=pre ++ F:=hcut
      rw [hcut']
      dsimp only [gName]
      have hlen:(mkS (pre ++ F)).length≤61:=by
        rw [mkS_len,List.length_append]
        rcases hpre with ⟨rfl,_⟩ | rfl
        · simp;omega
        · simp;omega
      have hint:intText? (mkS (pre ++ F))=some (if pre = [] then ((PySem.NumText.digitsVal F:Nat):Int) else -((PySem.NumText.digitsVal F:Nat):Int)):=by
        rcases hpre with ⟨rfl,_⟩ | rfl
        · rw [if_pos rfl]
          exact PySem.intText_digits (x:=mkS ([] ++ F)) hFd hF0 (Nat.le_trans hlen (by decide))
        · rw [if_neg (by simp)]
          exact PySem.intText_neg (x:=mkS ([45] ++ F)) rfl hFd hF0 (Nat.le_trans hlen (by decide))
      refine rdcut (fun σ' H' => σ' = [some (.ref r),some (.int p),some (.str (mkS F)),some (.str (mkS (pre ++ F)))]∧H'=upd H r (rdr CR dx tx b (p1+F.length))∧¬ (F.head? = some 48∧¬ (pre = []∧F = [48]))) ?_ (fun key => ?_)
      · rintro σ' H' ⟨rfl,rfl,hok⟩
        refine ⟨_,rfl,_,_,rfl,hint,Nat.le_trans hlen (by decide),(show 2≤sizeLine by decide),fun a ha => ?_⟩
        refine q1 _ (ahd tx (p1+F.length)) ?_ a _ (p1+F.length) (KeepBut.put.trans (KeepBut.new ha)) ⟨?_,by omega,hz⟩ rfl upd_same
        · rw [hN,if_neg (fun z=>z.elim hF0 (by omega)),if_neg hok]
        · rw [upd_ne (ne_of_none upd_same ha),upd_same]
      · cases hF2:F with
        | nil=>exact absurd hF2 hF0
        | cons c0 F' =>
          rw [← hF2]
          have hat0:atI (mkS F).cps.toList (0:Int)=some c0:=atI_nat (j:=0) (by rw [mkS_cps,hF2];rfl)
          refine ⟨_,rfl,mkS F,0,c0,rfl,rfl,big,hat0,rfl,_,rfl,iteD (fun h0 => ?_) (fun h0 => ?_)⟩
          · have hc0:c0=48:=by
              have:=congrArg (fun z:Str=>z.cps.toList) (V.str.inj h0)
              exact (List.cons.inj this).1
            refine ⟨_,rfl,rfl,_,rfl,iteDN (fun hne => ?_) (fun heq => ?_)⟩
            · refine ⟨(show 1≤sizeLine by decide),q2 ?_ _ KeepBut.put⟩
              have hh:F.head? = some 48∧¬ (pre = []∧F = [48]):=⟨by rw [hF2,hc0];rfl,fun z=>hne (by rw [z.1,z.2];exact congrArg V.str (str_ext rfl))⟩
              rw [hN,if_neg (fun z=>z.elim hF0 (by omega)),if_pos hh]
            · refine key _ _ ⟨rfl,rfl,fun z=>z.2 ?_⟩
              have e:pre ++ F = [48]:=congrArg (fun z:Str=>z.cps.toList) (V.str.inj heq)
              rcases hpre with ⟨rfl,_⟩ | rfl
              · exact ⟨rfl,e⟩
              · simp at e
          · refine iteF (key _ _ ⟨rfl,rfl,fun z=>h0 ?_⟩)
            have e:=z.1
            rw [hF2] at e
            cases e
            exact congrArg V.str (str_ext rfl)
    · refine ⟨_,rfl,rfl,_,rfl,iteD (fun h0 => ?_) (fun h0 => ?_)⟩
      · exact iteT ⟨by decide,_,rfl,by decide,_,rfl,by decide,_,rfl,by decide,_,rfl,by decide,fun z=>⟨(show 1≤sizeLine by decide),bad (.inl (mkS_empty h0)) _ KeepBut.put⟩⟩
      · refine ⟨_,rfl,_,rfl,big,_,_,rfl,rfl,_,rfl,iteD (fun h1 => ?_) (fun h1 => ?_)⟩
        · rw [mkS_len] at h1
          exact ⟨by decide,_,rfl,by decide,_,rfl,by decide,_,rfl,by decide,_,rfl,by decide,fun z=>⟨(show 1≤sizeLine by decide),bad (.inr (by omega)) _ KeepBut.put⟩⟩
        · rw [mkS_len] at h1
          exact key _ _ ⟨rfl,rfl,mkS_ne h0,by omega⟩
  · refine ⟨_,rfl,r,dx,_,rfl,hr1,rfl,r,dx,tx,b,p,rfl,⟨hr1,hp,hz⟩,rfl,_,rfl,iteD (fun h0 => ?_) (fun h0 => ?_)⟩
    · have e:(ahd tx p).take 1 = [45]:=congrArg (fun z:Str=>z.cps.toList) (V.str.inj h0)
      have e2:ahd tx p=45 :: ahd tx (p+1):=by
        rw [← ahd_drop, ← List.take_append_drop 1 (ahd tx p),e]
        simp
      have hpl:p+1≤tx.length:=by
        have:=congrArg List.length e2
        rw [ahd_len,List.length_cons] at this
        omega
      refine ⟨_,rfl,r,CR,dx,_,_,rfl,hr1,Z.cR,Z.nPlace,rfl,_,_,rfl,rfl,dx,_,hr1,(show 3 < 1000 by decide),key _ _ ⟨p+1, [45],rfl,rfl,rfl,hpl,e2,.inr rfl⟩⟩
    · refine key _ _ ⟨p, [],rfl,(upd_id hr1).symm,rfl,hp,rfl,.inl ⟨rfl,fun hh=>h0 ?_⟩⟩
      cases e:ahd tx p with
      | nil=>rw [e] at hh;cases hh
      | cons c l =>
        rw [e] at hh
        cases hh
        exact congrArg V.str (str_ext rfl)
end

end K06
namespace K06
open PySem L2 Sw
section
variable {P:Program} {w:World} {K:PySem.W.Frag} {mg:Str→Option Value} {base:Heap} {CR CNT:Addr}
inductive SpTree (CR CNT:Addr) (k:Nat) (vs:List V) (H:Hp) (Q:VK) (E:XK):Prop
  | mk (r dx:Addr) (tx:Str) (b:Bool) (p:Nat) (z0:vs = [.ref r,.int (31 - (k:Int))]) (z1:RdIn CR H r dx tx b p) (z2:(∀ t l',pTree b k (ahd tx p)=some (t,l')→∀ v H' p',KeepBut r H H'→RdIn CR H' r dx tx b p'→ahd tx p'=l'→IsTr H' t v→Q v H')) (z3:(pTree b k (ahd tx p)=none→∀ H',KeepBut r H H'→E (.ref CNT) none H')):SpTree CR CNT k vs H Q E
noncomputable def spTree (CR CNT:Addr) (k:Nat):Sp:=fun vs H Q E=>SpTree CR CNT k vs H Q E
inductive SpArms (CR CNT:Addr) (k:Nat) (vs:List V) (H:Hp) (Q:VK) (E:XK):Prop
  | mk (r dx:Addr) (tx:Str) (b:Bool) (p:Nat) (z0:vs = [.ref r,.int (31 - (k:Int))]) (z1:RdIn CR H r dx tx b p) (z2:(∀ ts l',pArms (pTree b k) (ahd tx p)=some (ts,l')→∀ a us H' p',KeepBut r H H'→RdIn CR H' r dx tx b p'→ahd tx p'=l'→H' a=some (.tup us)→IsTrs H' ts us→Q (.ref a) H')) (z3:(pArms (pTree b k) (ahd tx p)=none→∀ H',KeepBut r H H'→E (.ref CNT) none H')):SpArms CR CNT k vs H Q E
noncomputable def spArms (CR CNT:Addr) (k:Nat):Sp:=fun vs H Q E=>SpArms CR CNT k vs H Q E
structure ArmS (CR:Addr) (H:Hp) (r dx:Addr) (tx:Str) (b:Bool) (k:Nat) (pa:Addr) (p:Nat) (us:List V) (ts:List T) (p2 n2:Nat) (σ':St) (H':Hp):Prop where
  es : σ' = [some (.ref r),some (.int (31 - (k:Int))),some (.ref pa)]
  kb:KeepBut r H H'
  hl:H' pa=some (.lst us)
  rd:RdIn CR H' r dx tx b p2
  htr:IsTrs H' ts us
  hlen:us.length+(ahd tx p2).length≤100001
  hn2:(ahd tx p2).length < n2
  heq:pArms (pTree b k) (ahd tx p)=(match pMore (pTree b k) n2 (ahd tx p2) with | some (us2,l2)=>if 4 < (ts ++ us2).length then none else some (ts ++ us2,l2) | none=>none)
theorem ok_arms (B:Blt mg) (Z:Top4 K mg CR CNT) {n k:Nat} (hn:1≤n) (h_ahead:HasM P w K mg base 1 CR "ahead" ["self"] (spAhead CR)) (h_take:HasM P w K mg base 1 CR "take" ["self", "wanted"] (spTake CR CNT))
    (h_take_tree:HasM P w K mg base n CR "take_tree" ["self", "deep"] (spTree CR CNT k)) (D:DefM K CR "take_arms" "Reader.take_arms" s_take_arms ["self", "deep"]) :
    HasM P w K mg base (n+1) CR "take_arms" ["self", "deep"] (spArms CR CNT k):=by
  have oNoTree:=Z.oNoTree
  have cR:=Z.cR
  have g_MOST_ARMS:=Z.g_MOST_ARMS
  refine D.has sc_take_arms (fun vs H Q E h => ?_) (fun f cdv A outer s H vs Q E hr h => ?_)
  · obtain ⟨r,dx,tx,b,p,rfl,_⟩:=h;rfl
  obtain ⟨r,dx,tx,b,p,rfl,⟨hr1,hp,hz⟩,q1,q2⟩:=h
  refine ⟨_,(pss_cons (ps_set (i:=2) sc_take_arms.nd rfl (Or.inl rfl) (pe_lst (pa_cons (pe_mE h_take_tree cR hr (by omega) (passE fun _ _ _ z=>z) (pv 0) (pa_cons (pv 1) pa_nil)) pa_nil)))
    (pss_cons (ps_while PassesOwn.leaving (pt_cmpR op_eq (pe_mE0 h_ahead cR hr (by omega) (passE fun _ _ _ z=>z) (pv 0)) pe_str (nomark _))
    (pss_cons (ps_expr (pe_mE h_take cR hr (by omega) (passE fun _ _ _ z=>z) (pv 0) (pa_cons pe_str pa_nil)))
    (pss_one (ps_expr (pe_bm PySem.F.plainAttrs_list PySem.F.slot_list_append PySem.F.type_list_append mt_append (pv 2) (pa_cons (pe_mE h_take_tree cR hr (by omega) (passE fun _ _ _ z=>z) (pv 0) (pa_cons (pv 1) pa_nil)) pa_nil))))))
    (pss_cons (ps_expr (pe_mE h_take cR hr (by omega) (passE fun _ _ _ z=>z) (pv 0) (pa_cons pe_str pa_nil)))
    (pss_cons (ps_if (pt_cmpR op_gt (pe_callB call_len_seq rfl B.len_ PySem.boot_len (pa_cons (pv 2) pa_nil)) (pe_globI g_MOST_ARMS rfl) (nomark _)) (pss_one (ps_raise oNoTree rfl (fun _ _ _ _ _ _ _ I hx q=>flies I hx q) (pa_cons (pe_joined (pj_cons pe_str (pj_cons (pe_fmtI (pe_globI g_MOST_ARMS rfl)) (pj_cons pe_str pj_nil)))) pa_nil) rfl)) pss_nil)
    (pss_one (ps_ret (pe_callTy call_tuple_of rfl B.tuple_ boot_tuple_ (pa_cons (pv 2) pa_nil)))))))),?_⟩
  try dsimp only [cxOf]
  refine ⟨_,rfl,r,dx,_,rfl,hr1,rfl,_,rfl,r,dx,tx,b,p,rfl,⟨hr1,hp,hz⟩,fun t l1 e1 v H1 p1 kb1 rd1 el1 tr1 => ?_,fun e1 H' kb=>q2 (by unfold pArms;rw [e1]) H' kb⟩
  refine ⟨(show 1≤sizeLine by decide),fun pa hpa => ?_⟩
  dsimp only [gName]
  have npr:pa≠r:=fun z=>by rw [z,rd1.1] at hpa;cases hpa
  have hpa0:H pa=none:=by
    cases e:H pa with
    | none=>rfl
    | some o=>have:=kb1 pa o npr e;rw [hpa] at this;cases this
  have big5:(100001:Nat) < sizeLine:=by decide
  refine rdcut (fun σ' H'=>∃ (us:List V) (ts:List T) (p2 n2:Nat),ArmS CR H r dx tx b k pa p us ts p2 n2 σ' H'∧(ahd tx p2).take 1 ≠ [44]) ?_ (fun key => ?_)
  · rintro σ' H' ⟨us,ts,p2,n2,⟨rfl,kb,hl,rd,htr,hlen,hn2,heq⟩,no44⟩
    obtain ⟨n3,rfl⟩:∃ n3,n2=n3+1:=⟨n2 - 1,by omega⟩
    have no2:(ahd tx p2).take 2 ≠ [44,32]:=fun z=>no44 (by obtain ⟨r',e⟩:=take2 z;rw [e];rfl)
    refine ⟨_,rfl,r,dx,_,rfl,rd.1,rfl,r,dx,tx,b,p2, ")",rfl,rd,by decide,by decide +kernel,fun hc => ?_,fun hc=>q2 (by rw [heq,pm_none no2 hc]) H' kb⟩
    have hc2:(ahd tx p2).take 1 = [41]:=hc
    obtain ⟨l3,el3⟩:=take1 hc2
    have el3':ahd tx (p2+1)=l3:=by rw [← ahd_drop,el3];rfl
    have hl3:(ahd tx p2).length=l3.length+1:=by rw [el3];rfl
    have hp3:p2+1≤tx.length:=by
      have:=rd.2.1
      rw [ahd_len] at hl3
      omega
    rw [el3,pm_close] at heq
    dsimp only at heq
    rw [List.append_nil] at heq
    rw [show (")" : Str).length=1 from rfl]
    have kb3:KeepBut r H (upd H' r (rdr CR dx tx b (p2+1))):=kb.trans KeepBut.put
    have hl3':(upd H' r (rdr CR dx tx b (p2+1))) pa=some (.lst us):=by rw [upd_ne npr];exact hl
    have htr3:IsTrs (upd H' r (rdr CR dx tx b (p2+1))) ts us:=trs_keep (keep_put rd.1 trivial) htr
    have rd3:RdIn CR (upd H' r (rdr CR dx tx b (p2+1))) r dx tx b (p2+1):=⟨upd_same,hp3,hz⟩
    generalize upd H' r (rdr CR dx tx b (p2+1))=H3 at kb3 hl3' htr3 rd3 ⊢
    have hts:=trs_len htr3
    refine ⟨_,rfl,pa,us,rfl,.inl (SqL.of hl3'),_,_,rfl,rfl,_,rfl,iteD (fun h4 => ?_) (fun h4 => ?_)⟩
    · exact ⟨by decide,_,rfl,by decide,_,rfl,by decide,_,rfl,by decide,_,rfl,by decide,fun z=>⟨(show 1≤sizeLine by decide),q2 (by rw [heq,if_pos (by omega)]) H3 kb3⟩⟩
    · refine ⟨_,rfl,pa,us,rfl,.inl ⟨SqL.of hl3',fun a ha=>q1 ts l3 (by rw [heq,if_neg (by omega)]) a us _ (p2+1) (kb3.trans (KeepBut.new ha)) ⟨?_,rd3.2⟩ el3' upd_same (trs_same (same_new ha _) htr3)⟩⟩
      rw [upd_ne (ne_of_none rd3.1 ha)];exact rd3.1
  · refine ⟨fun m σ' H'=>∃ (us:List V) (ts:List T) (p2 n2:Nat),m=(ahd tx p2).length∧ArmS CR H r dx tx b k pa p us ts p2 n2 σ' H',⟨_, [v], [t],p1,l1.length+1,rfl,rfl,kb1.trans (KeepBut.new hpa),upd_same,?_,?_,?_,?_,?_⟩,?_⟩
    · exact ⟨by rw [upd_ne (Ne.symm npr)];exact rd1.1,rd1.2⟩
    · rw [IsTrs]
      exact ⟨v, [],rfl,tr_same (same_new hpa _) tr1,by rw [IsTrs]⟩
    · rw [ahd_len];simp;omega
    · rw [el1];omega
    · unfold pArms
      rw [e1,el1]
      dsimp only
      cases pMore (pTree b k) (l1.length+1) l1 with
      | none=>rfl
      | some z =>
        obtain ⟨us2,l2⟩:=z
        dsimp only
        rw [List.singleton_append,List.length_cons]
    rintro m σ' H' ⟨us,ts,p2,n2,rfl,⟨rfl,kb,hl,rd,htr,hlen,hn2,heq⟩⟩
    refine ⟨_,rfl,r,dx,_,rfl,rd.1,rfl,r,dx,tx,b,p2,rfl,rd,rfl,_,rfl,iteD (fun h0 => ?_) (fun h0 => ?_)⟩
    · have h44:(ahd tx p2).take 1 = [44]:=congrArg (fun z:Str=>z.cps.toList) (V.str.inj h0)
      obtain ⟨n3,rfl⟩:∃ n3,n2=n3+1:=⟨n2 - 1,by omega⟩
      refine ⟨fun σ' H'=>∃ (us:List V) (ts:List T) (p3 n2:Nat),(ahd tx p3).length < (ahd tx p2).length∧ArmS CR H r dx tx b k pa p us ts p3 n2 σ' H',?_,?_⟩
      · rintro σ' H' ⟨us',ts',p3,n2',hlt,r1⟩
        exact ⟨_,hlt,us',ts',p3,n2',rfl,r1⟩
      · have no41:(ahd tx p2).take 1 ≠ [41]:=by rw [h44];decide
        refine ⟨_,rfl,r,dx,_,rfl,rd.1,rfl,r,dx,tx,b,p2, ", ",rfl,rd,by decide,by decide +kernel,fun hc => ?_,fun hc=>q2 (by rw [heq,pm_none hc no41]) H' kb⟩
        have hc2:(ahd tx p2).take 2 = [44,32]:=hc
        obtain ⟨l3,el3⟩:=take2 hc2
        have el3':ahd tx (p2+2)=l3:=by rw [← ahd_drop,el3];rfl
        have hl3:(ahd tx p2).length=l3.length+2:=by rw [el3];rfl
        have hp3:p2+2≤tx.length:=by
          have:=rd.2.1
          rw [ahd_len] at hl3
          omega
        rw [el3,pm_comma] at heq
        rw [show (", " : Str).length=2 from rfl]
        have kb3:KeepBut r H (upd H' r (rdr CR dx tx b (p2+2))):=kb.trans KeepBut.put
        have hl3':(upd H' r (rdr CR dx tx b (p2+2))) pa=some (.lst us):=by rw [upd_ne npr];exact hl
        have htr3:IsTrs (upd H' r (rdr CR dx tx b (p2+2))) ts us:=trs_keep (keep_put rd.1 trivial) htr
        have rd3:RdIn CR (upd H' r (rdr CR dx tx b (p2+2))) r dx tx b (p2+2):=⟨upd_same,hp3,hz⟩
        generalize upd H' r (rdr CR dx tx b (p2+2))=H3 at kb3 hl3' htr3 rd3 ⊢
        refine ⟨_,rfl,.inl ⟨rfl,_,SqL.of hl3'⟩,_,rfl,r,dx,_,rfl,rd3.1,rfl,_,rfl,r,dx,tx,b,p2+2,rfl,rd3,fun t4 l4 e4 v4 H4 p4 kb4 rd4 el4 tr4 => ?_,fun e4 H4 kb4=>q2 (by rw [heq, ← el3',e4]) H4 (kb3.trans kb4)⟩
        rw [el3'] at e4
        rw [e4] at heq
        have hl4:H4 pa=some (.lst us):=kb4 pa _ npr hl3'
        have htr4:IsTrs H4 ts us:=trs_keep (kb4.tups rd3.1 trivial) htr3
        have hlen4:=pt_len b k _ _ _ e4
        refine ⟨pa,us,v4,rfl,rfl,hl4,?_,us ++ [v4],ts ++ [t4],p4,n3,?_,rfl,?_,upd_same,?_,?_,?_,?_,?_⟩
        · omega
        · rw [el4];omega
        · refine fun a o na ha => ?_
          rw [upd_ne (fun z=>by rw [z,hpa0] at ha;cases ha)]
          exact kb4 a o na (kb3 a o na ha)
        · exact ⟨by rw [upd_ne (Ne.symm npr)];exact rd4.1,rd4.2⟩
        · exact trs_snoc (trs_keep (keep_put hl4 trivial) htr4) (tr_keep (keep_put hl4 trivial) tr4)
        · rw [List.length_append,List.length_singleton,el4];omega
        · rw [el4];omega
        · rw [el4,heq]
          dsimp only
          cases pMore (pTree b k) n3 l4 with
          | none=>rfl
          | some z =>
            obtain ⟨us2,l2⟩:=z
            dsimp only
            rw [List.append_assoc,List.singleton_append]
    · refine key _ _ ⟨us,ts,p2,n2,⟨rfl,kb,hl,rd,htr,hlen,hn2,heq⟩,fun z=>h0 ?_⟩
      rw [z]
      exact congrArg V.str (str_ext rfl)
end

end K06
namespace K06
open PySem L2 Sw
section
variable {P:Program} {w:World} {K:PySem.W.Frag} {mg:Str→Option Value} {base:Heap} {CR CNT:Addr}
theorem tree_step (B:Blt mg) (Z:Top4 K mg CR CNT) {n k:Nat} {spA:Sp} (hn:2≤n) (hA:∀ k',k=k'+1→spA=spArms CR CNT k') (h_ahead:HasM P w K mg base 1 CR "ahead" ["self"] (spAhead CR)) (h_take:HasM P w K mg base 1 CR "take" ["self", "wanted"] (spTake CR CNT))
    (h_take_word:HasM P w K mg base 2 CR "take_word" ["self"] (spTWord CR CNT)) (h_take_number:HasM P w K mg base 2 CR "take_number" ["self"] (spNum CR CNT)) (h_take_arms:HasM P w K mg base n CR "take_arms" ["self", "deep"] spA)
    (D:DefM K CR "take_tree" "Reader.take_tree" s_take_tree ["self", "deep"]):HasM P w K mg base (n+1) CR "take_tree" ["self", "deep"] (spTree CR CNT k):=by
  have oNoTree:=Z.oNoTree
  have cR:=Z.cR
  have g_MOST_DEEP:=Z.g_MOST_DEEP
  have g_FIGURES:=Z.g_FIGURES
  refine D.has sc_take_tree (fun vs H Q E h => ?_) (fun f cdv A outer s H vs Q E hr h => ?_)
  · obtain ⟨r,dx,tx,b,p,rfl,_⟩:=h;rfl
  obtain ⟨r,dx,tx,b,p,rfl,⟨hr1,hp,hz⟩,q1,q2⟩:=h
  refine ⟨_,(pss_cons (ps_if (pt_cmpR op_gt (pv 1) (pe_globI g_MOST_DEEP rfl) (nomark _)) (pss_one (ps_raise oNoTree rfl (fun _ _ _ _ _ _ _ I hx q=>flies I hx q) (pa_cons (pe_joined (pj_cons pe_str (pj_cons (pe_fmtI (pe_globI g_MOST_DEEP rfl)) (pj_cons pe_str pj_nil)))) pa_nil) rfl)) pss_nil)
    (pss_cons (ps_set (i:=2) sc_take_tree.nd rfl (Or.inl rfl) (pe_mE0 h_ahead cR hr (by omega) (passE fun _ _ _ z=>z) (pv 0)))
    (pss_cons (ps_if (pt_cmpR op_eq (pv 2) pe_str (nomark _)) (pss_one (ps_raise oNoTree rfl (fun _ _ _ _ _ _ _ I hx q=>flies I hx q) (pa_cons pe_str pa_nil) rfl)) pss_nil)
    (pss_cons (ps_if (PW.pt (pw_or (pt_cmpR op_eq (pv 2) pe_str (nomark _)) (pw_or1 (pt_cmpR op_in_str (pv 2) (pe_globS g_FIGURES rfl) (by with_unfolding_all rfl))))) (pss_one (ps_ret (pe_mE0 h_take_number cR hr (by omega) (passE fun _ _ _ z=>z) (pv 0)))) pss_nil)
    (pss_cons (ps_if (PW.pt (pw_and (pt_cmpR op_eq (pv 2) pe_str (nomark _)) (pw_and1 (pt_val (pe_fld (pv 0) rfl))))) (pss_cons (ps_expr (pe_mE h_take cR hr (by omega) (passE fun _ _ _ z=>z) (pv 0) (pa_cons pe_str pa_nil)))
    (pss_one (ps_ret (pe_tup (pa_cons pe_str (pa_cons (pe_mE0 h_take_word cR hr (by omega) (passE fun _ _ _ z=>z) (pv 0)) pa_nil)))))) pss_nil)
    (pss_cons (ps_set (i:=3) sc_take_tree.nd rfl (Or.inl rfl) (pe_mE0 h_take_word cR hr (by omega) (passE fun _ _ _ z=>z) (pv 0)))
    (pss_cons (ps_if (pt_cmpR op_ne (pe_mE0 h_ahead cR hr (by omega) (passE fun _ _ _ z=>z) (pv 0)) pe_str (nomark _)) (pss_one (ps_ret (pe_tup (pa_cons pe_str (pa_cons (pv 3) pa_nil))))) pss_nil)
    (pss_cons (ps_expr (pe_mE h_take cR hr (by omega) (passE fun _ _ _ z=>z) (pv 0) (pa_cons pe_str pa_nil)))
    (pss_one (ps_ret (pe_tup (pa_cons pe_str (pa_cons (pv 3) (pa_cons (pe_mE h_take_arms cR hr (by omega) (passE fun _ _ _ z=>z) (pv 0) (pa_cons (pe_op op_add (pv 1) pe_int) pa_nil)) pa_nil)))))))))))))),?_⟩
  try dsimp only [cxOf]
  refine ⟨_,rfl,_,_,rfl,rfl,_,rfl,iteD (fun h0 => ?_) (fun h0 => ?_)⟩
  · obtain rfl:k=0:=by omega
    exact ⟨by decide,_,rfl,by decide,_,rfl,by decide,_,rfl,by decide,_,rfl,by decide,fun z=>⟨(show 1≤sizeLine by decide),q2 rfl _ KeepBut.refl⟩⟩
  obtain ⟨k',rfl⟩:∃ k',k=k'+1:=⟨k - 1,by omega⟩
  obtain rfl:=hA k' rfl
  refine ⟨_,rfl,r,dx,_,rfl,hr1,rfl,r,dx,tx,b,p,rfl,⟨hr1,hp,hz⟩,?_⟩
  cases hl:ahd tx p with
  | nil =>
    refine ⟨_,rfl,rfl,_,rfl,iteD (fun _ => ?_) (fun z=>absurd (congrArg V.str (str_ext rfl)) z)⟩
    exact ⟨(show 1≤sizeLine by decide),q2 (by rw [hl];rfl) _ KeepBut.refl⟩
  | cons c l0 =>
    rw [hl,pt_cons] at q1 q2
    have t1:(c :: l0).take 1 = [c]:=rfl
    rw [t1]
    have hp1:p+1≤tx.length:=by
      have:=congrArg List.length hl
      rw [ahd_len,List.length_cons] at this
      omega
    have hl1:ahd tx (p+1)=l0:=by rw [← ahd_drop,hl];rfl
    refine ⟨_,rfl,rfl,_,rfl,iteD (fun z=>absurd (mkS_empty z) (by simp)) (fun _ => ?_)⟩
    have num:(c=45∨isFig c=true)→tMeth CR "take_number" (spNum CR CNT) [] E (tVar 0) tNil [some (V.ref r),some (V.int (31 - ((k'+1:Nat):Int))),some (V.str (mkS [c])),none] H Q:=fun hc=>by
      rw [if_pos hc] at q1 q2
      refine ⟨_,rfl,r,dx,_,rfl,hr1,rfl,r,dx,tx,b,p,rfl,⟨hr1,hp,hz⟩,fun n l' e a H' p' kb rd' el tr => ?_,fun e H' kb => ?_⟩
      · rw [hl] at e
        rw [e] at q1
        exact q1 (.num n) l' rfl _ H' p' kb rd' el (by rw [IsTr];exact ⟨a,rfl,tr⟩)
      · rw [hl] at e
        rw [e] at q2
        exact q2 rfl H' kb
    refine ⟨_,rfl,rfl,_,rfl,iteD (fun h45 => ?_) (fun h45 => ?_)⟩
    · have hc:c=45:=(List.cons.inj (congrArg (fun z:Str=>z.cps.toList) (V.str.inj h45))).1
      exact iteT (num (.inl hc))
    refine ⟨_,rfl,_,_,rfl,rfl,_,rfl,?_⟩
    have hf:=StrLaws.found_one ("0123456789" : Str) c
    rw [figs_are] at hf
    rw [show mkS [c]=⟨#[c]⟩ from rfl,hf]
    cases hfig:isFig c with
    | true=>exact iteT (num (.inr hfig))
    | false =>
      have h45':c≠45:=fun z=>h45 (by rw [z];exact congrArg V.str (str_ext rfl))
      rw [if_neg (fun z=>z.elim h45' (by rw [hfig];decide))] at q1 q2
      refine iteF ?_
      rw [show (⟨#[c]⟩:Str)=mkS [c] from rfl]
      have rd:RdIn CR H r dx tx b p:=⟨hr1,hp,hz⟩
      dsimp only [tNext]
      refine rdcut (fun σ' H' => σ' = [some (V.ref r),some (V.int (31 - ((k'+1:Nat):Int))),some (V.str (mkS [c])),none]∧H'=H∧¬ (c=63∧b=true)) ?_ (fun key => ?_)
      · rintro σ' H' ⟨rfl,rfl,hno⟩
        rw [if_neg hno] at q1 q2
        refine ⟨_,rfl,r,dx,_,rfl,hr1,rfl,r,dx,tx,b,p,rfl,rd,fun x l' e => ?_,fun e H' kb => ?_⟩
        · rw [hl] at e
          rw [e] at q1 q2
          dsimp only at q1 q2
          obtain ⟨_,hx2,hx3,hx4,hx5⟩:=pw_is e
          rw [← hl] at hx2 hx3
          rw [ahd_len] at hx3
          rw [ahd_drop] at hx2
          dsimp only [gName]
          have rd3:RdIn CR (upd H' r (rdr CR dx tx b (p+x.length))) r dx tx b (p+x.length):=⟨upd_same,by omega,hz⟩
          have kb3:KeepBut r H' (upd H' r (rdr CR dx tx b (p+x.length))):=KeepBut.put
          generalize upd H' r (rdr CR dx tx b (p+x.length))=H3 at rd3 kb3 ⊢
          refine ⟨_,rfl,r,dx,_,rfl,rd3.1,rfl,r,dx,tx,b,p+x.length,rfl,rd3,rfl,_,rfl,iteDN (fun hne => ?_) (fun heq => ?_)⟩
          · have hq:=pk_name (arms:=pArms (pTree b k')) (x:=x) (l1:=l') (fun z=>hne (by rw [← hx2,z];exact congrArg V.str (str_ext rfl)))
            refine ⟨_,rfl,(show 2≤sizeLine by decide),fun a ha=>q1 (.name (mkS x)) l' hq _ _ (p+x.length) (kb3.trans (KeepBut.new ha)) ⟨?_,rd3.2⟩ hx2.symm ?_⟩
            · rw [upd_ne (ne_of_none rd3.1 ha)];exact rd3.1
            · rw [IsTr];exact ⟨a,rfl,upd_same⟩
          · have h40:(ahd tx (p+x.length)).take 1 = [40]:=congrArg (fun z:Str=>z.cps.toList) (V.str.inj heq)
            obtain ⟨l2,el2⟩:=take1 h40
            rw [← hx2] at el2
            subst el2
            rw [pk_of] at q1 q2
            have hl2:ahd tx (p+x.length+1)=l2:=by rw [← ahd_drop, ← hx2];rfl
            have hp4:p+x.length+1≤tx.length:=by
              have:=congrArg List.length hx2
              rw [ahd_len,List.length_cons] at this
              omega
            refine ⟨_,rfl,r,dx,_,rfl,rd3.1,rfl,r,dx,tx,b,p+x.length, "(",rfl,rd3,by decide,by decide +kernel,fun _ => ?_,fun hc=>absurd h40 hc⟩
            rw [show ("(" : Str).length=1 from rfl]
            have rd4:RdIn CR (upd H3 r (rdr CR dx tx b (p+x.length+1))) r dx tx b (p+x.length+1):=⟨upd_same,hp4,hz⟩
            have kb4:KeepBut r H' (upd H3 r (rdr CR dx tx b (p+x.length+1))):=kb3.trans KeepBut.put
            generalize upd H3 r (rdr CR dx tx b (p+x.length+1))=H4 at rd4 kb4 ⊢
            refine ⟨_,rfl,_,rfl,r,dx,_,rfl,rd4.1,rfl,_,rfl,_,_,rfl,rfl,r,dx,tx,b,p+x.length+1,congrArg (fun z:Int => [V.ref r,V.int z]) (show (31 - ((k'+1:Nat):Int)+1)=31 - (k':Int) by omega),rd4,fun ts l5 e5 a us H5 p5 kb5 rd5 el5 ha htr => ?_,fun e5 H5 kb5 => ?_⟩
            · rw [hl2] at e5
              rw [e5] at q1
              refine ⟨(show 3≤sizeLine by decide),fun a' ha'=>q1 (.of (mkS x) ts) l5 rfl _ _ p5 (kb4.trans (kb5.trans (KeepBut.new ha'))) ⟨?_,rd5.2⟩ el5 ?_⟩
              · rw [upd_ne (ne_of_none rd5.1 ha')];exact rd5.1
              · rw [IsTr]
                exact ⟨a',a,us,rfl,upd_same,same_new ha' _ _ _ ha,trs_same (same_new ha' _) htr⟩
            · rw [hl2] at e5
              rw [e5] at q2
              exact q2 rfl H5 (kb4.trans kb5)
        · rw [hl] at e
          rw [e] at q2
          exact q2 rfl H' kb
      · refine ⟨_,rfl,rfl,_,rfl,iteD (fun h63 => ?_) (fun h63 => ?_)⟩
        · have hc:c=63:=(List.cons.inj (congrArg (fun z:Str=>z.cps.toList) (V.str.inj h63))).1
          refine ⟨_,rfl,r,CR,dx,_,_,rfl,hr1,Z.cR,Z.nHoles,rfl,_,rfl,?_⟩
          cases b with
          | false=>exact iteF (key _ _ ⟨rfl,rfl,fun z=>by cases z.2⟩)
          | true =>
            rw [if_pos ⟨hc,rfl⟩] at q1 q2
            refine iteT ⟨_,rfl,r,dx,_,rfl,hr1,rfl,r,dx,tx,true,p, "?",rfl,rd,by decide,by decide +kernel,fun _ => ?_,fun h=>absurd (by rw [hl,hc];rfl) h⟩
            rw [show ("?" : Str).length=1 from rfl]
            have rd3:RdIn CR (upd H r (rdr CR dx tx true (p+1))) r dx tx true (p+1):=⟨upd_same,hp1,hz⟩
            have kb3:KeepBut r H (upd H r (rdr CR dx tx true (p+1))):=KeepBut.put
            generalize upd H r (rdr CR dx tx true (p+1))=H3 at rd3 kb3 ⊢
            refine ⟨_,rfl,r,dx,_,rfl,rd3.1,rfl,r,dx,tx,true,p+1,rfl,rd3,fun x l' e => ?_,fun e H' kb => ?_⟩
            · rw [hl1] at e
              rw [e] at q1
              obtain ⟨_,hx2,hx3,_,_⟩:=pw_is e
              rw [← hl1] at hx2 hx3
              rw [ahd_len] at hx3
              rw [ahd_drop] at hx2
              refine ⟨(show 2≤sizeLine by decide),fun a ha=>q1 (.any (mkS x)) l' rfl _ _ (p+1+x.length) (kb3.trans (KeepBut.put.trans (KeepBut.new ha))) ⟨?_,by omega,hz⟩ hx2.symm ?_⟩
              · rw [upd_ne (ne_of_none upd_same ha),upd_same]
              · rw [IsTr];exact ⟨a,rfl,upd_same⟩
            · rw [hl1] at e
              rw [e] at q2
              exact q2 rfl H' (kb3.trans kb)
        · refine iteF (key _ _ ⟨rfl,rfl,fun z=>h63 ?_⟩)
          rw [z.1]
          exact congrArg V.str (str_ext rfl)
end

end K06
namespace K06
open PySem L2 Sw
section
variable {P:Program} {w:World} {K:PySem.W.Frag} {mg:Str→Option Value} {base:Heap} {CR CNT:Addr}
theorem ok_tree (B:Blt mg) (Z:Top4 K mg CR CNT) (h_ahead:HasM P w K mg base 1 CR "ahead" ["self"] (spAhead CR)) (h_take:HasM P w K mg base 1 CR "take" ["self", "wanted"] (spTake CR CNT))
    (h_take_word:HasM P w K mg base 2 CR "take_word" ["self"] (spTWord CR CNT)) (h_take_number:HasM P w K mg base 2 CR "take_number" ["self"] (spNum CR CNT)) (DA:DefM K CR "take_arms" "Reader.take_arms" s_take_arms ["self", "deep"])
    (D:DefM K CR "take_tree" "Reader.take_tree" s_take_tree ["self", "deep"]):∀ k,HasM P w K mg base (2 * k+3) CR "take_tree" ["self", "deep"] (spTree CR CNT k)
  | 0=>by
    obtain ⟨f,fd,F,hm,hb⟩:=DA.ex
    have no:HasM P w K mg base 2 CR "take_arms" ["self", "deep"] (fun _ _ _ _=>False):=⟨f,fd,⟨fun _ _ _ _ h=>h.elim,fun _ _ _ _ _ _ _ _ _ _ _ _ _ h=>h.elim⟩,hm,hb⟩
    exact tree_step (k:=0) B Z (Nat.le_refl 2) (fun k' h=>by cases h) h_ahead h_take h_take_word h_take_number no D
  | k+1=>by
    have hA:=ok_arms B Z (n:=2 * k+3) (k:=k) (by omega) h_ahead h_take (ok_tree B Z h_ahead h_take h_take_word h_take_number DA D k) DA
    exact tree_step (k:=k+1) (n:=2 * k+3+1) B Z (by omega) (fun k' h=>by cases h;rfl) h_ahead h_take h_take_word h_take_number hA D
noncomputable def spParts (n:Nat):Sp:=fun vs H Q _=>∃ v t,vs = [v]∧IsTr H t v∧t.depth≤n∧Q (.int (t.parts:Int)) H
theorem sum_take_parts (ts:List T) (i:Nat) (h:i < ts.length):T.partss (ts.take (i+1))=T.partss (ts.take i)+ts[i].parts:=by
  rw [List.take_add_one,List.getElem?_eq_getElem h]
  rw [partss_sum,partss_sum,List.map_append,List.sum_append]
  simp
theorem ok_parts (D:Def K mg "parts" s_parts ["tree"]):∀ n,Has P w K mg base n "parts" ["tree"] (spParts n)
  | 0=>by
    obtain ⟨fa,fd,F,hm,hb⟩:=D.ex
    have no:∀ vs H Q E, ¬ spParts 0 vs H Q E:=fun vs H Q E h=>by
      obtain ⟨v,t,_,_,z,_⟩:=h
      have:=depth_pos t
      omega
    exact ⟨fa,fd,⟨fun vs H Q E h=>absurd h (no vs H Q E),fun A outer s H args us vs Q E _ _ _ _ h=>absurd h (no vs H Q E)⟩,hm,F.kp,hb⟩
  | n+1=>by
    have h_parts:=ok_parts D n
    refine D.has sc_parts (fun vs H Q E h => ?_) (fun f cdv A outer s H vs Q E hr h => ?_)
    · obtain ⟨v,t,rfl,_⟩:=h;rfl
    obtain ⟨v,t,rfl,hT,hd,q⟩:=h
    refine ⟨_,(pss_cons (ps_if (pt_cmpR op_ne (pe_ix ix_tup (pv 0) pe_int (fun _ _=>rfl)) pe_str (nomark _)) (pss_one (ps_ret pe_int)) pss_nil)
    (pss_cons (ps_set (i:=1) sc_parts.nd rfl (Or.inl rfl) pe_int)
    (pss_cons (ps_for PassesOwn.never rfl (pi_tup (pe_ix ix_tup (pv 0) pe_int (fun _ _=>rfl))) (pg_name (i:=2) sc_parts.nd rfl (Or.inl rfl))
    (pss_one (ps_aug (i:=1) sc_parts.nd rfl (Or.inl rfl) (pe_callH h_parts hr (by omega) rfl (pa_cons (pv 2) pa_nil)) ip_add)))
    (pss_one (ps_ret (pv 1)))))),?_⟩
    try dsimp only [cxOf]
    cases t with
    | num k =>
      rw [IsTr] at hT
      obtain ⟨a,rfl,h⟩:=hT
      rw [T.parts] at q
      exact ⟨_,rfl,a,_,0,_,rfl,rfl,SqT.of h,atI_nat (j:=0) rfl,rfl,_,rfl,iteDN (fun _=>q) (fun z=>absurd (V.str.inj z) (by decide))⟩
    | name x =>
      rw [IsTr] at hT
      obtain ⟨a,rfl,h⟩:=hT
      rw [T.parts] at q
      exact ⟨_,rfl,a,_,0,_,rfl,rfl,SqT.of h,atI_nat (j:=0) rfl,rfl,_,rfl,iteDN (fun _=>q) (fun z=>absurd (V.str.inj z) (by decide))⟩
    | any x =>
      rw [IsTr] at hT
      obtain ⟨a,rfl,h⟩:=hT
      rw [T.parts] at q
      exact ⟨_,rfl,a,_,0,_,rfl,rfl,SqT.of h,atI_nat (j:=0) rfl,rfl,_,rfl,iteDN (fun _=>q) (fun z=>absurd (V.str.inj z) (by decide))⟩
    | of x ts =>
      rw [IsTr] at hT
      rw [T.depth] at hd
      rw [T.parts] at q
      obtain ⟨a,b,vs,rfl,ha,hb,htr⟩:=hT
      refine ⟨_,rfl,a,_,0,_,rfl,rfl,SqT.of ha,atI_nat (j:=0) rfl,rfl,_,rfl,iteDN (fun z=>absurd rfl z) (fun _ => ?_)⟩
      have hlen:=trs_len htr
      refine ⟨_,rfl,a,_,2,_,rfl,rfl,SqT.of ha,atI_nat (j:=2) rfl,b,rfl,⟨vs,SqT.of hb⟩,?_⟩
      refine for_tup (xs:=vs) (fun i σ H'=>∃ o, σ = [some (.ref a),some (.int ((1+T.partss (ts.take i):Nat):Int)),o]∧H'=H) ⟨none,rfl,rfl⟩ ?_ ?_ ?_
      · rintro i σ H' _ ⟨o,rfl,rfl⟩
        exact SqT.of hb
      · rintro i y σ H' hy ⟨o,rfl,rfl⟩
        obtain ⟨ti,hti,hTi⟩:=trs_at htr hy
        have hmem:ti∈ts:=List.mem_of_getElem? hti
        have d1:=deepest_le hmem
        obtain ⟨hi,hge⟩:=List.getElem?_eq_some_iff.mp hti
        have e:((1+T.partss (ts.take (i+1)):Nat):Int)=((1+T.partss (ts.take i):Nat):Int)+((ti.parts:Nat):Int):=by rw [sum_take_parts ts i hi,hge];omega
        refine ⟨_,rfl,_,rfl,y,ti,rfl,hTi,by omega,_,_,rfl,rfl,⟨some y,?_,rfl⟩⟩
        rw [e]
        rfl
      · rintro σ H' ⟨o,rfl,rfl⟩
        rw [← hlen,List.take_length]
        exact ⟨_,rfl,q⟩
inductive SpWhole (CR CNT:Addr) (vs:List V) (H:Hp) (Q:VK) (E:XK):Prop
  | mk (r dx:Addr) (tx:Str) (b:Bool) (z0:vs = [.ref r]) (z1:RdIn CR H r dx tx b 0) (z2:(∀ t,pTree b 30 tx.cps.toList=some (t, [])→t.parts≤120→∀ v H',KeepBut r H H'→IsTr H' t v→Q v H')) (z3:((∀ t,pTree b 30 tx.cps.toList=some (t, [])→120 < t.parts)→∀ H',KeepBut r H H'→E (.ref CNT) none H')):SpWhole CR CNT vs H Q E
noncomputable def spWhole (CR CNT:Addr):Sp:=fun vs H Q E=>SpWhole CR CNT vs H Q E
theorem ok_whole (Z:Top4 K mg CR CNT) (hdeep:∀ b l t r,pTree b 30 l=some (t,r)→t.depth≤30) (h_ahead:HasM P w K mg base 1 CR "ahead" ["self"] (spAhead CR)) (h_take_tree:HasM P w K mg base 63 CR "take_tree" ["self", "deep"] (spTree CR CNT 30))
    (h_parts:Has P w K mg base 30 "parts" ["tree"] (spParts 30)) (D:Def K mg "read_whole" s_read_whole ["reader"]):HasE P w K mg base 64 "read_whole" ["reader"] (spWhole CR CNT):=by
  have oNoTree:=Z.oNoTree
  have cR:=Z.cR
  have g_MOST_PARTS:=Z.g_MOST_PARTS
  refine D.hasE sc_read_whole (fun vs H Q E h => ?_) (fun f cdv A outer s H vs Q E hr h => ?_)
  · obtain ⟨r,dx,tx,b,rfl,_⟩:=h;rfl
  obtain ⟨r,dx,tx,b,rfl,rd,q1,q2⟩:=h
  refine ⟨_,(pss_cons (ps_set (i:=1) sc_read_whole.nd rfl (Or.inl rfl) (pe_mE h_take_tree cR hr (by omega) (passE fun _ _ _ z=>z) (pv 0) (pa_cons pe_int pa_nil)))
    (pss_cons (ps_if (pt_cmpR op_ne (pe_mE0 h_ahead cR hr (by omega) (passE fun _ _ _ z=>z) (pv 0)) pe_str (nomark _)) (pss_one (ps_raise oNoTree rfl (fun _ _ _ _ _ _ _ I hx q=>flies I hx q) (pa_cons pe_str pa_nil) rfl)) pss_nil)
    (pss_cons (ps_if (pt_cmpR op_gt (pe_callH h_parts hr (by omega) rfl (pa_cons (pv 1) pa_nil)) (pe_globI g_MOST_PARTS rfl) (nomark _)) (pss_one (ps_raise oNoTree rfl (fun _ _ _ _ _ _ _ I hx q=>flies I hx q) (pa_cons (pe_joined (pj_cons pe_str (pj_cons (pe_fmtI (pe_globI g_MOST_PARTS rfl)) (pj_cons pe_str pj_nil)))) pa_nil) rfl)) pss_nil)
    (pss_one (ps_ret (pv 1)))))),?_⟩
  try dsimp only [cxOf]
  have h0:ahd tx 0=tx.cps.toList:=rfl
  refine ⟨_,rfl,r,dx,_,rfl,rd.1,rfl,r,dx,tx,b,0,rfl,rd,fun t l1 e1 v H1 p1 kb1 rd1 el1 tr1 => ?_,fun e1 H' kb=>q2 (fun t e=>by rw [h0,e] at e1;cases e1) H' kb⟩
  rw [h0] at e1
  refine ⟨_,rfl,r,dx,_,rfl,rd1.1,rfl,r,dx,tx,b,p1,rfl,rd1,rfl,_,rfl,iteDN (fun hne => ?_) (fun heq => ?_)⟩
  · refine ⟨(show 1≤sizeLine by decide),q2 (fun t' e => ?_) H1 kb1⟩
    rw [e1] at e
    cases e
    exact absurd (by rw [el1];exact congrArg V.str (str_ext rfl)) hne
  · have hl:l1 = []:=by
      have:=mkS_empty heq
      rw [el1] at this
      cases l1 with
      | nil=>rfl
      | cons c r=>simp at this
    subst hl
    refine ⟨_,rfl,v,t,rfl,tr1,hdeep _ _ _ _ e1,_,_,rfl,rfl,_,rfl,iteD (fun h4 => ?_) (fun h4 => ?_)⟩
    · exact ⟨by decide,_,rfl,by decide,_,rfl,by decide,_,rfl,by decide,_,rfl,by decide,fun z=>⟨(show 1≤sizeLine by decide),q2 (fun t' e=>by rw [e1] at e;cases e;omega) H1 kb1⟩⟩
    · exact ⟨_,rfl,q1 t e1 (by omega) v H1 kb1 tr1⟩
inductive SpRead (CNT:Addr) (b:Bool) (vs:List V) (H:Hp) (Q:VK) (E:XK):Prop
  | mk (tx:Str) (z0:vs = [.str tx]) (z1:tx.length≤100000) (z2:(∀ t,pTree b 30 tx.cps.toList=some (t, [])→t.parts≤120→∀ v H',Same H H'→IsTr H' t v→Q v H')) (z3:((∀ t,pTree b 30 tx.cps.toList=some (t, [])→120 < t.parts)→∀ H',Same H H'→E (.ref CNT) none H')):SpRead CNT b vs H Q E
noncomputable def spRead (CNT:Addr) (b:Bool):Sp:=fun vs H Q E=>SpRead CNT b vs H Q E
theorem same_of_new {H H':Hp} {x dx:Addr} {o1 o2:HO} (hx:H x=none) (hd:H dx=none) (k:KeepBut x (upd (upd H dx o1) x o2) H'):Same H H':=fun a o e=>by
  have n1:a≠x:=fun z=>by rw [z,hx] at e;cases e
  have n2:a≠dx:=fun z=>by rw [z,hd] at e;cases e
  exact k a o n1 (by rw [upd_ne n1,upd_ne n2];exact e)
theorem ok_read (Z:Top4 K mg CR CNT) (h_init:HasC P w K mg base 1 "Reader" CR ["self", "text", "with_holes"] (spInit CR)) (h_read_whole:HasE P w K mg base 64 "read_whole" ["reader"] (spWhole CR CNT)) (D:Def K mg "read" s_read ["text"]) :
    HasE P w K mg base 65 "read" ["text"] (spRead CNT false):=by
  refine D.hasE sc_read (fun vs H Q E h => ?_) (fun f cdv A outer s H vs Q E hr h => ?_)
  · obtain ⟨tx,rfl,_⟩:=h;rfl
  obtain ⟨tx,rfl,hz,q1,q2⟩:=h
  refine ⟨_,(pss_one (ps_ret (pe_callE h_read_whole hr (by omega) (passE fun _ _ _ z=>z) rfl (pa_cons (pe_makeE h_init hr (by omega) (passE fun _ _ _ z=>z) rfl (pa_cons (pv 0) (pa_cons pe_bl pa_nil))) pa_nil)))),?_⟩
  try dsimp only [cxOf]
  refine ⟨_,rfl,fun x dx hx hdx hne=>⟨x,dx,tx,false,rfl,upd_same,rfl,?_⟩⟩
  rw [upd_upd]
  exact ⟨x,dx,tx,false,rfl,⟨upd_same,Nat.zero_le _,hz⟩,fun t e hp v H' kb tr=>q1 t e hp v H' (same_of_new hx hdx kb) tr,fun h H' kb=>q2 h H' (same_of_new hx hdx kb)⟩
theorem ok_read_pattern (Z:Top4 K mg CR CNT) (h_init:HasC P w K mg base 1 "Reader" CR ["self", "text", "with_holes"] (spInit CR)) (h_read_whole:HasE P w K mg base 64 "read_whole" ["reader"] (spWhole CR CNT)) (D:Def K mg "read_pattern" s_read_pattern ["text"]) :
    HasE P w K mg base 65 "read_pattern" ["text"] (spRead CNT true):=by
  refine D.hasE sc_read_pattern (fun vs H Q E h => ?_) (fun f cdv A outer s H vs Q E hr h => ?_)
  · obtain ⟨tx,rfl,_⟩:=h;rfl
  obtain ⟨tx,rfl,hz,q1,q2⟩:=h
  refine ⟨_,(pss_one (ps_ret (pe_callE h_read_whole hr (by omega) (passE fun _ _ _ z=>z) rfl (pa_cons (pe_makeE h_init hr (by omega) (passE fun _ _ _ z=>z) rfl (pa_cons (pv 0) (pa_cons pe_bl pa_nil))) pa_nil)))),?_⟩
  try dsimp only [cxOf]
  refine ⟨_,rfl,fun x dx hx hdx hne=>⟨x,dx,tx,true,rfl,upd_same,rfl,?_⟩⟩
  rw [upd_upd]
  exact ⟨x,dx,tx,true,rfl,⟨upd_same,Nat.zero_le _,hz⟩,fun t e hp v H' kb tr=>q1 t e hp v H' (same_of_new hx hdx kb) tr,fun h H' kb=>q2 h H' (same_of_new hx hdx kb)⟩
end

end K06
namespace K06
open PySem L2 Sw
section
variable {P:Program} {w:World} {K:PySem.W.Frag} {mg:Str→Option Value} {base:Heap} {CR CNT:Addr}
structure Excs (K:PySem.W.Frag) (mg:Str→Option Value) (c_NoTree c_NoRule c_NoRow c_Full c_Apart c_TooBig c_TooWide c_SameError:Addr):Prop where
  e_NoRule:mg "NoRule" = some (.ref c_NoRule)
  e_NoRow:mg "NoRow" = some (.ref c_NoRow)
  e_Full:mg "Full" = some (.ref c_Full)
  e_Apart:mg "Apart" = some (.ref c_Apart)
  e_TooBig:mg "TooBig" = some (.ref c_TooBig)
  e_TooWide:mg "TooWide" = some (.ref c_TooWide)
  e_SameError:mg "SameError" = some (.ref c_SameError)
  b_ValueError:mg "ValueError" = none
  zNoTree:ExcI K c_NoTree
  i_NoTree:PySem.W.kitOne K (.ref c_NoTree) (.ref c_NoTree)=some true
  i_ValueError:PySem.W.kitOne K (.ref c_NoTree) (.type "ValueError")=some true
  i_NoRule:PySem.W.kitOne K (.ref c_NoTree) (.ref c_NoRule)=some false
  i_NoRow:PySem.W.kitOne K (.ref c_NoTree) (.ref c_NoRow)=some false
  i_Full:PySem.W.kitOne K (.ref c_NoTree) (.ref c_Full)=some false
  i_Apart:PySem.W.kitOne K (.ref c_NoTree) (.ref c_Apart)=some false
  i_TooBig:PySem.W.kitOne K (.ref c_NoTree) (.ref c_TooBig)=some false
  i_TooWide:PySem.W.kitOne K (.ref c_NoTree) (.ref c_TooWide)=some false
  m_SameError:PySem.W.exmOne K (.ref c_NoTree) (.ref c_SameError)=some true
theorem ref_one {a:Addr}:∀ u v,RelV (.ref a) u→RelV (.ref a) v→u=v:=fun u v h1 h2=>(show u=Value.ref a from h1).trans (show v=Value.ref a from h2).symm
theorem ty_one {T:String}:∀ u v,RelV (.ty T) u→RelV (.ty T) v→u=v:=fun u v h1 h2=>(show u=Value.type T from h1).trans (show v=Value.type T from h2).symm
variable {c_NoTree c_NoRule c_NoRow c_Full c_Apart c_TooBig c_TooWide c_SameError:Addr}
inductive SpOther (CNT:Addr) (vs:List V) (H:Hp) (Q:VK):Prop
  | mk (ea:Addr) (z0:vs = [.ref ea]) (z1:H ea=some (XO ea CNT)) (z2:Q (.bl false) H):SpOther CNT vs H Q
noncomputable def spOther (CNT:Addr):Sp:=fun vs H Q _=>SpOther CNT vs H Q
theorem ok_other (B:Blt mg) (oNoTree:Exc K mg "NoTree" c_NoTree) (Y:Excs K mg c_NoTree c_NoRule c_NoRow c_Full c_Apart c_TooBig c_TooWide c_SameError) (D:Def K mg "_law_other" s_other ["_law_e"]):HasN P w K mg base 1 "_law_other" ["_law_e"] (spOther c_NoTree):=by
  have zNoTree:=Y.zNoTree
  have e_NoRule:=Y.e_NoRule
  have e_NoRow:=Y.e_NoRow
  have e_Full:=Y.e_Full
  have e_Apart:=Y.e_Apart
  have e_TooBig:=Y.e_TooBig
  have e_TooWide:=Y.e_TooWide
  refine D.hasN sc_other (fun vs H Q E h => ?_) (fun f cdv A outer s H vs Q hr h => ?_)
  · obtain ⟨ea,rfl,_⟩:=h;rfl
  obtain ⟨ea,rfl,hea,q⟩:=h
  refine ⟨_,(pss_cons (ps_if (PW.pt (pw_or (pt_val (pe_callB (call_isXK (K:=K) rfl oNoTree zNoTree) rfl B.isinstance_ boot_isinstance_ (pa_cons (pv 0) (pa_cons (pe_glob (v := .ref c_NoRule) rfl e_NoRule rfl) pa_nil)))) (pw_or (pt_val (pe_callB (call_isXK (K:=K) rfl oNoTree zNoTree) rfl B.isinstance_ boot_isinstance_ (pa_cons (pv 0) (pa_cons (pe_glob (v := .ref c_NoRow) rfl e_NoRow rfl) pa_nil)))) (pw_or1 (pt_val (pe_callB (call_isXK (K:=K) rfl oNoTree zNoTree) rfl B.isinstance_ boot_isinstance_ (pa_cons (pv 0) (pa_cons (pe_glob (v := .ref c_Full) rfl e_Full rfl) pa_nil)))))))) (pss_one (ps_ret pe_bl)) pss_nil)
    (pss_one (ps_ret (pe_or (pe_callB (call_isXK (K:=K) rfl oNoTree zNoTree) rfl B.isinstance_ boot_isinstance_ (pa_cons (pv 0) (pa_cons (pe_glob (v := .ref c_Apart) rfl e_Apart rfl) pa_nil))) (pe_or (pe_callB (call_isXK (K:=K) rfl oNoTree zNoTree) rfl B.isinstance_ boot_isinstance_ (pa_cons (pv 0) (pa_cons (pe_glob (v := .ref c_TooBig) rfl e_TooBig rfl) pa_nil))) (pe_one (pe_callB (call_isXK (K:=K) rfl oNoTree zNoTree) rfl B.isinstance_ boot_isinstance_ (pa_cons (pv 0) (pa_cons (pe_glob (v := .ref c_TooWide) rfl e_TooWide rfl) pa_nil))))))))),?_⟩
  try dsimp only [cxOf]
  refine ⟨_,rfl,ea,_,_,false,rfl,hea,rfl,ref_one,Y.i_NoRule,_,rfl,iteF ?_⟩
  refine ⟨_,rfl,ea,_,_,false,rfl,hea,rfl,ref_one,Y.i_NoRow,_,rfl,iteF ?_⟩
  refine ⟨_,rfl,ea,_,_,false,rfl,hea,rfl,ref_one,Y.i_Full,_,rfl,iteF ?_⟩
  refine ⟨_,rfl,ea,_,_,false,rfl,hea,rfl,ref_one,Y.i_Apart,_,rfl,iteF ?_⟩
  refine ⟨_,rfl,ea,_,_,false,rfl,hea,rfl,ref_one,Y.i_TooBig,_,rfl,iteF ?_⟩
  exact ⟨_,rfl,ea,_,_,false,rfl,hea,rfl,ref_one,Y.i_TooWide,q⟩
inductive SpAsked (vs:List V) (H:Hp) (Q:VK):Prop
  | mk (tx:Str) (b:Bool) (z0:vs = [.str tx,.bl b]) (z1:tx.length≤100000) (z2:(∀ t,pTree b 30 tx.cps.toList=some (t, [])→t.parts≤120→∀ v a H',Same H H'→IsTr H' t v→H' a=some (.tup [v,.non])→Q (.ref a) H')) (z3:((∀ t,pTree b 30 tx.cps.toList=some (t, [])→120 < t.parts)→∀ a c H',Same H H'→H' a=some (.tup [.non,.ref c])→H' c=some (.tup [.bl true,.bl true,.bl false])→Q (.ref a) H')):SpAsked  vs H Q
noncomputable def spAsked:Sp:=fun vs H Q _=>SpAsked  vs H Q
theorem ok_asked (B:Blt mg) (oNoTree:Exc K mg "NoTree" c_NoTree) (Y:Excs K mg c_NoTree c_NoRule c_NoRow c_Full c_Apart c_TooBig c_TooWide c_SameError) (h_read:HasE P w K mg base 65 "read" ["text"] (spRead c_NoTree false)) (h_read_pattern:HasE P w K mg base 65 "read_pattern" ["text"] (spRead c_NoTree true))
    (h_other:HasN P w K mg base 1 "_law_other" ["_law_e"] (spOther c_NoTree)) (D:Def K mg "_law_asked" s_asked ["_law_line", "_law_holed"]):Has P w K mg base 66 "_law_asked" ["_law_line", "_law_holed"] spAsked:=by
  have zNoTree:=Y.zNoTree
  have e_SameError:=Y.e_SameError
  have e_NoTree:=oNoTree.glob
  have b_ValueError:=Y.b_ValueError
  refine D.has sc_asked (fun vs H Q E h => ?_) (fun f cdv A outer s H vs Q E hr h => ?_)
  · obtain ⟨tx,b,rfl,_⟩:=h;rfl
  obtain ⟨tx,b,rfl,hz,q1,q2⟩:=h
  refine ⟨_,(pss_cons (ps_set (i:=2) sc_asked.nd rfl (Or.inl rfl) pe_non)
    (pss_cons (ps_set (i:=3) sc_asked.nd rfl (Or.inl rfl) pe_non)
    (pss_cons (ps_try (i:=4) ⟨rfl,rfl⟩ sc_asked.nd rfl rfl rfl e_SameError (pst_if (pt_val (pv 1)) (pst_set (i:=2) sc_asked.nd rfl (Or.inl rfl) (pet_callE h_read_pattern hr (by omega) rfl (pa_cons (pv 0) pa_nil))) (pst_set (i:=2) sc_asked.nd rfl (Or.inl rfl) (pet_callE h_read hr (by omega) rfl (pa_cons (pv 0) pa_nil)))) (fun ea=>(pss_one (ps_set (i:=3) sc_asked.nd rfl (Or.inl rfl) (pe_tup (pa_cons (pe_callB (call_isXK (K:=K) rfl oNoTree zNoTree) rfl B.isinstance_ boot_isinstance_ (pa_cons (pv 4) (pa_cons (pe_glob (v := .ref c_NoTree) rfl e_NoTree rfl) pa_nil))) (pa_cons (pe_callB (call_isXK (K:=K) rfl oNoTree zNoTree) rfl B.isinstance_ boot_isinstance_ (pa_cons (pv 4) (pa_cons (pe_bltn (v := .ty "ValueError") rfl b_ValueError boot_ValueError_ rfl) pa_nil))) (pa_cons (pe_callHN h_other (hr.mark _) (by omega) rfl (pa_cons (pv 4) pa_nil)) pa_nil))))))))
    (pss_one (ps_ret (pe_tup (pa_cons (pv 2) (pa_cons (pv 3) pa_nil)))))))),?_⟩
  try dsimp only [cxOf]
  have hand:(∀ t,pTree b 30 tx.cps.toList=some (t, [])→120 < t.parts)→∀ H',Same H H'→∀ ea,H' ea=none→∀ c,upd H' ea (XO ea c_NoTree) c=none→∀ a,upd (upd H' ea (XO ea c_NoTree)) c (.tup [.bl true,.bl true,.bl false]) a=none →
      Q (.ref a) (upd (upd (upd H' ea (XO ea c_NoTree)) c (.tup [.bl true,.bl true,.bl false])) a (.tup [.non,.ref c])):=fun h H' sm ea hea c hc a ha =>
    q2 h a c _ (sm.trans ((same_new hea _).trans ((same_new hc _).trans (same_new ha _)))) upd_same (by rw [upd_ne (ne_of_none upd_same ha),upd_same])
  refine ⟨_,rfl,_,rfl,?_⟩
  cases b with
  | true =>
    refine iteT ⟨_,rfl,tx,rfl,hz,fun t e hp v H' sm tr => ?_,fun h H' sm=>⟨c_NoTree,rfl,Y.m_SameError,fun ea hea => ?_⟩⟩
    · exact ⟨_,rfl,_,rfl,(show 2≤sizeLine by decide),fun a ha=>q1 t e hp v a _ (sm.trans (same_new ha _)) (tr_same (same_new ha _) tr) upd_same⟩
    · refine ⟨_,rfl,ea,_,_,true,rfl,upd_same,rfl,ref_one,Y.i_NoTree,_,rfl,ea,_,_,true,rfl,upd_same,rfl,ty_one,Y.i_ValueError,_,rfl,ea,rfl,upd_same,(show 3≤sizeLine by decide),fun c hc => ?_⟩
      exact ⟨_,rfl,_,rfl,(show 2≤sizeLine by decide),fun a ha=>hand h H' sm ea hea c hc a ha⟩
  | false =>
    refine iteF ⟨_,rfl,tx,rfl,hz,fun t e hp v H' sm tr => ?_,fun h H' sm=>⟨c_NoTree,rfl,Y.m_SameError,fun ea hea => ?_⟩⟩
    · exact ⟨_,rfl,_,rfl,(show 2≤sizeLine by decide),fun a ha=>q1 t e hp v a _ (sm.trans (same_new ha _)) (tr_same (same_new ha _) tr) upd_same⟩
    · refine ⟨_,rfl,ea,_,_,true,rfl,upd_same,rfl,ref_one,Y.i_NoTree,_,rfl,ea,_,_,true,rfl,upd_same,rfl,ty_one,Y.i_ValueError,_,rfl,ea,rfl,upd_same,(show 3≤sizeLine by decide),fun c hc => ?_⟩
      exact ⟨_,rfl,_,rfl,(show 2≤sizeLine by decide),fun a ha=>hand h H' sm ea hea c hc a ha⟩
end

end K06
namespace K06
open PySem L2 Sw
section
variable {P:Program} {w:World} {K:PySem.W.Frag} {mg:Str→Option Value} {base:Heap}
inductive SpCell (K:PySem.W.Frag) (vs:List V) (H:Hp) (Q:VK):Prop
  | mk (a:Addr) (ns:List Int) (k:Int) (z0:vs = [.ref a,.int k]) (z1:SqL K H a (ns.map V.int)) (z2:0≤k) (z3:∀ c:Int,Q (.int c) H):SpCell K vs H Q
noncomputable def spCell (K:PySem.W.Frag):Sp:=fun vs H Q _=>SpCell K vs H Q
theorem ok_cell_at (B:Blt mg) (D:Def K mg "_law_cell_at" s_cell_at ["_law_script", "_law_k"]):Has P w K mg base 1 "_law_cell_at" ["_law_script", "_law_k"] (spCell K):=by
  refine D.has sc_cell_at (fun vs H Q E h => ?_) (fun f cdv A outer s H vs Q E hr h => ?_)
  · obtain ⟨a,ns,k,rfl,_⟩:=h;rfl
  obtain ⟨a,ns,k,rfl,hS,h0,q⟩:=h
  refine ⟨_,(pss_cons (ps_if (pt_cmpR op_lt (pv 1) (pe_callB call_len_seq rfl B.len_ PySem.boot_len (pa_cons (pv 0) pa_nil)) (nomark _)) (pss_one (ps_ret (pe_ix ix_list (pv 0) (pv 1) (fun _ _=>rfl)))) pss_nil)
    (pss_one (ps_ret pe_int))),?_⟩
  try dsimp only [cxOf]
  refine ⟨_,rfl,_,rfl,a,_,rfl,.inl hS,k,_,rfl,rfl,_,rfl,?_⟩
  refine iteD (fun c => ?_) (fun c => ?_)
  · rw [List.length_map] at c
    have hk:k.toNat < ns.length:=by omega
    have ek:((k.toNat:Nat):Int)=k:=by omega
    have ha:atI (ns.map V.int) k=some (.int ns[k.toNat]):=by
      have z:atI (ns.map V.int) ((k.toNat:Nat):Int)=some (.int ns[k.toNat]):=atI_nat (by rw [List.getElem?_map,List.getElem?_eq_getElem hk];rfl)
      rw [ek] at z
      exact z
    exact ⟨_,rfl,_,rfl,a,_,k,_,rfl,rfl,hS,ha,q _⟩
  · exact q 0
inductive SpMixed (vs:List V) (H:Hp) (Q:VK):Prop
  | mk (c k:Int) (z0:vs = [.int c,.int k]) (z1:0≤k) (z2:k≤100000) (z3:∀ m:Int,0≤m→m < 2147483629→Q (.int m) H):SpMixed  vs H Q
noncomputable def spMixed:Sp:=fun vs H Q _=>SpMixed  vs H Q
theorem ok_mixed (D:Def K mg "_law_mixed" s_mixed ["_law_cell", "_law_k"]):Has P w K mg base 1 "_law_mixed" ["_law_cell", "_law_k"] spMixed:=by
  refine D.has sc_mixed (fun vs H Q E h => ?_) (fun f cdv A outer s H vs Q E hr h => ?_)
  · obtain ⟨c,k,rfl,_⟩:=h;rfl
  obtain ⟨c,k,rfl,h0,h1,q⟩:=h
  refine ⟨_,(pss_cons (ps_set (i:=2) sc_mixed.nd rfl (Or.inl rfl) (pe_op op_mod (pe_op op_mul (pe_op op_add (pe_op op_mod (pv 0) pe_int) pe_int) (pe_op op_add pe_int (pe_op op_mul (pe_op op_mul pe_int (pv 1)) (pv 1)))) pe_int))
    (pss_one (ps_ret (pe_op op_mod (pe_op op_mul (pv 2) (pv 2)) pe_int)))),?_⟩
  try dsimp only [cxOf]
  have p1:0≤c % 2147483647:=Int.emod_nonneg _ (by decide)
  have p2:c % 2147483647 < 2147483647:=Int.emod_lt_of_pos _ (by decide)
  refine ⟨_,rfl,c,2147483647,rfl,rfl,pos',_,_,rfl,rfl,_,rfl,2,k,rfl,rfl,.inl (by decide),_,rfl,_,_,rfl,rfl,.inl ⟨by omega,by omega⟩,_,_,rfl,rfl,_,_,rfl,rfl,.inl ⟨by omega,by omega⟩,_,_,rfl,rfl,pos',?_⟩
  have m1:0≤(c % 2147483647+1) * (48271+2 * k * k) % 2147483647:=Int.emod_nonneg _ (by decide)
  have m2:(c % 2147483647+1) * (48271+2 * k * k) % 2147483647 < 2147483647:=Int.emod_lt_of_pos _ (by decide)
  refine ⟨_,rfl,_,rfl,_,_,rfl,rfl,.inl ⟨Int.lt_of_lt_of_le (by decide) m1,Int.lt_trans m2 (by decide)⟩,_,_,rfl,rfl,pos',?_⟩
  exact q _ (Int.emod_nonneg _ (by decide)) (Int.emod_lt_of_pos _ (by decide))

inductive SpWord (vs:List V) (H:Hp) (Q:VK):Prop
  | mk (m:Int) (z0:vs = [.int m]) (z1:Q (.str (wordOf m)) H):SpWord  vs H Q
noncomputable def spWord:Sp:=fun vs H Q _=>SpWord  vs H Q
theorem ok_word (D:Def K mg "_law_word" s_word ["_law_m"]):Has P w K mg base 1 "_law_word" ["_law_m"] spWord:=by
  refine D.has sc_word (fun vs H Q E h => ?_) (fun f cdv A outer s H vs Q E hr h => ?_)
  · obtain ⟨m,rfl,_⟩:=h;rfl
  obtain ⟨m,rfl,q⟩:=h
  refine ⟨_,(pss_cons (ps_set (i:=1) sc_word.nd rfl (Or.inl rfl) pe_str)
    (pss_cons (ps_set (i:=2) sc_word.nd rfl (Or.inl rfl) (pe_op op_add pe_int (pe_op op_mod (pv 0) pe_int)))
    (pss_cons (ps_set (i:=3) sc_word.nd rfl (Or.inl rfl) (pe_op op_mod (pe_op op_fdiv (pv 0) pe_int) (pv 2)))
    (pss_cons (ps_set (i:=4) sc_word.nd rfl (Or.inl rfl) (pe_op op_mul_str0 (pe_ix ix_str (pv 1) (pe_op op_mod (pe_op op_fdiv (pv 0) pe_int) pe_int) (fun _ _=>rfl)) (pv 2)))
    (pss_one (ps_ret (pe_op op_add_str (pe_op op_add_str (pe_slice sl_str (pv 4) po_none (po_some (pv 3))) (pe_ix ix_str (pv 1) (pe_op op_mod (pe_op op_fdiv (pv 0) pe_int) pe_int) (fun _ _=>rfl))) (pe_slice sl_str (pv 4) (po_some (pe_op op_add (pv 3) pe_int)) po_none)))))))),?_⟩
  try dsimp only [cxOf]
  have a1:0≤m % 8:=Int.emod_nonneg _ (by decide)
  have a2:m % 8 < 8:=Int.emod_lt_of_pos _ (by decide)
  have b1:0≤m / 1664 % 26:=Int.emod_nonneg _ (by decide)
  have b2:m / 1664 % 26 < 26:=Int.emod_lt_of_pos _ (by decide)
  have c1:0≤m / 64 % 26:=Int.emod_nonneg _ (by decide)
  have c2:m / 64 % 26 < 26:=Int.emod_lt_of_pos _ (by decide)
  have hA:(wordA m).length≤8:=by
    unfold wordA
    rw [timesS_len,sg_len]
    omega
  have sl1:=Txt.slice_le (wordA m) none (some (m / 8 % (1+m % 8)))
  have sl2:=Txt.slice_le (wordA m) (some (m / 8 % (1+m % 8)+1)) none
  refine ⟨_,rfl,_,_,rfl,rfl,pos',_,_,rfl,rfl,?_⟩
  refine ⟨_,rfl,_,_,rfl,rfl,div',_,rfl,_,_,rfl,rfl,by omega,?_⟩
  refine ⟨_,rfl,_,rfl,_,_,rfl,rfl,div',_,_,rfl,rfl,pos',_,_,_,rfl,rfl,by decide,abc_at b1 b2,_,rfl,_,_,rfl,rfl,by omega,by omega,by show (1:Nat)≤1000;decide,?_⟩
  refine ⟨_,rfl,_,rfl,_,rfl,wordA m,rfl,Nat.le_trans hA (by decide),_,rfl,_,rfl,_,_,rfl,rfl,div',_,_,rfl,rfl,pos',_,_,_,rfl,rfl,by decide,abc_at c1 c2,_,_,rfl,rfl,?_,?_⟩
  · show (Txt.slice (wordA m) none (some (m / 8 % (1+m % 8)))).length+(sg (m / 64 % 26)).length≤sizeLine
    rw [sg_len]
    exact Nat.le_trans (by omega:_≤1000) (by decide)
  refine ⟨_,rfl,_,rfl,_,_,rfl,rfl,_,rfl,wordA m,rfl,Nat.le_trans hA (by decide),_,_,rfl,rfl,?_,?_⟩
  · show (Txt.slice (wordA m) none (some (m / 8 % (1+m % 8))) ++ sg (m / 64 % 26)).length+(Txt.slice (wordA m) (some (m / 8 % (1+m % 8)+1)) none).length≤sizeLine
    rw [Str.length_append,sg_len]
    exact Nat.le_trans (by omega:_≤1000) (by decide)
  · exact q
end

section
variable {P:Program} {w:World} {K:PySem.W.Frag} {mg:Str→Option Value} {base:Heap}
noncomputable def RwAt (H:Hp) (v:V) (r:Rw):Prop := ∃ a tv,v = .ref a∧H a=some (.tup [tv,.str r.s,.int (r.d:Int)])∧IsTr H r.t tv
theorem RwAt.keep {H H':Hp} (k:∀ a xs,H a=some (.tup xs)→H' a=some (.tup xs)) {v:V} {t:Rw} (h:RwAt H v t):RwAt H' v t:=by
  obtain ⟨a,tv,e,h1,h2⟩:=h
  exact ⟨a,tv,e,k _ _ h1,tr_keep k h2⟩
theorem RwAt.same {H H':Hp} (s:Same H H') {v:V} {t:Rw} (h:RwAt H v t):RwAt H' v t:=h.keep fun a xs e=>s _ _ e
noncomputable abbrev Rws (H:Hp):List V→List Rw→Prop:=Paired (RwAt H)
theorem rws_same {H H':Hp} (s:Same H H') {us:List V} {ts:List Rw} (h:Rws H us ts):Rws H' us ts:=Paired.mapP h fun _ _ z=>z.same s
theorem rws_keep {H H':Hp} (k:∀ a xs,H a=some (.tup xs)→H' a=some (.tup xs)) {us:List V} {ts:List Rw} (h:Rws H us ts):Rws H' us ts:=Paired.mapP h fun _ _ z=>z.keep k
theorem rws_tup {H:Hp} {us:List V} {ts:List Rw} (h:Rws H us ts) {i:Nat} (hi:i < 3):∀ v∈us,∃ a xs,v = .ref a∧H a=some (.tup xs)∧i < xs.length:=by
  induction h with
  | nil=>intro v hv;cases hv
  | cons h _ ih =>
    intro v hv
    rcases List.mem_cons.mp hv with rfl | hv
    · obtain ⟨a,tv,e,h1,_⟩:=h
      exact ⟨a,_,e,h1,hi⟩
    · exact ih v hv
noncomputable def fld (H:Hp) (i:Nat):V→V
  | .ref a=>match H a with
    | some (.tup xs)=>xs.getD i .non
    | _ => .non
  | _ => .non
theorem comp_fld {H:Hp} {b:Addr} {vs:List V} {n:Int} {σ : St} {Q:VK} (i:Nat) (hn:n=(i:Int)) (hS:SqL K H b vs) (hz:vs.length≤1000) (hv:∀ v∈vs,∃ a xs,v = .ref a∧H a=some (.tup xs)∧i < xs.length)
    (hq:∀ D,H D=none→Q (.ref D) (upd H D (.lst (vs.map (fld H i))))):CompBody (Itl K b) (gName 0) (tOp (rIxT K) (tVar 0) (tC (.int n))) (List.replicate 1 none ++ capt σ []) H Q :=
  comp_list (fld H i) hS hz (fun x hx H' sm Q' q'=>by
    obtain ⟨a,xs,rfl,ha,hi⟩:=hv x hx
    subst hn
    refine ⟨_,rfl,a,xs,i,xs[i],rfl,rfl,SqT.of (sm _ _ ha),atI_nat (by rw [List.getElem?_eq_getElem hi]),?_⟩
    have e:fld H i (.ref a)=xs[i]:=by
      show (match H a with | some (.tup xs)=>xs.getD i V.non | _=>V.non)=_
      rw [ha]
      simp [List.getD_eq_getElem?_getD,List.getElem?_eq_getElem hi]
    rw [e] at q'
    exact q') hq
theorem rws_fld {H:Hp} {us:List V} {ts:List Rw} (h:Rws H us ts):Paired (fun t v=>IsTr H t v) (ts.map Rw.t) (us.map (fld H 0))∧us.map (fld H 1)=(ts.map Rw.s).map V.str∧us.map (fld H 2)=((ts.map Rw.d).map fun d:Nat=>(d:Int)).map V.int:=by
  induction h with
  | nil=>exact ⟨.nil,rfl,rfl⟩
  | @cons v t l1 l2 h _ ih =>
    obtain ⟨a,tv,e,h1,h2⟩:=h
    subst e
    have f0:∀ i,fld H i (.ref a) = [tv,.str t.s,.int (t.d:Int)].getD i .non:=fun i=>by
      show (match H a with | some (.tup xs)=>xs.getD i V.non | _=>V.non)=_
      rw [h1]
    refine ⟨?_,?_,?_⟩
    · rw [List.map_cons,List.map_cons,f0];exact .cons h2 ih.1
    · rw [List.map_cons,f0,ih.2.1];rfl
    · rw [List.map_cons,f0,ih.2.2];rfl
theorem deepM_mem:∀ {ds:List Nat} {d:Nat},d∈ds→d≤deepM ds
  | c :: ds,d,h=>by
    rw [deepM]
    rcases List.mem_cons.mp h with rfl | h
    · exact Nat.le_max_left _ _
    · exact Nat.le_trans (deepM_mem h) (Nat.le_max_right _ _)
theorem deepM_is:∀ {ds:List Nat} {M:Nat},(∀ d∈ds,d≤M)→deepM ds≤M
  | [],M,_=>Nat.zero_le _
  | c :: ds,M,h=>by rw [deepM];exact Nat.max_le.mpr ⟨h c List.mem_cons_self,deepM_is fun d hd=>h d (List.mem_cons_of_mem _ hd)⟩
theorem sums_le {ss:List Str} {M:Nat} (h:∀ s∈ss,s.length≤M):(Str.join ", " ss).length≤ss.length * (M+2):=by
  cases ss with
  | nil=>exact Nat.zero_le _
  | cons s ss =>
    rw [len_cps,joins_cps,List.length_append, ← len_cps]
    have h1:=h s List.mem_cons_self
    have h2:∀ ss:List Str,(∀ s∈ss,s.length≤M)→(mores ss).length≤ss.length * (M+2):=fun ss=>by
      induction ss with
      | nil=>intro _;exact Nat.zero_le _
      | cons u ss ih =>
        intro hu
        have z:=ih fun v hv=>hu v (List.mem_cons_of_mem _ hv)
        have zu:=hu u List.mem_cons_self
        rw [mores,List.length_cons,List.length_cons,List.length_append, ← len_cps,List.length_cons,Nat.succ_mul]
        omega
    have z:=h2 ss fun v hv=>h v (List.mem_cons_of_mem _ hv)
    rw [List.length_cons,Nat.succ_mul]
    omega
theorem lens_le {M:Nat}:∀ {ss:List Str},(∀ s∈ss,s.length≤M)→(ss.map (·.length)).sum≤ss.length * M
  | [],_=>Nat.zero_le _
  | s :: ss,h=>by
    have z:=lens_le (ss:=ss) fun v hv=>h v (List.mem_cons_of_mem _ hv)
    have zs:=h s List.mem_cons_self
    rw [List.map_cons,List.sum_cons,List.length_cons,Nat.succ_mul]
    omega
theorem knotS_len {x:Str} {ss:List Str} {M:Nat} (hx:x.length≤20) (h:∀ s∈ss,s.length≤M):(knotS x ss).length≤22+ss.length * (M+2):=by
  unfold knotS
  have e1:("(" : Str).length=1:=rfl
  have e1':(")" : Str).length=1:=rfl
  have:=sums_le h
  rw [Str.length_append,Str.length_append,Str.length_append,e1,e1']
  omega
theorem join_eq (ss:List Str):Txt.join ", " ss=Str.join ", " ss:=by
  unfold Txt.join
  rw [StrLaws.glued_eq_join]
inductive SpNamed (vs:List V) (H:Hp) (Q:VK):Prop
  | mk (x:Str) (ev:vs = [.str x]) (q:∀ r H',Same H H'→RwAt H' (.ref r) ⟨.name x,x,1⟩→Q (.ref r) H'):SpNamed vs H Q
noncomputable def spNamed:Sp:=fun vs H Q _=>SpNamed vs H Q
theorem ok_named (D:Def K mg "_law_named" s_named ["_law_word_here"]):Has P w K mg base 1 "_law_named" ["_law_word_here"] spNamed:=by
  refine D.has sc_named (fun vs H Q E h => ?_) (fun f cdv A outer s H vs Q E hr h => ?_)
  · obtain ⟨x,rfl,_⟩:=h;rfl
  obtain ⟨x,rfl,q⟩:=h
  refine ⟨_,(pss_one (ps_ret (pe_tup (pa_cons (pe_tup (pa_cons pe_str (pa_cons (pv 0) pa_nil))) (pa_cons (pv 0) (pa_cons pe_int pa_nil)))))),?_⟩
  try dsimp only [cxOf]
  refine ⟨_,rfl,(show 2≤sizeLine by decide),fun p hp=>⟨_,rfl,(show 3≤sizeLine by decide),fun r hr' => ?_⟩⟩
  have g1:=same_new hp (.tup [.str "name",.str x])
  have g2:=same_new hr' (.tup [.ref p,.str x,.int 1])
  refine q r _ (g1.trans g2) ⟨r,.ref p,rfl,upd_same,?_⟩
  rw [IsTr]
  exact ⟨p,rfl,g2 _ _ upd_same⟩
inductive SpJoined (K:PySem.W.Frag) (vs:List V) (H:Hp) (Q:VK):Prop
  | mk (x:Str) (b:Addr) (us:List V) (rs:List Rw) (ev:vs = [.str x,.ref b]) (hx:x.length≤20) (hS:SqL K H b us) (hp:Rws H us rs) (h1:1≤rs.length) (h4:rs.length≤8) (hz:∀ r∈rs,r.s.length≤100000) (q:∀ r H',Same H H'→RwAt H' (.ref r) (joinRw x rs)→Q (.ref r) H'):SpJoined K vs H Q
noncomputable def spJoined (K:PySem.W.Frag):Sp:=fun vs H Q _=>SpJoined K vs H Q
theorem ok_joined (B:Blt mg) (D:Def K mg "_law_joined" s_joined ["_law_word_here", "_law_rows"]):Has P w K mg base 1 "_law_joined" ["_law_word_here", "_law_rows"] (spJoined K):=by
  refine D.has sc_joined (fun vs H Q E h => ?_) (fun f cdv A outer s H vs Q E hr h => ?_)
  · obtain ⟨x,b,us,ts,rfl,_⟩:=h;rfl
  obtain ⟨x,b,us,rs,rfl,hx,hS,hp,hl1,hl8,hz,q⟩:=h
  have hlen:=hp.length
  refine ⟨_,(pss_cons (ps_set (i:=2) sc_joined.nd rfl (Or.inl rfl) (pe_tup (pa_cons pe_str (pa_cons (pv 0) (pa_cons (pe_callTy call_tuple_of rfl B.tuple_ boot_tuple_ (pa_cons (pe_comp (te:=(tOp (rIxT K) _ _)) (own := ["_law_row"]) (caps := []) (comp_scope (defScope s_joined) ["_law_word_here", "_law_rows", "_law_tree", "_law_line"] rfl rfl rfl (by decide +kernel)) (pi_list (pv 1)) rfl (fun _ _ _=>pg_name (i:=0) (show (["_law_row"]:List Str).Nodup by decide +kernel) rfl (Or.inl rfl)) (fun _ _ _=>(pe_ix ix_tup (pv 0) pe_int (fun _ _=>rfl)))) pa_nil)) pa_nil)))))
    (pss_cons (ps_set (i:=3) sc_joined.nd rfl (Or.inl rfl) (pe_op op_add_str (pe_op op_add_str (pe_op op_add_str (pv 0) pe_str) (pe_bm PySem.F.plainAttrs_str PySem.F.slot_str_join PySem.F.type_str_join mt_join pe_str (pa_cons (pe_comp (te:=(tOp (rIxT K) _ _)) (own := ["_law_row"]) (caps := []) (comp_scope (defScope s_joined) ["_law_word_here", "_law_rows", "_law_tree", "_law_line"] rfl rfl rfl (by decide +kernel)) (pi_list (pv 1)) rfl (fun _ _ _=>pg_name (i:=0) (show (["_law_row"]:List Str).Nodup by decide +kernel) rfl (Or.inl rfl)) (fun _ _ _=>(pe_ix ix_tup (pv 0) pe_int (fun _ _=>rfl)))) pa_nil))) pe_str))
    (pss_one (ps_ret (pe_tup (pa_cons (pv 2) (pa_cons (pv 3) (pa_cons (pe_op op_add pe_int (pe_callB (call_maxL rfl) rfl B.max_ boot_max_ (pa_cons (pe_comp (te:=(tOp (rIxT K) _ _)) (own := ["_law_row"]) (caps := []) (comp_scope (defScope s_joined) ["_law_word_here", "_law_rows", "_law_tree", "_law_line"] rfl rfl rfl (by decide +kernel)) (pi_list (pv 1)) rfl (fun _ _ _=>pg_name (i:=0) (show (["_law_row"]:List Str).Nodup by decide +kernel) rfl (Or.inl rfl)) (fun _ _ _=>(pe_ix ix_tup (pv 0) pe_int (fun _ _=>rfl)))) pa_nil))) pa_nil)))))))),?_⟩
  try dsimp only [cxOf]
  -- the tree
  refine ⟨_,rfl,_,rfl,b,rfl,⟨us,hS⟩,comp_fld 0 rfl hS (by omega) (rws_tup hp (by decide)) fun D1 hD1 => ?_⟩
  refine ⟨D1,_,rfl,.inl ⟨SqL.of upd_same,fun l hl => ?_⟩⟩
  refine ⟨(by show 3≤sizeLine;decide),fun t ht => ?_⟩
  have hT0:=(rws_fld hp).1
  have g3:=(same_new hD1 (.lst (us.map (fld H 0)))).trans ((same_new hl (.tup (us.map (fld H 0)))).trans (same_new ht (.tup [.str "of",.str x,.ref l])))
  have a3:(upd (upd (upd H D1 (.lst (us.map (fld H 0)))) l (.tup (us.map (fld H 0)))) t (.tup [.str "of",.str x,.ref l])) l=some (.tup (us.map (fld H 0))):=by
    rw [upd_ne (ne_of_none upd_same ht),upd_same]
  have b3:(upd (upd (upd H D1 (.lst (us.map (fld H 0)))) l (.tup (us.map (fld H 0)))) t (.tup [.str "of",.str x,.ref l])) t=some (.tup [.str "of",.str x,.ref l]):=upd_same
  generalize (upd (upd (upd H D1 (.lst (us.map (fld H 0)))) l (.tup (us.map (fld H 0)))) t (.tup [.str "of",.str x,.ref l]))=H3 at g3 a3 b3
  have hp3:=rws_same g3 hp
  have hzs:∀ s∈rs.map Rw.s,s.length≤100000:=fun s hs=>by
    obtain ⟨r,hr,rfl⟩:=List.mem_map.mp hs
    exact hz r hr
  have hjl:=sums_le hzs
  rw [List.length_map] at hjl
  have hj8:rs.length * (100000+2)≤8 * (100000+2):=Nat.mul_le_mul_right _ hl8
  have e1:("(" : Str).length=1:=rfl
  have e1':(")" : Str).length=1:=rfl
  have e2:(", " : Str).length=2:=rfl
  have ej:=join_eq (rs.map Rw.s)
  have big:(10000000:Nat)≤sizeLine:=by decide
  -- the text
  refine ⟨_,rfl,_,_,rfl,rfl,?_,rfl,_,rfl,b,rfl,⟨us,g3.seq hS⟩,comp_fld 1 rfl (g3.seq hS) (by omega) (rws_tup hp3 (by decide)) fun D2 hD2 => ?_⟩
  · rw [e1];omega
  rw [(rws_fld hp3).2.1]
  refine ⟨", ",D2,rs.map Rw.s,rfl,rfl,SqL.of upd_same,?_,_,_,rfl,rfl,?_,_,_,rfl,rfl,?_,?_⟩
  · have:=lens_le hzs
    rw [List.length_map] at this
    have:rs.length * 100000≤8 * 100000:=Nat.mul_le_mul_right _ hl8
    rw [List.length_map,e2]
    omega
  · rw [ej,Str.length_append,e1];omega
  · rw [ej,Str.length_append,Str.length_append,e1,e1'];omega
  have g4:=same_new hD2 (.lst ((rs.map Rw.s).map V.str))
  generalize (upd H3 D2 (.lst ((rs.map Rw.s).map V.str)))=H4 at g4
  have g4':=g3.trans g4
  have hp4:=rws_same g4' hp
  -- how deep
  refine ⟨_,rfl,_,rfl,_,rfl,b,rfl,⟨us,g4'.seq hS⟩,comp_fld 2 rfl (g4'.seq hS) (by omega) (rws_tup hp4 (by decide)) fun D3 hD3 => ?_⟩
  rw [(rws_fld hp4).2.2]
  refine ⟨D3,_,rfl,SqL.of upd_same,by rw [List.length_map,List.length_map];omega,fun M hM hM' => ?_⟩
  refine ⟨_,_,rfl,rfl,(by show 3≤sizeLine;decide),fun r hr' => ?_⟩
  have eM:(1+M:Int)=((1+deepM (rs.map Rw.d):Nat):Int):=by
    obtain ⟨d0,hd0,e0⟩:=List.mem_map.mp hM
    have z1:=deepM_mem hd0
    have z2:deepM (rs.map Rw.d)≤M.toNat:=deepM_is fun d hd=>by
      have:=hM' _ (List.mem_map.mpr ⟨d,hd,rfl⟩)
      omega
    omega
  have g5:=same_new hD3 (.lst (((rs.map Rw.d).map fun d:Nat=>(d:Int)).map V.int))
  have eL:x ++ "(" ++ Txt.join ", " (rs.map Rw.s) ++ ")" = knotS x (rs.map Rw.s):=by rw [ej];rfl
  have g6:=same_new hr' (.tup [.ref t,.str (x ++ "(" ++ Txt.join ", " (rs.map Rw.s) ++ ")"),.int (1+M)])
  have gg:=g4.trans (g5.trans g6)
  refine q r _ (g3.trans gg) ⟨r,.ref t,rfl,?_,?_⟩
  · rw [upd_same,eL,eM];rfl
  · show IsTr _ (.of x (rs.map Rw.t)) _
    rw [IsTr]
    exact ⟨t,l,_,rfl,gg _ _ b3,gg _ _ a3,trs_of (Paired.mapP hT0 fun _ _ z=>tr_same (g3.trans gg) z)⟩
end

end K06
namespace K06
open PySem L2 Sw
section
variable {P:Program} {w:World} {K:PySem.W.Frag} {mg:Str→Option Value} {base:Heap}
theorem kit_tt {K:PySem.W.Frag}:PySem.W.kitOne K (.type "tuple") (.type "tuple")=some true:=by rfl
theorem kit_ii {K:PySem.W.Frag}:PySem.W.kitOne K (.type "int") (.type "int")=some true:=by rfl
theorem kit_ib {K:PySem.W.Frag}:PySem.W.kitOne K (.type "int") (.type "bool")=some false:=by rfl
theorem kit_ss {K:PySem.W.Frag}:PySem.W.kitOne K (.type "str") (.type "str")=some true:=by rfl
theorem parts_len:∀ ts:List T,ts.length≤T.partss ts
  | []=>Nat.zero_le _
  | t :: ts=>by rw [T.partss,List.length_cons];have:=parts_len ts;have:=parts_pos t;omega
theorem part_mem:∀ {ts:List T} {t:T},t∈ts→t.parts≤T.partss ts
  | u :: ts,t,h=>by
    rw [T.partss]
    rcases List.mem_cons.mp h with rfl | h
    · omega
    · have:=part_mem h;omega
noncomputable def spSame (n:Nat):Sp:=fun vs H Q _=>∃ v u t,vs = [v,u]∧IsTr H t v∧IsTr H t u∧t.parts≤1000∧t.depth≤n∧Q (.bl true) H
theorem ok_same (B:Blt mg) (D:Def K mg "_law_same" s_same ["_law_found", "_law_due"]):∀ n,Has P w K mg base n "_law_same" ["_law_found", "_law_due"] (spSame n)
  | 0=>by
    obtain ⟨fa,fd,F,hm,hb⟩:=D.ex
    have no:∀ vs H Q E, ¬ spSame 0 vs H Q E:=fun vs H Q E h=>by
      obtain ⟨v,u,t,_,_,_,_,z,_⟩:=h
      have:=depth_pos t
      omega
    exact ⟨fa,fd,⟨fun vs H Q E h=>absurd h (no vs H Q E),fun A outer s H args us vs Q E _ _ _ _ h=>absurd h (no vs H Q E)⟩,hm,F.kp,hb⟩
  | n+1=>by
    have h_same:=ok_same B D n
    refine D.has sc_same (fun vs H Q E h => ?_) (fun f cdv A outer s H vs Q E hr h => ?_)
    · obtain ⟨v,u,t,rfl,_⟩:=h;rfl
    obtain ⟨v,u,t,rfl,hT,hU,hok,hd,q⟩:=h
    refine ⟨_,(pss_cons (ps_if (PW.pt (pw_or (pt_not (pt_val (pe_callB call_isT rfl B.isinstance_ boot_isinstance_ (pa_cons (pv 0) (pa_cons (pe_bltn (v := .ty "tuple") rfl B.tuple_ boot_tuple_ rfl) pa_nil))))) (pw_or (pt_cmpR op_ne (pe_callB call_len_seq rfl B.len_ PySem.boot_len (pa_cons (pv 0) pa_nil)) (pe_callB call_len_seq rfl B.len_ PySem.boot_len (pa_cons (pv 1) pa_nil)) (nomark _)) (pw_or1 (pt_cmpR op_ne (pe_ix ix_tup (pv 0) pe_int (fun _ _=>rfl)) (pe_ix ix_tup (pv 1) pe_int (fun _ _=>rfl)) (nomark _)))))) (pss_one (ps_ret pe_bl)) pss_nil)
    (pss_cons (ps_if (pt_cmpR op_eq (pe_ix ix_tup (pv 1) pe_int (fun _ _=>rfl)) pe_str (nomark _)) (pss_cons (ps_set (i:=2) sc_same.nd rfl (Or.inl rfl) (pe_ix ix_tup (pv 0) pe_int (fun _ _=>rfl)))
    (pss_one (ps_ret (pe_and (pe_callB call_isT rfl B.isinstance_ boot_isinstance_ (pa_cons (pv 2) (pa_cons (pe_bltn (v := .ty "int") rfl B.int_ boot_int_ rfl) pa_nil))) (pe_and (pe_not (pe_callB call_isT rfl B.isinstance_ boot_isinstance_ (pa_cons (pv 2) (pa_cons (pe_bltn (v := .ty "bool") rfl B.bool_ boot_bool_ rfl) pa_nil)))) (pe_one (pe_cmpR op_eq (pv 2) (pe_ix ix_tup (pv 1) pe_int (fun _ _=>rfl)) (nomark _)))))))) pss_nil)
    (pss_cons (ps_if (PW.pt (pw_or (pt_not (pt_val (pe_callB call_isT rfl B.isinstance_ boot_isinstance_ (pa_cons (pe_ix ix_tup (pv 0) pe_int (fun _ _=>rfl)) (pa_cons (pe_bltn (v := .ty "str") rfl B.str_ boot_str_ rfl) pa_nil))))) (pw_or1 (pt_cmpR op_ne (pe_ix ix_tup (pv 0) pe_int (fun _ _=>rfl)) (pe_ix ix_tup (pv 1) pe_int (fun _ _=>rfl)) (nomark _))))) (pss_one (ps_ret pe_bl)) pss_nil)
    (pss_cons (ps_if (pt_cmpR op_ne (pe_ix ix_tup (pv 1) pe_int (fun _ _=>rfl)) pe_str (nomark _)) (pss_one (ps_ret pe_bl)) pss_nil)
    (pss_cons (ps_if (PW.pt (pw_or (pt_not (pt_val (pe_callB call_isT rfl B.isinstance_ boot_isinstance_ (pa_cons (pe_ix ix_tup (pv 0) pe_int (fun _ _=>rfl)) (pa_cons (pe_bltn (v := .ty "tuple") rfl B.tuple_ boot_tuple_ rfl) pa_nil))))) (pw_or1 (pt_cmpR op_ne (pe_callB call_len_seq rfl B.len_ PySem.boot_len (pa_cons (pe_ix ix_tup (pv 0) pe_int (fun _ _=>rfl)) pa_nil)) (pe_callB call_len_seq rfl B.len_ PySem.boot_len (pa_cons (pe_ix ix_tup (pv 1) pe_int (fun _ _=>rfl)) pa_nil)) (nomark _))))) (pss_one (ps_ret pe_bl)) pss_nil)
    (pss_cons (ps_for PassesOwn.never rfl (pi_range1 rfl B.range_ (pa_cons (pe_callB call_len_seq rfl B.len_ PySem.boot_len (pa_cons (pe_ix ix_tup (pv 1) pe_int (fun _ _=>rfl)) pa_nil)) pa_nil)) (pg_name (i:=3) sc_same.nd rfl (Or.inl rfl))
    (pss_one (ps_if (pt_not (pt_val (pe_callH h_same hr (by omega) rfl (pa_cons (pe_ix ix_tup (pe_ix ix_tup (pv 0) pe_int (fun _ _=>rfl)) (pv 3) (fun _ _=>rfl)) (pa_cons (pe_ix ix_tup (pe_ix ix_tup (pv 1) pe_int (fun _ _=>rfl)) (pv 3) (fun _ _=>rfl)) pa_nil))))) (pss_one (ps_ret pe_bl)) pss_nil)))
    (pss_one (ps_ret pe_bl)))))))),?_⟩
    try dsimp only [cxOf]
    cases t with
    | num k =>
      rw [IsTr] at hT hU
      obtain ⟨a1,rfl,h1⟩:=hT
      obtain ⟨a2,rfl,h2⟩:=hU
      refine ⟨_,rfl,_,_,_,true,rfl,.tup h1,kit_tt,_,rfl,iteF ?_⟩
      refine ⟨_,rfl,a1,_,rfl,.inr (SqT.of h1),_,rfl,a2,_,rfl,.inr (SqT.of h2),rfl,_,rfl,iteDN (fun z=>absurd rfl z) (fun _ => ?_)⟩
      refine ⟨_,rfl,a1,_,0,_,rfl,rfl,SqT.of h1,atI_nat (j:=0) rfl,_,rfl,a2,_,0,_,rfl,rfl,SqT.of h2,atI_nat (j:=0) rfl,rfl,_,rfl,iteDN (fun z=>absurd rfl z) (fun _ => ?_)⟩
      refine ⟨_,rfl,a2,_,0,_,rfl,rfl,SqT.of h2,atI_nat (j:=0) rfl,rfl,_,rfl,iteD (fun _ => ?_) (fun z=>absurd rfl z)⟩
      refine ⟨_,rfl,a1,_,1,_,rfl,rfl,SqT.of h1,atI_nat (j:=1) rfl,?_⟩
      refine ⟨_,rfl,_,_,_,true,rfl,.int _,kit_ii,_,rfl,iteT ?_⟩
      refine ⟨_,rfl,_,_,_,false,rfl,.int _,kit_ib,_,rfl,_,rfl,iteT ?_⟩
      refine ⟨_,rfl,_,rfl,a2,_,1,_,rfl,rfl,SqT.of h2,atI_nat (j:=1) rfl,rfl,?_⟩
      rw [decide_eq_true rfl]
      exact q
    | name x =>
      rw [IsTr] at hT hU
      obtain ⟨a1,rfl,h1⟩:=hT
      obtain ⟨a2,rfl,h2⟩:=hU
      refine ⟨_,rfl,_,_,_,true,rfl,.tup h1,kit_tt,_,rfl,iteF ?_⟩
      refine ⟨_,rfl,a1,_,rfl,.inr (SqT.of h1),_,rfl,a2,_,rfl,.inr (SqT.of h2),rfl,_,rfl,iteDN (fun z=>absurd rfl z) (fun _ => ?_)⟩
      refine ⟨_,rfl,a1,_,0,_,rfl,rfl,SqT.of h1,atI_nat (j:=0) rfl,_,rfl,a2,_,0,_,rfl,rfl,SqT.of h2,atI_nat (j:=0) rfl,rfl,_,rfl,iteDN (fun z=>absurd rfl z) (fun _ => ?_)⟩
      refine ⟨_,rfl,a2,_,0,_,rfl,rfl,SqT.of h2,atI_nat (j:=0) rfl,rfl,_,rfl,iteD (fun z=>absurd (V.str.inj z) (by decide)) (fun _ => ?_)⟩
      refine ⟨_,rfl,a1,_,1,_,rfl,rfl,SqT.of h1,atI_nat (j:=1) rfl,_,_,_,true,rfl,.str _,kit_ss,_,rfl,iteF ?_⟩
      refine ⟨_,rfl,a1,_,1,_,rfl,rfl,SqT.of h1,atI_nat (j:=1) rfl,_,rfl,a2,_,1,_,rfl,rfl,SqT.of h2,atI_nat (j:=1) rfl,rfl,_,rfl,iteDN (fun z=>absurd rfl z) (fun _ => ?_)⟩
      exact ⟨_,rfl,a2,_,0,_,rfl,rfl,SqT.of h2,atI_nat (j:=0) rfl,rfl,_,rfl,iteDN (fun _=>q) (fun z=>absurd (V.str.inj z) (by decide))⟩
    | any x =>
      rw [IsTr] at hT hU
      obtain ⟨a1,rfl,h1⟩:=hT
      obtain ⟨a2,rfl,h2⟩:=hU
      refine ⟨_,rfl,_,_,_,true,rfl,.tup h1,kit_tt,_,rfl,iteF ?_⟩
      refine ⟨_,rfl,a1,_,rfl,.inr (SqT.of h1),_,rfl,a2,_,rfl,.inr (SqT.of h2),rfl,_,rfl,iteDN (fun z=>absurd rfl z) (fun _ => ?_)⟩
      refine ⟨_,rfl,a1,_,0,_,rfl,rfl,SqT.of h1,atI_nat (j:=0) rfl,_,rfl,a2,_,0,_,rfl,rfl,SqT.of h2,atI_nat (j:=0) rfl,rfl,_,rfl,iteDN (fun z=>absurd rfl z) (fun _ => ?_)⟩
      refine ⟨_,rfl,a2,_,0,_,rfl,rfl,SqT.of h2,atI_nat (j:=0) rfl,rfl,_,rfl,iteD (fun z=>absurd (V.str.inj z) (by decide)) (fun _ => ?_)⟩
      refine ⟨_,rfl,a1,_,1,_,rfl,rfl,SqT.of h1,atI_nat (j:=1) rfl,_,_,_,true,rfl,.str _,kit_ss,_,rfl,iteF ?_⟩
      refine ⟨_,rfl,a1,_,1,_,rfl,rfl,SqT.of h1,atI_nat (j:=1) rfl,_,rfl,a2,_,1,_,rfl,rfl,SqT.of h2,atI_nat (j:=1) rfl,rfl,_,rfl,iteDN (fun z=>absurd rfl z) (fun _ => ?_)⟩
      exact ⟨_,rfl,a2,_,0,_,rfl,rfl,SqT.of h2,atI_nat (j:=0) rfl,rfl,_,rfl,iteDN (fun _=>q) (fun z=>absurd (V.str.inj z) (by decide))⟩
    | of x ts =>
      rw [IsTr] at hT hU
      rw [T.depth] at hd
      rw [T.parts] at hok
      have h4:=parts_len ts
      obtain ⟨a1,b1,vs1,rfl,h1,k1,tr1⟩:=hT
      obtain ⟨a2,b2,vs2,rfl,h2,k2,tr2⟩:=hU
      have l1:=trs_len tr1
      have l2:=trs_len tr2
      refine ⟨_,rfl,_,_,_,true,rfl,.tup h1,kit_tt,_,rfl,iteF ?_⟩
      refine ⟨_,rfl,a1,_,rfl,.inr (SqT.of h1),_,rfl,a2,_,rfl,.inr (SqT.of h2),rfl,_,rfl,iteDN (fun z=>absurd rfl z) (fun _ => ?_)⟩
      refine ⟨_,rfl,a1,_,0,_,rfl,rfl,SqT.of h1,atI_nat (j:=0) rfl,_,rfl,a2,_,0,_,rfl,rfl,SqT.of h2,atI_nat (j:=0) rfl,rfl,_,rfl,iteDN (fun z=>absurd rfl z) (fun _ => ?_)⟩
      refine ⟨_,rfl,a2,_,0,_,rfl,rfl,SqT.of h2,atI_nat (j:=0) rfl,rfl,_,rfl,iteD (fun z=>absurd (V.str.inj z) (by decide)) (fun _ => ?_)⟩
      refine ⟨_,rfl,a1,_,1,_,rfl,rfl,SqT.of h1,atI_nat (j:=1) rfl,_,_,_,true,rfl,.str _,kit_ss,_,rfl,iteF ?_⟩
      refine ⟨_,rfl,a1,_,1,_,rfl,rfl,SqT.of h1,atI_nat (j:=1) rfl,_,rfl,a2,_,1,_,rfl,rfl,SqT.of h2,atI_nat (j:=1) rfl,rfl,_,rfl,iteDN (fun z=>absurd rfl z) (fun _ => ?_)⟩
      refine ⟨_,rfl,a2,_,0,_,rfl,rfl,SqT.of h2,atI_nat (j:=0) rfl,rfl,_,rfl,iteDN (fun z=>absurd rfl z) (fun _ => ?_)⟩
      refine ⟨_,rfl,a1,_,2,_,rfl,rfl,SqT.of h1,atI_nat (j:=2) rfl,_,_,_,true,rfl,.tup k1,kit_tt,_,rfl,iteF ?_⟩
      refine ⟨_,rfl,a1,_,2,_,rfl,rfl,SqT.of h1,atI_nat (j:=2) rfl,b1,_,rfl,.inr (SqT.of k1),_,rfl,a2,_,2,_,rfl,rfl,SqT.of h2,atI_nat (j:=2) rfl,b2,_,rfl,.inr (SqT.of k2),rfl,_,rfl,iteDN (fun z=>absurd (by rw [← l1, ← l2]) z) (fun _ => ?_)⟩
      refine ⟨_,rfl,a2,_,2,_,rfl,rfl,SqT.of h2,atI_nat (j:=2) rfl,b2,_,rfl,.inr (SqT.of k2),_,rfl,by omega,by omega,?_⟩
      refine for_range (fun i σ H'=>∃ o, σ = [some (.ref a1),some (.ref a2),none,o]∧H'=H) ⟨none,rfl,rfl⟩ ?_ ?_
      · rintro i σ H' hi ⟨o,rfl,rfl⟩
        have hi':i < vs2.length:=by omega
        have hi1:i < vs1.length:=by omega
        obtain ⟨t1,e1,z1⟩:=trs_at tr1 (List.getElem?_eq_getElem hi1)
        obtain ⟨t2,e2,z2⟩:=trs_at tr2 (List.getElem?_eq_getElem hi')
        rw [e1] at e2
        cases e2
        have hmem:=List.mem_of_getElem? e1
        have d1:=deepest_le hmem
        have ei:(0:Int)+(i:Int)=((i:Nat):Int):=by omega
        refine ⟨_,rfl,a1,_,2,_,rfl,rfl,SqT.of h1,atI_nat (j:=2) rfl,_,rfl,b1,_,_,vs1[i],rfl,rfl,SqT.of k1,by rw [ei];exact atI_nat (List.getElem?_eq_getElem hi1),?_⟩
        refine ⟨_,rfl,a2,_,2,_,rfl,rfl,SqT.of h2,atI_nat (j:=2) rfl,_,rfl,b2,_,_,vs2[i],rfl,rfl,SqT.of k2,by rw [ei];exact atI_nat (List.getElem?_eq_getElem hi'),?_⟩
        exact ⟨_,_,t1,rfl,z1,z2,(by have:=part_mem hmem;omega),by omega,_,rfl,iteF ⟨_,rfl,rfl⟩⟩
      · rintro σ H' ⟨o,rfl,rfl⟩
        exact q
end

end K06
namespace K06
open PySem L2 Sw
section
variable {P:Program} {w:World} {K:PySem.W.Frag} {mg:Str→Option Value} {base:Heap}
theorem comp_rangeP {β : Type} {R:Hp→V → β → Prop} {n:Nat} {lo:Int} {g:Nat → β} {te:TE} {σ : St} {caps:List (Str × Nat)} {H:Hp} {Q:VK} (kp:∀ (H H':Hp) v b,(∀ c ys,H c=some (.tup ys)→H' c=some (.tup ys))→R H v b→R H' v b) (hz:n≤1000)
    (hel:∀ (i:Nat),i < n→∀ H',Same H H'→∀ Q':VK,(∀ y H'',Same H' H''→R H'' y (g i)→Q' y H'')→te (some (.int (lo+i)) :: capt σ caps) H' Q')
    (hq:∀ D H' ys,H D=none→Same H H'→H' D=some (.lst ys)→Paired (R H') ys ((List.range n).map g)→Q (.ref D) H') :
    CompBody (Itr lo n) (gName 0) te (List.replicate 1 none ++ capt σ caps) H Q:=by
  intro D hD
  refine ⟨fun i m τ zs H'=>m=n - i∧i≤n∧(∃ o, τ = o :: capt σ caps)∧Paired (R H') zs ((List.range i).map g)∧Same H H'∧H' D=some (.lst zs),⟨n,by simp,Nat.zero_le _,⟨none,rfl⟩,.nil,same_new hD _,upd_same⟩,?_⟩
  rintro i m τ zs H' ⟨rfl,hi,⟨o,rfl⟩,hzs,sm,hDl⟩
  refine ⟨hDl,?_⟩
  have hlz:=Paired.length hzs
  rw [List.length_map,List.length_range] at hlz
  by_cases hlt:i < n
  · refine .inr ⟨hlt,small1000 (by omega),fun x H'' y => ?_⟩
    obtain ⟨e,y⟩:=y
    subst e y
    show te (some (.int (lo+i)) :: capt σ caps) _ _
    refine hel i hlt _ sm _ (fun v H2 s2 hv => ?_)
    have hD2:=s2 _ _ hDl
    have k2:∀ b ys,H2 b=some (.tup ys)→(upd H2 D (.lst (zs ++ [v]))) b=some (.tup ys):=fun b ys e=>by rw [upd_ne (ne_of e hD2 (fun z=>nomatch z))];exact e
    refine ⟨hD2,n - (i+1),by omega,rfl,hlt,⟨_,rfl⟩,?_,(sm.trans s2).put hD,upd_same⟩
    rw [List.range_succ,List.map_append]
    exact Paired.snoc (Paired.mapP hzs fun v b r=>kp _ _ v b k2 (kp _ _ v b (fun c ys=>s2 _ _) r)) (kp _ _ _ _ k2 hv)
  · have e:i=n:=by omega
    subst e
    exact .inl ⟨Nat.le_refl _,hq D H' zs hD sm hDl hzs⟩
noncomputable def putL {α : Type} (k:Nat) (x : α) (l:List α):List α := l.take k ++ x :: l.drop k
theorem put_len {α : Type} {k:Nat} {x : α} {l:List α}:(putL k x l).length=l.length+1:=by
  unfold putL
  rw [List.length_append,List.length_cons,List.length_take,List.length_drop]
  omega
theorem put_mem {α : Type} {k:Nat} {x y : α} {l:List α} (h:y∈putL k x l):y=x∨y∈l:=by
  rcases List.mem_append.mp h with h | h
  · exact .inr (List.mem_of_mem_take h)
  · exact (List.mem_cons.mp h).imp_right List.mem_of_mem_drop
theorem put_in {α : Type} {k:Nat} {x : α} {l:List α}:x∈putL k x l:=List.mem_append_right _ List.mem_cons_self
theorem rws_put {H:Hp} {us:List V} {rs:List Rw} {v:V} {r:Rw} (k:Nat) (h:Rws H us rs) (hv:RwAt H v r):Rws H (us.take k ++ v :: us.drop k) (putL k r rs):=paired_app (paired_take k h) (.cons hv (paired_drop k h))
theorem partss_app:∀ (a b:List T),T.partss (a ++ b)=T.partss a+T.partss b
  | [],b=>by rw [List.nil_append,T.partss,Nat.zero_add]
  | t :: a,b=>by rw [List.cons_append,T.partss,T.partss,partss_app a b];omega
noncomputable def prs (rs:List Rw):Nat:=T.partss (rs.map Rw.t)
theorem prs_app (a b:List Rw):prs (a ++ b)=prs a+prs b:=by unfold prs;rw [List.map_append,partss_app]
theorem prs_cons (r:Rw) (a:List Rw):prs (r :: a)=r.t.parts+prs a:=by unfold prs;rw [List.map_cons,T.partss]
theorem prs_nil:prs []=0:=by unfold prs;rw [List.map_nil,T.partss]
theorem prs_cut (n:Nat) (rs:List Rw):prs (rs.take n)+prs (rs.drop n)=prs rs:=by rw [← prs_app,List.take_append_drop]
theorem prs_put {k:Nat} {r:Rw} {rs:List Rw}:prs (putL k r rs)=r.t.parts+prs rs:=by
  have:=prs_cut k rs
  unfold putL
  rw [prs_app,prs_cons]
  omega
theorem join_parts {x:Str} {rs:List Rw}:(joinRw x rs).t.parts=1+prs rs:=by
  show (T.of x (rs.map Rw.t)).parts=_
  rw [T.parts];rfl
noncomputable def nmR (x:Str):Rw:=⟨.name x,x,1⟩
theorem good_nm {x:Str} (h:IsW x):GoodR (nmR x):=⟨by show (T.name x).Ok;rw [T.Ok];exact h,by show x=(T.name x).shown;rw [T.shown],by show 1=(T.name x).depth;rw [T.depth]⟩
theorem nm_parts {x:Str}:(nmR x).t.parts=1:=by show (T.name x).parts=1;rw [T.parts]
noncomputable def Nms (rs:List Rw):Prop := ∀ r∈rs,∃ x,r=nmR x∧IsW x
theorem Nms.good {rs:List Rw} (h:Nms rs):∀ r∈rs,GoodR r:=fun r hr=>by
  obtain ⟨x,rfl,hx⟩:=h r hr
  exact good_nm hx
theorem Nms.prs:∀ {rs:List Rw},Nms rs→prs rs=rs.length
  | [],_=>prs_nil
  | r :: rs,h=>by
    obtain ⟨x,rfl,hx⟩:=h r List.mem_cons_self
    rw [prs_cons,nm_parts,Nms.prs fun u hu=>h u (List.mem_cons_of_mem _ hu),List.length_cons]
    omega
theorem Nms.map {n:Nat} {g:Nat→Str} (h:∀ i,IsW (g i)):Nms ((List.range n).map fun i=>nmR (g i)):=fun r hr=>by
  obtain ⟨i,_,rfl⟩:=List.mem_map.mp hr
  exact ⟨_,rfl,h i⟩
theorem Nms.snoc {rs:List Rw} {x:Str} (h:Nms rs) (hx:IsW x):Nms (rs ++ [nmR x]):=fun r hr=>(List.mem_append.mp hr).elim (h r) fun z=>⟨x,List.mem_singleton.mp z,hx⟩
theorem good_len {r:Rw} (h:GoodR r):r.s.length≤70 * r.t.parts:=by
  have:=shown_len r.t h.ok
  rw [h.sh]
  omega
theorem rw_at {H:Hp} {p:Addr} {r:Rw} (h:RwAt H (.ref p) r):∃ tv,H p=some (.tup [tv,.str r.s,.int (r.d:Int)])∧IsTr H r.t tv:=by
  obtain ⟨b,tv,e,h1,h2⟩:=h
  cases e
  exact ⟨tv,h1,h2⟩
structure FinR (r:Rw) (g:Bool):Prop where
  len:r.s.length≤100000
  good:g=true→GoodR r∧r.t.parts≤120∧r.t.depth≤30
  bad:g=false→∀ b t,pTree b 30 r.s.cps.toList=some (t, [])→120 < t.parts
inductive SpGen (K:PySem.W.Frag) (Z:Rw→Bool→Prop) (vs:List V) (H:Hp) (Q:VK):Prop
  | mk (a:Addr) (ns:List Int) (c:Int) (ev:vs = [.ref a,.int c]) (hS:SqL K H a (ns.map V.int)) (h0:0≤c) (q:∀ p d r g H',Same H H'→H' p=some (.tup [.ref d,.bl g])→RwAt H' (.ref d) r→Z r g→Q (.ref p) H'):SpGen K Z vs H Q
noncomputable def spGen (K:PySem.W.Frag) (Z:Rw→Bool→Prop):Sp:=fun vs H Q _=>SpGen K Z vs H Q
end

section
variable {P:Program} {w:World} {K:PySem.W.Frag} {mg:Str→Option Value} {base:Heap}
structure DeepR (i:Nat) (r:Rw):Prop where
  ok:GoodR r
  d:r.d=1+i
  p:r.t.parts≤1+3 * i
theorem deep_step {x:Str} {rs:List Rw} {r:Rw} {k i:Nat} (hx:IsW x) (h:DeepR i r) (hs:Nms rs) (h2:rs.length≤2):DeepR (i+1) (joinRw x (putL k r rs)):=by
  have hg:∀ u∈putL k r rs,GoodR u:=fun u hu=>(put_mem hu).elim (fun e=>e ▸ h.ok) (hs.good u)
  refine ⟨good_join hx (by rw [put_len];omega) (by rw [put_len];omega) hg,?_,?_⟩
  · show 1+deepM ((putL k r rs).map Rw.d)=_
    have z1:=deepM_mem (List.mem_map_of_mem (f:=Rw.d) (put_in (k:=k) (x:=r) (l:=rs)))
    have z2:deepM ((putL k r rs).map Rw.d)≤r.d:=deepM_is fun d hd=>by
      obtain ⟨u,hu,rfl⟩:=List.mem_map.mp hd
      rcases put_mem hu with rfl | hu
      · exact Nat.le_refl _
      · obtain ⟨y,rfl,_⟩:=hs u hu
        show 1≤r.d
        rw [h.d];omega
    have:=h.d
    omega
  · rw [join_parts,prs_put,hs.prs]
    have:=h.p
    omega
theorem deep_fin {n:Nat} {r:Rw} (h:DeepR n r) (hn:n≤32):FinR r (decide ((r.d:Int)≤30)):=by
  have hp:=h.p
  have hl:=good_len h.ok
  refine ⟨by omega,fun z=>⟨h.ok,by omega,?_⟩,fun z b t e => ?_⟩
  · have:=of_decide_eq_true z
    rw [← h.ok.dp]
    omega
  · have:=of_decide_eq_false z
    rw [h.ok.sh] at e
    obtain ⟨rfl,d⟩:=pt_one h.ok.ok e
    rw [← h.ok.dp] at d
    omega
inductive DpI (H:Hp) (a:Addr) (c:Int) (i:Nat) (σ : St) (H':Hp):Prop
  | mk (p:Addr) (r:Rw) (x3 x4 x5:Option V) (e : σ = [some (.ref a),some (.int c),some (.ref p),x3,x4,x5]) (sm:Same H H') (hr:RwAt H' (.ref p) r) (g:DeepR i r):DpI H a c i σ H'
theorem ok_deep (B:Blt mg) (h_cell_at:Has P w K mg base 1 "_law_cell_at" ["_law_script", "_law_k"] (spCell K)) (h_mixed:Has P w K mg base 1 "_law_mixed" ["_law_cell", "_law_k"] spMixed) (h_word:Has P w K mg base 1 "_law_word" ["_law_m"] spWord) (h_named:Has P w K mg base 1 "_law_named" ["_law_word_here"] spNamed) (h_joined:Has P w K mg base 1 "_law_joined" ["_law_word_here", "_law_rows"] (spJoined K))
    (D:Def K mg "_law_deep" s_deep ["_law_script", "_law_first"]):Has P w K mg base 2 "_law_deep" ["_law_script", "_law_first"] (spGen K FinR):=by
  refine D.has sc_deep (fun vs H Q E h => ?_) (fun f cdv A outer s H vs Q E hr h => ?_)
  · obtain ⟨a,ns,c,rfl,_⟩:=h;rfl
  obtain ⟨a,ns,c,rfl,hS,h0,q⟩:=h
  refine ⟨_,(pss_cons (ps_set (i:=2) sc_deep.nd rfl (Or.inl rfl) (pe_callH h_named hr (by omega) rfl (pa_cons (pe_callH h_word hr (by omega) rfl (pa_cons (pv 1) pa_nil)) pa_nil)))
    (pss_cons (ps_for PassesOwn.never rfl (pi_range1 rfl B.range_ (pa_cons (pe_op op_add pe_int (pe_op op_mod (pe_op op_fdiv (pv 1) pe_int) pe_int)) pa_nil)) (pg_name (i:=3) sc_deep.nd rfl (Or.inl rfl))
    (pss_cons (ps_set (i:=4) sc_deep.nd rfl (Or.inr rfl) (pe_callH h_mixed hr (by omega) rfl (pa_cons (pe_callH h_cell_at hr (by omega) rfl (pa_cons (pv 0) (pa_cons (pe_op op_add pe_int (pv 3)) pa_nil))) (pa_cons (pv 3) pa_nil))))
    (pss_cons (ps_setComp (i:=5) sc_deep.nd rfl rfl (te:=(tCall _ _ _ (tCons (tCall _ _ _ (tCons (tOp _ _ _) tNil)) tNil))) (own := ["_law_j"]) (caps := [("_law_m",4)]) (comp_scope (defScope s_deep) ["_law_script", "_law_first", "_law_row", "_law_k", "_law_m", "_law_rows"] rfl rfl rfl (by decide +kernel)) (pi_range1 rfl B.range_ (pa_cons (pe_op op_mod (pv 4) pe_int) pa_nil)) rfl (fun _ _ _=>pg_name (i:=0) (show (["_law_j", "_law_m"]:List Str).Nodup by decide +kernel) rfl (Or.inl rfl)) (fun _ _ _=>(pe_callH h_named hr (by omega) rfl (pa_cons (pe_callH h_word hr (by omega) rfl (pa_cons (pe_op op_fdiv (pv 1) pe_int) pa_nil)) pa_nil))) rfl)
    (pss_cons (ps_expr (pe_bm PySem.F.plainAttrs_list PySem.F.slot_list_insert PySem.F.type_list_insert mt_insert (pv 5) (pa_cons (pe_op op_mod (pe_op op_fdiv (pv 4) pe_int) (pe_op op_add (pe_callB call_len_seq rfl B.len_ PySem.boot_len (pa_cons (pv 5) pa_nil)) pe_int)) (pa_cons (pv 2) pa_nil))))
    (pss_one (ps_set (i:=2) sc_deep.nd rfl (Or.inl rfl) (pe_callH h_joined hr (by omega) rfl (pa_cons (pe_callH h_word hr (by omega) rfl (pa_cons (pe_op op_fdiv (pv 4) pe_int) pa_nil)) (pa_cons (pv 5) pa_nil)))))))))
    (pss_one (ps_ret (pe_tup (pa_cons (pv 2) (pa_cons (pe_cmpR op_le (pe_ix ix_tup (pv 2) pe_int (fun _ _=>rfl)) pe_int (nomark _)) pa_nil))))))),?_⟩
  try dsimp only [cxOf]
  have c0:=Int.emod_nonneg (c / 5) (show (7:Int)≠0 by decide)
  have c1:=Int.emod_lt_of_pos (c / 5) (show (0:Int) < 7 by decide)
  refine ⟨_,rfl,_,rfl,SpNamed.mk _ rfl fun p0 H1 s1 hr1 => ?_⟩
  refine ⟨_,rfl,_,_,rfl,rfl,div',_,_,rfl,rfl,pos',_,_,rfl,rfl,_,rfl,by omega,by omega,?_⟩
  refine for_range (DpI H a c) (DpI.mk p0 (nmR (wordOf c)) none none none rfl s1 hr1 ⟨good_nm (wordOf_ok c),rfl,by rw [nm_parts];omega⟩) ?_ ?_
  · rintro i σ H2 hi ⟨p,r,x3,x4,x5,rfl,s2,hr2,g⟩
    dsimp only [gName]
    refine ⟨_,rfl,_,rfl,_,_,rfl,rfl,a,ns,_,rfl,s2.seq hS,by omega,fun z1=>⟨_,rfl,z1,_,rfl,by omega,by omega,fun m m0 m1 => ?_⟩⟩
    have r0:=Int.emod_nonneg m (show (3:Int)≠0 by decide)
    have r1:=Int.emod_lt_of_pos m (show (0:Int) < 3 by decide)
    refine ⟨_,rfl,_,_,rfl,rfl,pos',_,rfl,by omega,by omega,?_⟩
    have hn:(m % 3).toNat≤2:=by omega
    generalize (m % 3).toNat=n at hn ⊢
    refine comp_rangeP (R:=RwAt) (g:=fun _=>nmR (wordOf (m / 30))) (fun Ha Hb v b kt hr=>hr.keep kt) (by omega) (fun j hj H3 sm Q' q' => ?_) (fun D1 H3 us hD1 s3 hD3 pr => ?_)
    · exact ⟨_,rfl,_,_,rfl,rfl,div',_,rfl,SpNamed.mk _ rfl fun r H' s hr=>q' _ _ s hr⟩
    have nms:Nms ((List.range n).map fun _=>nmR (wordOf (m / 30))):=Nms.map fun _=>wordOf_ok _
    have hll:((List.range n).map fun _=>nmR (wordOf (m / 30))).length=n:=by rw [List.length_map,List.length_range]
    generalize ((List.range n).map fun _=>nmR (wordOf (m / 30)))=rs at nms hll pr
    have hul:=Paired.length pr
    have hr3:=hr2.same s3
    have pz:(0:Int) < ((us.length:Nat):Int)+1:=by omega
    have k0:=Int.emod_nonneg (m / 3) (show ((us.length:Nat):Int)+1≠0 by omega)
    have k1:=Int.emod_lt_of_pos (m / 3) pz
    generalize hj:m / 3 % (((us.length:Nat):Int)+1)=j at k0 k1
    obtain ⟨k,rfl⟩:=Int.eq_ofNat_of_zero_le k0
    have hk:k≤us.length:=by omega
    have kp:∀ b xs,H3 b=some (.tup xs)→(upd H3 D1 (.lst (us.take k ++ .ref p :: us.drop k))) b=some (.tup xs):=fun b xs e=>by rw [upd_ne (ne_of e hD3 (fun z=>nomatch z))];exact e
    refine ⟨_,rfl,.inl ⟨rfl,_,SqL.of hD3⟩,_,rfl,_,_,rfl,rfl,div',_,rfl,D1,_,rfl,.inl (SqL.of hD3),_,_,rfl,rfl,_,_,rfl,rfl,pz,_,rfl,D1,us,_,k,.ref p,rfl,rfl,hj,hD3,hk,by omega,?_⟩
    have pk:=rws_put k (rws_keep kp pr) (hr3.keep kp)
    have hp:=g.p
    have hl:=good_len g.ok
    refine ⟨_,rfl,_,_,rfl,rfl,div',_,rfl,_,rfl,SpJoined.mk (wordOf (m / 9)) D1 _ (putL k r rs) rfl (by have:=(wordOf_ok (m / 9)).2.1;omega) (SqL.of upd_same) pk (by rw [put_len];omega) (by rw [put_len];omega) (fun u hu => ?_) fun t H4 s4 hr4 => ?_⟩
    · rcases put_mem hu with rfl | hu
      · omega
      · obtain ⟨y,rfl,hy⟩:=nms u hu
        show y.length≤100000
        have:=hy.2.1
        omega
    exact DpI.mk t _ _ _ _ rfl (s2.trans ((s3.put hD1).trans s4)) hr4 (deep_step (wordOf_ok _) g nms (by omega))
  · rintro σ H2 ⟨p,r,x3,x4,x5,rfl,s2,hr2,g⟩
    obtain ⟨tv,h1,h2⟩:=rw_at hr2
    refine ⟨_,rfl,_,rfl,p,_,2,_,rfl,rfl,SqT.of h1,atI_nat (j:=2) rfl,_,_,rfl,rfl,(show 2≤sizeLine by decide),fun t ht => ?_⟩
    exact q t p r _ _ (s2.trans (same_new ht _)) upd_same (hr2.same (same_new ht _)) (deep_fin g (by omega))
end

end K06
namespace K06
open PySem L2 Sw
section
variable {P:Program} {w:World} {K:PySem.W.Frag} {mg:Str→Option Value} {base:Heap}
theorem many_4 (n:Nat):many3 0 (n:Int) 4=(n+3) / 4:=by
  unfold many3 Builtin.Range.rangeSize
  simp only [show (4:Int) > 0 by decide,if_true]
  split <;> omega
theorem cut_rows {H:Hp} {us:List V} {rs:List Rw} {i:Nat} (h:Rws H us rs) (hi:4 * i < us.length) :
    ∃ v r t rt,cutV us (some (0+(i:Int) * 4)) (some (0+(i:Int) * 4+4))=v :: r∧(rs.drop (4 * i)).take 4=t :: rt∧Rws H (v :: r) (t :: rt)∧r.length+1=min 4 (us.length - 4 * i):=by
  have e1:(0+(i:Int) * 4)=((4 * i:Nat):Int):=by omega
  have e2:(0+(i:Int) * 4+4)=((4 * i+4:Nat):Int):=by omega
  have ec:cutV us (some (0+(i:Int) * 4)) (some (0+(i:Int) * 4+4))=(us.drop (4 * i)).take 4:=by
    unfold cutV
    rw [e2,e1,HT.sIx_nat,HT.sIx_nat]
    have f1:min (4 * i) us.length=4 * i:=by omega
    rw [f1]
    by_cases z:4 * i+4≤us.length
    · rw [show min (4 * i+4) us.length - 4 * i=4 by omega]
    · rw [List.take_of_length_le (by rw [List.length_drop];omega),List.take_of_length_le (by rw [List.length_drop];omega)]
  have hp:=paired_take 4 (paired_drop (4 * i) h)
  rw [ec]
  have hl:((us.drop (4 * i)).take 4).length=min 4 (us.length - 4 * i):=by rw [List.length_take,List.length_drop]
  generalize (us.drop (4 * i)).take 4=a at hp hl
  generalize (rs.drop (4 * i)).take 4=b at hp
  cases hp with
  | nil=>simp at hl;omega
  | @cons v t r rt z zs=>exact ⟨v,r,t,rt,rfl,rfl,.cons z zs,by rw [List.length_cons] at hl;omega⟩
theorem prs_next (rs:List Rw) (i:Nat):prs (rs.take (4 * (i+1)))=prs (rs.take (4 * i))+prs ((rs.drop (4 * i)).take 4):=by
  rw [← prs_app,show 4 * (i+1)=4 * i+4 by omega,List.take_add]
theorem prs_mem:∀ {rs:List Rw} {r:Rw},r∈rs→r.t.parts≤prs rs
  | u :: rs,r,h=>by
    rw [prs_cons]
    rcases List.mem_cons.mp h with rfl | h
    · omega
    · have:=prs_mem h;omega
noncomputable def Wst (l d m:Nat):Prop:=l=80∧d=1∧m=80∨l=20∧d=2∧m=100∨l=5∧d=3∧m=105∨l=2∧d=4∧m=106∨l=1∧d=5∧m=107
theorem wst_le {l d m:Nat} (h:Wst l d m):1≤l∧l≤80∧d≤5∧80≤m∧m≤107:=by
  rcases h with ⟨h1,h2,h3⟩ | ⟨h1,h2,h3⟩ | ⟨h1,h2,h3⟩ | ⟨h1,h2,h3⟩ | ⟨h1,h2,h3⟩ <;> exact ⟨by omega,by omega,by omega,by omega,by omega⟩
theorem wst_next {l d m:Nat} (h:Wst l d m) (h1:1 < l):Wst ((l+3) / 4) (d+1) (m+(l+2) / 4):=by
  rcases h with ⟨h2,h3,h4⟩ | ⟨h2,h3,h4⟩ | ⟨h2,h3,h4⟩ | ⟨h2,h3,h4⟩ | ⟨h2,h3,h4⟩
  · subst h2 h3 h4;exact .inr (.inl ⟨rfl,rfl,rfl⟩)
  · subst h2 h3 h4;exact .inr (.inr (.inl ⟨rfl,rfl,rfl⟩))
  · subst h2 h3 h4;exact .inr (.inr (.inr (.inl ⟨rfl,rfl,rfl⟩)))
  · subst h2 h3 h4;exact .inr (.inr (.inr (.inr ⟨rfl,rfl,rfl⟩)))
  · omega
theorem wst_one {l d m:Nat} (h:Wst l d m) (h1:¬ 1 < l):l=1∧d=5∧m=107:=by
  rcases h with ⟨h2,h3,h4⟩ | ⟨h2,h3,h4⟩ | ⟨h2,h3,h4⟩ | ⟨h2,h3,h4⟩ | ⟨h2,h3,h4⟩
  · omega
  · omega
  · omega
  · omega
  · exact ⟨h2,h3,h4⟩
structure WdR (d:Nat) (r:Rw):Prop where
  ok:GoodR r
  d:r.d≤d
theorem wd_join {x:Str} {d:Nat} {rs:List Rw} (hx:IsW x) (h1:1≤rs.length) (h4:rs.length≤4) (h:∀ r∈rs,WdR d r):WdR (d+1) (joinRw x rs):=by
  refine ⟨good_join hx h1 h4 fun r hr=>(h r hr).ok,?_⟩
  show 1+deepM (rs.map Rw.d)≤d+1
  have:deepM (rs.map Rw.d)≤d:=deepM_is fun e he=>by
    obtain ⟨r,hr,rfl⟩:=List.mem_map.mp he
    exact (h r hr).d
  omega
theorem wide_fin {m:Nat} {r:Rw} (h:WdR (m - 102) r) (hp:r.t.parts=m) (hm:m≤123):FinR r (decide ((m:Int)≤120)):=by
  have hl:=good_len h.ok
  have hd:=h.d
  refine ⟨by omega,fun z=>⟨h.ok,?_,?_⟩,fun z b t e => ?_⟩
  · have:=of_decide_eq_true z
    omega
  · rw [← h.ok.dp]
    omega
  · have:=of_decide_eq_false z
    rw [h.ok.sh] at e
    obtain ⟨rfl,_⟩:=pt_one h.ok.ok e
    omega
inductive WpI (H:Hp) (a A:Addr) (c:Int) (i:Nat) (σ : St) (H':Hp):Prop
  | mk (us:List V) (rs:List Rw) (x3:Option V) (e : σ = [some (.ref a),some (.int c),some (.ref A),x3,none,none,none,none]) (sm:Same H H') (hA:H' A=some (.lst us)) (hp:Rws H' us rs) (nm:Nms rs) (len:rs.length=i):WpI H a A c i σ H'
inductive WaI (K:PySem.W.Frag) (H:Hp) (a:Addr) (c:Int) (n:Nat) (σ : St) (H':Hp):Prop
  | mk (p:Addr) (us:List V) (rs:List Rw) (d m:Nat) (x3 x5 x6:Option V) (en:n=us.length) (e : σ = [some (.ref a),some (.int c),some (.ref p),x3,some (nV m),x5,x6,none]) (sm:Same H H') (hS:SqL K H' p us) (hp:Rws H' us rs) (ok:∀ r∈rs,WdR d r) (ps:prs rs=m) (st:Wst us.length d m):WaI K H a c n σ H'
inductive WbI (H1:Hp) (a p q0:Addr) (c:Int) (d m:Nat) (rs:List Rw) (i:Nat) (σ : St) (H':Hp):Prop
  | mk (ws:List V) (ts:List Rw) (j:Nat) (x3 x6:Option V) (e : σ = [some (.ref a),some (.int c),some (.ref p),x3,some (nV (m+j)),some (.ref q0),x6,none]) (sm:Same H1 H') (hq:H' q0=some (.lst ws)) (len:ts.length=i) (hp:Rws H' ws ts) (ok:∀ t∈ts,WdR (d+1) t) (ps:prs ts=prs (rs.take (4 * i))+j) (ej:j=(min (4 * i) rs.length+2) / 4):WbI H1 a p q0 c d m rs i σ H'
inductive WcI (H:Hp) (a:Addr) (c:Int) (n:Nat) (σ : St) (H':Hp):Prop
  | mk (p:Addr) (r:Rw) (m:Nat) (x2 x3 x5 x6:Option V) (en:n=123 - m) (e : σ = [some (.ref a),some (.int c),x2,x3,some (nV m),x5,x6,some (.ref p)]) (sm:Same H H') (hr:RwAt H' (.ref p) r) (ok:WdR (m - 102) r) (ps:r.t.parts=m) (lo:107≤m) (hi:m≤123):WcI H a c n σ H'
theorem ok_wide (B:Blt mg) (h_cell_at:Has P w K mg base 1 "_law_cell_at" ["_law_script", "_law_k"] (spCell K)) (h_mixed:Has P w K mg base 1 "_law_mixed" ["_law_cell", "_law_k"] spMixed) (h_word:Has P w K mg base 1 "_law_word" ["_law_m"] spWord) (h_named:Has P w K mg base 1 "_law_named" ["_law_word_here"] spNamed) (h_joined:Has P w K mg base 1 "_law_joined" ["_law_word_here", "_law_rows"] (spJoined K))
    (D:Def K mg "_law_wide" s_wide ["_law_script", "_law_first"]):Has P w K mg base 2 "_law_wide" ["_law_script", "_law_first"] (spGen K FinR):=by
  refine D.has sc_wide (fun vs H Q E h => ?_) (fun f cdv A outer s H vs Q E hr h => ?_)
  · obtain ⟨a,ns,c,rfl,_⟩:=h;rfl
  obtain ⟨a,ns,c,rfl,hS0,h0,q⟩:=h
  refine ⟨_,(pss_cons (ps_set (i:=2) sc_wide.nd rfl (Or.inl rfl) (pe_lst pa_nil))
    (pss_cons (ps_for PassesOwn.never rfl (pi_range1 rfl B.range_ (pa_cons pe_int pa_nil)) (pg_name (i:=3) sc_wide.nd rfl (Or.inl rfl))
    (pss_one (ps_expr (pe_bm PySem.F.plainAttrs_list PySem.F.slot_list_append PySem.F.type_list_append mt_append (pv 2) (pa_cons (pe_callH h_named hr (by omega) rfl (pa_cons (pe_callH h_word hr (by omega) rfl (pa_cons (pe_callH h_mixed hr (by omega) rfl (pa_cons (pe_callH h_cell_at hr (by omega) rfl (pa_cons (pv 0) (pa_cons (pe_op op_add pe_int (pv 3)) pa_nil))) (pa_cons (pv 3) pa_nil))) pa_nil)) pa_nil)) pa_nil)))))
    (pss_cons (ps_set (i:=4) sc_wide.nd rfl (Or.inl rfl) pe_int)
    (pss_cons (ps_while PassesOwn.never (pt_cmpR op_gt (pe_callB call_len_seq rfl B.len_ PySem.boot_len (pa_cons (pv 2) pa_nil)) pe_int (nomark _))
    (pss_cons (ps_set (i:=5) sc_wide.nd rfl (Or.inl rfl) (pe_lst pa_nil))
    (pss_cons (ps_for PassesOwn.never rfl (pi_range3 rfl B.range_ (pa_cons pe_int (pa_cons (pe_callB call_len_seq rfl B.len_ PySem.boot_len (pa_cons (pv 2) pa_nil)) (pa_cons pe_int pa_nil)))) (pg_name (i:=3) sc_wide.nd rfl (Or.inl rfl))
    (pss_cons (ps_set (i:=6) sc_wide.nd rfl (Or.inl rfl) (pe_slice sl_list (pv 2) (po_some (pv 3)) (po_some (pe_op op_add (pv 3) pe_int))))
    (pss_cons (ps_if (pt_cmpR op_gt (pe_callB call_len_seq rfl B.len_ PySem.boot_len (pa_cons (pv 6) pa_nil)) pe_int (nomark _)) (pss_cons (ps_set (i:=6) sc_wide.nd rfl (Or.inl rfl) (pe_lst (pa_cons (pe_callH h_joined hr (by omega) rfl (pa_cons (pe_callH h_word hr (by omega) rfl (pa_cons (pe_op op_fdiv (pv 1) (pe_op op_add (pv 3) pe_int)) pa_nil)) (pa_cons (pv 6) pa_nil))) pa_nil)))
    (pss_one (ps_aug (i:=4) sc_wide.nd rfl (Or.inl rfl) pe_int ip_add))) pss_nil)
    (pss_one (ps_expr (pe_bm PySem.F.plainAttrs_list PySem.F.slot_list_append PySem.F.type_list_append mt_append (pv 5) (pa_cons (pe_ix ix_list (pv 6) pe_int (fun _ _=>rfl)) pa_nil)))))))
    (pss_one (ps_set (i:=2) sc_wide.nd rfl (Or.inl rfl) (pv 5))))))
    (pss_cons (ps_set (i:=7) sc_wide.nd rfl (Or.inl rfl) (pe_ix ix_list (pv 2) pe_int (fun _ _=>rfl)))
    (pss_cons (ps_while PassesOwn.never (pt_cmpR op_lt (pv 4) (pe_op op_add pe_int (pe_op op_mod (pe_op op_fdiv (pv 1) pe_int) pe_int)) (nomark _))
    (pss_cons (ps_set (i:=7) sc_wide.nd rfl (Or.inl rfl) (pe_callH h_joined hr (by omega) rfl (pa_cons (pe_callH h_word hr (by omega) rfl (pa_cons (pe_op op_fdiv (pv 1) (pv 4)) pa_nil)) (pa_cons (pe_lst (pa_cons (pv 7) pa_nil)) pa_nil))))
    (pss_one (ps_aug (i:=4) sc_wide.nd rfl (Or.inl rfl) pe_int ip_add))))
    (pss_one (ps_ret (pe_tup (pa_cons (pv 7) (pa_cons (pe_cmpR op_le (pv 4) pe_int (nomark _)) pa_nil))))))))))),?_⟩
  try dsimp only [cxOf]
  have c0:=Int.emod_nonneg (c / 5) (show (7:Int)≠0 by decide)
  have c1:=Int.emod_lt_of_pos (c / 5) (show (0:Int) < 7 by decide)
  refine ⟨Nat.zero_le _,fun A1 hA0 => ?_⟩
  dsimp only [gName]
  have s1:=same_new hA0 (.lst [])
  have hA1:=upd_same (H:=H) (a:=A1) (o := .lst [])
  generalize upd H A1 (.lst [])=H1 at s1 hA1 ⊢
  refine ⟨_,rfl,by omega,by omega,?_⟩
  refine for_range (WpI H a A1 c) (WpI.mk [] [] none rfl s1 hA1 .nil (fun r hr=>nomatch hr) rfl) ?_ ?_
  · rintro i σ H2 hi ⟨us,rs,x3,rfl,s2,hA,hp,nm,len⟩
    have hul:=Paired.length hp
    have hi':i < 80:=hi
    show tDrop _ _ _ _
    dsimp only [gName]
    refine ⟨_,rfl,.inl ⟨rfl,_,SqL.of hA⟩,_,rfl,_,rfl,_,_,rfl,rfl,a,ns,_,rfl,s2.seq hS0,by omega,fun z1=>⟨_,rfl,z1,_,rfl,by omega,by omega,fun m m0 m1 => ?_⟩⟩
    refine ⟨_,rfl,SpNamed.mk _ rfl fun t H3 s3 hr3 => ?_⟩
    have hA3:=s3 _ _ hA
    have kp:=keep_put (o' := .lst (us ++ [.ref t])) hA3 trivial
    refine ⟨A1,us,.ref t,rfl,rfl,hA3,small1000 (by omega),?_⟩
    exact WpI.mk (us ++ [.ref t]) (rs ++ [nmR (wordOf m)]) _ rfl ((s2.trans s3).put hA0) upd_same (Paired.snoc (rws_keep kp (rws_same s3 hp)) (hr3.keep kp)) (nm.snoc (wordOf_ok m)) (by rw [List.length_append,len];rfl)
  rintro σ H2 ⟨us,rs,x3,rfl,s2,hA,hp,nm,len⟩
  have len':rs.length=80:=len
  have hul:=Paired.length hp
  dsimp only [gName]
  refine ⟨WaI K H a c,⟨_,WaI.mk A1 us rs 1 80 x3 none none rfl rfl s2 (SqL.of hA) hp (fun r hr=>⟨nm.good r hr,?_⟩) (by rw [nm.prs];exact len') (.inl ⟨by omega,rfl,rfl⟩)⟩,?_⟩
  · obtain ⟨y,rfl,_⟩:=nm r hr
    exact Nat.le_refl 1
  clear hul len len' nm hp hA s2 rs us x3 hA1 s1 hA0
  rintro n σ H2 ⟨p,us,rs,d,m,x3,x5,x6,rfl,rfl,sm,hS,hp,ok,ps,st⟩
  have hlen:=Paired.length hp
  obtain ⟨l1,l80,d5,m80,m107⟩:=wst_le st
  refine ⟨_,rfl,p,us,rfl,.inl hS,_,_,rfl,rfl,_,rfl,iteD (fun hgt => ?_) (fun hle => ?_)⟩
  · have hN:=many_4 us.length
    have hgt':(1:Int) < us.length:=hgt
    refine ⟨_,fun σ' H' h=>h,?_⟩
    refine ⟨Nat.zero_le _,fun q0 hq0 => ?_⟩
    have sq:=same_new hq0 (.lst [])
    refine ⟨_,rfl,p,us,rfl,.inl (sq.seq hS),0,us.length,4,rfl,⟨by decide,by decide,by decide,by decide,by omega,by omega⟩,?_⟩
    refine for_range3 (WbI H2 a p q0 c d m rs) (WbI.mk [] [] 0 x3 x6 rfl sq upd_same rfl .nil (fun t ht=>nomatch ht) (by rw [Nat.mul_zero,List.take_zero,Nat.add_zero]) (by omega)) ?_ ?_
    · rintro i σ H3 hi ⟨ws,ts,j,y3,y6,rfl,s3,hq,len,hpt,okt,pst,ej⟩
      rw [hN] at hi
      have hwl:=Paired.length hpt
      obtain ⟨v0,r0,t0,rt,ecut,etc,hpc,hr3⟩:=cut_rows (i:=i) (rws_same s3 hp) (by omega)
      have hpn:=prs_next rs i
      rw [etc] at hpn
      have hmem:∀ t∈t0 :: rt,t∈rs:=fun t ht=>by rw [← etc] at ht;exact List.mem_of_mem_drop (List.mem_of_mem_take ht)
      have hlt0:=Paired.length hpc
      rw [List.length_cons,List.length_cons] at hlt0
      refine ⟨_,rfl,_,rfl,_,rfl,_,rfl,_,_,rfl,rfl,_,rfl,p,us,rfl,s3.seq hS,fun g1 hg1 => ?_⟩
      rw [ecut]
      have s4:=same_new hg1 (.lst (v0 :: r0))
      have hg1':(upd H3 g1 (.lst (v0 :: r0))) g1=some (.lst (v0 :: r0)):=upd_same
      generalize (upd H3 g1 (.lst (v0 :: r0)))=H4 at s4 hg1'
      have hpc4:=rws_same s4 hpc
      have fin:∀ (g':Addr) (v:V) (t:Rw) (j':Nat) (H5:Hp),Same H4 H5→RwAt H5 v t→WdR (d+1) t→t.t.parts+j=prs (t0 :: rt)+j'→j'=(min (4 * (i+1)) rs.length+2) / 4 →
          WbI H2 a p q0 c d m rs (i+1) [some (V.ref a),some (.int c),some (.ref p),some (.int (0+(i:Int) * 4)),some (nV (m+j')),some (.ref q0),some (.ref g'),none] (upd H5 q0 (.lst (ws ++ [v]))) :=
        fun g' v t j' H5 s5 hv hvo hvp hj'=>by
          have h5:=s5 _ _ (s4 _ _ hq)
          have kp:=keep_put (o' := .lst (ws ++ [v])) h5 trivial
          refine WbI.mk (ws ++ [v]) (ts ++ [t]) j' _ _ rfl ((s3.trans (s4.trans s5)).put hq0) upd_same (by rw [List.length_append,len];rfl) (rws_keep kp (Paired.snoc (rws_same (s4.trans s5) hpt) hv)) (fun x hx => ?_) ?_ hj'
          · rcases List.mem_append.mp hx with z | z
            · exact okt x z
            · rw [List.mem_singleton.mp z];exact hvo
          · rw [prs_app,prs_cons,prs_nil,hpn];omega
      have hlt:ws.length < sizeLine:=small1000 (by omega)
      refine ⟨_,rfl,g1,_,rfl,.inl (SqL.of hg1'),_,_,rfl,rfl,_,rfl,iteD (fun hg => ?_) (fun hg => ?_)⟩
      · have hg':(1:Int) < ((v0 :: r0).length:Nat):=hg
        rw [List.length_cons] at hg'
        refine ⟨_,rfl,_,rfl,_,_,rfl,rfl,_,_,rfl,rfl,⟨by omega,by omega⟩,_,rfl,_,rfl,SpJoined.mk (wordOf _) g1 (v0 :: r0) (t0 :: rt) rfl (by have:=(wordOf_ok (c / (0+(i:Int) * 4+1))).2.1;omega) (SqL.of hg1') hpc4 (by rw [List.length_cons];omega) (by rw [List.length_cons];omega) (fun u hu => ?_) fun t H5 s5 hr5 => ?_⟩
        · have z1:=good_len (ok u (hmem u hu)).ok
          have z2:=prs_mem (hmem u hu)
          omega
        refine ⟨(by show 1≤sizeLine;decide),fun g2 hg2 => ?_⟩
        have s6:=same_new hg2 (.lst [.ref t])
        dsimp only [gName]
        refine ⟨_,rfl,_,_,rfl,rfl,?_⟩
        refine ⟨_,rfl,.inl ⟨rfl,_,SqL.of (s6 _ _ (s5 _ _ (s4 _ _ hq)))⟩,_,rfl,g2,_,0,.ref t,rfl,rfl,SqL.of upd_same,atI_nat (j:=0) rfl,q0,ws,.ref t,rfl,rfl,s6 _ _ (s5 _ _ (s4 _ _ hq)),hlt,?_⟩
        refine fin g2 (.ref t) _ (j+1) _ (s5.trans s6) (hr5.same s6) (wd_join (wordOf_ok _) (by rw [List.length_cons];omega) (by rw [List.length_cons];omega) fun u hu=>ok u (hmem u hu)) (by rw [join_parts];omega) (by omega)
      · have hg':¬ (1:Int) < ((v0 :: r0).length:Nat):=hg
        rw [List.length_cons] at hg'
        refine ⟨_,rfl,.inl ⟨rfl,_,SqL.of (s4 _ _ hq)⟩,_,rfl,g1,_,0,v0,rfl,rfl,SqL.of hg1',atI_nat (j:=0) rfl,q0,ws,v0,rfl,rfl,s4 _ _ hq,hlt,?_⟩
        have ert:rt = []:=List.length_eq_zero_iff.mp (by omega)
        subst ert
        cases hpc4 with
        | cons z _ =>
          have o:=ok t0 (hmem t0 List.mem_cons_self)
          exact fin g1 v0 t0 j H4 (Same.refl _) z ⟨o.ok,by have:=o.d;omega⟩ (by rw [prs_cons,prs_nil];omega) (by omega)
    · rintro σ H3 ⟨ws,ts,j,y3,y6,rfl,s3,hq,len,hpt,okt,pst,ej⟩
      rw [hN] at len pst ej
      have hwl:=Paired.length hpt
      rw [List.take_of_length_le (by omega)] at pst
      refine ⟨_,rfl,ws.length,by omega,WaI.mk q0 ws ts (d+1) (m+j) _ _ _ rfl rfl (sm.trans s3) (SqL.of hq) hpt okt (by omega) ?_⟩
      rw [hwl,len,ej,show min (4 * ((us.length+3) / 4)) rs.length=us.length by omega]
      exact wst_next st (by omega)
  · have hle':¬ (1:Int) < us.length:=hle
    obtain ⟨e1,rfl,e3⟩:=wst_one st (by omega)
    subst e3
    cases hp with
    | nil=>simp at e1
    | @cons v t r rt z zs =>
      have:r = []:=List.length_eq_zero_iff.mp (by rw [List.length_cons] at e1;omega)
      subst this
      cases zs
      obtain ⟨tA,tv,rfl,h1,h2⟩:=id z
      have o:=ok t List.mem_cons_self
      rw [prs_cons,prs_nil] at ps
      refine ⟨_,rfl,p,_,0,.ref tA,rfl,rfl,hS,atI_nat (j:=0) rfl,?_⟩
      dsimp only [gName]
      refine ⟨WcI H a c,⟨_,WcI.mk tA t 107 _ _ _ _ rfl rfl sm z ⟨o.ok,o.d⟩ (by omega) (by omega) (by omega)⟩,?_⟩
      clear z h1 h2 o ok ps hS hle hle' st sm
      rintro n σ H3 ⟨p3,r3,m3,y2,y3,y5,y6,rfl,rfl,s3,hr3,ok3,ps3,lo3,hi3⟩
      refine ⟨_,rfl,_,rfl,_,_,rfl,rfl,div',_,_,rfl,rfl,pos',_,_,rfl,rfl,_,_,rfl,rfl,_,rfl,iteD (fun hlt => ?_) (fun hge => ?_)⟩
      · have hlt':(m3:Int) < 117+c / 5 % 7:=hlt
        refine ⟨_,fun σ' H' h=>h,?_⟩
        have hl:=good_len ok3.ok
        refine ⟨_,rfl,_,rfl,_,_,rfl,rfl,⟨by omega,by omega⟩,_,rfl,_,rfl,(by show 1≤sizeLine;decide),fun l hl0 => ?_⟩
        have sl:=same_new hl0 (.lst [.ref p3])
        refine SpJoined.mk (wordOf _) l [.ref p3] [r3] rfl (by have:=(wordOf_ok (c / (m3:Int))).2.1;omega) (SqL.of upd_same) (.cons (hr3.same sl) .nil) (show 1≤1 by decide) (show 1≤8 by decide) (fun u hu=>by rw [List.mem_singleton.mp hu];omega) fun t H5 s5 hr5 => ?_
        dsimp only [gName]
        refine ⟨_,rfl,_,_,rfl,rfl,123 - (m3+1),by omega,WcI.mk t _ (m3+1) _ _ _ _ rfl rfl (s3.trans (sl.trans s5)) hr5 ?_ (by rw [join_parts,prs_cons,prs_nil];omega) (by omega) (by omega)⟩
        have:=wd_join (x:=wordOf (c / (m3:Int))) (wordOf_ok _) (rs := [r3]) (show 1≤1 by decide) (show 1≤4 by decide) fun u hu=>by rw [List.mem_singleton.mp hu];exact ok3
        rw [show m3+1 - 102=m3 - 102+1 by omega]
        exact this
      · refine ⟨_,rfl,_,rfl,_,_,rfl,rfl,(show 2≤sizeLine by decide),fun t ht => ?_⟩
        exact q t p3 r3 _ _ (s3.trans (same_new ht _)) upd_same (hr3.same (same_new ht _)) (wide_fin ok3 ps3 hi3)
end

end K06
namespace K06
open PySem L2 Sw
section
variable {P:Program} {w:World} {K:PySem.W.Frag} {mg:Str→Option Value} {base:Heap}
theorem rd_set {v:V} {i:Nat} {rest:TS} {D:Ends} {σ : St} {H:Hp} (h:rest D (σ.set i (some v)) H):tSeq (tAsg (tC v) (gName i)) rest D σ H:=h
structure PieceR (r:Rw) (g:Bool):Prop where
  len:r.s.length≤200
  good:g=true→GoodR r∧r.t.parts≤10∧r.t.depth≤3
  bad:g=false→∀ b k rest,Stop rest→pTree b k (r.s.cps.toList ++ rest)=none
noncomputable def figT (z neg:Bool) (F:List Nat):List Nat:=(if neg=true then [45] else []) ++ ((if z=true then [48] else []) ++ F)
theorem fig_piece {F:List Nat} {z neg g:Bool} {n:Int} {s:Str} (hF:PySem.NumText.AllDigits F) (hd:∃ c r,F=c :: r∧49≤c) (hl:F.length≤64) (hn:n=if neg=true then -((PySem.NumText.digitsVal F:Nat):Int) else ((PySem.NumText.digitsVal F:Nat):Int)) (hs:s.cps.toList=figT z neg F) (hg:g=true↔z=false∧F.length≤60):PieceR ⟨.num n,s,1⟩ g:=by
  have hne:F ≠ []:=by obtain ⟨c,r,rfl,_⟩:=hd;exact fun z=>nomatch z
  have hdg:dg (PySem.NumText.digitsVal F)=F:=dg_of hF hne (.inr hd)
  have hpos:1≤PySem.NumText.digitsVal F:=by obtain ⟨c,r,rfl,h⟩:=hd;exact PySem.NumText.digitsVal_pos h
  refine ⟨?_,fun h => ?_,fun h b k rest hr => ?_⟩
  · show s.length≤200
    rw [len_cps,hs]
    unfold figT
    cases neg <;> cases z <;> simp <;> omega
  · obtain ⟨rfl,h60⟩:=hg.mp h
    have hlt:PySem.NumText.digitsVal F < 10 ^ 60:=by
      have:=dv_lt F 0 hF
      have h10:(10:Nat) ^ F.length≤10 ^ 60:=Nat.pow_le_pow_right (by decide) h60
      unfold PySem.NumText.digitsVal
      omega
    refine ⟨⟨?_,?_,by show 1=(T.num n).depth;rw [T.depth]⟩,by show (T.num n).parts≤10;rw [T.parts];decide,by show (T.num n).depth≤3;rw [T.depth];decide⟩
    · show (T.num n).Ok
      rw [T.Ok,hn]
      cases neg
      · simp only [Bool.false_eq_true,if_false];omega
      · simp only [if_true];omega
    · show s=(T.num n).shown
      rw [T.shown]
      refine str_ext ?_
      show _=nt n
      rw [hs,hn]
      cases neg
      · simp only [Bool.false_eq_true,if_false];rw [nt_pos,hdg];rfl
      · simp only [if_true];rw [nt_neg _ hpos,hdg];rfl
  · have hb:¬ (z=false∧F.length≤60):=fun q=>by rw [hg.mpr q] at h;cases h
    show pTree b k (s.cps.toList ++ rest)=none
    rw [hs]
    have key:∀ f:List Nat,PySem.NumText.AllDigits f→(60 < f.length∨(f.head? = some 48∧f ≠ [48]))→pTree b k (((if neg=true then [45] else []) ++ f) ++ rest)=none:=fun f hf hh=>by
      have:=pt_num (b:=b) (neg:=neg) (k:=k) hf hr hh
      cases neg
      · exact this
      · exact this
    unfold figT
    refine key _ ?_ ?_
    · cases z
      · exact hF
      · intro c hc
        rcases List.mem_cons.mp hc with rfl | hc
        · decide
        · exact hF c hc
    · cases z
      · exact .inl (Nat.lt_of_not_le fun q=>hb ⟨rfl,q⟩)
      · refine .inr ⟨rfl,fun e=>hne ?_⟩
        exact (List.cons.inj e).2
theorem fig_at {i:Int} (h0:0≤i) (h1:i < 10):atI ("0123456789" : Str).cps.toList i=some (48+i.toNat):=by
  have e:((i.toNat:Nat):Int)=i:=by omega
  have hj:i.toNat < 10:=by omega
  rw [← e]
  refine atI_nat ?_
  rw [Int.toNat_natCast]
  generalize i.toNat=j at hj
  revert j
  decide +kernel
theorem fig1_at {i:Int} (h0:0≤i) (h1:i < 9):atI ("123456789" : Str).cps.toList i=some (49+i.toNat):=by
  have e:((i.toNat:Nat):Int)=i:=by omega
  have hj:i.toNat < 9:=by omega
  rw [← e]
  refine atI_nat ?_
  rw [Int.toNat_natCast]
  generalize i.toNat=j at hj
  revert j
  decide +kernel
theorem slice_1 {x:Str} (h:1≤x.length):(Txt.slice x (some 1) none).cps.toList=x.cps.toList.drop 1:=by
  rw [slice_cps,HT.sIx_none,show HT.sIx x.length 0 (some (1:Int))=1 by rw [show (1:Int)=((1:Nat):Int) from rfl,HT.sIx_nat];omega]
  refine List.take_of_length_le ?_
  rw [List.length_drop,len_cps]
  exact Nat.le_refl _
inductive FgI (H:Hp) (a:Addr) (c:Int) (i:Nat) (σ : St) (H':Hp):Prop
  | mk (x:Str) (x3:Option V) (e : σ = [some (.ref a),some (.int c),some (.str x),x3,none,none]) (eH:H'=H) (dg:PySem.NumText.AllDigits x.cps.toList) (len:x.length=i):FgI H a c i σ H'
inductive FgC (H:Hp) (a:Addr) (c:Int) (x3:Option V) (F:List Nat) (σ : St) (H':Hp):Prop
  | mk (z g:Bool) (x:Str) (e : σ = [some (.ref a),some (.int c),some (.str x),x3,some (.int ((PySem.NumText.digitsVal F:Nat):Int)),some (.bl g)]) (eH:H'=H) (hx:x.cps.toList=figT z false F) (hg:g=true↔z=false∧F.length≤60):FgC H a c x3 F σ H'
theorem ok_figures (B:Blt mg) (h_cell_at:Has P w K mg base 1 "_law_cell_at" ["_law_script", "_law_k"] (spCell K)) (h_mixed:Has P w K mg base 1 "_law_mixed" ["_law_cell", "_law_k"] spMixed)
    (D:Def K mg "_law_figures" s_figures ["_law_script", "_law_first"]):Has P w K mg base 2 "_law_figures" ["_law_script", "_law_first"] (spGen K PieceR):=by
  refine D.has sc_figures (fun vs H Q E h => ?_) (fun f cdv A outer s H vs Q E hr h => ?_)
  · obtain ⟨a,ns,c,rfl,_⟩:=h;rfl
  obtain ⟨a,ns,c,rfl,hS,h0,q⟩:=h
  refine ⟨_,(pss_cons (ps_set (i:=2) sc_figures.nd rfl (Or.inl rfl) pe_str)
    (pss_cons (ps_for PassesOwn.never rfl (pi_range1 rfl B.range_ (pa_cons (pe_op op_add pe_int (pe_op op_mod (pe_op op_fdiv (pv 1) pe_int) pe_int)) pa_nil)) (pg_name (i:=3) sc_figures.nd rfl (Or.inl rfl))
    (pss_one (ps_set (i:=2) sc_figures.nd rfl (Or.inl rfl) (pe_op op_add_str (pv 2) (pe_ix ix_str pe_str (pe_op op_mod (pe_callH h_mixed hr (by omega) rfl (pa_cons (pe_callH h_cell_at hr (by omega) rfl (pa_cons (pv 0) (pa_cons (pe_op op_add pe_int (pv 3)) pa_nil))) (pa_cons (pv 3) pa_nil))) pe_int) (fun _ _=>rfl))))))
    (pss_cons (ps_set (i:=2) sc_figures.nd rfl (Or.inl rfl) (pe_op op_add_str (pe_ix ix_str pe_str (pe_op op_mod (pe_op op_fdiv (pv 1) pe_int) pe_int) (fun _ _=>rfl)) (pe_slice sl_str (pv 2) (po_some pe_int) po_none)))
    (pss_cons (ps_set (i:=4) sc_figures.nd rfl (Or.inl rfl) (pe_callTy call_int_text rfl B.int_ boot_int_ (pa_cons (pv 2) pa_nil)))
    (pss_cons (ps_set (i:=5) sc_figures.nd rfl (Or.inl rfl) (pe_cmpR op_le (pe_callB call_len_str rfl B.len_ PySem.boot_len (pa_cons (pv 2) pa_nil)) pe_int (nomark _)))
    (pss_cons (ps_if (pt_cmpR op_eq (pe_op op_mod (pe_op op_fdiv (pv 1) pe_int) pe_int) pe_int (nomark _)) (pss_cons (ps_set (i:=2) sc_figures.nd rfl (Or.inl rfl) (pe_op op_add_str pe_str (pv 2)))
    (pss_one (ps_set (i:=5) sc_figures.nd rfl (Or.inl rfl) pe_bl))) pss_nil)
    (pss_cons (ps_if (pt_cmpR op_eq (pe_op op_mod (pe_op op_fdiv (pv 1) pe_int) pe_int) pe_int (nomark _)) (pss_one (ps_ret (pe_tup (pa_cons (pe_tup (pa_cons (pe_tup (pa_cons pe_str (pa_cons (pe_un un_neg (pv 4)) pa_nil))) (pa_cons (pe_op op_add_str pe_str (pv 2)) (pa_cons pe_int pa_nil)))) (pa_cons (pv 5) pa_nil))))) pss_nil)
    (pss_one (ps_ret (pe_tup (pa_cons (pe_tup (pa_cons (pe_tup (pa_cons pe_str (pa_cons (pv 4) pa_nil))) (pa_cons (pv 2) (pa_cons pe_int pa_nil)))) (pa_cons (pv 5) pa_nil)))))))))))),?_⟩
  try dsimp only [cxOf]
  have c0:=Int.emod_nonneg (c / 5) (show (8:Int)≠0 by decide)
  have c1:=Int.emod_lt_of_pos (c / 5) (show (0:Int) < 8 by decide)
  have d0:=Int.emod_nonneg (c / 40) (show (9:Int)≠0 by decide)
  have d1:=Int.emod_lt_of_pos (c / 40) (show (0:Int) < 9 by decide)
  have big:(1000:Nat)≤sizeLine:=by decide
  refine rd_set ?_
  refine ⟨_,rfl,_,_,rfl,rfl,div',_,_,rfl,rfl,pos',_,_,rfl,rfl,_,rfl,by omega,by omega,?_⟩
  have hn1:57≤(57+c / 5 % 8).toNat:=by omega
  have hn2:(57+c / 5 % 8).toNat≤64:=by omega
  generalize (57+c / 5 % 8).toNat=n at hn1 hn2
  refine for_range (FgI H a c) (FgI.mk "" none rfl rfl (fun d hd=>nomatch hd) rfl) ?_ ?_
  · rintro i σ H2 hi ⟨x,x3,rfl,rfl,dx,len⟩
    dsimp only [gName]
    refine ⟨_,rfl,_,rfl,_,rfl,_,_,rfl,rfl,a,ns,_,rfl,hS,by omega,fun z1=>⟨_,rfl,z1,_,rfl,by omega,by omega,fun m m0 m1 => ?_⟩⟩
    have r0:=Int.emod_nonneg m (show (10:Int)≠0 by decide)
    have r1:=Int.emod_lt_of_pos m (show (0:Int) < 10 by decide)
    refine ⟨_,_,rfl,rfl,pos',_,_,_,rfl,rfl,by decide,fig_at r0 r1,_,_,rfl,rfl,by show x.length+1≤sizeLine;omega,?_⟩
    refine FgI.mk (x ++ ⟨#[48+(m % 10).toNat]⟩) _ rfl rfl (fun d hd => ?_) (by rw [Str.length_append,len];rfl)
    rw [app_cps] at hd
    rcases List.mem_append.mp hd with hd | hd
    · exact dx d hd
    · have e:d=48+(m % 10).toNat:=List.mem_singleton.mp hd
      omega
  rintro σ H2 ⟨x,x3,rfl,rfl,dx,len⟩
  have hsl:=slice_1 (x:=x) (by omega)
  refine ⟨_,rfl,_,_,rfl,rfl,div',_,_,rfl,rfl,pos',_,_,_,rfl,rfl,by decide,fig1_at d0 d1,_,rfl,_,rfl,x,rfl,by omega,_,_,rfl,rfl,?_,?_⟩
  · rw [len_cps,len_cps,hsl,List.length_drop, ← len_cps]
    show 1+(x.length - 1)≤sizeLine
    omega
  obtain ⟨F,eF⟩:∃ F:List Nat,((⟨#[49+(c / 40 % 9).toNat]⟩:Str) ++ Txt.slice x (some 1) none).cps.toList=F:=⟨_,rfl⟩
  have hF1:F=(49+(c / 40 % 9).toNat) :: x.cps.toList.drop 1:=by rw [← eF,app_cps,hsl];rfl
  have hFd:PySem.NumText.AllDigits F:=fun d hd=>by
    rw [hF1] at hd
    rcases List.mem_cons.mp hd with rfl | hd
    · omega
    · exact dx d (List.mem_of_mem_drop hd)
  have hFl:F.length=n:=by rw [hF1,List.length_cons,List.length_drop, ← len_cps];omega
  have hFh:∃ c r,F=c :: r∧49≤c:=⟨_,_,hF1,by omega⟩
  have hlen:((⟨#[49+(c / 40 % 9).toNat]⟩:Str) ++ Txt.slice x (some 1) none).length=n:=by rw [len_cps,eF,hFl]
  generalize ((⟨#[49+(c / 40 % 9).toNat]⟩:Str) ++ Txt.slice x (some 1) none)=y at eF hlen
  dsimp only [gName]
  have hint:intText? y=some ((PySem.NumText.digitsVal F:Nat):Int):=by
    rw [← eF]
    exact PySem.intText_digits (by rw [eF];exact hFd) (by rw [eF,hF1];exact fun z=>nomatch z) (by omega)
  refine ⟨_,rfl,_,_,rfl,hint,by omega,?_⟩
  dsimp only [gName]
  refine ⟨_,rfl,_,rfl,by omega,_,_,rfl,rfl,?_⟩
  dsimp only [gName]
  refine rd_cut (FgC H2 a c x3 F) ?_ (fun key => ?_)
  rotate_left
  · refine ⟨_,rfl,_,_,rfl,rfl,div',_,_,rfl,rfl,pos',rfl,_,rfl,iteD (fun _ => ?_) (fun _ => ?_)⟩
    · refine ⟨_,rfl,_,_,rfl,rfl,by show 1+y.length≤sizeLine;omega,?_⟩
      exact key _ _ (FgC.mk true false _ rfl rfl (by rw [app_cps,eF];rfl) ⟨fun z=>(nomatch z),fun z=>(nomatch z.1)⟩)
    · refine key _ _ (FgC.mk false _ y rfl rfl (by rw [eF];rfl) ?_)
      rw [decide_eq_true_iff,hlen,hFl]
      exact ⟨fun z=>⟨rfl,by omega⟩,fun z=>by omega⟩
  rintro σ H3 ⟨z,g,u,rfl,rfl,hu,hg⟩
  have hul:u.length≤65:=by
    rw [len_cps,hu]
    unfold figT
    cases z <;> simp <;> omega
  refine ⟨_,rfl,_,_,rfl,rfl,div',_,_,rfl,rfl,pos',rfl,_,rfl,iteD (fun _ => ?_) (fun _ => ?_)⟩
  · refine ⟨_,rfl,_,rfl,(show 2≤sizeLine by decide),fun p hp=>⟨_,rfl,_,_,rfl,rfl,by show 1+u.length≤sizeLine;omega,(show 3≤sizeLine by decide),fun r hr'=>⟨_,rfl,(show 2≤sizeLine by decide),fun t ht => ?_⟩⟩⟩
    have g1:=same_new hp (.tup [.str "num",.int (-((PySem.NumText.digitsVal F:Nat):Int))])
    have g2:=same_new hr' (.tup [.ref p,.str ("-" ++ u),.int 1])
    have g3:=same_new ht (.tup [.ref r,.bl g])
    refine q t r ⟨.num _,_,1⟩ g _ (g1.trans (g2.trans g3)) upd_same ⟨r,.ref p,rfl,g3 _ _ upd_same,?_⟩ (fig_piece (neg:=true) hFd hFh (by omega) rfl (by rw [app_cps,hu];rfl) hg)
    rw [IsTr]
    exact ⟨p,rfl,g3 _ _ (g2 _ _ upd_same)⟩
  · refine ⟨_,rfl,(show 2≤sizeLine by decide),fun p hp=>⟨_,rfl,(show 3≤sizeLine by decide),fun r hr'=>⟨_,rfl,(show 2≤sizeLine by decide),fun t ht => ?_⟩⟩⟩
    have g1:=same_new hp (.tup [.str "num",.int ((PySem.NumText.digitsVal F:Nat):Int)])
    have g2:=same_new hr' (.tup [.ref p,.str u,.int 1])
    have g3:=same_new ht (.tup [.ref r,.bl g])
    refine q t r ⟨.num _,_,1⟩ g _ (g1.trans (g2.trans g3)) upd_same ⟨r,.ref p,rfl,g3 _ _ upd_same,?_⟩ (fig_piece (neg:=false) hFd hFh (by omega) rfl hu hg)
    rw [IsTr]
    exact ⟨p,rfl,g3 _ _ (g2 _ _ upd_same)⟩
end

end K06
namespace K06
open PySem L2 Sw
section
variable {P:Program} {w:World} {K:PySem.W.Frag} {mg:Str→Option Value} {base:Heap}
noncomputable def Run (x:Str):Prop := ∀ c∈x.cps.toList,97≤c∧c≤122
theorem run_w {x:Str} (h:Run x) (h1:1≤x.length∧x.length≤8):IsW x:=⟨h1.1,h1.2,h⟩
theorem nms_d {rs:List Rw} (h:Nms rs) (h1:1≤rs.length):deepM (rs.map Rw.d)=1:=by
  refine Nat.le_antisymm (deepM_is fun d hd => ?_) ?_
  · obtain ⟨u,hu,rfl⟩:=List.mem_map.mp hd
    obtain ⟨y,rfl,_⟩:=h u hu
    exact Nat.le_refl 1
  · cases rs with
    | nil=>exact absurd h1 (by decide)
    | cons u rs =>
      obtain ⟨y,rfl,_⟩:=h u List.mem_cons_self
      exact deepM_mem (List.mem_map_of_mem (f:=Rw.d) List.mem_cons_self)
theorem nms_s {rs:List Rw} (h:Nms rs):∀ s∈rs.map Rw.s,s.length≤8:=fun s hs=>by
  obtain ⟨u,hu,rfl⟩:=List.mem_map.mp hs
  obtain ⟨y,rfl,hy⟩:=h u hu
  exact hy.2.1
theorem knot_piece {x:Str} {rs:List Rw} (hx:IsW x) (h:Nms rs) (h1:1≤rs.length) (h4:rs.length≤4):GoodR (joinRw x rs)∧(joinRw x rs).t.parts≤10∧(joinRw x rs).t.depth≤3:=by
  have g:=good_join hx h1 h4 h.good
  refine ⟨g,by rw [join_parts,h.prs];omega,?_⟩
  rw [← g.dp]
  show 1+deepM (rs.map Rw.d)≤3
  rw [nms_d h h1]
  decide
theorem let_name {x:Str} {g:Bool} (h:Run x) (hl:x.length≤10) (hg:g=true↔1≤x.length∧x.length≤8):PieceR (nmR x) g :=
  ⟨by show x.length≤200;omega,fun z=>⟨good_nm (run_w h (hg.mp z)),by rw [nm_parts];decide,by show (T.name x).depth≤3;rw [T.depth];decide⟩,
    fun z b k r hr=>pt_word h (stop_all hr) fun q=>by rw [← len_cps] at q;rw [hg.mpr q] at z;cases z⟩
theorem let_any {x:Str} {g:Bool} (h:Run x) (hl:x.length≤10) (hg:g=true↔1≤x.length∧x.length≤8):PieceR ⟨.any x, "?" ++ x,1⟩ g:=by
  refine ⟨?_,fun z=>⟨⟨?_,?_,?_⟩,?_,?_⟩,fun z b k r hr => ?_⟩
  · show ("?" ++ x:Str).length≤200
    rw [Str.length_append]
    show 1+x.length≤200
    omega
  · show (T.any x).Ok;rw [T.Ok];exact run_w h (hg.mp z)
  · show "?" ++ x=(T.any x).shown;rw [T.shown]
  · show 1=(T.any x).depth;rw [T.depth]
  · show (T.any x).parts≤10;rw [T.parts];decide
  · show (T.any x).depth≤3;rw [T.depth];decide
  · show pTree b k (("?" ++ x:Str).cps.toList ++ r)=none
    rw [app_cps]
    exact pt_hole (x:=x.cps.toList) h hr fun q=>by rw [← len_cps] at q;rw [hg.mpr q] at z;cases z
theorem let_knot {x:Str} {g:Bool} {rs:List Rw} (h:Run x) (hl:x.length≤10) (hn:Nms rs) (h1:1≤rs.length) (h4:rs.length≤4) (hg:g=true↔1≤x.length∧x.length≤8):PieceR (joinRw x rs) g:=by
  refine ⟨?_,fun z=>knot_piece (run_w h (hg.mp z)) hn h1 h4,fun z b k r hr => ?_⟩
  · show (knotS x (rs.map Rw.s)).length≤200
    have:=knotS_len (x:=x) (by omega) (nms_s hn)
    rw [List.length_map] at this
    omega
  · show pTree b k ((knotS x (rs.map Rw.s)).cps.toList ++ r)=none
    cases rs with
    | nil=>exact absurd h1 (by decide)
    | cons u rs =>
      rw [List.map_cons,knotS_cps,List.append_assoc]
      refine pt_word h (fun c hc => ?_) fun q=>by rw [← len_cps] at q;rw [hg.mpr q] at z;cases z
      cases hc
      exact ⟨rfl,rfl,by decide,by decide⟩
inductive LtI (H:Hp) (a:Addr) (c:Int) (i:Nat) (σ : St) (H':Hp):Prop
  | mk (x:Str) (x3:Option V) (e : σ = [some (.ref a),some (.int c),some (.str x),x3,none,none]) (eH:H'=H) (run:Run x) (len:x.length=i):LtI H a c i σ H'
inductive LtC (H:Hp) (a:Addr) (c:Int) (x:Str) (x3:Option V) (σ : St) (H':Hp):Prop
  | mk (g:Bool) (e : σ = [some (.ref a),some (.int c),some (.str x),x3,some (.bl g),none]) (eH:H'=H) (hg:g=true↔1≤x.length∧x.length≤8):LtC H a c x x3 σ H'
theorem ok_letters (B:Blt mg) (h_cell_at:Has P w K mg base 1 "_law_cell_at" ["_law_script", "_law_k"] (spCell K)) (h_mixed:Has P w K mg base 1 "_law_mixed" ["_law_cell", "_law_k"] spMixed) (h_word:Has P w K mg base 1 "_law_word" ["_law_m"] spWord) (h_named:Has P w K mg base 1 "_law_named" ["_law_word_here"] spNamed) (h_joined:Has P w K mg base 1 "_law_joined" ["_law_word_here", "_law_rows"] (spJoined K))
    (D:Def K mg "_law_letters" s_letters ["_law_script", "_law_first"]):Has P w K mg base 2 "_law_letters" ["_law_script", "_law_first"] (spGen K PieceR):=by
  refine D.has sc_letters (fun vs H Q E h => ?_) (fun f cdv A outer s H vs Q E hr h => ?_)
  · obtain ⟨a,ns,c,rfl,_⟩:=h;rfl
  obtain ⟨a,ns,c,rfl,hS,h0,q⟩:=h
  refine ⟨_,(pss_cons (ps_set (i:=2) sc_letters.nd rfl (Or.inl rfl) pe_str)
    (pss_cons (ps_for PassesOwn.never rfl (pi_range1 rfl B.range_ (pa_cons (pe_op op_mod (pe_op op_fdiv (pv 1) pe_int) pe_int) pa_nil)) (pg_name (i:=3) sc_letters.nd rfl (Or.inl rfl))
    (pss_one (ps_set (i:=2) sc_letters.nd rfl (Or.inl rfl) (pe_op op_add_str (pv 2) (pe_ix ix_str pe_str (pe_op op_mod (pe_callH h_mixed hr (by omega) rfl (pa_cons (pe_callH h_cell_at hr (by omega) rfl (pa_cons (pv 0) (pa_cons (pe_op op_add pe_int (pv 3)) pa_nil))) (pa_cons (pv 3) pa_nil))) pe_int) (fun _ _=>rfl))))))
    (pss_cons (ps_set (i:=4) sc_letters.nd rfl (Or.inl rfl) (pe_chain op_le op_le pe_int (pe_callB call_len_str rfl B.len_ PySem.boot_len (pa_cons (pv 2) pa_nil)) pe_int))
    (pss_cons (ps_if (pt_cmpR op_eq (pe_op op_mod (pe_op op_fdiv (pv 1) pe_int) pe_int) pe_int (nomark _)) (pss_one (ps_ret (pe_tup (pa_cons (pe_callH h_named hr (by omega) rfl (pa_cons (pv 2) pa_nil)) (pa_cons (pv 4) pa_nil))))) pss_nil)
    (pss_cons (ps_if (pt_cmpR op_eq (pe_op op_mod (pe_op op_fdiv (pv 1) pe_int) pe_int) pe_int (nomark _)) (pss_one (ps_ret (pe_tup (pa_cons (pe_tup (pa_cons (pe_tup (pa_cons pe_str (pa_cons (pv 2) pa_nil))) (pa_cons (pe_op op_add_str pe_str (pv 2)) (pa_cons pe_int pa_nil)))) (pa_cons (pv 4) pa_nil))))) pss_nil)
    (pss_cons (ps_setComp (i:=5) sc_letters.nd rfl rfl (te:=(tCall _ _ _ (tCons (tCall _ _ _ (tCons (tOp _ _ _) tNil)) tNil))) (own := ["_law_k"]) (caps := [("_law_first",1)]) (comp_scope (defScope s_letters) ["_law_script", "_law_first", "_law_word_here", "_law_k", "_law_good", "_law_rows"] rfl rfl rfl (by decide +kernel)) (pi_range1 rfl B.range_ (pa_cons (pe_op op_add pe_int (pe_op op_mod (pe_op op_fdiv (pv 1) pe_int) pe_int)) pa_nil)) rfl (fun _ _ _=>pg_name (i:=0) (show (["_law_k", "_law_first"]:List Str).Nodup by decide +kernel) rfl (Or.inl rfl)) (fun _ _ _=>(pe_callH h_named hr (by omega) rfl (pa_cons (pe_callH h_word hr (by omega) rfl (pa_cons (pe_op op_fdiv (pv 1) pe_int) pa_nil)) pa_nil))) rfl)
    (pss_one (ps_ret (pe_tup (pa_cons (pe_callH h_joined hr (by omega) rfl (pa_cons (pv 2) (pa_cons (pv 5) pa_nil))) (pa_cons (pv 4) pa_nil))))))))))),?_⟩
  try dsimp only [cxOf]
  have c0:=Int.emod_nonneg (c / 5) (show (11:Int)≠0 by decide)
  have c1:=Int.emod_lt_of_pos (c / 5) (show (0:Int) < 11 by decide)
  have big:(1000:Nat)≤sizeLine:=by decide
  refine rd_set ?_
  refine ⟨_,rfl,_,_,rfl,rfl,div',_,_,rfl,rfl,pos',_,rfl,by omega,by omega,?_⟩
  have hn2:(c / 5 % 11).toNat≤10:=by omega
  generalize (c / 5 % 11).toNat=n at hn2
  refine for_range (LtI H a c) (LtI.mk "" none rfl rfl (fun d hd=>nomatch hd) rfl) ?_ ?_
  · rintro i σ H2 hi ⟨x,x3,rfl,rfl,dx,len⟩
    dsimp only [gName]
    refine ⟨_,rfl,_,rfl,_,rfl,_,_,rfl,rfl,a,ns,_,rfl,hS,by omega,fun z1=>⟨_,rfl,z1,_,rfl,by omega,by omega,fun m m0 m1 => ?_⟩⟩
    have r0:=Int.emod_nonneg m (show (26:Int)≠0 by decide)
    have r1:=Int.emod_lt_of_pos m (show (0:Int) < 26 by decide)
    refine ⟨_,_,rfl,rfl,pos',_,_,_,rfl,rfl,by decide,abc_at r0 r1,_,_,rfl,rfl,by show x.length+1≤sizeLine;omega,?_⟩
    refine LtI.mk (x ++ ⟨#[97+(m % 26).toNat]⟩) _ rfl rfl (fun d hd => ?_) (by rw [Str.length_append,len];rfl)
    rw [app_cps] at hd
    rcases List.mem_append.mp hd with hd | hd
    · exact dx d hd
    · have e:d=97+(m % 26).toNat:=List.mem_singleton.mp hd
      omega
  rintro σ H2 ⟨x,x3,rfl,rfl,dx,len⟩
  dsimp only
  refine rd_cut (LtC H2 a c x x3) ?_ (fun key => ?_)
  rotate_left
  · refine ⟨_,rfl,_,rfl,by omega,_,_,rfl,rfl,_,rfl,iteD (fun h1 => ?_) (fun h1 => ?_)⟩
    · refine ⟨_,_,rfl,rfl,key _ _ (LtC.mk _ rfl rfl ?_)⟩
      rw [decide_eq_true_iff]
      have h1':(1:Int)≤x.length:=h1
      exact ⟨fun z=>by omega,fun z=>by omega⟩
    · refine key _ _ (LtC.mk false rfl rfl ⟨fun z=>(nomatch z),fun z=>absurd (show (1:Int)≤x.length by omega) h1⟩)
  rintro σ H3 ⟨g,rfl,rfl,hg⟩
  refine ⟨_,rfl,_,_,rfl,rfl,div',_,_,rfl,rfl,pos',rfl,_,rfl,iteD (fun _ => ?_) (fun _ => ?_)⟩
  · refine ⟨_,rfl,SpNamed.mk x rfl fun r H4 s4 hr4=>⟨_,rfl,(show 2≤sizeLine by decide),fun t ht => ?_⟩⟩
    exact q t r (nmR x) g _ (s4.trans (same_new ht _)) upd_same (hr4.same (same_new ht _)) (let_name dx (by omega) hg)
  refine ⟨_,rfl,_,_,rfl,rfl,div',_,_,rfl,rfl,pos',rfl,_,rfl,iteD (fun _ => ?_) (fun _ => ?_)⟩
  · refine ⟨_,rfl,(show 2≤sizeLine by decide),fun p hp=>⟨_,rfl,_,_,rfl,rfl,by show 1+x.length≤sizeLine;omega,(show 3≤sizeLine by decide),fun r hr'=>⟨_,rfl,(show 2≤sizeLine by decide),fun t ht => ?_⟩⟩⟩
    have g1:=same_new hp (.tup [.str "any",.str x])
    have g2:=same_new hr' (.tup [.ref p,.str ("?" ++ x),.int 1])
    have g3:=same_new ht (.tup [.ref r,.bl g])
    refine q t r ⟨.any x,_,1⟩ g _ (g1.trans (g2.trans g3)) upd_same ⟨r,.ref p,rfl,g3 _ _ upd_same,?_⟩ (let_any dx (by omega) hg)
    rw [IsTr]
    exact ⟨p,rfl,g3 _ _ (g2 _ _ upd_same)⟩
  have e0:=Int.emod_nonneg (c / 165) (show (4:Int)≠0 by decide)
  have e1:=Int.emod_lt_of_pos (c / 165) (show (0:Int) < 4 by decide)
  refine ⟨_,rfl,_,_,rfl,rfl,div',_,_,rfl,rfl,pos',_,_,rfl,rfl,_,rfl,by omega,by omega,?_⟩
  have hk1:1≤(1+c / 165 % 4).toNat:=by omega
  have hk4:(1+c / 165 % 4).toNat≤4:=by omega
  generalize (1+c / 165 % 4).toNat=k at hk1 hk4 ⊢
  refine comp_rangeP (R:=RwAt) (g:=fun _=>nmR (wordOf (c / 7))) (fun Ha Hb v b kt hr=>hr.keep kt) (by omega) (fun j hj H4 sm Q' q' => ?_) (fun D1 H4 us hD1 s4 hD4 pr => ?_)
  · exact ⟨_,rfl,_,_,rfl,rfl,div',_,rfl,SpNamed.mk _ rfl fun r H' s hr=>q' _ _ s hr⟩
  have nms:Nms ((List.range k).map fun _=>nmR (wordOf (c / 7))):=Nms.map fun _=>wordOf_ok _
  have hll:((List.range k).map fun _=>nmR (wordOf (c / 7))).length=k:=by rw [List.length_map,List.length_range]
  generalize ((List.range k).map fun _=>nmR (wordOf (c / 7)))=rs at nms hll pr
  refine ⟨_,rfl,_,rfl,SpJoined.mk x D1 us rs rfl (by omega) (SqL.of hD4) pr (by omega) (by omega) (fun u hu => ?_) fun r H5 s5 hr5=>⟨_,rfl,(show 2≤sizeLine by decide),fun t ht => ?_⟩⟩
  · have:=nms_s nms _ (List.mem_map_of_mem (f:=Rw.s) hu)
    omega
  exact q t r _ g _ (s4.trans (s5.trans (same_new ht _))) upd_same (hr5.same (same_new ht _)) (let_knot dx (by omega) nms (by omega) (by omega) hg)
end

end K06
namespace K06
open PySem L2 Sw
section
variable {P:Program} {w:World} {K:PySem.W.Frag} {mg:Str→Option Value} {base:Heap}
theorem nms_shown {rs:List Rw} (h:Nms rs):rs.map Rw.s=(rs.map Rw.t).map T.shown:=by
  rw [good_shows h.good,showns_map]
theorem arm_piece {x:Str} {rs:List Rw} {g:Bool} (hx:IsW x) (h:Nms rs) (h6:rs.length≤6) (hg:g=true↔1≤rs.length∧rs.length≤4):PieceR ⟨.of x (rs.map Rw.t),knotS x (rs.map Rw.s),2⟩ g:=by
  refine ⟨?_,fun z => ?_,fun z b k r hr => ?_⟩
  · show (knotS x (rs.map Rw.s)).length≤200
    have:=knotS_len (x:=x) (by have:=hx.2.1;omega) (nms_s h)
    rw [List.length_map] at this
    omega
  · obtain ⟨h1,h4⟩:=hg.mp z
    have e:(⟨.of x (rs.map Rw.t),knotS x (rs.map Rw.s),2⟩:Rw)=joinRw x rs:=by
      unfold joinRw
      rw [nms_d h h1]
    rw [e]
    exact knot_piece hx h h1 h4
  · show pTree b k ((knotS x (rs.map Rw.s)).cps.toList ++ r)=none
    rw [nms_shown h]
    refine pt_arms hx (rs.map Rw.t) (fun t ht => ?_) (fun q => ?_) k r
    · obtain ⟨u,hu,rfl⟩:=List.mem_map.mp ht
      obtain ⟨y,rfl,hy⟩:=h u hu
      exact ⟨y,rfl,hy⟩
    · rw [List.length_map] at q
      rw [hg.mpr q] at z
      cases z
inductive AmI (H:Hp) (a A:Addr) (c:Int) (i:Nat) (σ : St) (H':Hp):Prop
  | mk (us:List V) (rs:List Rw) (x3:Option V) (e : σ = [some (.ref a),some (.int c),some (.ref A),x3,none,none]) (sm:Same H H') (hA:H' A=some (.lst us)) (hp:Rws H' us rs) (nm:Nms rs) (len:rs.length=i):AmI H a A c i σ H'
theorem ok_armed (B:Blt mg) (h_cell_at:Has P w K mg base 1 "_law_cell_at" ["_law_script", "_law_k"] (spCell K)) (h_mixed:Has P w K mg base 1 "_law_mixed" ["_law_cell", "_law_k"] spMixed) (h_word:Has P w K mg base 1 "_law_word" ["_law_m"] spWord) (h_named:Has P w K mg base 1 "_law_named" ["_law_word_here"] spNamed)
    (D:Def K mg "_law_armed" s_armed ["_law_script", "_law_first"]):Has P w K mg base 2 "_law_armed" ["_law_script", "_law_first"] (spGen K PieceR):=by
  refine D.has sc_armed (fun vs H Q E h => ?_) (fun f cdv A outer s H vs Q E hr h => ?_)
  · obtain ⟨a,ns,c,rfl,_⟩:=h;rfl
  obtain ⟨a,ns,c,rfl,hS0,h0,q⟩:=h
  refine ⟨_,(pss_cons (ps_set (i:=2) sc_armed.nd rfl (Or.inl rfl) (pe_lst pa_nil))
    (pss_cons (ps_for PassesOwn.never rfl (pi_range1 rfl B.range_ (pa_cons (pe_op op_mod (pe_op op_fdiv (pv 1) pe_int) pe_int) pa_nil)) (pg_name (i:=3) sc_armed.nd rfl (Or.inl rfl))
    (pss_one (ps_expr (pe_bm PySem.F.plainAttrs_list PySem.F.slot_list_append PySem.F.type_list_append mt_append (pv 2) (pa_cons (pe_callH h_named hr (by omega) rfl (pa_cons (pe_callH h_word hr (by omega) rfl (pa_cons (pe_callH h_mixed hr (by omega) rfl (pa_cons (pe_callH h_cell_at hr (by omega) rfl (pa_cons (pv 0) (pa_cons (pe_op op_add pe_int (pv 3)) pa_nil))) (pa_cons (pv 3) pa_nil))) pa_nil)) pa_nil)) pa_nil)))))
    (pss_cons (ps_set (i:=4) sc_armed.nd rfl (Or.inl rfl) (pe_callH h_word hr (by omega) rfl (pa_cons (pe_op op_fdiv (pv 1) pe_int) pa_nil)))
    (pss_cons (ps_set (i:=5) sc_armed.nd rfl (Or.inl rfl) (pe_op op_add_str (pe_op op_add_str (pe_op op_add_str (pv 4) pe_str) (pe_bm PySem.F.plainAttrs_str PySem.F.slot_str_join PySem.F.type_str_join mt_join pe_str (pa_cons (pe_comp (te:=(tOp (rIxT K) _ _)) (own := ["_law_row"]) (caps := []) (comp_scope (defScope s_armed) ["_law_script", "_law_first", "_law_rows", "_law_k", "_law_word_here", "_law_line"] rfl rfl rfl (by decide +kernel)) (pi_list (pv 2)) rfl (fun _ _ _=>pg_name (i:=0) (show (["_law_row"]:List Str).Nodup by decide +kernel) rfl (Or.inl rfl)) (fun _ _ _=>(pe_ix ix_tup (pv 0) pe_int (fun _ _=>rfl)))) pa_nil))) pe_str))
    (pss_one (ps_ret (pe_tup (pa_cons (pe_tup (pa_cons (pe_tup (pa_cons pe_str (pa_cons (pv 4) (pa_cons (pe_callTy call_tuple_of rfl B.tuple_ boot_tuple_ (pa_cons (pe_comp (te:=(tOp (rIxT K) _ _)) (own := ["_law_row"]) (caps := []) (comp_scope (defScope s_armed) ["_law_script", "_law_first", "_law_rows", "_law_k", "_law_word_here", "_law_line"] rfl rfl rfl (by decide +kernel)) (pi_list (pv 2)) rfl (fun _ _ _=>pg_name (i:=0) (show (["_law_row"]:List Str).Nodup by decide +kernel) rfl (Or.inl rfl)) (fun _ _ _=>(pe_ix ix_tup (pv 0) pe_int (fun _ _=>rfl)))) pa_nil)) pa_nil)))) (pa_cons (pv 5) (pa_cons pe_int pa_nil)))) (pa_cons (pe_chain op_le op_le pe_int (pe_callB call_len_seq rfl B.len_ PySem.boot_len (pa_cons (pv 2) pa_nil)) pe_int) pa_nil))))))))),?_⟩
  try dsimp only [cxOf]
  have c0:=Int.emod_nonneg (c / 5) (show (7:Int)≠0 by decide)
  have c1:=Int.emod_lt_of_pos (c / 5) (show (0:Int) < 7 by decide)
  refine ⟨Nat.zero_le _,fun A1 hA0 => ?_⟩
  dsimp only [gName]
  have s1:=same_new hA0 (.lst [])
  have hA1:=upd_same (H:=H) (a:=A1) (o := .lst [])
  generalize upd H A1 (.lst [])=H1 at s1 hA1 ⊢
  refine ⟨_,rfl,_,_,rfl,rfl,div',_,_,rfl,rfl,pos',_,rfl,by omega,by omega,?_⟩
  have hn6:(c / 5 % 7).toNat≤6:=by omega
  generalize (c / 5 % 7).toNat=n at hn6
  refine for_range (AmI H a A1 c) (AmI.mk [] [] none rfl s1 hA1 .nil (fun r hr=>nomatch hr) rfl) ?_ ?_
  · rintro i σ H2 hi ⟨us,rs,x3,rfl,s2,hA,hp,nm,len⟩
    have hul:=Paired.length hp
    show tDrop _ _ _ _
    dsimp only [gName]
    refine ⟨_,rfl,.inl ⟨rfl,_,SqL.of hA⟩,_,rfl,_,rfl,_,_,rfl,rfl,a,ns,_,rfl,s2.seq hS0,by omega,fun z1=>⟨_,rfl,z1,_,rfl,by omega,by omega,fun m m0 m1 => ?_⟩⟩
    refine ⟨_,rfl,SpNamed.mk _ rfl fun t H3 s3 hr3 => ?_⟩
    have hA3:=s3 _ _ hA
    have kp:=keep_put (o' := .lst (us ++ [.ref t])) hA3 trivial
    refine ⟨A1,us,.ref t,rfl,rfl,hA3,small1000 (by omega),?_⟩
    exact AmI.mk (us ++ [.ref t]) (rs ++ [nmR (wordOf m)]) _ rfl ((s2.trans s3).put hA0) upd_same (Paired.snoc (rws_keep kp (rws_same s3 hp)) (hr3.keep kp)) (nm.snoc (wordOf_ok m)) (by rw [List.length_append,len];rfl)
  rintro σ H2 ⟨us,rs,x3,rfl,s2,hA,hp,nm,len⟩
  have hul:=Paired.length hp
  have hS:=SqL.of (K:=K) hA
  refine ⟨_,rfl,_,_,rfl,rfl,div',_,rfl,?_⟩
  dsimp only [gName]
  have hx:=wordOf_ok (c / 9)
  have hx8:=hx.2.1
  generalize wordOf (c / 9)=x at hx hx8 ⊢
  have hzs:=nms_s nm
  have hjl:=sums_le hzs
  rw [List.length_map] at hjl
  have e1:("(" : Str).length=1:=rfl
  have e1':(")" : Str).length=1:=rfl
  have e2:(", " : Str).length=2:=rfl
  have ej:=join_eq (rs.map Rw.s)
  have big:(10000000:Nat)≤sizeLine:=by decide
  refine ⟨_,rfl,_,_,rfl,rfl,?_,rfl,_,rfl,A1,rfl,⟨us,hS⟩,comp_fld 1 rfl hS (by omega) (rws_tup hp (by decide)) fun D2 hD2 => ?_⟩
  · rw [e1];omega
  rw [(rws_fld hp).2.1]
  refine ⟨", ",D2,rs.map Rw.s,rfl,rfl,SqL.of upd_same,?_,_,_,rfl,rfl,?_,_,_,rfl,rfl,?_,?_⟩
  · have:=lens_le hzs
    rw [List.length_map] at this
    rw [List.length_map,e2]
    omega
  · rw [ej,Str.length_append,e1];omega
  · rw [ej,Str.length_append,Str.length_append,e1,e1'];omega
  have eL:x ++ "(" ++ Txt.join ", " (rs.map Rw.s) ++ ")" = knotS x (rs.map Rw.s):=by rw [ej];rfl
  rw [eL]
  dsimp only [gName]
  have g3:=same_new hD2 (.lst ((rs.map Rw.s).map V.str))
  generalize (upd H2 D2 (.lst ((rs.map Rw.s).map V.str)))=H3 at g3
  have hp3:=rws_same g3 hp
  have hS3:=g3.seq hS
  refine ⟨_,rfl,_,rfl,A1,rfl,⟨us,hS3⟩,comp_fld 0 rfl hS3 (by omega) (rws_tup hp3 (by decide)) fun D1 hD1 => ?_⟩
  refine ⟨D1,_,rfl,.inl ⟨SqL.of upd_same,fun l hl => ?_⟩⟩
  refine ⟨(by show 3≤sizeLine;decide),fun t ht=>⟨_,rfl,(by show 3≤sizeLine;decide),fun r hr' => ?_⟩⟩
  have hT0:=(rws_fld hp3).1
  have k1:=same_new hD1 (.lst (us.map (fld H3 0)))
  have k2:=same_new hl (.tup (us.map (fld H3 0)))
  have k3:=same_new ht (.tup [.str "of",.str x,.ref l])
  have k4:=same_new hr' (.tup [.ref t,.str (knotS x (rs.map Rw.s)),.int 2])
  have g4:=k1.trans (k2.trans (k3.trans k4))
  have hl4:=k4 _ _ (k3 _ _ (upd_same (H:=upd H3 D1 (.lst (us.map (fld H3 0)))) (a:=l) (o := .tup (us.map (fld H3 0)))))
  have ht4:=k4 _ _ (upd_same (H:=upd (upd H3 D1 (.lst (us.map (fld H3 0)))) l (.tup (us.map (fld H3 0)))) (a:=t) (o := .tup [.str "of",.str x,.ref l]))
  have hr4:=upd_same (H:=upd (upd (upd H3 D1 (.lst (us.map (fld H3 0)))) l (.tup (us.map (fld H3 0)))) t (.tup [.str "of",.str x,.ref l])) (a:=r) (o := .tup [.ref t,.str (knotS x (rs.map Rw.s)),.int 2])
  generalize upd (upd (upd (upd H3 D1 (.lst (us.map (fld H3 0)))) l (.tup (us.map (fld H3 0)))) t (.tup [.str "of",.str x,.ref l])) r (.tup [.ref t,.str (knotS x (rs.map Rw.s)),.int 2])=H4 at g4 hl4 ht4 hr4
  have fin:∀ (g:Bool) (tt:Addr),H4 tt=none→(g=true↔1≤rs.length∧rs.length≤4)→Q (.ref tt) (upd H4 tt (.tup [.ref r,.bl g])):=fun g tt htt hg=>by
    have k5:=same_new htt (.tup [.ref r,.bl g])
    refine q tt r ⟨.of x (rs.map Rw.t),knotS x (rs.map Rw.s),2⟩ g _ (s2.trans (g3.trans (g4.trans k5))) upd_same ⟨r,.ref t,rfl,k5 _ _ hr4,?_⟩ (arm_piece hx nm (by omega) hg)
    show IsTr _ (.of x (rs.map Rw.t)) _
    rw [IsTr]
    exact ⟨t,l,_,rfl,k5 _ _ ht4,k5 _ _ hl4,trs_of (Paired.mapP hT0 fun _ _ z=>tr_same (g4.trans k5) z)⟩
  refine ⟨_,rfl,A1,us,rfl,.inl (g4.seq hS3),_,_,rfl,rfl,_,rfl,iteD (fun h1 => ?_) (fun h1 => ?_)⟩
  · have h1':(1:Int)≤us.length:=h1
    refine ⟨_,_,rfl,rfl,(show 2≤sizeLine by decide),fun tt htt=>fin _ tt htt ?_⟩
    rw [decide_eq_true_iff]
    exact ⟨fun z=>by omega,fun z=>by omega⟩
  · have h1':¬ (1:Int)≤us.length:=h1
    exact ⟨(show 2≤sizeLine by decide),fun tt htt=>fin _ tt htt ⟨fun z=>(nomatch z),fun z=>absurd (show (1:Int)≤us.length by omega) h1'⟩⟩
theorem made_fin {x:Str} {r:Rw} {g:Bool} {k:Nat} {rs:List Rw} (hx:IsW x) (h:PieceR r g) (hn:Nms rs) (h3:rs.length≤3):FinR (joinRw x (putL k r rs)) g:=by
  refine ⟨?_,fun z => ?_,fun z b t e => ?_⟩
  · show (knotS x ((putL k r rs).map Rw.s)).length≤100000
    have:=knotS_len (x:=x) (ss:=(putL k r rs).map Rw.s) (M:=200) (by have:=hx.2.1;omega) (fun s hs=>by
      obtain ⟨u,hu,rfl⟩:=List.mem_map.mp hs
      rcases put_mem hu with rfl | hu
      · exact h.len
      · obtain ⟨y,rfl,hy⟩:=hn u hu
        show y.length≤200
        have:=hy.2.1
        omega)
    rw [List.length_map,put_len] at this
    omega
  · obtain ⟨g1,g2,g3⟩:=h.good z
    have hg:∀ u∈putL k r rs,GoodR u:=fun u hu=>(put_mem hu).elim (fun e=>e ▸ g1) (hn.good u)
    have gj:=good_join hx (by rw [put_len];omega) (by rw [put_len];omega) hg
    refine ⟨gj,by rw [join_parts,prs_put,hn.prs];omega,?_⟩
    rw [← gj.dp]
    show 1+deepM ((putL k r rs).map Rw.d)≤30
    have:deepM ((putL k r rs).map Rw.d)≤3:=deepM_is fun d hd=>by
      obtain ⟨u,hu,rfl⟩:=List.mem_map.mp hd
      rcases put_mem hu with rfl | hu
      · rw [g1.dp];exact g3
      · obtain ⟨y,rfl,hy⟩:=hn u hu
        show 1≤3
        decide
    omega
  · exfalso
    have eb:=pt_bad (b:=b) (x:=x) (s:=r.s) (ss:=(rs.drop k).map Rw.s) (pre:=rs.take k) (k:=29) hx (fun k r=>h.bad z b k r) (fun u hu r' hr' => ?_) []
    · rw [List.append_nil] at eb
      have e2:(joinRw x (putL k r rs)).s=knotS x ((rs.take k).map Rw.s ++ r.s :: (rs.drop k).map Rw.s):=by
        show knotS x ((putL k r rs).map Rw.s)=_
        unfold putL
        rw [List.map_append,List.map_cons]
      rw [e2] at e
      rw [show (29+1:Nat)=30 from rfl] at eb
      rw [eb] at e
      cases e
    · obtain ⟨y,rfl,hy⟩:=hn u (List.mem_of_mem_take hu)
      have:=pt_done b 29 (.name y) (by rw [T.Ok];exact hy) (by rw [T.depth];decide) (.inr (by rw [T.shown];exact word_not hy (by decide))) r' hr'
      rw [T.shown] at this
      exact this
inductive MdC (H:Hp) (a:Addr) (c:Int) (σ : St) (H':Hp):Prop
  | mk (d:Addr) (r:Rw) (g:Bool) (e : σ = [some (.ref a),some (.int c),some (.ref d),some (.bl g),none,none]) (sm:Same H H') (hr:RwAt H' (.ref d) r) (pc:PieceR r g):MdC H a c σ H'
theorem ok_made (B:Blt mg) (h_cell_at:Has P w K mg base 1 "_law_cell_at" ["_law_script", "_law_k"] (spCell K)) (h_mixed:Has P w K mg base 1 "_law_mixed" ["_law_cell", "_law_k"] spMixed) (h_word:Has P w K mg base 1 "_law_word" ["_law_m"] spWord) (h_named:Has P w K mg base 1 "_law_named" ["_law_word_here"] spNamed) (h_joined:Has P w K mg base 1 "_law_joined" ["_law_word_here", "_law_rows"] (spJoined K))
    (h_deep:Has P w K mg base 2 "_law_deep" ["_law_script", "_law_first"] (spGen K FinR)) (h_wide:Has P w K mg base 2 "_law_wide" ["_law_script", "_law_first"] (spGen K FinR)) (h_figures:Has P w K mg base 2 "_law_figures" ["_law_script", "_law_first"] (spGen K PieceR)) (h_letters:Has P w K mg base 2 "_law_letters" ["_law_script", "_law_first"] (spGen K PieceR)) (h_armed:Has P w K mg base 2 "_law_armed" ["_law_script", "_law_first"] (spGen K PieceR))
    (D:Def K mg "_law_made" s_made ["_law_script", "_law_first"]):Has P w K mg base 3 "_law_made" ["_law_script", "_law_first"] (spGen K FinR):=by
  refine D.has sc_made (fun vs H Q E h => ?_) (fun f cdv A outer s H vs Q E hr h => ?_)
  · obtain ⟨a,ns,c,rfl,_⟩:=h;rfl
  obtain ⟨a,ns,c,rfl,hS,h0,q⟩:=h
  refine ⟨_,(pss_cons (ps_if (pt_cmpR op_eq (pe_op op_mod (pv 1) pe_int) pe_int (nomark _)) (pss_one (ps_ret (pe_callH h_deep hr (by omega) rfl (pa_cons (pv 0) (pa_cons (pv 1) pa_nil))))) pss_nil)
    (pss_cons (ps_if (pt_cmpR op_eq (pe_op op_mod (pv 1) pe_int) pe_int (nomark _)) (pss_one (ps_ret (pe_callH h_wide hr (by omega) rfl (pa_cons (pv 0) (pa_cons (pv 1) pa_nil))))) pss_nil)
    (pss_cons (ps_asg (pe_callH h_letters hr (by omega) rfl (pa_cons (pv 0) (pa_cons (pv 1) pa_nil))) (pg_tup rfl (pgs_cons (pg_name (i:=2) sc_made.nd rfl (Or.inl rfl)) (pgs_cons (pg_name (i:=3) sc_made.nd rfl (Or.inl rfl)) pgs_nil))))
    (pss_cons (ps_if (pt_cmpR op_eq (pe_op op_mod (pv 1) pe_int) pe_int (nomark _)) (pss_one (ps_asg (pe_callH h_figures hr (by omega) rfl (pa_cons (pv 0) (pa_cons (pv 1) pa_nil))) (pg_tup rfl (pgs_cons (pg_name (i:=2) sc_made.nd rfl (Or.inl rfl)) (pgs_cons (pg_name (i:=3) sc_made.nd rfl (Or.inl rfl)) pgs_nil))))) (pss_one (ps_if (pt_cmpR op_eq (pe_op op_mod (pv 1) pe_int) pe_int (nomark _)) (pss_one (ps_asg (pe_callH h_armed hr (by omega) rfl (pa_cons (pv 0) (pa_cons (pv 1) pa_nil))) (pg_tup rfl (pgs_cons (pg_name (i:=2) sc_made.nd rfl (Or.inl rfl)) (pgs_cons (pg_name (i:=3) sc_made.nd rfl (Or.inl rfl)) pgs_nil))))) pss_nil)))
    (pss_cons (ps_set (i:=4) sc_made.nd rfl (Or.inr rfl) (pe_callH h_mixed hr (by omega) rfl (pa_cons (pe_callH h_cell_at hr (by omega) rfl (pa_cons (pv 0) (pa_cons pe_int pa_nil))) (pa_cons pe_int pa_nil))))
    (pss_cons (ps_setComp (i:=5) sc_made.nd rfl rfl (te:=(tCall _ _ _ (tCons (tCall _ _ _ (tCons (tOp _ _ (tOp _ _ _)) tNil)) tNil))) (own := ["_law_k"]) (caps := [("_law_m",4)]) (comp_scope (defScope s_made) ["_law_script", "_law_first", "_law_row", "_law_good", "_law_m", "_law_rows"] rfl rfl rfl (by decide +kernel)) (pi_range1 rfl B.range_ (pa_cons (pe_op op_mod (pv 4) pe_int) pa_nil)) rfl (fun _ _ _=>pg_name (i:=0) (show (["_law_k", "_law_m"]:List Str).Nodup by decide +kernel) rfl (Or.inl rfl)) (fun _ _ _=>(pe_callH h_named hr (by omega) rfl (pa_cons (pe_callH h_word hr (by omega) rfl (pa_cons (pe_op op_fdiv (pv 1) (pe_op op_add pe_int (pv 0))) pa_nil)) pa_nil))) rfl)
    (pss_cons (ps_expr (pe_bm PySem.F.plainAttrs_list PySem.F.slot_list_insert PySem.F.type_list_insert mt_insert (pv 5) (pa_cons (pe_op op_mod (pe_op op_fdiv (pv 4) pe_int) (pe_op op_add (pe_callB call_len_seq rfl B.len_ PySem.boot_len (pa_cons (pv 5) pa_nil)) pe_int)) (pa_cons (pv 2) pa_nil))))
    (pss_one (ps_ret (pe_tup (pa_cons (pe_callH h_joined hr (by omega) rfl (pa_cons (pe_callH h_word hr (by omega) rfl (pa_cons (pe_op op_fdiv (pv 4) pe_int) pa_nil)) (pa_cons (pv 5) pa_nil))) (pa_cons (pv 3) pa_nil)))))))))))),?_⟩
  try dsimp only [cxOf]
  refine ⟨_,rfl,_,_,rfl,rfl,pos',rfl,_,rfl,iteD (fun _=>⟨_,rfl,_,rfl,SpGen.mk a ns c rfl hS h0 q⟩) (fun _ => ?_)⟩
  refine ⟨_,rfl,_,_,rfl,rfl,pos',rfl,_,rfl,iteD (fun _=>⟨_,rfl,_,rfl,SpGen.mk a ns c rfl hS h0 q⟩) (fun _ => ?_)⟩
  refine ⟨_,rfl,_,rfl,SpGen.mk a ns c rfl hS h0 fun p0 d0 r0 g0 H1 s1 hp1 hr1 pc1 => ?_⟩
  refine ⟨p0,_,rfl,SqT.of hp1,rfl,_,_,rfl,_,_,rfl,rfl,?_⟩
  dsimp only [gName]
  refine rd_cut (MdC H a c) ?_ (fun key => ?_)
  rotate_left
  · refine ⟨_,rfl,_,_,rfl,rfl,pos',rfl,_,rfl,iteD (fun _ => ?_) (fun _ => ?_)⟩
    · refine ⟨_,rfl,_,rfl,SpGen.mk a ns c rfl (s1.seq hS) h0 fun p d r g H2 s2 hp2 hr2 pc2 => ?_⟩
      exact ⟨p,_,rfl,SqT.of hp2,rfl,_,_,rfl,_,_,rfl,rfl,key _ _ (MdC.mk d r g rfl (s1.trans s2) hr2 pc2)⟩
    · refine ⟨_,rfl,_,_,rfl,rfl,pos',rfl,_,rfl,iteD (fun _ => ?_) (fun _=>key _ _ (MdC.mk d0 r0 g0 rfl s1 hr1 pc1))⟩
      refine ⟨_,rfl,_,rfl,SpGen.mk a ns c rfl (s1.seq hS) h0 fun p d r g H2 s2 hp2 hr2 pc2 => ?_⟩
      exact ⟨p,_,rfl,SqT.of hp2,rfl,_,_,rfl,_,_,rfl,rfl,key _ _ (MdC.mk d r g rfl (s1.trans s2) hr2 pc2)⟩
  rintro σ' H2 ⟨d,r,g,rfl,s2,hr2,pc⟩
  refine ⟨_,rfl,a,ns,_,rfl,s2.seq hS,by decide,fun z1=>⟨z1,_,rfl,by decide,by decide,fun m m0 m1 => ?_⟩⟩
  have b0:=Int.emod_nonneg m (show (4:Int)≠0 by decide)
  have b1:=Int.emod_lt_of_pos m (show (0:Int) < 4 by decide)
  refine ⟨_,rfl,_,_,rfl,rfl,pos',_,rfl,by omega,by omega,?_⟩
  have hn:(m % 4).toNat≤3:=by omega
  generalize (m % 4).toNat=n at hn ⊢
  refine comp_rangeP (R:=RwAt) (g:=fun i=>nmR (wordOf (m / (9+(0+(i:Int)))))) (fun Ha Hb v b kt hr=>hr.keep kt) (by omega) (fun j hj H3 sm Q' q' => ?_) (fun D1 H3 us hD1 s3 hD3 pr => ?_)
  · exact ⟨_,rfl,_,rfl,_,_,rfl,rfl,_,_,rfl,rfl,⟨by omega,by omega⟩,_,rfl,SpNamed.mk _ rfl fun r H' s hr=>q' _ _ s hr⟩
  have nms:Nms ((List.range n).map fun i:Nat=>nmR (wordOf (m / (9+(0+(i:Int)))))):=Nms.map fun _=>wordOf_ok _
  have hll:((List.range n).map fun i:Nat=>nmR (wordOf (m / (9+(0+(i:Int)))))).length=n:=by rw [List.length_map,List.length_range]
  generalize ((List.range n).map fun i:Nat=>nmR (wordOf (m / (9+(0+(i:Int))))))=rs at nms hll pr
  have hul:=Paired.length pr
  have hr3:=hr2.same s3
  have pz:(0:Int) < ((us.length:Nat):Int)+1:=by omega
  have k0:=Int.emod_nonneg (m / 4) (show ((us.length:Nat):Int)+1≠0 by omega)
  have k1:=Int.emod_lt_of_pos (m / 4) pz
  generalize hj:m / 4 % (((us.length:Nat):Int)+1)=j at k0 k1
  obtain ⟨k,rfl⟩:=Int.eq_ofNat_of_zero_le k0
  have hk:k≤us.length:=by omega
  have kp:∀ b xs,H3 b=some (.tup xs)→(upd H3 D1 (.lst (us.take k ++ .ref d :: us.drop k))) b=some (.tup xs):=fun b xs e=>by rw [upd_ne (ne_of e hD3 (fun z=>nomatch z))];exact e
  refine ⟨_,rfl,.inl ⟨rfl,_,SqL.of hD3⟩,_,rfl,_,_,rfl,rfl,div',_,rfl,D1,_,rfl,.inl (SqL.of hD3),_,_,rfl,rfl,_,_,rfl,rfl,pz,_,rfl,D1,us,_,k,.ref d,rfl,rfl,hj,hD3,hk,by omega,?_⟩
  have pk:=rws_put k (rws_keep kp pr) (hr3.keep kp)
  have hl:=pc.len
  refine ⟨_,rfl,_,_,rfl,rfl,div',_,rfl,_,rfl,SpJoined.mk (wordOf (m / 16)) D1 _ (putL k r rs) rfl (by have:=(wordOf_ok (m / 16)).2.1;omega) (SqL.of upd_same) pk (by rw [put_len];omega) (by rw [put_len];omega) (fun u hu => ?_) fun t H4 s4 hr4=>⟨_,rfl,(show 2≤sizeLine by decide),fun tt htt => ?_⟩⟩
  · rcases put_mem hu with rfl | hu
    · omega
    · have:=nms_s nms _ (List.mem_map_of_mem (f:=Rw.s) hu)
      omega
  exact q tt t _ g _ (s2.trans ((s3.put hD1).trans (s4.trans (same_new htt _)))) upd_same (hr4.same (same_new htt _)) (made_fin (wordOf_ok _) pc nms (by omega))
end

end K06
namespace K06
open PySem L2 Sw
section
variable {P:Program} {w:World} {K:PySem.W.Frag} {mg:Str→Option Value} {base:Heap}
inductive SpLaw (K:PySem.W.Frag) (vs:List V) (H:Hp) (Q:VK):Prop
  | mk (a:Addr) (ns:List Int) (z0:vs = [.ref a]) (z1:SqL K H a (ns.map V.int)) (z2:ns.length≤63) (z3:∀ H',Q (.bl true) H'):SpLaw K vs H Q
noncomputable def spLaw (K:PySem.W.Frag):Sp:=fun vs H Q _=>SpLaw K vs H Q
inductive LwI (a d tp:Addr) (g:Bool) (r:Rw) (i:Nat) (σ : St) (H':Hp):Prop
  | mk (y3 y4:Option V) (e : σ = [some (.ref a),some (.ref d),some (.bl g),y3,y4]) (ht:H' tp=some (.tup [.bl false,.bl true])) (hr:RwAt H' (.ref d) r):LwI a d tp g r i σ H'
theorem ok_law (B:Blt mg) (h_same:Has P w K mg base 30 "_law_same" ["_law_found", "_law_due"] (spSame 30)) (h_asked:Has P w K mg base 66 "_law_asked" ["_law_line", "_law_holed"] spAsked)
    (h_cell_at:Has P w K mg base 1 "_law_cell_at" ["_law_script", "_law_k"] (spCell K)) (h_mixed:Has P w K mg base 1 "_law_mixed" ["_law_cell", "_law_k"] spMixed) (h_made:Has P w K mg base 3 "_law_made" ["_law_script", "_law_first"] (spGen K FinR)) {f:Addr} {fd:FuncData} (F:Fun K "law" "law" s_law f fd) :
    FnOk P w K mg base CX0 67 f fd ["_law_script"] (spLaw K):=by
  refine F.ok sc_law (fun vs H Q E h => ?_) (fun cdv A outer s H vs Q E hr h => ?_)
  · obtain ⟨a,ns,rfl,_⟩:=h;rfl
  obtain ⟨a,ns,rfl,hS,h63,q⟩:=h
  refine ⟨_,(pss_cons (ps_asg (pe_callH h_made hr (by omega) rfl (pa_cons (pv 0) (pa_cons (pe_callH h_mixed hr (by omega) rfl (pa_cons (pe_callH h_cell_at hr (by omega) rfl (pa_cons (pv 0) (pa_cons pe_int pa_nil))) (pa_cons pe_int pa_nil))) pa_nil))) (pg_tup rfl (pgs_cons (pg_name (i:=1) sc_law.nd rfl (Or.inl rfl)) (pgs_cons (pg_name (i:=2) sc_law.nd rfl (Or.inl rfl)) pgs_nil))))
    (pss_cons (ps_for PassesOwn.never rfl (pi_tup (pe_tup (pa_cons pe_bl (pa_cons pe_bl pa_nil)))) (pg_name (i:=3) sc_law.nd rfl (Or.inl rfl))
    (pss_cons (ps_set (i:=4) sc_law.nd rfl (Or.inl rfl) (pe_callH h_asked hr (by omega) rfl (pa_cons (pe_ix ix_tup (pv 1) pe_int (fun _ _=>rfl)) (pa_cons (pv 3) pa_nil))))
    (pss_one (ps_if (PW.pt (pw_and (pt_val (pv 2)) (pw_and1 (PW.pt (pw_or (pt_val (pv 3)) (pw_or1 (pt_cmpR op_notIn_str pe_str (pe_ix ix_tup (pv 1) pe_int (fun _ _=>rfl)) (by with_unfolding_all rfl)))))))) (pss_one (ps_if (PW.pt (pw_or (pt_cmpR op_notN (pe_ix ix_tup (pv 4) pe_int (fun _ _=>rfl)) pe_non (nomark _)) (pw_or1 (pt_not (pt_val (pe_callH h_same hr (by omega) rfl (pa_cons (pe_ix ix_tup (pv 4) pe_int (fun _ _=>rfl)) (pa_cons (pe_ix ix_tup (pv 1) pe_int (fun _ _=>rfl)) pa_nil)))))))) (pss_one (ps_ret pe_bl)) pss_nil)) (pss_one (ps_if (PW.pt (pw_or (pt_cmpR op_notN (pe_ix ix_tup (pv 4) pe_int (fun _ _=>rfl)) pe_non (nomark _)) (pw_or1 (pt_cmpR (op_neT hr.units0) (pe_ix ix_tup (pv 4) pe_int (fun _ _=>rfl)) (pe_tup (pa_cons pe_bl (pa_cons pe_bl (pa_cons pe_bl pa_nil)))) (nomark _))))) (pss_one (ps_ret pe_bl)) pss_nil))))))
    (pss_one (ps_ret pe_bl)))),?_⟩
  try dsimp only [cxOf]
  refine ⟨_,rfl,_,rfl,a,ns,0,rfl,hS,Int.le_refl _,fun c=>⟨c,96,rfl,by decide,by decide,fun m m0 m1=>SpGen.mk a ns m rfl hS m0 fun p d r g H1 s1 hp hr1 fin => ?_⟩⟩
  refine ⟨p,_,rfl,SqT.of hp,rfl,_,_,rfl,_,_,rfl,rfl,?_⟩
  dsimp only [gName]
  refine ⟨(show 2≤sizeLine by decide),fun tp htp=>⟨tp,rfl,⟨_,SqT.of upd_same⟩,?_⟩⟩
  refine for_tup (xs := [.bl false,.bl true]) (LwI a d tp g r) (LwI.mk none none rfl upd_same (hr1.same (same_new htp _))) ?_ ?_ ?_
  · rintro i σ H6 _ ⟨y3,y4,rfl,h3,_⟩
    exact SqT.of h3
  · rintro i y σ H6 hy ⟨y3,y4,rfl,h3,hr6⟩
    obtain ⟨b,rfl⟩:∃ b:Bool,y = .bl b:=by
      have:=List.mem_of_getElem? hy
      rcases List.mem_cons.mp this with rfl | this
      · exact ⟨_,rfl⟩
      · exact ⟨_,List.mem_singleton.mp this⟩
    obtain ⟨tv,h1,h2⟩:=rw_at hr6
    have hf':(!(Builtin.Str.occurrences r.s ("?" : Str) 0 r.s.length 1).isEmpty)=decide (63∈r.s.cps.toList):=StrLaws.found_one r.s 63
    dsimp only [gName]
    refine ⟨_,rfl,d,_,1,_,rfl,rfl,SqT.of h1,atI_nat (j:=1) rfl,_,rfl,r.s,b,rfl,fin.len,fun t e hp v a' H7 sm7 tr7 ha' => ?_,fun h a' c7 H7 sm7 ha' hc7 => ?_⟩
    · have eg:g=true:=by
        cases g with
        | true=>rfl
        | false=>have:=fin.bad rfl b t e;omega
      subst eg
      obtain ⟨gr,gp,gd⟩:=fin.good rfl
      obtain ⟨⟨_,_,g3⟩,_⟩:=pt_sound b 30 _ _ _ e
      rw [gr.sh] at e
      obtain ⟨et,_⟩:=pt_one gr.ok e
      subst et
      rw [← gr.sh] at g3
      have h17:=sm7 _ _ h1
      dsimp only [gName]
      refine rd_if2 (fun b Hc=>Hc=H7∧b=true) (fun Qc qc => ?_) (fun Hc h => ?_) (fun Hc h => ?_)
      · refine ⟨_,rfl,_,rfl,iteT ⟨_,rfl,_,rfl,?_⟩⟩
        cases b with
        | true=>exact iteT (qc _ _ ⟨rfl,rfl⟩)
        | false =>
          refine iteF ⟨_,rfl,d,_,1,_,rfl,rfl,SqT.of h17,atI_nat (j:=1) rfl,_,_,rfl,rfl,_,rfl,?_⟩
          rw [hf',decide_eq_false (g3 rfl)]
          exact qc _ _ ⟨rfl,rfl⟩
      · obtain ⟨rfl,_⟩:=h
        refine ⟨_,rfl,a',_,1,_,rfl,rfl,SqT.of ha',atI_nat (j:=1) rfl,rfl,_,rfl,iteF ?_⟩
        refine ⟨_,rfl,a',_,0,_,rfl,rfl,SqT.of ha',atI_nat (j:=0) rfl,_,rfl,d,_,0,_,rfl,rfl,SqT.of h17,atI_nat (j:=0) rfl,v,tv,r.t,rfl,tr7,tr_same sm7 h2,by omega,gd,_,rfl,iteF ?_⟩
        exact LwI.mk _ _ rfl (sm7 _ _ h3) (hr6.same sm7)
      · cases h.2
    · have h17:=sm7 _ _ h1
      have st:Stop []:=fun c hc=>nomatch hc
      dsimp only [gName]
      refine rd_if2 (fun b Hc=>Hc=H7∧b=false) (fun Qc qc => ?_) (fun Hc h => ?_) (fun Hc h => ?_)
      · refine ⟨_,rfl,_,rfl,?_⟩
        cases g with
        | false=>exact iteF (qc _ _ ⟨rfl,rfl⟩)
        | true =>
          obtain ⟨gr,gp,gd⟩:=fin.good rfl
          have no:¬ (b=true∨63 ∉ r.t.shown.cps.toList):=fun z=>by
            have e:=pt_done b 30 r.t gr.ok gd z [] st
            rw [List.append_nil, ← gr.sh] at e
            have:=h _ e
            omega
          cases b with
          | true=>exact absurd (.inl rfl) no
          | false =>
            have z63:63∈r.s.cps.toList:=by rw [gr.sh];exact Classical.byContradiction fun z=>no (.inr z)
            refine iteT ⟨_,rfl,_,rfl,iteF ⟨_,rfl,d,_,1,_,rfl,rfl,SqT.of h17,atI_nat (j:=1) rfl,_,_,rfl,rfl,_,rfl,?_⟩⟩
            rw [hf',decide_eq_true z63]
            exact qc _ _ ⟨rfl,rfl⟩
      · cases h.2
      · obtain ⟨rfl,_⟩:=h
        refine ⟨_,rfl,a',_,0,_,rfl,rfl,SqT.of ha',atI_nat (j:=0) rfl,rfl,_,rfl,iteF ?_⟩
        refine ⟨_,rfl,a',_,1,_,rfl,rfl,SqT.of ha',atI_nat (j:=1) rfl,(show 3≤sizeLine by decide),fun b8 hb8 => ?_⟩
        refine ⟨_,b8,_,_,rfl,rfl,SqT.of (same_new hb8 _ _ _ hc7),SqT.of upd_same,rfl,rfl,_,rfl,iteF ?_⟩
        exact LwI.mk _ _ rfl (same_new hb8 _ _ _ (sm7 _ _ h3)) (hr6.same (sm7.trans (same_new hb8 _)))
  · rintro σ H6 _
    exact q _
end

end K06
namespace K06
open PySem L2
theorem len_s {n:Nat} {us:List Value} (h:us.length=n+1):∃ v vs,us=v :: vs∧vs.length=n:=by cases us with | nil=>cases h | cons v vs=>exact ⟨v,vs,rfl,Nat.succ.inj h⟩
theorem len1_ {fd:FuncData} {ps:List Str} (h:∀ v0:Value,bindArgs fd ⟨[v0], []⟩=pure (ps.zip [v0])):∀ us:List Value,us.length=1→bindArgs fd ⟨us, []⟩=pure (ps.zip us):=fun us h0=>by obtain ⟨v0,us,rfl,h1⟩:=len_s h0;obtain rfl:=List.eq_nil_of_length_eq_zero h1;exact h v0
open PySem L2 Sw
theorem len2_ {fd:FuncData} {ps:List Str} (h:∀ v0 v1:Value,bindArgs fd ⟨[v0,v1], []⟩=pure (ps.zip [v0,v1])):∀ us:List Value,us.length=2→bindArgs fd ⟨us, []⟩=pure (ps.zip us):=fun us h0=>by obtain ⟨v0,us,rfl,h1⟩:=len_s h0;obtain ⟨v1,us,rfl,h2⟩:=len_s h1;obtain rfl:=List.eq_nil_of_length_eq_zero h2;exact h v0 v1
open PySem L2 Sw
theorem len3_ {fd:FuncData} {ps:List Str} (h:∀ v0 v1 v2:Value,bindArgs fd ⟨[v0,v1,v2], []⟩=pure (ps.zip [v0,v1,v2])):∀ us:List Value,us.length=3→bindArgs fd ⟨us, []⟩=pure (ps.zip us):=fun us h0=>by obtain ⟨v0,us,rfl,h1⟩:=len_s h0;obtain ⟨v1,us,rfl,h2⟩:=len_s h1;obtain ⟨v2,us,rfl,h3⟩:=len_s h2;obtain rfl:=List.eq_nil_of_length_eq_zero h3;exact h v0 v1 v2
open PySem L2 Sw
theorem all_mk {l:PySem.W.OpenLaw} {w:World} {K:PySem.W.Frag} {h:Heap} {mg:Str→Option Value} {fa CR f0 f1 f2 f3 f4 f5 f6 f7 f8 f9 f10 f11 f12 f13 f14 f15 f16 f17 f18 f19 f20 f21 f22 f23 f24 f25 f26 c_NoTree c_NoRule c_NoRow c_Full c_Apart c_TooBig c_TooWide c_SameError:Addr} {t_LETTERS t_FIGURES t_MOST_LETTERS t_MOST_FIGURES t_MOST_ARMS t_MOST_PARTS t_MOST_DEEP:Tok} (X:K.In h) (G:h.Ns mainGlobals mg) (hfa:mg "law" = some (.ref fa))
    {od0 an0 od1 an1 od2 an2 od3 an3 od4 an4 od5 an5 od6 an6 od7 an7 od8 an8 od9 an9 od10 an10 od11 an11 od12 an12 od13 an13 od14 an14 od15 an15 od16 an16 od17 an17 od18 an18 od19 an19 od20 an20 od21 an21 od22 an22 od23 an23 od24 an24 od25 an25 od26 an26:Option Addr} {sl0 sl1 sl2 sl3 sl4 sl5 sl6 sl7 sl8 sl9 sl10 sl11 sl12 sl13 sl14 sl15 sl16 sl17 sl18 sl19 sl20 sl21 sl22 sl23 sl24 sl25 sl26:Array (Option Value)} {oc0 kV0 dc0 pm0 cd0 ct0 oc1 kV1 dc1 pm1 cd1 ct1 oc2 kV2 dc2 pm2 cd2 ct2 oc3 kV3 dc3 pm3 cd3 ct3 oc4 kV4 dc4 pm4 cd4 ct4 oc5 kV5 dc5 pm5 cd5 ct5 oc6 kV6 dc6 pm6 cd6 ct6 oc7 kV7 dc7 pm7 cd7 ct7 oc8 kV8 dc8 pm8 cd8 ct8 oc9 kV9 dc9 pm9 cd9 ct9 oc10 kV10 dc10 pm10 cd10 ct10 oc11 kV11 dc11 pm11 cd11 ct11 oc12 kV12 dc12 pm12 cd12 ct12 oc13 kV13 dc13 pm13 cd13 ct13 oc14 kV14 dc14 pm14 cd14 ct14 oc15 kV15 dc15 pm15 cd15 ct15 oc16 kV16 dc16 pm16 cd16 ct16 oc17 kV17 dc17 pm17 cd17 ct17 oc18 kV18 dc18 pm18 cd18 ct18 oc19 kV19 dc19 pm19 cd19 ct19 oc20 kV20 dc20 pm20 cd20 ct20 oc21 kV21 dc21 pm21 cd21 ct21 oc22 kV22 dc22 pm22 cd22 ct22 oc23 kV23 dc23 pm23 cd23 ct23 oc24 kV24 dc24 pm24 cd24 ct24 oc25 kV25 dc25 pm25 cd25 ct25 oc26 kV26 dc26 pm26 cd26 ct26:Value}
    (aR:PySem.W.nsIn K mainGlobals "Reader" = some (some (.ref CR)))
    (a0:PySem.W.nsIn K mainGlobals "parts" = some (some (.ref f0)))
    (l0:K.lookup f0=some ⟨oc0,od0,.func (PySem.W.fnOf "parts" "parts" (defArgs s_parts) (defBody s_parts) (defScope s_parts) .none kV0 dc0 pm0 an0 cd0 ct0),sl0⟩)
    (c0:PySem.W.codeIn K cd0 "parts" = true)
    (k0:PySem.W.keepIn K (.ref f0)=true)
    (a1:PySem.W.findIn K (.ref CR) "__init__" = some (some (.ref f1)))
    (l1:K.lookup f1=some ⟨oc1,od1,.func (PySem.W.fnOf "__init__" "Reader.__init__" (defArgs s_init) (defBody s_init) (defScope s_init) .none kV1 dc1 pm1 an1 cd1 ct1),sl1⟩)
    (c1:PySem.W.codeIn K cd1 "Reader.__init__" = true)
    (k1:PySem.W.keepIn K (.ref f1)=true)
    (n1:PySem.W.isFn K (.ref f1)=true)
    (a2:PySem.W.findIn K (.ref CR) "ahead" = some (some (.ref f2)))
    (l2:K.lookup f2=some ⟨oc2,od2,.func (PySem.W.fnOf "ahead" "Reader.ahead" (defArgs s_ahead) (defBody s_ahead) (defScope s_ahead) .none kV2 dc2 pm2 an2 cd2 ct2),sl2⟩)
    (c2:PySem.W.codeIn K cd2 "Reader.ahead" = true)
    (k2:PySem.W.keepIn K (.ref f2)=true)
    (n2:PySem.W.isFn K (.ref f2)=true)
    (a3:PySem.W.findIn K (.ref CR) "take" = some (some (.ref f3)))
    (l3:K.lookup f3=some ⟨oc3,od3,.func (PySem.W.fnOf "take" "Reader.take" (defArgs s_take) (defBody s_take) (defScope s_take) .none kV3 dc3 pm3 an3 cd3 ct3),sl3⟩)
    (c3:PySem.W.codeIn K cd3 "Reader.take" = true)
    (k3:PySem.W.keepIn K (.ref f3)=true)
    (n3:PySem.W.isFn K (.ref f3)=true)
    (a4:PySem.W.findIn K (.ref CR) "take_run" = some (some (.ref f4)))
    (l4:K.lookup f4=some ⟨oc4,od4,.func (PySem.W.fnOf "take_run" "Reader.take_run" (defArgs s_take_run) (defBody s_take_run) (defScope s_take_run) .none kV4 dc4 pm4 an4 cd4 ct4),sl4⟩)
    (c4:PySem.W.codeIn K cd4 "Reader.take_run" = true)
    (k4:PySem.W.keepIn K (.ref f4)=true)
    (n4:PySem.W.isFn K (.ref f4)=true)
    (a5:PySem.W.findIn K (.ref CR) "take_word" = some (some (.ref f5)))
    (l5:K.lookup f5=some ⟨oc5,od5,.func (PySem.W.fnOf "take_word" "Reader.take_word" (defArgs s_take_word) (defBody s_take_word) (defScope s_take_word) .none kV5 dc5 pm5 an5 cd5 ct5),sl5⟩)
    (c5:PySem.W.codeIn K cd5 "Reader.take_word" = true)
    (k5:PySem.W.keepIn K (.ref f5)=true)
    (n5:PySem.W.isFn K (.ref f5)=true)
    (a6:PySem.W.findIn K (.ref CR) "take_number" = some (some (.ref f6)))
    (l6:K.lookup f6=some ⟨oc6,od6,.func (PySem.W.fnOf "take_number" "Reader.take_number" (defArgs s_take_number) (defBody s_take_number) (defScope s_take_number) .none kV6 dc6 pm6 an6 cd6 ct6),sl6⟩)
    (c6:PySem.W.codeIn K cd6 "Reader.take_number" = true)
    (k6:PySem.W.keepIn K (.ref f6)=true)
    (n6:PySem.W.isFn K (.ref f6)=true)
    (a7:PySem.W.findIn K (.ref CR) "take_arms" = some (some (.ref f7)))
    (l7:K.lookup f7=some ⟨oc7,od7,.func (PySem.W.fnOf "take_arms" "Reader.take_arms" (defArgs s_take_arms) (defBody s_take_arms) (defScope s_take_arms) .none kV7 dc7 pm7 an7 cd7 ct7),sl7⟩)
    (c7:PySem.W.codeIn K cd7 "Reader.take_arms" = true)
    (k7:PySem.W.keepIn K (.ref f7)=true)
    (n7:PySem.W.isFn K (.ref f7)=true)
    (a8:PySem.W.findIn K (.ref CR) "take_tree" = some (some (.ref f8)))
    (l8:K.lookup f8=some ⟨oc8,od8,.func (PySem.W.fnOf "take_tree" "Reader.take_tree" (defArgs s_take_tree) (defBody s_take_tree) (defScope s_take_tree) .none kV8 dc8 pm8 an8 cd8 ct8),sl8⟩)
    (c8:PySem.W.codeIn K cd8 "Reader.take_tree" = true)
    (k8:PySem.W.keepIn K (.ref f8)=true)
    (n8:PySem.W.isFn K (.ref f8)=true)
    (a9:PySem.W.nsIn K mainGlobals "read_whole" = some (some (.ref f9)))
    (l9:K.lookup f9=some ⟨oc9,od9,.func (PySem.W.fnOf "read_whole" "read_whole" (defArgs s_read_whole) (defBody s_read_whole) (defScope s_read_whole) .none kV9 dc9 pm9 an9 cd9 ct9),sl9⟩)
    (c9:PySem.W.codeIn K cd9 "read_whole" = true)
    (k9:PySem.W.keepIn K (.ref f9)=true)
    (a10:PySem.W.nsIn K mainGlobals "read" = some (some (.ref f10)))
    (l10:K.lookup f10=some ⟨oc10,od10,.func (PySem.W.fnOf "read" "read" (defArgs s_read) (defBody s_read) (defScope s_read) .none kV10 dc10 pm10 an10 cd10 ct10),sl10⟩)
    (c10:PySem.W.codeIn K cd10 "read" = true)
    (k10:PySem.W.keepIn K (.ref f10)=true)
    (a11:PySem.W.nsIn K mainGlobals "read_pattern" = some (some (.ref f11)))
    (l11:K.lookup f11=some ⟨oc11,od11,.func (PySem.W.fnOf "read_pattern" "read_pattern" (defArgs s_read_pattern) (defBody s_read_pattern) (defScope s_read_pattern) .none kV11 dc11 pm11 an11 cd11 ct11),sl11⟩)
    (c11:PySem.W.codeIn K cd11 "read_pattern" = true)
    (k11:PySem.W.keepIn K (.ref f11)=true)
    (a12:PySem.W.nsIn K mainGlobals "_law_cell_at" = some (some (.ref f12)))
    (l12:K.lookup f12=some ⟨oc12,od12,.func (PySem.W.fnOf "_law_cell_at" "_law_cell_at" (defArgs s_cell_at) (defBody s_cell_at) (defScope s_cell_at) .none kV12 dc12 pm12 an12 cd12 ct12),sl12⟩)
    (c12:PySem.W.codeIn K cd12 "_law_cell_at" = true)
    (k12:PySem.W.keepIn K (.ref f12)=true)
    (a13:PySem.W.nsIn K mainGlobals "_law_mixed" = some (some (.ref f13)))
    (l13:K.lookup f13=some ⟨oc13,od13,.func (PySem.W.fnOf "_law_mixed" "_law_mixed" (defArgs s_mixed) (defBody s_mixed) (defScope s_mixed) .none kV13 dc13 pm13 an13 cd13 ct13),sl13⟩)
    (c13:PySem.W.codeIn K cd13 "_law_mixed" = true)
    (k13:PySem.W.keepIn K (.ref f13)=true)
    (a14:PySem.W.nsIn K mainGlobals "_law_word" = some (some (.ref f14)))
    (l14:K.lookup f14=some ⟨oc14,od14,.func (PySem.W.fnOf "_law_word" "_law_word" (defArgs s_word) (defBody s_word) (defScope s_word) .none kV14 dc14 pm14 an14 cd14 ct14),sl14⟩)
    (c14:PySem.W.codeIn K cd14 "_law_word" = true)
    (k14:PySem.W.keepIn K (.ref f14)=true)
    (a15:PySem.W.nsIn K mainGlobals "_law_joined" = some (some (.ref f15)))
    (l15:K.lookup f15=some ⟨oc15,od15,.func (PySem.W.fnOf "_law_joined" "_law_joined" (defArgs s_joined) (defBody s_joined) (defScope s_joined) .none kV15 dc15 pm15 an15 cd15 ct15),sl15⟩)
    (c15:PySem.W.codeIn K cd15 "_law_joined" = true)
    (k15:PySem.W.keepIn K (.ref f15)=true)
    (a16:PySem.W.nsIn K mainGlobals "_law_same" = some (some (.ref f16)))
    (l16:K.lookup f16=some ⟨oc16,od16,.func (PySem.W.fnOf "_law_same" "_law_same" (defArgs s_same) (defBody s_same) (defScope s_same) .none kV16 dc16 pm16 an16 cd16 ct16),sl16⟩)
    (c16:PySem.W.codeIn K cd16 "_law_same" = true)
    (k16:PySem.W.keepIn K (.ref f16)=true)
    (a17:PySem.W.nsIn K mainGlobals "_law_other" = some (some (.ref f17)))
    (l17:K.lookup f17=some ⟨oc17,od17,.func (PySem.W.fnOf "_law_other" "_law_other" (defArgs s_other) (defBody s_other) (defScope s_other) .none kV17 dc17 pm17 an17 cd17 ct17),sl17⟩)
    (c17:PySem.W.codeIn K cd17 "_law_other" = true)
    (k17:PySem.W.keepIn K (.ref f17)=true)
    (a18:PySem.W.nsIn K mainGlobals "_law_asked" = some (some (.ref f18)))
    (l18:K.lookup f18=some ⟨oc18,od18,.func (PySem.W.fnOf "_law_asked" "_law_asked" (defArgs s_asked) (defBody s_asked) (defScope s_asked) .none kV18 dc18 pm18 an18 cd18 ct18),sl18⟩)
    (c18:PySem.W.codeIn K cd18 "_law_asked" = true)
    (k18:PySem.W.keepIn K (.ref f18)=true)
    (a19:PySem.W.nsIn K mainGlobals "_law_named" = some (some (.ref f19)))
    (l19:K.lookup f19=some ⟨oc19,od19,.func (PySem.W.fnOf "_law_named" "_law_named" (defArgs s_named) (defBody s_named) (defScope s_named) .none kV19 dc19 pm19 an19 cd19 ct19),sl19⟩)
    (c19:PySem.W.codeIn K cd19 "_law_named" = true)
    (k19:PySem.W.keepIn K (.ref f19)=true)
    (a20:PySem.W.nsIn K mainGlobals "_law_deep" = some (some (.ref f20)))
    (l20:K.lookup f20=some ⟨oc20,od20,.func (PySem.W.fnOf "_law_deep" "_law_deep" (defArgs s_deep) (defBody s_deep) (defScope s_deep) .none kV20 dc20 pm20 an20 cd20 ct20),sl20⟩)
    (c20:PySem.W.codeIn K cd20 "_law_deep" = true)
    (k20:PySem.W.keepIn K (.ref f20)=true)
    (a21:PySem.W.nsIn K mainGlobals "_law_wide" = some (some (.ref f21)))
    (l21:K.lookup f21=some ⟨oc21,od21,.func (PySem.W.fnOf "_law_wide" "_law_wide" (defArgs s_wide) (defBody s_wide) (defScope s_wide) .none kV21 dc21 pm21 an21 cd21 ct21),sl21⟩)
    (c21:PySem.W.codeIn K cd21 "_law_wide" = true)
    (k21:PySem.W.keepIn K (.ref f21)=true)
    (a22:PySem.W.nsIn K mainGlobals "_law_figures" = some (some (.ref f22)))
    (l22:K.lookup f22=some ⟨oc22,od22,.func (PySem.W.fnOf "_law_figures" "_law_figures" (defArgs s_figures) (defBody s_figures) (defScope s_figures) .none kV22 dc22 pm22 an22 cd22 ct22),sl22⟩)
    (c22:PySem.W.codeIn K cd22 "_law_figures" = true)
    (k22:PySem.W.keepIn K (.ref f22)=true)
    (a23:PySem.W.nsIn K mainGlobals "_law_letters" = some (some (.ref f23)))
    (l23:K.lookup f23=some ⟨oc23,od23,.func (PySem.W.fnOf "_law_letters" "_law_letters" (defArgs s_letters) (defBody s_letters) (defScope s_letters) .none kV23 dc23 pm23 an23 cd23 ct23),sl23⟩)
    (c23:PySem.W.codeIn K cd23 "_law_letters" = true)
    (k23:PySem.W.keepIn K (.ref f23)=true)
    (a24:PySem.W.nsIn K mainGlobals "_law_armed" = some (some (.ref f24)))
    (l24:K.lookup f24=some ⟨oc24,od24,.func (PySem.W.fnOf "_law_armed" "_law_armed" (defArgs s_armed) (defBody s_armed) (defScope s_armed) .none kV24 dc24 pm24 an24 cd24 ct24),sl24⟩)
    (c24:PySem.W.codeIn K cd24 "_law_armed" = true)
    (k24:PySem.W.keepIn K (.ref f24)=true)
    (a25:PySem.W.nsIn K mainGlobals "_law_made" = some (some (.ref f25)))
    (l25:K.lookup f25=some ⟨oc25,od25,.func (PySem.W.fnOf "_law_made" "_law_made" (defArgs s_made) (defBody s_made) (defScope s_made) .none kV25 dc25 pm25 an25 cd25 ct25),sl25⟩)
    (c25:PySem.W.codeIn K cd25 "_law_made" = true)
    (k25:PySem.W.keepIn K (.ref f25)=true)
    (a26:PySem.W.nsIn K mainGlobals "law" = some (some (.ref f26)))
    (l26:K.lookup f26=some ⟨oc26,od26,.func (PySem.W.fnOf "law" "law" (defArgs s_law) (defBody s_law) (defScope s_law) .none kV26 dc26 pm26 an26 cd26 ct26),sl26⟩)
    (c26:PySem.W.codeIn K cd26 "law" = true)
    (k26:PySem.W.keepIn K (.ref f26)=true)
    (rMk:PySem.W.makesIn K CR=true)
    (rKp:PySem.W.keepIn K (.ref CR)=true)
    (rPg:PySem.W.plainGet K CR Str.empty=true)
    (rHd:PySem.W.hasDictIn K CR=true)
    (rPo:PySem.W.plainOver K CR=true)
    (rSa:PySem.W.findIn K (.ref CR) "__setattr__" = some (some (.builtin "object.__setattr__")))
    (rN_text:PySem.W.findIn K (.ref CR) "text" = some none)
    (rN_with_holes:PySem.W.findIn K (.ref CR) "with_holes" = some none)
    (rN_place:PySem.W.findIn K (.ref CR) "place" = some none)
    (g_LETTERS:PySem.W.nsIn K mainGlobals "LETTERS" = some (some (.str "abcdefghijklmnopqrstuvwxyz" t_LETTERS)))
    (g_FIGURES:PySem.W.nsIn K mainGlobals "FIGURES" = some (some (.str "0123456789" t_FIGURES)))
    (g_MOST_LETTERS:PySem.W.nsIn K mainGlobals "MOST_LETTERS" = some (some (.int 8 t_MOST_LETTERS)))
    (g_MOST_FIGURES:PySem.W.nsIn K mainGlobals "MOST_FIGURES" = some (some (.int 60 t_MOST_FIGURES)))
    (g_MOST_ARMS:PySem.W.nsIn K mainGlobals "MOST_ARMS" = some (some (.int 4 t_MOST_ARMS)))
    (g_MOST_PARTS:PySem.W.nsIn K mainGlobals "MOST_PARTS" = some (some (.int 120 t_MOST_PARTS)))
    (g_MOST_DEEP:PySem.W.nsIn K mainGlobals "MOST_DEEP" = some (some (.int 30 t_MOST_DEEP)))
    (x_NoTree:PySem.W.nsIn K mainGlobals "NoTree" = some (some (.ref c_NoTree)))
    (x_NoRule:PySem.W.nsIn K mainGlobals "NoRule" = some (some (.ref c_NoRule)))
    (x_NoRow:PySem.W.nsIn K mainGlobals "NoRow" = some (some (.ref c_NoRow)))
    (x_Full:PySem.W.nsIn K mainGlobals "Full" = some (some (.ref c_Full)))
    (x_Apart:PySem.W.nsIn K mainGlobals "Apart" = some (some (.ref c_Apart)))
    (x_TooBig:PySem.W.nsIn K mainGlobals "TooBig" = some (some (.ref c_TooBig)))
    (x_TooWide:PySem.W.nsIn K mainGlobals "TooWide" = some (some (.ref c_TooWide)))
    (x_SameError:PySem.W.nsIn K mainGlobals "SameError" = some (some (.ref c_SameError)))
    (xEx:PySem.W.excIn K c_NoTree [.type "ValueError",.type "Exception",.type "BaseException",.type "object"] "ValueError.__new__" = true)
    (xCl:PySem.W.findIn K (.ref c_NoTree) "__class__" = some (some (.builtin "object.__class__")))
    (xGa:PySem.W.findIn K (.ref c_NoTree) "__getattribute__" = some (some (.builtin "BaseException.__getattribute__")))
    (xGn:PySem.W.findIn K (.ref c_NoTree) "__getattr__" = some none)
    (iVE:PySem.W.nsIn K mainGlobals "ValueError" = some none)
    (i_NoTree:PySem.W.kitOne K (.ref c_NoTree) (.ref c_NoTree)=some true)
    (i_ValueError:PySem.W.kitOne K (.ref c_NoTree) (.type "ValueError")=some true)
    (i_NoRule:PySem.W.kitOne K (.ref c_NoTree) (.ref c_NoRule)=some false)
    (i_NoRow:PySem.W.kitOne K (.ref c_NoTree) (.ref c_NoRow)=some false)
    (i_Full:PySem.W.kitOne K (.ref c_NoTree) (.ref c_Full)=some false)
    (i_Apart:PySem.W.kitOne K (.ref c_NoTree) (.ref c_Apart)=some false)
    (i_TooBig:PySem.W.kitOne K (.ref c_NoTree) (.ref c_TooBig)=some false)
    (i_TooWide:PySem.W.kitOne K (.ref c_NoTree) (.ref c_TooWide)=some false)
    (mSE:PySem.W.exmOne K (.ref c_NoTree) (.ref c_SameError)=some true)
    (zAbs:PySem.W.nsIn K mainGlobals "abs" = some none)
    (z0:PySem.W.nsIn K mainGlobals "len" = some none)
    (z1:PySem.W.nsIn K mainGlobals "min" = some none)
    (z2:PySem.W.nsIn K mainGlobals "max" = some none)
    (z3:PySem.W.nsIn K mainGlobals "sum" = some none)
    (z4:PySem.W.nsIn K mainGlobals "range" = some none)
    (z5:PySem.W.nsIn K mainGlobals "enumerate" = some none)
    (z6:PySem.W.nsIn K mainGlobals "isinstance" = some none)
    (z7:PySem.W.nsIn K mainGlobals "tuple" = some none)
    (z8:PySem.W.nsIn K mainGlobals "int" = some none)
    (z9:PySem.W.nsIn K mainGlobals "bool" = some none)
    (z10:PySem.W.nsIn K mainGlobals "str" = some none)
    (z11:PySem.W.nsIn K mainGlobals "list" = some none) :
    ∃ fd:FuncData,(∀ (s:Shared) (v:Value),BindsTo s fd ⟨[v], []⟩ [("_law_script",v)])∧∀ base:Heap,K.In base→base.Ns mainGlobals mg→FnOk l.prog w K mg base CX0 67 fa fd ["_law_script"] (spLaw K):=by
  have e:=hfa.symm.trans (PySem.W.mg_of X G a26)
  cases e
  have B:Blt mg:=⟨PySem.W.mg_none_of X G z0,PySem.W.mg_none_of X G z1,PySem.W.mg_none_of X G z2,PySem.W.mg_none_of X G z3,PySem.W.mg_none_of X G z4,PySem.W.mg_none_of X G z5,PySem.W.mg_none_of X G z6,PySem.W.mg_none_of X G z7,PySem.W.mg_none_of X G z8,PySem.W.mg_none_of X G z9,PySem.W.mg_none_of X G z10,PySem.W.mg_none_of X G z11⟩
  have oNoTree:Exc K mg "NoTree" c_NoTree:=⟨PySem.W.mg_of X G x_NoTree,xEx⟩
  have Z:Top4 K mg CR c_NoTree:=⟨⟨rPg,rHd,rPo,rSa⟩,rN_text,rN_with_holes,rN_place,⟨_,PySem.W.mg_of X G g_LETTERS⟩,⟨_,PySem.W.mg_of X G g_FIGURES⟩,⟨_,PySem.W.mg_of X G g_MOST_LETTERS⟩,⟨_,PySem.W.mg_of X G g_MOST_FIGURES⟩,⟨_,PySem.W.mg_of X G g_MOST_ARMS⟩,⟨_,PySem.W.mg_of X G g_MOST_PARTS⟩,⟨_,PySem.W.mg_of X G g_MOST_DEEP⟩,oNoTree⟩
  have Y:Excs K mg c_NoTree c_NoRule c_NoRow c_Full c_Apart c_TooBig c_TooWide c_SameError:=⟨PySem.W.mg_of X G x_NoRule,PySem.W.mg_of X G x_NoRow,PySem.W.mg_of X G x_Full,PySem.W.mg_of X G x_Apart,PySem.W.mg_of X G x_TooBig,PySem.W.mg_of X G x_TooWide,PySem.W.mg_of X G x_SameError,PySem.W.mg_none_of X G iVE,⟨xCl,xGa,xGn⟩,i_NoTree,i_ValueError,i_NoRule,i_NoRow,i_Full,i_Apart,i_TooBig,i_TooWide,mSE⟩
  have F_parts:=fun_mk (st:=s_parts) l0 c0 k0
  have D_parts:Def K mg "parts" s_parts ["tree"]:=⟨_,_,F_parts,PySem.W.mg_of X G a0,F_parts.binds fun _ _ _ _ _ _ us hl=>len1_ (fun _=>rfl) us hl⟩
  have F_init:=fun_mk (st:=s_init) l1 c1 k1
  have D_init:DefC K mg "Reader" CR "Reader.__init__" s_init ["self", "text", "with_holes"]:=⟨_,_,F_init,PySem.W.mg_of X G aR,⟨rMk,a1,n1,rKp⟩,F_init.binds fun _ _ _ _ _ _ us hl=>len3_ (fun _ _ _=>rfl) us hl⟩
  have F_ahead:=fun_mk (st:=s_ahead) l2 c2 k2
  have D_ahead:DefM K CR "ahead" "Reader.ahead" s_ahead ["self"]:=⟨_,_,F_ahead,⟨a2,n2,k2⟩,F_ahead.binds fun _ _ _ _ _ _ us hl=>len1_ (fun _=>rfl) us hl⟩
  have F_take:=fun_mk (st:=s_take) l3 c3 k3
  have D_take:DefM K CR "take" "Reader.take" s_take ["self", "wanted"]:=⟨_,_,F_take,⟨a3,n3,k3⟩,F_take.binds fun _ _ _ _ _ _ us hl=>len2_ (fun _ _=>rfl) us hl⟩
  have F_take_run:=fun_mk (st:=s_take_run) l4 c4 k4
  have D_take_run:DefM K CR "take_run" "Reader.take_run" s_take_run ["self", "signs"]:=⟨_,_,F_take_run,⟨a4,n4,k4⟩,F_take_run.binds fun _ _ _ _ _ _ us hl=>len2_ (fun _ _=>rfl) us hl⟩
  have F_take_word:=fun_mk (st:=s_take_word) l5 c5 k5
  have D_take_word:DefM K CR "take_word" "Reader.take_word" s_take_word ["self"]:=⟨_,_,F_take_word,⟨a5,n5,k5⟩,F_take_word.binds fun _ _ _ _ _ _ us hl=>len1_ (fun _=>rfl) us hl⟩
  have F_take_number:=fun_mk (st:=s_take_number) l6 c6 k6
  have D_take_number:DefM K CR "take_number" "Reader.take_number" s_take_number ["self"]:=⟨_,_,F_take_number,⟨a6,n6,k6⟩,F_take_number.binds fun _ _ _ _ _ _ us hl=>len1_ (fun _=>rfl) us hl⟩
  have F_take_arms:=fun_mk (st:=s_take_arms) l7 c7 k7
  have D_take_arms:DefM K CR "take_arms" "Reader.take_arms" s_take_arms ["self", "deep"]:=⟨_,_,F_take_arms,⟨a7,n7,k7⟩,F_take_arms.binds fun _ _ _ _ _ _ us hl=>len2_ (fun _ _=>rfl) us hl⟩
  have F_take_tree:=fun_mk (st:=s_take_tree) l8 c8 k8
  have D_take_tree:DefM K CR "take_tree" "Reader.take_tree" s_take_tree ["self", "deep"]:=⟨_,_,F_take_tree,⟨a8,n8,k8⟩,F_take_tree.binds fun _ _ _ _ _ _ us hl=>len2_ (fun _ _=>rfl) us hl⟩
  have F_read_whole:=fun_mk (st:=s_read_whole) l9 c9 k9
  have D_read_whole:Def K mg "read_whole" s_read_whole ["reader"]:=⟨_,_,F_read_whole,PySem.W.mg_of X G a9,F_read_whole.binds fun _ _ _ _ _ _ us hl=>len1_ (fun _=>rfl) us hl⟩
  have F_read:=fun_mk (st:=s_read) l10 c10 k10
  have D_read:Def K mg "read" s_read ["text"]:=⟨_,_,F_read,PySem.W.mg_of X G a10,F_read.binds fun _ _ _ _ _ _ us hl=>len1_ (fun _=>rfl) us hl⟩
  have F_read_pattern:=fun_mk (st:=s_read_pattern) l11 c11 k11
  have D_read_pattern:Def K mg "read_pattern" s_read_pattern ["text"]:=⟨_,_,F_read_pattern,PySem.W.mg_of X G a11,F_read_pattern.binds fun _ _ _ _ _ _ us hl=>len1_ (fun _=>rfl) us hl⟩
  have F_cell_at:=fun_mk (st:=s_cell_at) l12 c12 k12
  have D_cell_at:Def K mg "_law_cell_at" s_cell_at ["_law_script", "_law_k"]:=⟨_,_,F_cell_at,PySem.W.mg_of X G a12,F_cell_at.binds fun _ _ _ _ _ _ us hl=>len2_ (fun _ _=>rfl) us hl⟩
  have F_mixed:=fun_mk (st:=s_mixed) l13 c13 k13
  have D_mixed:Def K mg "_law_mixed" s_mixed ["_law_cell", "_law_k"]:=⟨_,_,F_mixed,PySem.W.mg_of X G a13,F_mixed.binds fun _ _ _ _ _ _ us hl=>len2_ (fun _ _=>rfl) us hl⟩
  have F_word:=fun_mk (st:=s_word) l14 c14 k14
  have D_word:Def K mg "_law_word" s_word ["_law_m"]:=⟨_,_,F_word,PySem.W.mg_of X G a14,F_word.binds fun _ _ _ _ _ _ us hl=>len1_ (fun _=>rfl) us hl⟩
  have F_joined:=fun_mk (st:=s_joined) l15 c15 k15
  have D_joined:Def K mg "_law_joined" s_joined ["_law_word_here", "_law_rows"]:=⟨_,_,F_joined,PySem.W.mg_of X G a15,F_joined.binds fun _ _ _ _ _ _ us hl=>len2_ (fun _ _=>rfl) us hl⟩
  have F_same:=fun_mk (st:=s_same) l16 c16 k16
  have D_same:Def K mg "_law_same" s_same ["_law_found", "_law_due"]:=⟨_,_,F_same,PySem.W.mg_of X G a16,F_same.binds fun _ _ _ _ _ _ us hl=>len2_ (fun _ _=>rfl) us hl⟩
  have F_other:=fun_mk (st:=s_other) l17 c17 k17
  have D_other:Def K mg "_law_other" s_other ["_law_e"]:=⟨_,_,F_other,PySem.W.mg_of X G a17,F_other.binds fun _ _ _ _ _ _ us hl=>len1_ (fun _=>rfl) us hl⟩
  have F_asked:=fun_mk (st:=s_asked) l18 c18 k18
  have D_asked:Def K mg "_law_asked" s_asked ["_law_line", "_law_holed"]:=⟨_,_,F_asked,PySem.W.mg_of X G a18,F_asked.binds fun _ _ _ _ _ _ us hl=>len2_ (fun _ _=>rfl) us hl⟩
  have F_named:=fun_mk (st:=s_named) l19 c19 k19
  have D_named:Def K mg "_law_named" s_named ["_law_word_here"]:=⟨_,_,F_named,PySem.W.mg_of X G a19,F_named.binds fun _ _ _ _ _ _ us hl=>len1_ (fun _=>rfl) us hl⟩
  have F_deep:=fun_mk (st:=s_deep) l20 c20 k20
  have D_deep:Def K mg "_law_deep" s_deep ["_law_script", "_law_first"]:=⟨_,_,F_deep,PySem.W.mg_of X G a20,F_deep.binds fun _ _ _ _ _ _ us hl=>len2_ (fun _ _=>rfl) us hl⟩
  have F_wide:=fun_mk (st:=s_wide) l21 c21 k21
  have D_wide:Def K mg "_law_wide" s_wide ["_law_script", "_law_first"]:=⟨_,_,F_wide,PySem.W.mg_of X G a21,F_wide.binds fun _ _ _ _ _ _ us hl=>len2_ (fun _ _=>rfl) us hl⟩
  have F_figures:=fun_mk (st:=s_figures) l22 c22 k22
  have D_figures:Def K mg "_law_figures" s_figures ["_law_script", "_law_first"]:=⟨_,_,F_figures,PySem.W.mg_of X G a22,F_figures.binds fun _ _ _ _ _ _ us hl=>len2_ (fun _ _=>rfl) us hl⟩
  have F_letters:=fun_mk (st:=s_letters) l23 c23 k23
  have D_letters:Def K mg "_law_letters" s_letters ["_law_script", "_law_first"]:=⟨_,_,F_letters,PySem.W.mg_of X G a23,F_letters.binds fun _ _ _ _ _ _ us hl=>len2_ (fun _ _=>rfl) us hl⟩
  have F_armed:=fun_mk (st:=s_armed) l24 c24 k24
  have D_armed:Def K mg "_law_armed" s_armed ["_law_script", "_law_first"]:=⟨_,_,F_armed,PySem.W.mg_of X G a24,F_armed.binds fun _ _ _ _ _ _ us hl=>len2_ (fun _ _=>rfl) us hl⟩
  have F_made:=fun_mk (st:=s_made) l25 c25 k25
  have D_made:Def K mg "_law_made" s_made ["_law_script", "_law_first"]:=⟨_,_,F_made,PySem.W.mg_of X G a25,F_made.binds fun _ _ _ _ _ _ us hl=>len2_ (fun _ _=>rfl) us hl⟩
  have F_law:=fun_mk (st:=s_law) l26 c26 k26
  refine ⟨PySem.W.fnOf "law" "law" (defArgs s_law) (defBody s_law) (defScope s_law) .none kV26 dc26 pm26 an26 cd26 ct26,fun s v => .of_eq rfl,fun base _ _ => ?_⟩
  have h_word:=ok_word (P:=l.prog) (w:=w) (base:=base) D_word
  have h_mixed:=ok_mixed (P:=l.prog) (w:=w) (base:=base) D_mixed
  have h_cell_at:=ok_cell_at (P:=l.prog) (w:=w) (base:=base) B D_cell_at
  have h_named:=ok_named (P:=l.prog) (w:=w) (base:=base) D_named
  have h_joined:=ok_joined (P:=l.prog) (w:=w) (base:=base) B D_joined
  have h_deep:=ok_deep B h_cell_at h_mixed h_word h_named h_joined D_deep
  have h_wide:=ok_wide B h_cell_at h_mixed h_word h_named h_joined D_wide
  have h_figures:=ok_figures B h_cell_at h_mixed D_figures
  have h_letters:=ok_letters B h_cell_at h_mixed h_word h_named h_joined D_letters
  have h_armed:=ok_armed B h_cell_at h_mixed h_word h_named D_armed
  have h_made:=ok_made B h_cell_at h_mixed h_word h_named h_joined h_deep h_wide h_figures h_letters h_armed D_made
  have h_init:=ok_init (P:=l.prog) (w:=w) (base:=base) Z D_init
  have h_ahead:=ok_ahead (P:=l.prog) (w:=w) (base:=base) Z D_ahead
  have h_take:=ok_take (P:=l.prog) (w:=w) (base:=base) B Z D_take
  have h_run:=ok_run (P:=l.prog) (w:=w) (base:=base) B Z D_take_run
  have h_tword:=ok_tword B Z h_run D_take_word
  have h_tnum:=ok_number4 B Z h_ahead h_run D_take_number
  have h_tree:=ok_tree B Z h_ahead h_take h_tword h_tnum D_take_arms D_take_tree 30
  have h_parts:=ok_parts (P:=l.prog) (w:=w) (base:=base) D_parts 30
  have h_whole:=ok_whole Z (fun b l t r h=>(pt_sound b 30 l t r h).1.2.1) h_ahead h_tree h_parts D_read_whole
  have h_read:=ok_read Z h_init h_whole D_read
  have h_readp:=ok_read_pattern Z h_init h_whole D_read_pattern
  have h_other:=ok_other (P:=l.prog) (w:=w) (base:=base) B oNoTree Y D_other
  have h_asked:=ok_asked B oNoTree Y h_read h_readp h_other D_asked
  have h_same:=ok_same (P:=l.prog) (w:=w) (base:=base) B D_same 30
  exact ok_law B h_same h_asked h_cell_at h_mixed h_made F_law
theorem walk {l:PySem.W.OpenLaw} {q:Program} {loose:List Str} {XP:(Str→Option Value)→Heap→Prop} {YP:World→Heap→Prop} {d:DefRec} {K:Params→PySem.W.Frag} (hn:l.most=some 63) (hdf:d.params.defaults = [])
    (hY:∀ (w:World) (h:Heap),YP w h→(K w.params).In h)
    (F:∀ (w:World) (mg:Str→Option Value) (fa:Addr) (h:Heap),(K w.params).In h→h.Ns mainGlobals mg→mg d.name=some (.ref fa) →
      ∃ fd:FuncData,(∀ (s:Shared) (u:Value),BindsTo s fd ⟨[u], []⟩ [("_law_script",u)])∧∀ base:Heap,(K w.params).In base→base.Ns mainGlobals mg→FnOk l.prog w (K w.params) mg base CX0 67 fa fd ["_law_script"] (spLaw (K w.params))) :
    PySem.W.WalkO q loose XP YP l.row.toRowW d [] (fun f vs=>PySem.call f vs) :=
  L2.walk_of (n:=63) (k:=67) (x := "_law_script") (CX:=fun _=>CX0) (sp:=fun w=>spLaw (K w.params)) hn (by decide) hdf ⟨rfl,by decide,by decide⟩ hY F (fun _ _ a ns hl _ hS=>⟨a,ns,rfl,hS,hl,fun _=>rfl⟩) fun _ _ _ _ _ z=>z
end K06
open PySem PySem.W PyProof.Rows
set_option maxRecDepth 100000 in
set_option maxHeartbeats 0 in
theorem PySem.Challenge.cw_samewise_k06_bounds_holds : PySem.Challenge.rw_samewise_k06_bounds.Holds := by
  refine KHd.top ?_
  k_fill
  refine K06.walk (l:=PySem.Challenge.rw_samewise_k06_bounds) rfl rfl (fun w h Y=>PySem.W.kIn_of Y) ?F
  case F =>
    intro w mg fa h KX G hmg
    refine' K06.all_mk KX G hmg ?aR ?a0 ?l0 ?c0 ?k0 ?a1 ?l1 ?c1 ?k1 ?n1 ?a2 ?l2 ?c2 ?k2 ?n2 ?a3 ?l3 ?c3 ?k3 ?n3 ?a4 ?l4 ?c4 ?k4 ?n4 ?a5 ?l5 ?c5 ?k5 ?n5 ?a6 ?l6 ?c6 ?k6 ?n6 ?a7 ?l7 ?c7 ?k7 ?n7 ?a8 ?l8 ?c8 ?k8 ?n8 ?a9 ?l9 ?c9 ?k9 ?a10 ?l10 ?c10 ?k10 ?a11 ?l11 ?c11 ?k11 ?a12 ?l12 ?c12 ?k12 ?a13 ?l13 ?c13 ?k13 ?a14 ?l14 ?c14 ?k14 ?a15 ?l15 ?c15 ?k15 ?a16 ?l16 ?c16 ?k16 ?a17 ?l17 ?c17 ?k17 ?a18 ?l18 ?c18 ?k18 ?a19 ?l19 ?c19 ?k19 ?a20 ?l20 ?c20 ?k20 ?a21 ?l21 ?c21 ?k21 ?a22 ?l22 ?c22 ?k22 ?a23 ?l23 ?c23 ?k23 ?a24 ?l24 ?c24 ?k24 ?a25 ?l25 ?c25 ?k25 ?a26 ?l26 ?c26 ?k26 ?rMk ?rKp ?rPg ?rHd ?rPo ?rSa ?rN_text ?rN_with_holes ?rN_place ?g_LETTERS ?g_FIGURES ?g_MOST_LETTERS ?g_MOST_FIGURES ?g_MOST_ARMS ?g_MOST_PARTS ?g_MOST_DEEP ?x_NoTree ?x_NoRule ?x_NoRow ?x_Full ?x_Apart ?x_TooBig ?x_TooWide ?x_SameError ?xEx ?xCl ?xGa ?xGn ?iVE ?i_NoTree ?i_ValueError ?i_NoRule ?i_NoRow ?i_Full ?i_Apart ?i_TooBig ?i_TooWide ?mSE ?zAbs ?z0 ?z1 ?z2 ?z3 ?z4 ?z5 ?z6 ?z7 ?z8 ?z9 ?z10 ?z11
    (case aR=>k_is)
    (case a0=>k_is)
    (case l0=>k_is)
    (case c0=>k_is)
    (case k0=>k_is)
    (case a1=>k_is)
    (case l1=>k_is)
    (case c1=>k_is)
    (case k1=>k_is)
    (case n1=>k_is)
    (case a2=>k_is)
    (case l2=>k_is)
    (case c2=>k_is)
    (case k2=>k_is)
    (case n2=>k_is)
    (case a3=>k_is)
    (case l3=>k_is)
    (case c3=>k_is)
    (case k3=>k_is)
    (case n3=>k_is)
    (case a4=>k_is)
    (case l4=>k_is)
    (case c4=>k_is)
    (case k4=>k_is)
    (case n4=>k_is)
    (case a5=>k_is)
    (case l5=>k_is)
    (case c5=>k_is)
    (case k5=>k_is)
    (case n5=>k_is)
    (case a6=>k_is)
    (case l6=>k_is)
    (case c6=>k_is)
    (case k6=>k_is)
    (case n6=>k_is)
    (case a7=>k_is)
    (case l7=>k_is)
    (case c7=>k_is)
    (case k7=>k_is)
    (case n7=>k_is)
    (case a8=>k_is)
    (case l8=>k_is)
    (case c8=>k_is)
    (case k8=>k_is)
    (case n8=>k_is)
    (case a9=>k_is)
    (case l9=>k_is)
    (case c9=>k_is)
    (case k9=>k_is)
    (case a10=>k_is)
    (case l10=>k_is)
    (case c10=>k_is)
    (case k10=>k_is)
    (case a11=>k_is)
    (case l11=>k_is)
    (case c11=>k_is)
    (case k11=>k_is)
    (case a12=>k_is)
    (case l12=>k_is)
    (case c12=>k_is)
    (case k12=>k_is)
    (case a13=>k_is)
    (case l13=>k_is)
    (case c13=>k_is)
    (case k13=>k_is)
    (case a14=>k_is)
    (case l14=>k_is)
    (case c14=>k_is)
    (case k14=>k_is)
    (case a15=>k_is)
    (case l15=>k_is)
    (case c15=>k_is)
    (case k15=>k_is)
    (case a16=>k_is)
    (case l16=>k_is)
    (case c16=>k_is)
    (case k16=>k_is)
    (case a17=>k_is)
    (case l17=>k_is)
    (case c17=>k_is)
    (case k17=>k_is)
    (case a18=>k_is)
    (case l18=>k_is)
    (case c18=>k_is)
    (case k18=>k_is)
    (case a19=>k_is)
    (case l19=>k_is)
    (case c19=>k_is)
    (case k19=>k_is)
    (case a20=>k_is)
    (case l20=>k_is)
    (case c20=>k_is)
    (case k20=>k_is)
    (case a21=>k_is)
    (case l21=>k_is)
    (case c21=>k_is)
    (case k21=>k_is)
    (case a22=>k_is)
    (case l22=>k_is)
    (case c22=>k_is)
    (case k22=>k_is)
    (case a23=>k_is)
    (case l23=>k_is)
    (case c23=>k_is)
    (case k23=>k_is)
    (case a24=>k_is)
    (case l24=>k_is)
    (case c24=>k_is)
    (case k24=>k_is)
    (case a25=>k_is)
    (case l25=>k_is)
    (case c25=>k_is)
    (case k25=>k_is)
    (case a26=>k_is)
    (case l26=>k_is)
    (case c26=>k_is)
    (case k26=>k_is)
    (case rMk=>k_is)
    (case rKp=>k_is)
    (case rPg=>k_is)
    (case rHd=>k_is)
    (case rPo=>k_is)
    (case rSa=>k_is)
    (case rN_text=>k_is)
    (case rN_with_holes=>k_is)
    (case rN_place=>k_is)
    (case g_LETTERS=>k_is)
    (case g_FIGURES=>k_is)
    (case g_MOST_LETTERS=>k_is)
    (case g_MOST_FIGURES=>k_is)
    (case g_MOST_ARMS=>k_is)
    (case g_MOST_PARTS=>k_is)
    (case g_MOST_DEEP=>k_is)
    (case x_NoTree=>k_is)
    (case x_NoRule=>k_is)
    (case x_NoRow=>k_is)
    (case x_Full=>k_is)
    (case x_Apart=>k_is)
    (case x_TooBig=>k_is)
    (case x_TooWide=>k_is)
    (case x_SameError=>k_is)
    (case xEx=>k_exc)
    (case xCl=>k_is)
    (case xGa=>k_is)
    (case xGn=>k_is)
    (case iVE=>k_is)
    (case i_NoTree=>kit_is)
    (case i_ValueError=>kit_is)
    (case i_NoRule=>kit_is)
    (case i_NoRow=>kit_is)
    (case i_Full=>kit_is)
    (case i_Apart=>kit_is)
    (case i_TooBig=>kit_is)
    (case i_TooWide=>kit_is)
    (case mSE=>kts_exm)
    (case zAbs=>k_is)
    (case z0=>k_is)
    (case z1=>k_is)
    (case z2=>k_is)
    (case z3=>k_is)
    (case z4=>k_is)
    (case z5=>k_is)
    (case z6=>k_is)
    (case z7=>k_is)
    (case z8=>k_is)
    (case z9=>k_is)
    (case z10=>k_is)
    (case z11=>k_is)
#print axioms PySem.Challenge.cw_samewise_k06_bounds_holds
